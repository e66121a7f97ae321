import PyProof.Rows.All
import Wide.All
import OpenK.AllK
import Wide.FinOn
import HandS.ForMost
import HandS.WordsExc
import HandS.TryOnly
import HandS.TupAny
import HandS.TupMul
import HandS.Deep
import HandS.Codes
import HandS.More
import HandS.IsInst
import HandS.Wide
import HandS.StrMore
import HandS.NoneIn
import HandS.EndBits
import HandS.SetFor
import HandS.Conv
import HandS.SortInts
import HandS.Zip
import PyProof.TypeEq
import HandS.Small
import KE.DatumOrd
import HandS.Style
import KE.SortData
import PyProof.ListStr
import PyProof.Rows.RegFStrParts
import PySem.Challenge.RW_fdwires_k46_whole_ways_between_tables
/-! Mi1.lean -/
set_option Elab.async false
set_option linter.all false
set_option maxRecDepth 100000
/-! A small functional reading of Python: frozen data, mutable objects held by one name, borrowed objects. -/
namespace Mi
open PySem L2 PySem.Spec PyProof.Rows

inductive Ob where
  | lst (ds : List PyData)
  | dct (kvs : List (Key × PyData))
  /-- a dict that is walked -/
  | fdc (kvs : List (Key × PyData))
inductive Sl where
  | val (d : PyData)
  | own (o : Ob)
  | bor (k : Nat)
inductive Bo where
  | live (o : Ob)
  | dead (d : PyData)
structure En where
  vs : List (Option Sl)
  os : List Bo
inductive Lo where
  | slot (i : Nat)
  | obj (k : Nat)
  deriving DecidableEq
inductive Rv where
  | val (d : PyData)
  | own (o : Ob)
  | at (l : Lo)
structure Exc where
  cls : Str
  flds : List (Str × PyData)
inductive Res (α : Type) where
  | ok (a : α) (r : En)
  | ex (e : Exc) (r : En)
  | no
def M (α : Type) := En → Res α
def M.ret {α : Type} (a : α) : M α := fun r => .ok a r
def M.bnd {α β : Type} (f : M α) (g : α → M β) : M β := fun r =>
  match f r with
  | .ok a r1 => g a r1
  | .ex e r1 => .ex e r1
  | .no => .no
def M.stop {α : Type} : M α := fun _ => .no

/-! ### relations -/
variable (K : PySem.W.Frag)
def immu : HO → Bool
  | .tup _ => true
  | .frz _ _ => true
  | _ => false
def KLst (a : Addr) (xs : List V) : Prop :=
  ∃ (its : List Value) (n : Nat), K.lookup a = some { cls := .type "list", data := .seq its.toArray n } ∧ its.length ≤ sizeLine ∧ Vals xs its
theorem KLst.sq {K : PySem.W.Frag} {H : Hp} {a : Addr} {xs : List V} (h : KLst K a xs) : SqL K H a xs := by
  obtain ⟨its, n, h1, h2, h3⟩ := h
  exact .inr ⟨_, _, _, h1, rfl, rfl, rfl, by simpa using h2, by simpa using h3⟩
mutual
inductive Fr (H : Hp) (F : Addr → Prop) : V → PyData → Prop
  | non : Fr H F .non .none
  | bl (b : Bool) : Fr H F (.bl b) (.bool b)
  | int (i : Int) : Fr H F (.int i) (.int i)
  | str (x : Str) : Fr H F (.str x) (.str x)
  | own {a : Addr} {xs : List V} {ds : List PyData} : F a → H a = some (.lst xs) → FrAll H F xs ds → Fr H F (.ref a) (.list ds)
  | frz {a : Addr} {o : Obj} {xs : List V} {ds : List PyData} : H a = some (.frz o (.lst xs)) → FrAll H F xs ds → Fr H F (.ref a) (.list ds)
  | klst {a : Addr} {xs : List V} {ds : List PyData} : KLst K a xs → FrAll H F xs ds → Fr H F (.ref a) (.list ds)
  | tup {a : Addr} {xs : List V} {ds : List PyData} : SqT K H a xs → FrAll H F xs ds → Fr H F (.ref a) (.tuple ds)
inductive FrAll (H : Hp) (F : Addr → Prop) : List V → List PyData → Prop
  | nil : FrAll H F [] []
  | cons {v : V} {vs : List V} {d : PyData} {ds : List PyData} : Fr H F v d → FrAll H F vs ds → FrAll H F (v :: vs) (d :: ds)
end
/-- what stays for frozen data -/
structure Stay (H : Hp) (F : Addr → Prop) (H' : Hp) (F' : Addr → Prop) : Prop where
  fz : ∀ a, F a → F' a
  ffz : ∀ a, F a → H' a = H a
  imm : ∀ a o, H a = some o → immu o = true → H' a = some o
theorem Stay.refl {H : Hp} {F : Addr → Prop} : Stay H F H F := ⟨fun _ h => h, fun _ _ => rfl, fun _ _ h _ => h⟩
theorem Stay.trans {H H1 H2 : Hp} {F F1 F2 : Addr → Prop} (a : Stay H F H1 F1) (b : Stay H1 F1 H2 F2) : Stay H F H2 F2 :=
  ⟨fun x h => b.fz x (a.fz x h), fun x h => (b.ffz x (a.fz x h)).trans (a.ffz x h), fun x o h i => b.imm x o (a.imm x o h i) i⟩
variable {K}
theorem sqt_stay {H H' : Hp} {F F' : Addr → Prop} (s : Stay H F H' F') {a : Addr} {xs : List V} (h : SqT K H a xs) : SqT K H' a xs := by
  rcases h with (h | ⟨o, h⟩) | h
  · exact .inl (.inl (s.imm _ _ h rfl))
  · exact .inl (.inr ⟨o, s.imm _ _ h rfl⟩)
  · exact .inr h
mutual
theorem Fr.stay {H H' : Hp} {F F' : Addr → Prop} (s : Stay H F H' F') : ∀ {v : V} {d : PyData}, Fr K H F v d → Fr K H' F' v d
  | _, _, .non => .non
  | _, _, .bl b => .bl b
  | _, _, .int i => .int i
  | _, _, .str x => .str x
  | _, _, .own h1 h2 h3 => .own (s.fz _ h1) ((s.ffz _ h1).trans h2) (FrAll.stay s h3)
  | _, _, .frz h1 h3 => .frz (s.imm _ _ h1 rfl) (FrAll.stay s h3)
  | _, _, .klst h1 h3 => .klst h1 (FrAll.stay s h3)
  | _, _, .tup h1 h3 => .tup (sqt_stay s h1) (FrAll.stay s h3)
theorem FrAll.stay {H H' : Hp} {F F' : Addr → Prop} (s : Stay H F H' F') : ∀ {v : List V} {d : List PyData}, FrAll K H F v d → FrAll K H' F' v d
  | _, _, .nil => .nil
  | _, _, .cons h1 h2 => .cons (Fr.stay s h1) (FrAll.stay s h2)
end
mutual
theorem Fr.dp {H : Hp} {F : Addr → Prop} : ∀ {v : V} {d : PyData}, Fr K H F v d → Dp K H v d
  | _, _, .non => .non
  | _, _, .bl b => .bl b
  | _, _, .int i => .int i
  | _, _, .str x => .str x
  | _, _, .own h1 h2 h3 => .lst (.inl (.inl h2)) (FrAll.dp h3)
  | _, _, .frz h1 h3 => .lst (.inl (.inr ⟨_, h1⟩)) (FrAll.dp h3)
  | _, _, .klst h1 h3 => .lst h1.sq (FrAll.dp h3)
  | _, _, .tup h1 h3 => .tup h1 (FrAll.dp h3)
theorem FrAll.dp {H : Hp} {F : Addr → Prop} : ∀ {v : List V} {d : List PyData}, FrAll K H F v d → DpAll K H v d
  | _, _, .nil => .nil
  | _, _, .cons h1 h2 => .cons (Fr.dp h1) (FrAll.dp h2)
end
theorem FrAll.len {H : Hp} {F : Addr → Prop} : ∀ {v : List V} {d : List PyData}, FrAll K H F v d → v.length = d.length
  | _, _, .nil => rfl
  | _, _, .cons _ h => by simp [FrAll.len h]
theorem FrAll.app {H : Hp} {F : Addr → Prop} : ∀ {v w : List V} {d e : List PyData}, FrAll K H F v d → FrAll K H F w e → FrAll K H F (v ++ w) (d ++ e)
  | _, _, _, _, .nil, h => h
  | _, _, _, _, .cons h1 h2, h => .cons h1 (FrAll.app h2 h)
theorem FrAll.get {H : Hp} {F : Addr → Prop} : ∀ {v : List V} {d : List PyData} {i : Nat} {e : PyData}, FrAll K H F v d → d[i]? = some e → ∃ x, v[i]? = some x ∧ Fr K H F x e
  | _, _, _, _, .nil, h => by simp at h
  | _, _, 0, _, .cons h1 h2, h => by simp at h; subst h; exact ⟨_, rfl, h1⟩
  | _, _, i + 1, _, .cons h1 h2, h => by
    obtain ⟨x, q, r⟩ := FrAll.get (i := i) h2 (by simpa using h)
    exact ⟨x, by simpa using q, r⟩
theorem FrAll.set {H : Hp} {F : Addr → Prop} {x : V} {e : PyData} (hx : Fr K H F x e) : ∀ {v : List V} {d : List PyData} (i : Nat), FrAll K H F v d → FrAll K H F (v.set i x) (d.set i e)
  | _, _, _, .nil => .nil
  | _, _, 0, .cons h1 h2 => .cons hx h2
  | _, _, i + 1, .cons h1 h2 => .cons h1 (FrAll.set hx i h2)
theorem FrAll.take {H : Hp} {F : Addr → Prop} : ∀ {v : List V} {d : List PyData} (n : Nat), FrAll K H F v d → FrAll K H F (v.take n) (d.take n)
  | _, _, _, .nil => by simp; exact .nil
  | _, _, 0, .cons _ _ => .nil
  | _, _, n + 1, .cons h1 h2 => .cons h1 (FrAll.take n h2)
theorem FrAll.drop {H : Hp} {F : Addr → Prop} : ∀ {v : List V} {d : List PyData} (n : Nat), FrAll K H F v d → FrAll K H F (v.drop n) (d.drop n)
  | _, _, _, .nil => by simp; exact .nil
  | _, _, 0, .cons h1 h2 => .cons h1 h2
  | _, _, n + 1, .cons h1 h2 => FrAll.drop n h2
theorem FrAll.erase {H : Hp} {F : Addr → Prop} : ∀ {v : List V} {d : List PyData} (n : Nat), FrAll K H F v d → FrAll K H F (v.eraseIdx n) (d.eraseIdx n)
  | _, _, _, .nil => by simp; exact .nil
  | _, _, 0, .cons _ h2 => h2
  | _, _, n + 1, .cons h1 h2 => .cons h1 (FrAll.erase n h2)
theorem FrAll.rev {H : Hp} {F : Addr → Prop} : ∀ {v : List V} {d : List PyData}, FrAll K H F v d → FrAll K H F v.reverse d.reverse
  | _, _, .nil => .nil
  | _, _, .cons h1 h2 => by simp only [List.reverse_cons]; exact FrAll.app (FrAll.rev h2) (.cons h1 .nil)

/-- an object's content -/
def ObR (K : PySem.W.Frag) (H : Hp) (F : Addr → Prop) : Ob → HO → Prop
  | .lst ds, u => ∃ xs, u = .lst xs ∧ FrAll K H F xs ds
  | .dct kvs, u => ∃ ps, u = .dK ps ∧ Paired (fun (p : Key × V) (q : Key × PyData) => p.1 = q.1 ∧ Fr K H F p.2 q.2) ps kvs
  | .fdc kvs, u => ∃ o ps, u = .frz o (.dK ps) ∧ Paired (fun (p : Key × V) (q : Key × PyData) => p.1 = q.1 ∧ Fr K H F p.2 q.2) ps kvs
theorem paired_imp {α β : Type} {P Q : α → β → Prop} (h : ∀ a b, P a b → Q a b) : ∀ {xs : List α} {ys : List β}, Paired P xs ys → Paired Q xs ys
  | _, _, .nil => .nil
  | _, _, .cons a b => .cons (h _ _ a) (paired_imp h b)
theorem ObR.stay {H H' : Hp} {F F' : Addr → Prop} (s : Stay H F H' F') {o : Ob} {u : HO} (h : ObR K H F o u) : ObR K H' F' o u := by
  cases o with
  | lst ds => obtain ⟨xs, e, h⟩ := h; exact ⟨xs, e, h.stay s⟩
  | dct kvs => obtain ⟨ps, e, h⟩ := h; exact ⟨ps, e, paired_imp (fun a b q => ⟨q.1, q.2.stay s⟩) h⟩
  | fdc kvs => obtain ⟨o, ps, e, h⟩ := h; exact ⟨o, ps, e, paired_imp (fun a b q => ⟨q.1, q.2.stay s⟩) h⟩
theorem ObR.mut {H : Hp} {F : Addr → Prop} {o : Ob} {u : HO} (h : ObR K H F o u) (n : ∀ kvs, o ≠ .fdc kvs) : immu u = false := by
  cases o with
  | fdc kvs => exact absurd rfl (n kvs)
  | lst ds => obtain ⟨xs, e, h⟩ := h; subst e; rfl
  | dct kvs => obtain ⟨ps, e, h⟩ := h; subst e; rfl

/-! ### where objects are held -/
def Holds (α : List Addr) (r : En) (σ : L2.St) : Lo → Addr → Prop
  | .slot i, a => (∃ o, r.vs[i]? = some (some (.own o))) ∧ σ[i]? = some (some (.ref a))
  | .obj k, a => (∃ o, r.os[k]? = some (.live o)) ∧ α[k]? = some a
def LoAt (α : List Addr) (σ : L2.St) : Lo → Addr → Prop
  | .slot i, a => σ[i]? = some (some (V.ref a))
  | .obj k, a => α[k]? = some a
theorem Holds.lo {α : List Addr} {r : En} {σ : L2.St} : ∀ {l : Lo} {a : Addr}, Holds α r σ l a → LoAt α σ l a
  | .slot _, _, h => h.2
  | .obj _, _, h => h.2
def Own (α : List Addr) (r : En) (σ : L2.St) (a : Addr) : Prop := ∃ l, Holds α r σ l a
def SlR (K : PySem.W.Frag) (α : List Addr) (H : Hp) (F : Addr → Prop) : Sl → V → Prop
  | .val d, v => Fr K H F v d
  | .own o, v => ∃ a u, v = .ref a ∧ H a = some u ∧ ObR K H F o u
  | .bor k, v => ∃ a, v = .ref a ∧ α[k]? = some a
def BoR (K : PySem.W.Frag) (H : Hp) (F : Addr → Prop) : Bo → Addr → Prop
  | .live o, a => ∃ u, H a = some u ∧ ObR K H F o u
  | .dead d, a => Fr K H F (.ref a) d
structure SR (K : PySem.W.Frag) (α : List Addr) (r : En) (σ : L2.St) (H : Hp) (F : Addr → Prop) : Prop where
  len : r.vs.length = σ.length
  slot : ∀ (i : Nat) (s : Sl), r.vs[i]? = some (some s) → ∃ v : V, σ[i]? = some (some v) ∧ SlR K α H F s v
  obj : ∀ (k : Nat) (b : Bo), r.os[k]? = some b → ∃ a, α[k]? = some a ∧ BoR K H F b a
  apart : ∀ l l' a, Holds α r σ l a → Holds α r σ l' a → l = l'
  sep : ∀ l a, Holds α r σ l a → ¬ F a
  fdom : ∀ a, F a → ∃ u, H a = some u
/-- a result -/
def TR (K : PySem.W.Frag) (α : List Addr) (r : En) (σ : L2.St) (H : Hp) (F : Addr → Prop) : Rv → V → Prop
  | .val d, v => Fr K H F v d
  | .own o, v => ∃ a u, v = .ref a ∧ H a = some u ∧ ObR K H F o u ∧ ¬ F a ∧ ¬ Own α r σ a
  | .at l, v => ∃ a, v = .ref a ∧ LoAt α σ l a
/-- the objects that a step may touch: O before, O' behind -/
structure Step (O : Addr → Prop) (H : Hp) (F : Addr → Prop) (H' : Hp) (F' : Addr → Prop) (O' : Addr → Prop) : Prop where
  keep : ∀ a o, H a = some o → ¬ O a → H' a = some o
  stay : Stay H F H' F'
  nfz : ∀ a, F' a → F a ∨ O a ∨ H a = none
  own : ∀ a, O' a → O a ∨ H a = none
  dom : ∀ a, H' a = none → H a = none
section
variable {O O1 O1' O2 O' : Addr → Prop} {H H1 H2 : Hp} {F F1 F2 : Addr → Prop}
theorem Step.refl (h : ∀ a, O' a → O a) : Step O H F H F O' := ⟨fun _ _ h _ => h, .refl, fun _ h => .inl h, fun a h' => .inl (h a h'), fun _ h => h⟩
theorem Step.trans (a : Step O H F H1 F1 O1) (b : Step O1' H1 F1 H2 F2 O2) (h1 : ∀ a, O1' a → O1 a) : Step O H F H2 F2 O2 where
  keep := fun x o h n => b.keep x o (a.keep x o h n) fun z => (a.own x (h1 x z)).elim n fun e => by rw [h] at e; cases e
  stay := a.stay.trans b.stay
  nfz := fun x h => by
    rcases b.nfz x h with h | h | h
    · exact a.nfz x h
    · exact .inr (a.own x (h1 x h))
    · exact .inr (.inr (a.dom x h))
  own := fun x h => by
    rcases b.own x h with h | h
    · exact a.own x (h1 x h)
    · exact .inr (a.dom x h)
  dom := fun x h => a.dom x (b.dom x h)
theorem Step.more (a : Step O H F H1 F1 O1) (h : ∀ x, O2 x → O1 x) : Step O H F H1 F1 O2 := ⟨a.keep, a.stay, a.nfz, fun x q => a.own x (h x q), a.dom⟩
end
/-- the objects of a state and of a result -/
def OwnT (α : List Addr) (r : En) (σ : L2.St) (x : Rv) (v : V) (a : Addr) : Prop := Own α r σ a ∨ ((∃ o, x = .own o) ∧ v = .ref a)

/-! ### what an evaluator's result wants -/
/-- an exception: its class by name, its fields -/
def ExR (K : PySem.W.Frag) (H : Hp) (F : Addr → Prop) (x : Exc) (cls : Value) (d : Option Addr) : Prop :=
  PySem.W.nsIn K mainGlobals x.cls = some (some cls) ∧ match x.flds with
    | [] => d = none
    | fs => ∃ a ps, d = some a ∧ H a = some (.xd ps) ∧ Paired (fun (p : Str × V) (q : Str × PyData) => p.1 = q.1 ∧ Fr K H F p.2 q.2) ps fs
/-- nothing is let out -/
abbrev W0 : L2.WX := fun _ _ _ _ => False
def AftX (K : PySem.W.Frag) (α : List Addr) (σ : L2.St) (O : Addr → Prop) (H : Hp) (F : Addr → Prop) (W : L2.WX) (x : Exc) (e : En) : Prop := ∀ cls d H' F', SR K α e σ H' F' → Step O H F H' F' (Own α e σ) → ExR K H' F' x cls d → W cls d σ H'
theorem AftX.step {K : PySem.W.Frag} {α : List Addr} {σ : L2.St} {O O1 O1' : Addr → Prop} {H H1 : Hp} {F F1 : Addr → Prop} {W : L2.WX} {x : Exc} {e : En} (h : AftX K α σ O H F W x e) (s : Step O H F H1 F1 O1) (h1 : ∀ a, O1' a → O1 a) : AftX K α σ O1' H1 F1 W x e :=
  fun cls d H' F' a b c => h cls d H' F' a (s.trans b h1) c
def Aft (K : PySem.W.Frag) (α : List Addr) (σ : L2.St) (O : Addr → Prop) (H : Hp) (F : Addr → Prop) (W : L2.WX) (x : Res Rv) (Q : VK) : Prop :=
  match x with
  | .ok r e => ∀ v H' F', SR K α e σ H' F' → Step O H F H' F' (OwnT α e σ r v) → TR K α e σ H' F' r v → Q v H'
  | .ex x e => AftX K α σ O H F W x e
  | .no => False
/-- an expression by its evaluator -/
def tE (K : PySem.W.Frag) (α : List Addr) (W : L2.WX) (f : M Rv) : TE := fun σ H Q => ∃ r F, SR K α r σ H F ∧ Aft K α σ (Own α r σ) H F W (f r) Q
theorem Aft.step {α : List Addr} {σ : L2.St} {O O1 O1' : Addr → Prop} {H H1 : Hp} {F F1 : Addr → Prop} {W : L2.WX} {x : Res Rv} {Q : VK} (h : Aft K α σ O H F W x Q) (s : Step O H F H1 F1 O1) (h1 : ∀ a, O1' a → O1 a) : Aft K α σ O1' H1 F1 W x Q := by
  cases x with
  | ok r e => exact fun v H' F' a b c => h v H' F' a (s.trans b h1) c
  | ex x e => exact AftX.step h s h1
  | no => exact h
theorem TR.step {α : List Addr} {r r' : En} {σ : L2.St} {H H' : Hp} {F F' : Addr → Prop} {O' : Addr → Prop} {x : Rv} {v : V} (h : TR K α r σ H F x v) (s : Step (Own α r σ) H F H' F' O') (ho : ∀ a, Own α r' σ a → O' a) : TR K α r' σ H' F' x v := by
  cases x with
  | val d => exact Fr.stay s.stay h
  | own o =>
    obtain ⟨a, u, e, hH, hO, hF, hN⟩ := h
    refine ⟨a, u, e, s.keep a u hH hN, hO.stay s.stay, fun z => ?_, fun z => ?_⟩
    · rcases s.nfz a z with z | z | z
      · exact hF z
      · exact hN z
      · rw [hH] at z; cases z
    · rcases s.own a (ho a z) with z | z
      · exact hN z
      · rw [hH] at z; cases z
  | «at» l => exact h
/-- first f, then g -/
theorem tE_bnd {α : List Addr} {r : En} {σ : L2.St} {H : Hp} {F : Addr → Prop} {f : M Rv} {g : Rv → M Rv} {Q : VK} (S : SR K α r σ H F) (h : Aft K α σ (Own α r σ) H F W (M.bnd f g r) Q) :
    tE K α W f σ H fun v H1 => ∃ r1 F1 x, SR K α r1 σ H1 F1 ∧ Step (Own α r σ) H F H1 F1 (OwnT α r1 σ x v) ∧ TR K α r1 σ H1 F1 x v ∧ Aft K α σ (Own α r1 σ) H1 F1 W (g x r1) Q := by
  refine ⟨r, F, S, ?_⟩
  unfold M.bnd at h
  cases e : f r with
  | ok x r1 =>
    rw [e] at h
    exact fun v H1 F1 a b c => ⟨r1, F1, x, a, b, c, h.step b fun _ z => .inl z⟩
  | ex x r1 => rw [e] at h; exact h
  | no => rw [e] at h; exact h.elim
theorem tE_mono {α : List Addr} {σ : L2.St} {H : Hp} {f : M Rv} {Q Q' : VK} (h : tE K α W f σ H Q) (q : ∀ v H1, Q v H1 → Q' v H1) : tE K α W f σ H Q' := by
  obtain ⟨r, F, S, a⟩ := h
  refine ⟨r, F, S, ?_⟩
  cases e : f r with
  | ok x r1 => rw [e] at a; exact fun v H1 F1 b c d => q _ _ (a v H1 F1 b c d)
  | ex x r1 => rw [e] at a; exact a
  | no => rw [e] at a; exact a
theorem pe_weak {X : Cx} {e : Expr} {t t' : TE} (h : PE X e t) (w : ∀ σ H Q, t' σ H Q → t σ H Q) : PE X e t' := ⟨fun pins s σ H Q I q => h.run pins s σ H Q I (w σ H Q q)⟩
theorem ps_weak {X : Cx} {e : Stmt} {t t' : TS} (h : PS X e t) (w : ∀ D σ H, t' D σ H → t D σ H) : PS X e t' := ⟨fun pins s σ H D I q => h.run pins s σ H D I (w D σ H q)⟩
theorem pss_weak {X : Cx} {e : List Stmt} {t t' : TS} (h : PSs X e t) (w : ∀ D σ H, t' D σ H → t D σ H) : PSs X e t' := ⟨fun pins s σ H D I q => h.run pins s σ H D I (w D σ H q)⟩
end Mi

/-! Mi2.lean -/
set_option Elab.async false
set_option linter.all false
set_option maxRecDepth 100000
namespace Mi
open PySem L2 PySem.Spec PyProof.Rows
variable {K : PySem.W.Frag} {α : List Addr} {r r' : En} {σ : L2.St} {H H' : Hp} {F F' : Addr → Prop}

/-! ### content -/
def look (r : En) : Lo → Option Bo
  | .slot i => match r.vs[i]? with
    | some (some (.own o)) => some (.live o)
    | some (some (.val d)) => some (.dead d)
    | _ => none
  | .obj k => r.os[k]?
def content (r : En) : Rv → Option Bo
  | .val d => some (.dead d)
  | .own o => some (.live o)
  | .at l => look r l
def Bo.data : Bo → Option PyData
  | .live (.lst ds) => some (.list ds)
  | .dead d => some d
  | _ => none
def peek (r : En) (x : Rv) : Option PyData := (content r x).bind Bo.data
def CR (K : PySem.W.Frag) (H : Hp) (F : Addr → Prop) : Bo → V → Prop
  | .live o, v => ∃ a u, v = .ref a ∧ H a = some u ∧ ObR K H F o u
  | .dead d, v => Fr K H F v d
theorem content_rel (S : SR K α r σ H F) {x : Rv} {v : V} {b : Bo} (t : TR K α r σ H F x v) (e : content r x = some b) : CR K H F b v := by
  cases x with
  | val d => cases e; exact t
  | own o => cases e; obtain ⟨a, u, h1, h2, h3, _⟩ := t; exact ⟨a, u, h1, h2, h3⟩
  | «at» l =>
    obtain ⟨a, rfl, h⟩ := t
    cases l with
    | slot i =>
      unfold content look at e
      simp only at e
      split at e
      · rename_i o q
        cases e
        obtain ⟨v, h1, a', u, h2, h3, h4⟩ := S.slot _ _ q
        have hh : σ[i]? = some (some (V.ref a)) := h
        rw [h1] at hh; cases hh; cases h2
        exact ⟨a, u, rfl, h3, h4⟩
      · rename_i d q
        cases e
        obtain ⟨v, h1, h2⟩ := S.slot _ _ q
        have hh : σ[i]? = some (some (V.ref a)) := h
        rw [h1] at hh; cases hh
        exact h2
      · cases e
    | obj k =>
      have e' : r.os[k]? = some b := e
      obtain ⟨a', h1, h2⟩ := S.obj _ _ e'
      have hh : α[k]? = some a := h
      rw [h1] at hh; cases hh
      cases b with
      | live o => obtain ⟨u, h3, h4⟩ := h2; exact ⟨a, u, rfl, h3, h4⟩
      | dead d => exact h2
/-- the value v holds the data d, now -/
def Pk (K : PySem.W.Frag) (H : Hp) (F : Addr → Prop) (v : V) (d : PyData) : Prop := ∃ b, CR K H F b v ∧ b.data = some d
theorem peek_rel (S : SR K α r σ H F) {x : Rv} {v : V} {d : PyData} (t : TR K α r σ H F x v) (e : peek r x = some d) : Pk K H F v d := by
  unfold peek at e
  cases c : content r x with
  | none => rw [c] at e; cases e
  | some b => rw [c] at e; exact ⟨b, content_rel S t c, e⟩
theorem Pk.fr {v : V} {d : PyData} (h : Fr K H F v d) : Pk K H F v d := ⟨.dead d, h, rfl⟩
/-- a list that may be read -/
def Lx (K : PySem.W.Frag) (H : Hp) (a : Addr) (xs : List V) : Prop := Rd H a (.lst xs) ∨ KLst K a xs
theorem Lx.sq {a : Addr} {xs : List V} (h : Lx K H a xs) : SqL K H a xs := h.elim .inl fun h => h.sq
theorem Fr.lx {v : V} {ds : List PyData} (h : Fr K H F v (.list ds)) : ∃ a xs, v = .ref a ∧ Lx K H a xs ∧ FrAll K H F xs ds := by
  cases h with
  | own h1 h2 h3 => exact ⟨_, _, rfl, .inl (.inl h2), h3⟩
  | frz h1 h3 => exact ⟨_, _, rfl, .inl (.inr ⟨_, h1⟩), h3⟩
  | klst h1 h3 => exact ⟨_, _, rfl, .inr h1, h3⟩
theorem Pk.lx {v : V} {ds : List PyData} (h : Pk K H F v (.list ds)) : ∃ a xs, v = .ref a ∧ Lx K H a xs ∧ FrAll K H F xs ds := by
  obtain ⟨b, h, e⟩ := h
  cases b with
  | live o =>
    cases o with
    | lst es =>
      cases e
      obtain ⟨a, u, h1, h2, xs, h3, h4⟩ := h
      subst h3
      exact ⟨a, xs, h1, .inl (.inl h2), h4⟩
    | dct _ => cases e
    | fdc _ => cases e
  | dead d => cases e; exact Fr.lx h
theorem Pk.list {v : V} {ds : List PyData} (h : Pk K H F v (.list ds)) : ∃ a xs, v = .ref a ∧ SqL K H a xs ∧ FrAll K H F xs ds := by
  obtain ⟨a, xs, h1, h2, h3⟩ := h.lx
  exact ⟨a, xs, h1, h2.sq, h3⟩
theorem Pk.dead {v : V} {d : PyData} (h : Pk K H F v d) (n : ∀ ds, d ≠ .list ds) : Fr K H F v d := by
  obtain ⟨b, h, e⟩ := h
  cases b with
  | live o =>
    cases o with
    | lst es => cases e; exact absurd rfl (n es)
    | dct _ => cases e
    | fdc _ => cases e
  | dead d => cases e; exact h
theorem Pk.tup {v : V} {ds : List PyData} (h : Pk K H F v (.tuple ds)) : ∃ a xs, v = .ref a ∧ SqT K H a xs ∧ FrAll K H F xs ds := by
  have h := h.dead fun _ => nofun
  cases h with
  | tup h1 h2 => exact ⟨_, _, rfl, h1, h2⟩
theorem Pk.int {v : V} {i : Int} (h : Pk K H F v (.int i)) : v = .int i := by
  have h := h.dead fun _ => nofun
  cases h; rfl
theorem Pk.str {v : V} {i : Str} (h : Pk K H F v (.str i)) : v = .str i := by
  have h := h.dead fun _ => nofun
  cases h; rfl
theorem Pk.bl {v : V} {i : Bool} (h : Pk K H F v (.bool i)) : v = .bl i := by
  have h := h.dead fun _ => nofun
  cases h; rfl
theorem Pk.non {v : V} (h : Pk K H F v .none) : v = .non := by
  have h := h.dead fun _ => nofun
  cases h; rfl
theorem Pk.dp {v : V} {d : PyData} (h : Pk K H F v d) : Dp K H v d := by
  cases d with
  | list ds => obtain ⟨a, xs, rfl, h1, h2⟩ := h.list; exact .lst h1 h2.dp
  | _ => exact (h.dead fun _ => nofun).dp

/-! ### ends of an evaluation -/
theorem Holds.has (S : SR K α r σ H F) {l : Lo} {a : Addr} (h : Holds α r σ l a) : ∃ o u, H a = some u ∧ ObR K H F o u := by
  cases l with
  | slot i =>
    obtain ⟨⟨o, q⟩, h2⟩ := h
    obtain ⟨v, h1, a', u, h3, h4, h5⟩ := S.slot _ _ q
    rw [h1] at h2; cases h2; cases h3
    exact ⟨o, u, h4, h5⟩
  | obj k =>
    obtain ⟨⟨o, q⟩, h2⟩ := h
    obtain ⟨a', h1, u, h3, h4⟩ := S.obj _ _ q
    rw [h1] at h2; cases h2
    exact ⟨o, u, h3, h4⟩
theorem stay_new (S : SR K α r σ H F) {p : Addr} (o : HO) (hp : H p = none) : Stay H F (upd H p o) F :=
  ⟨fun _ h => h, fun a h => upd_ne (fun e => by obtain ⟨u, q⟩ := S.fdom a h; rw [e, hp] at q; cases q), fun a u h _ => by rw [upd_ne (ne_of_none h hp)]; exact h⟩
/-- a state over a heap that keeps what it leans on -/
theorem SR.over (S : SR K α r σ H F) (s : Stay H F H' F') (ho : ∀ a, Own α r σ a → H' a = H a) (hf : ∀ a, Own α r σ a → ¬ F' a) (hd : ∀ a, F' a → ∃ u, H' a = some u) : SR K α r σ H' F' where
  len := S.len
  slot := fun i x q => by
    obtain ⟨v, h1, h2⟩ := S.slot i x q
    refine ⟨v, h1, ?_⟩
    cases x with
    | val d => exact Fr.stay s h2
    | own o =>
      obtain ⟨a, u, rfl, h3, h4⟩ := h2
      exact ⟨a, u, rfl, (ho a ⟨.slot i, ⟨o, q⟩, h1⟩).trans h3, h4.stay s⟩
    | bor k => exact h2
  obj := fun k b q => by
    obtain ⟨a, h1, h2⟩ := S.obj k b q
    refine ⟨a, h1, ?_⟩
    cases b with
    | live o =>
      obtain ⟨u, h3, h4⟩ := h2
      exact ⟨u, (ho a ⟨.obj k, ⟨o, q⟩, h1⟩).trans h3, h4.stay s⟩
    | dead d => exact Fr.stay s h2
  apart := S.apart
  sep := fun l a h => hf a ⟨l, h⟩
  fdom := hd
theorem SR.new (S : SR K α r σ H F) {p : Addr} (o : HO) (hp : H p = none) : SR K α r σ (upd H p o) F :=
  S.over (stay_new S o hp) (fun a ⟨l, h⟩ => by obtain ⟨_, u, q, _⟩ := h.has S; exact upd_ne (ne_of_none q hp)) (fun a ⟨l, h⟩ => S.sep l a h)
    fun a h => by obtain ⟨u, q⟩ := S.fdom a h; exact ⟨u, by rw [upd_ne (ne_of_none q hp)]; exact q⟩
theorem notOwn_new (S : SR K α r σ H F) {p : Addr} (hp : H p = none) : ¬ Own α r σ p := fun ⟨l, h⟩ => by
  obtain ⟨_, u, q, _⟩ := h.has S
  rw [hp] at q; cases q
theorem notF_new (S : SR K α r σ H F) {p : Addr} (hp : H p = none) : ¬ F p := fun h => by
  obtain ⟨u, q⟩ := S.fdom p h
  rw [hp] at q; cases q
theorem step_new (S : SR K α r σ H F) {p : Addr} (o : HO) (hp : H p = none) {O' : Addr → Prop} (h : ∀ a, O' a → Own α r σ a ∨ a = p) : Step (Own α r σ) H F (upd H p o) F O' where
  keep := fun a u q _ => by rw [upd_ne (ne_of_none q hp)]; exact q
  stay := stay_new S o hp
  nfz := fun a h => .inl h
  own := fun a q => (h a q).elim .inl fun e => .inr (e ▸ hp)
  dom := fun a q => by
    by_cases e : a = p
    · exact e ▸ hp
    · rwa [upd_ne e] at q
/-- how an evaluation may end where nothing that stood has changed -/
structure Fin (K : PySem.W.Frag) (H : Hp) (F : Addr → Prop) (z : Rv) (Q : VK) : Prop where
  val : ∀ d v, z = .val d → Fr K H F v d → Q v H
  new : ∀ ds xs p, z = .own (.lst ds) → H p = none → FrAll K H F xs ds → Q (.ref p) (upd H p (.lst xs))
  dct : ∀ p, z = .own (.dct []) → H p = none → Q (.ref p) (upd H p (.dK []))
  tup : ∀ ds xs p, z = .val (.tuple ds) → H p = none → FrAll K H F xs ds → Q (.ref p) (upd H p (.tup xs))
theorem Aft.fin (S : SR K α r σ H F) {z : Rv} {W : L2.WX} {Q : VK} (h : Aft K α σ (Own α r σ) H F W (.ok z r) Q) : Fin K H F z Q where
  val := fun d v e q => by
    subst e
    exact h v H F S (Step.refl fun a q => q.elim id fun ⟨⟨_, z⟩, _⟩ => nomatch z) q
  new := fun ds xs p e hp q => by
    subst e
    refine h _ _ F (S.new _ hp) (step_new S _ hp fun a z => z.elim .inl fun ⟨_, z⟩ => .inr ?_) ⟨p, _, rfl, upd_same, ⟨xs, rfl, q.stay (stay_new S _ hp)⟩, notF_new S hp, notOwn_new S hp⟩
    injection z with z; exact z.symm
  dct := fun p e hp => by
    subst e
    refine h _ _ F (S.new _ hp) (step_new S _ hp fun a z => z.elim .inl fun ⟨_, z⟩ => .inr ?_) ⟨p, _, rfl, upd_same, ⟨[], rfl, .nil⟩, notF_new S hp, notOwn_new S hp⟩
    injection z with z; exact z.symm
  tup := fun ds xs p e hp q => by
    subst e
    refine h _ _ F (S.new _ hp) (step_new S _ hp fun a z => z.elim .inl fun ⟨⟨_, z⟩, _⟩ => nomatch z) ?_
    exact .tup (.inl (.inl upd_same)) (q.stay (stay_new S _ hp))

/-! ### names, constants, operators -/
def nmE (i : Nat) : M Rv := fun r =>
  match r.vs[i]? with
  | some (some (.val d)) => .ok (.val d) r
  | some (some (.own _)) => .ok (.at (.slot i)) r
  | some (some (.bor k)) => .ok (.at (.obj k)) r
  | _ => .no
def kE (d : PyData) : M Rv := fun r => .ok (.val d) r
def op2 (g : PyData → PyData → Option Rv) (x y : Rv) : M Rv := fun r =>
  match peek r x, peek r y with
  | some d, some e => match g d e with
    | some z => .ok z r
    | none => .no
  | _, _ => .no
def binE (g : PyData → PyData → Option Rv) (f h : M Rv) : M Rv := M.bnd f fun x => M.bnd h fun y => op2 g x y
def op1 (g : PyData → Option Rv) (x : Rv) : M Rv := fun r =>
  match peek r x with
  | some d => match g d with
    | some z => .ok z r
    | none => .no
  | _ => .no
def unE (g : PyData → Option Rv) (f : M Rv) : M Rv := M.bnd f fun x => op1 g x
theorem nm_ok {i : Nat} {Q : VK} (h : tE K α W (nmE i) σ H Q) : tVar i σ H Q := by
  obtain ⟨r, F, S, h⟩ := h
  unfold nmE at h
  split at h
  · rename_i d q
    obtain ⟨v, h1, h2⟩ := S.slot _ _ q
    exact ⟨v, h1, (Aft.fin S h).val d v rfl h2⟩
  · rename_i o q
    obtain ⟨v, h1, a, u, rfl, h2⟩ := S.slot _ _ q
    exact ⟨_, h1, h _ H F S (Step.refl fun a q => q.elim id fun ⟨⟨_, z⟩, _⟩ => nomatch z) ⟨a, rfl, h1⟩⟩
  · rename_i k q
    obtain ⟨v, h1, a, rfl, h2⟩ := S.slot _ _ q
    exact ⟨_, h1, h _ H F S (Step.refl fun a q => q.elim id fun ⟨⟨_, z⟩, _⟩ => nomatch z) ⟨a, rfl, h2⟩⟩
  · exact h.elim
theorem k_ok {v : V} {d : PyData} {Q : VK} (hd : ∀ H F, Fr K H F v d) (h : tE K α W (kE d) σ H Q) : tC v σ H Q := by
  obtain ⟨r, F, S, h⟩ := h
  exact (Aft.fin S h).val d v rfl (hd H F)
/-- an operator of two values by what it does to the data -/
def Op2 (K : PySem.W.Frag) (ro : R2) (g : PyData → PyData → Option Rv) : Prop :=
  ∀ (H : Hp) (F : Addr → Prop) (x y : V) (d e : PyData) (z : Rv) (Q : VK), Pk K H F x d → Pk K H F y e → g d e = some z → Fin K H F z Q → ro x y H Q
theorem tOp_ok {ro : R2} {g : PyData → PyData → Option Rv} (hs : Op2 K ro g) {fa fb : M Rv} {Q : VK} (h : tE K α W (binE g fa fb) σ H Q) : tOp ro (tE K α W fa) (tE K α W fb) σ H Q := by
  obtain ⟨r, F, S, h⟩ := h
  refine tE_mono (tE_bnd S h) fun x H1 ⟨r1, F1, x1, S1, st1, t1, h1⟩ => ?_
  refine tE_mono (tE_bnd S1 h1) fun y H2 ⟨r2, F2, x2, S2, st2, t2, h2⟩ => ?_
  have t1' := t1.step st2 fun a z => .inl z
  unfold op2 at h2
  cases e1 : peek r2 x1 with
  | none => simp only [e1] at h2; exact h2.elim
  | some d =>
    cases e2 : peek r2 x2 with
    | none => simp only [e1, e2] at h2; exact h2.elim
    | some e =>
      simp only [e1, e2] at h2
      cases e3 : g d e with
      | none => simp only [e3] at h2; exact h2.elim
      | some z =>
        simp only [e3] at h2
        exact hs H2 F2 x y d e z Q (peek_rel S2 t1' e1) (peek_rel S2 t2 e2) e3 (Aft.fin S2 h2)
def Op1 (K : PySem.W.Frag) (ro : V → Hp → VK → Prop) (g : PyData → Option Rv) : Prop :=
  ∀ (H : Hp) (F : Addr → Prop) (x : V) (d : PyData) (z : Rv) (Q : VK), Pk K H F x d → g d = some z → Fin K H F z Q → ro x H Q
theorem t1_ok {ro : V → Hp → VK → Prop} {g : PyData → Option Rv} (hs : Op1 K ro g) {fa : M Rv} {Q : VK} (h : tE K α W (unE g fa) σ H Q) : tE K α W fa σ H fun x H1 => ro x H1 Q := by
  obtain ⟨r, F, S, h⟩ := h
  refine tE_mono (tE_bnd S h) fun x H1 ⟨r1, F1, x1, S1, st1, t1, h1⟩ => ?_
  unfold op1 at h1
  cases e1 : peek r1 x1 with
  | none => simp only [e1] at h1; exact h1.elim
  | some d =>
    simp only [e1] at h1
    cases e3 : g d with
    | none => simp only [e3] at h1; exact h1.elim
    | some z =>
      simp only [e3] at h1
      exact hs H1 F1 x d z Q (peek_rel S1 t1 e1) e3 (Aft.fin S1 h1)
section
variable {X : Cx} {a b e : Expr} {fa fb f : M Rv} {pos : Pos}
theorem ev_nm (i : Nat) {x : Str} (h : PE X (.Name x pos) (tVar i)) : PE X (.Name x pos) (tE K α W (nmE i)) := pe_weak h fun _ _ _ q => nm_ok q
theorem ev_k {v : V} {d : PyData} (h : PE X e (tC v)) (hd : ∀ H F, Fr K H F v d) : PE X e (tE K α W (kE d)) := pe_weak h fun _ _ _ q => k_ok hd q
theorem ev_int {i j} : PE X (.Constant (.int i) j pos) (tE K α W (kE (.int i))) := ev_k pe_int fun _ _ => .int _
theorem ev_bl {i j} : PE X (.Constant (.bool i) j pos) (tE K α W (kE (.bool i))) := ev_k pe_bl fun _ _ => .bl _
theorem ev_str {i j} : PE X (.Constant (.str i) j pos) (tE K α W (kE (.str i))) := ev_k pe_str fun _ _ => .str _
theorem ev_non {j} : PE X (.Constant .none j pos) (tE K α W (kE .none)) := ev_k pe_non fun _ _ => .non
theorem ev_bin {op : Operator} {ro : R2} {g : PyData → PyData → Option Rv} (hr : OpR X (binaryOp op) ro) (hs : Op2 K ro g) (ha : PE X a (tE K α W fa)) (hb : PE X b (tE K α W fb)) : PE X (.BinOp a op b pos) (tE K α W (binE g fa fb)) :=
  pe_weak (pe_op hr ha hb) fun _ _ _ q => tOp_ok hs q
theorem ev_cmp {op : CmpOp} {ro : R2} {g : PyData → PyData → Option Rv} (hr : OpR X (compareOp op) ro) (hm : behindInMarks op b = false) (hs : Op2 K ro g) (ha : PE X a (tE K α W fa)) (hb : PE X b (tE K α W fb)) : PE X (.Compare a [op] [b] pos) (tE K α W (binE g fa fb)) :=
  pe_weak (pe_cmpR hr ha hb hm) fun _ _ _ q => tOp_ok hs q
theorem ev_ix {ro : R2} {g : PyData → PyData → Option Rv} (hr : IxR X ro) (hp : PlainIx b) (hs : Op2 K ro g) (ha : PE X a (tE K α W fa)) (hb : PE X b (tE K α W fb)) : PE X (.Subscript a b pos) (tE K α W (binE g fa fb)) :=
  pe_weak (pe_ix hr ha hb hp) fun _ _ _ q => tOp_ok hs q
theorem ev_un {op : UnaryOp} {ro : V → Hp → VK → Prop} {g : PyData → Option Rv} (hr : UnR X (unaryOp op) ro) (hs : Op1 K ro g) (ha : PE X a (tE K α W fa)) : PE X (.UnaryOp op a pos) (tE K α W (unE g fa)) :=
  pe_weak (pe_un hr ha) fun _ _ _ q => t1_ok hs q
end
end Mi

/-! Mi3.lean -/
set_option Elab.async false
set_option linter.all false
set_option maxRecDepth 100000
namespace Mi
open PySem L2 PySem.Spec PyProof.Rows
variable {K : PySem.W.Frag} {α : List Addr} {r r' : En} {σ : L2.St} {H H' : Hp} {F F' : Addr → Prop}

/-! ### tests -/
/-- the same for a result that is no value of the heap -/
def AftB {β : Type} (K : PySem.W.Frag) (α : List Addr) (σ : L2.St) (O : Addr → Prop) (H : Hp) (F : Addr → Prop) (W : L2.WX) (x : Res β) (Q : β → Hp → Prop) : Prop :=
  match x with
  | .ok b e => ∀ H' F', SR K α e σ H' F' → Step O H F H' F' (Own α e σ) → Q b H'
  | .ex x e => AftX K α σ O H F W x e
  | .no => False
def tB' {β : Type} (K : PySem.W.Frag) (α : List Addr) (W : L2.WX) (f : M β) : L2.St → Hp → (β → Hp → Prop) → Prop := fun σ H Q => ∃ r F, SR K α r σ H F ∧ AftB K α σ (Own α r σ) H F W (f r) Q
abbrev tT (K : PySem.W.Frag) (α : List Addr) (W : L2.WX) (f : M Bool) : TT := tB' K α W f
theorem AftB.step {β : Type} {O O1 O1' : Addr → Prop} {H1 : Hp} {F1 : Addr → Prop} {W : L2.WX} {x : Res β} {Q : β → Hp → Prop} (h : AftB K α σ O H F W x Q) (s : Step O H F H1 F1 O1) (h1 : ∀ a, O1' a → O1 a) : AftB K α σ O1' H1 F1 W x Q := by
  cases x with
  | ok r e => exact fun H' F' a b => h H' F' a (s.trans b h1)
  | ex x e => exact AftX.step h s h1
  | no => exact h
theorem AftB.here {β : Type} (S : SR K α r σ H F) {b : β} {W : L2.WX} {Q : β → Hp → Prop} (h : AftB K α σ (Own α r σ) H F W (.ok b r) Q) : Q b H := h H F S (Step.refl fun _ z => z)
theorem tB_mono {β : Type} {f : M β} {Q Q' : β → Hp → Prop} (h : tB' K α W f σ H Q) (q : ∀ v H1, Q v H1 → Q' v H1) : tB' K α W f σ H Q' := by
  obtain ⟨r, F, S, a⟩ := h
  refine ⟨r, F, S, ?_⟩
  cases e : f r with
  | ok x r1 => rw [e] at a; exact fun H1 F1 b c => q _ _ (a H1 F1 b c)
  | ex x r1 => rw [e] at a; exact a
  | no => rw [e] at a; exact a
/-- a value, then what is no value -/
theorem tE_bndB {β : Type} {f : M Rv} {g : Rv → M β} {Q : β → Hp → Prop} (S : SR K α r σ H F) (h : AftB K α σ (Own α r σ) H F W (M.bnd f g r) Q) :
    tE K α W f σ H fun v H1 => ∃ r1 F1 x, SR K α r1 σ H1 F1 ∧ Step (Own α r σ) H F H1 F1 (OwnT α r1 σ x v) ∧ TR K α r1 σ H1 F1 x v ∧ AftB K α σ (Own α r1 σ) H1 F1 W (g x r1) Q := by
  refine ⟨r, F, S, ?_⟩
  unfold M.bnd at h
  cases e : f r with
  | ok x r1 =>
    rw [e] at h
    exact fun v H1 F1 a b c => ⟨r1, F1, x, a, b, c, h.step b fun _ z => .inl z⟩
  | ex x r1 => rw [e] at h; exact h
  | no => rw [e] at h; exact h.elim
theorem tB_bnd {β : Type} {f : M β} {g : β → M Rv} {Q : VK} (S : SR K α r σ H F) (h : Aft K α σ (Own α r σ) H F W (M.bnd f g r) Q) :
    tB' K α W f σ H fun b H1 => tE K α W (g b) σ H1 Q := by
  refine ⟨r, F, S, ?_⟩
  unfold M.bnd at h
  cases e : f r with
  | ok x r1 =>
    rw [e] at h
    exact fun H1 F1 a b => ⟨r1, F1, a, h.step b fun _ z => z⟩
  | ex x r1 => rw [e] at h; exact h
  | no => rw [e] at h; exact h.elim
theorem tB_bndB {β γ : Type} {f : M β} {g : β → M γ} {Q : γ → Hp → Prop} (S : SR K α r σ H F) (h : AftB K α σ (Own α r σ) H F W (M.bnd f g r) Q) :
    tB' K α W f σ H fun b H1 => ∃ r1 F1, SR K α r1 σ H1 F1 ∧ Step (Own α r σ) H F H1 F1 (Own α r1 σ) ∧ AftB K α σ (Own α r1 σ) H1 F1 W (g b r1) Q := by
  refine ⟨r, F, S, ?_⟩
  unfold M.bnd at h
  cases e : f r with
  | ok x r1 =>
    rw [e] at h
    exact fun H1 F1 a b => ⟨r1, F1, a, b, h.step b fun _ z => z⟩
  | ex x r1 => rw [e] at h; exact h
  | no => rw [e] at h; exact h.elim

def boolOf : PyData → Option Bool
  | .bool b => some b
  | _ => none
def truthOf : PyData → Option Bool
  | .none => some false
  | .bool b => some b
  | .int i => some (i != 0)
  | .str x => if x.length ≤ sizeLine then some (x.length != 0) else none
  | .list ds => some (!ds.isEmpty)
  | .tuple ds => some (!ds.isEmpty)
  | _ => none
def tst (g : PyData → Option Bool) (x : Rv) : M Bool := fun r =>
  match (peek r x).bind g with
  | some b => .ok b r
  | none => .no
def tstB (f : M Rv) : M Bool := M.bnd f (tst boolOf)
def tstT (f : M Rv) : M Bool := M.bnd f (tst truthOf)
theorem tst_ok {g : PyData → Option Bool} {f : M Rv} {P : V → Hp → Bool → Prop} (hs : ∀ H F v d b, Pk K H F v d → g d = some b → P v H b) {Q : Bool → Hp → Prop} (h : tT K α W (M.bnd f (tst g)) σ H Q) :
    tE K α W f σ H fun v H1 => ∃ k, P v H1 k ∧ Q k H1 := by
  obtain ⟨r, F, S, h⟩ := h
  refine tE_mono (tE_bndB S h) fun x H1 ⟨r1, F1, x1, S1, st1, t1, h1⟩ => ?_
  unfold tst at h1
  cases e1 : peek r1 x1 with
  | none => simp only [e1] at h1; exact h1.elim
  | some d =>
    cases e2 : g d with
    | none => simp only [e1, Option.bind_some, e2] at h1; exact h1.elim
    | some b =>
      simp only [e1, Option.bind_some, e2] at h1
      exact ⟨b, hs H1 F1 x d b (peek_rel S1 t1 e1) e2, AftB.here S1 h1⟩
theorem bool_pk {F : Addr → Prop} {v : V} {d : PyData} {b : Bool} (h : Pk K H F v d) (e : boolOf d = some b) : v = .bl b := by
  cases d <;> cases e
  exact h.bl
theorem FrAll.emp {v : List V} {d : List PyData} (h : FrAll K H F v d) : v.isEmpty = d.isEmpty := by cases h <;> rfl
theorem truth_pk {F : Addr → Prop} {v : V} {d : PyData} {b : Bool} (h : Pk K H F v d) (e : truthOf d = some b) : TruV K v H b := by
  cases d with
  | none => cases e; rw [h.non]; rfl
  | bool x => cases e; rw [h.bl]; rfl
  | int i => cases e; rw [h.int]; rfl
  | str x =>
    rw [h.str]
    have e : (if x.length ≤ sizeLine then some (x.length != 0) else none) = some b := e
    split at e
    · rename_i hx
      cases e
      refine ⟨hx, ?_⟩
      rw [Bool.eq_iff_iff, bne_iff_ne, bne_iff_ne]
      omega
    · cases e
  | list ds =>
    cases e
    obtain ⟨a, xs, rfl, h1, h2⟩ := h.list
    exact .inl ⟨xs, h1, by rw [h2.emp]⟩
  | tuple ds =>
    cases e
    obtain ⟨a, xs, rfl, h1, h2⟩ := h.tup
    exact .inr (.inl ⟨xs, h1, by rw [h2.emp]⟩)
  | dict _ => cases e
def andB (f g : M Bool) : M Bool := M.bnd f fun c => if c = true then g else M.ret false
def orB (f g : M Bool) : M Bool := M.bnd f fun c => if c = true then M.ret true else g
def notB (f : M Bool) : M Bool := M.bnd f fun c => M.ret (!c)
def iteE (t : M Bool) (f g : M Rv) : M Rv := M.bnd t fun c => if c = true then f else g
def bV (f : M Bool) : M Rv := M.bnd f fun c => M.ret (.val (.bool c))
theorem tB_ret {β : Type} {b : β} {Q : β → Hp → Prop} (h : tB' K α W (M.ret b) σ H Q) : Q b H := by
  obtain ⟨r, F, S, h⟩ := h
  exact AftB.here S h
theorem and_ok {f g : M Bool} {Q : Bool → Hp → Prop} (h : tT K α W (andB f g) σ H Q) : tAnd (tT K α W f) (tT K α W g) σ H Q := by
  obtain ⟨r, F, S, h⟩ := h
  refine tB_mono (tB_bndB S h) fun b H1 ⟨r1, F1, S1, _, h1⟩ => ?_
  cases b with
  | true => exact ⟨r1, F1, S1, h1⟩
  | false => exact AftB.here S1 h1
theorem or_ok {f g : M Bool} {Q : Bool → Hp → Prop} (h : tT K α W (orB f g) σ H Q) : tOr (tT K α W f) (tT K α W g) σ H Q := by
  obtain ⟨r, F, S, h⟩ := h
  refine tB_mono (tB_bndB S h) fun b H1 ⟨r1, F1, S1, _, h1⟩ => ?_
  cases b with
  | false => exact ⟨r1, F1, S1, h1⟩
  | true => exact AftB.here S1 h1
theorem not_ok {f : M Bool} {Q : Bool → Hp → Prop} (h : tT K α W (notB f) σ H Q) : tNot (tT K α W f) σ H Q := by
  obtain ⟨r, F, S, h⟩ := h
  exact tB_mono (tB_bndB S h) fun b H1 ⟨r1, F1, S1, _, h1⟩ => AftB.here S1 h1
theorem ite_ok {t : M Bool} {f g : M Rv} {Q : VK} (h : tE K α W (iteE t f g) σ H Q) : tIf (tT K α W t) (tE K α W f) (tE K α W g) σ H Q := by
  obtain ⟨r, F, S, h⟩ := h
  refine tB_mono (tB_bnd S h) fun b H1 h1 => ?_
  cases b with
  | true => exact h1
  | false => exact h1
theorem pt_weak {X : Cx} {e : Expr} {t t' : TT} (h : PT X e t) (w : ∀ σ H Q, t' σ H Q → t σ H Q) : PT X e t' := ⟨fun pins s σ H Q I q => h.run pins s σ H Q I (w σ H Q q)⟩
theorem pw_weak {X : Cx} {e : Expr} {t t' : TT} (h : PW X e t) (w : ∀ σ H Q, t' σ H Q → t σ H Q) : PW X e t' := ⟨fun wh pins s σ H Q I q => h.run wh pins s σ H Q I (w σ H Q q)⟩
theorem pa_weak {X : Cx} {es : List Expr} {t t' : TA} (h : PA X es t) (w : ∀ σ H Q, t' σ H Q → t σ H Q) : PA X es t' := ⟨fun wh pins s σ H Q I q => h.run wh pins s σ H Q I (w σ H Q q)⟩
section
variable {X : Cx} {a b c e : Expr} {rest : List Expr} {fa fb fc f : M Rv} {t u : M Bool} {pos : Pos}
theorem tv_bool (h : PE X e (tE K α W f)) (he : ∀ whole, isTrue e X.env whole = (do let v ← whole; standAt e.pos; holding [v] (truthy v)) := by intro _; rfl) : PT X e (tT K α W (tstB f)) :=
  pt_weak (pt_val h he) fun _ _ _ q => tst_ok (P := fun v _ b => v = .bl b) (fun _ _ _ _ _ p e => bool_pk p e) q
theorem tv_truth (h : PE X e (tE X.K α W f)) (he : ∀ whole, isTrue e X.env whole = (do let v ← whole; standAt e.pos; holding [v] (truthy v)) := by intro _; rfl) : PT X e (tT X.K α W (tstT f)) :=
  pt_weak (pt_truth h he) fun _ H _ q => tst_ok (P := fun v H b => TruV X.K v H b) (fun _ _ _ _ _ p e => truth_pk p e) q
theorem tv_cmp {op : CmpOp} {ro : R2} {g : PyData → PyData → Option Rv} (hr : OpR X (compareOp op) ro) (hm : behindInMarks op b = false) (hs : Op2 K ro g) (ha : PE X a (tE K α W fa)) (hb : PE X b (tE K α W fb)) : PT X (.Compare a [op] [b] pos) (tT K α W (tstB (binE g fa fb))) :=
  pt_weak (pt_cmpR hr ha hb hm) fun σ H Q q => by
    have q1 := tst_ok (P := fun v _ b => v = .bl b) (fun _ _ _ _ _ p e => bool_pk p e) q
    exact tOp_ok hs q1
theorem tv_and1 (h : PT X a (tT K α W t)) : PW X (.BoolOp .And [a] pos) (tT K α W t) := pw_and1 h
theorem tv_or1 (h : PT X a (tT K α W t)) : PW X (.BoolOp .Or [a] pos) (tT K α W t) := pw_or1 h
theorem tv_and (h : PT X a (tT K α W t)) (h2 : PW X (.BoolOp .And (b :: rest) pos) (tT K α W u)) : PW X (.BoolOp .And (a :: b :: rest) pos) (tT K α W (andB t u)) := pw_weak (pw_and h h2) fun _ _ _ q => and_ok q
theorem tv_or (h : PT X a (tT K α W t)) (h2 : PW X (.BoolOp .Or (b :: rest) pos) (tT K α W u)) : PW X (.BoolOp .Or (a :: b :: rest) pos) (tT K α W (orB t u)) := pw_weak (pw_or h h2) fun _ _ _ q => or_ok q
theorem tv_not (h : PT X a (tT K α W t)) : PT X (.UnaryOp .Not a pos) (tT K α W (notB t)) := pt_weak (pt_not h) fun _ _ _ q => not_ok q
theorem ev_ite (hc : PT X c (tT K α W t)) (ha : PE X a (tE K α W fa)) (hb : PE X b (tE K α W fb)) : PE X (.IfExp c a b pos) (tE K α W (iteE t fa fb)) := pe_weak (pe_ifExp hc ha hb) fun _ _ _ q => ite_ok q
end
/-! a and b, a or b, not a as values, all True or False -/
def andE (f g : M Rv) : M Rv := M.bnd (tstB f) fun c => if c = true then g else M.ret (.val (.bool false))
def orE (f g : M Rv) : M Rv := M.bnd (tstB f) fun c => if c = true then M.ret (.val (.bool true)) else g
def notE (f : M Rv) : M Rv := M.bnd (tstB f) fun c => M.ret (.val (.bool (!c)))
theorem tE_ret {d : PyData} {v : V} {Q : VK} (hd : ∀ H F, Fr K H F v d) (h : tE K α W (M.ret (.val d)) σ H Q) : Q v H := k_ok hd h
theorem tstB_ok {f : M Rv} {Q : Bool → Hp → Prop} (h : tT K α W (tstB f) σ H Q) : tE K α W f σ H fun v H1 => ∃ k, v = .bl k ∧ Q k H1 := tst_ok (P := fun v _ b => v = .bl b) (fun _ _ _ _ _ p e => bool_pk p e) h
section
variable {X : Cx} {a b c e : Expr} {rest : List Expr} {fa fb fc f : M Rv} {pos : Pos}
theorem ev_and1 (h : PE X a (tE K α W fa)) : PE X (.BoolOp .And [a] pos) (tE K α W fa) := pe_one h
theorem ev_or1 (h : PE X a (tE K α W fa)) : PE X (.BoolOp .Or [a] pos) (tE K α W fa) := pe_one h
theorem ev_and (ha : PE X a (tE K α W fa)) (hb : PE X (.BoolOp .And (b :: rest) pos) (tE K α W fb)) : PE X (.BoolOp .And (a :: b :: rest) pos) (tE K α W (andE fa fb)) :=
  pe_weak (pe_and ha hb) fun σ H Q ⟨r, F, S, h⟩ => by
    refine tE_mono (tstB_ok (tB_bnd S h)) fun v H1 ⟨k, e, q⟩ => ⟨k, e, ?_⟩
    cases k with
    | true => exact q
    | false => exact tE_ret (fun _ _ => .bl _) q
theorem ev_or (ha : PE X a (tE K α W fa)) (hb : PE X (.BoolOp .Or (b :: rest) pos) (tE K α W fb)) : PE X (.BoolOp .Or (a :: b :: rest) pos) (tE K α W (orE fa fb)) :=
  pe_weak (pe_or ha hb) fun σ H Q ⟨r, F, S, h⟩ => by
    refine tE_mono (tstB_ok (tB_bnd S h)) fun v H1 ⟨k, e, q⟩ => ⟨k, e, ?_⟩
    cases k with
    | false => exact q
    | true => exact tE_ret (fun _ _ => .bl _) q
theorem ev_not (ha : PE X a (tE K α W fa)) : PE X (.UnaryOp .Not a pos) (tE K α W (notE fa)) :=
  pe_weak (pe_not ha) fun σ H Q ⟨r, F, S, h⟩ => tE_mono (tstB_ok (tB_bnd S h)) fun v H1 ⟨k, e, q⟩ => ⟨k, e, tE_ret (fun _ _ => .bl _) q⟩
end
/-! a < b < c -/
def chE (g g' : PyData → PyData → Option Rv) (fa fb fc : M Rv) : M Rv :=
  M.bnd fa fun x => M.bnd fb fun y => M.bnd (M.bnd (op2 g x y) (tst boolOf)) fun c => if c = true then M.bnd fc fun z => op2 g' y z else M.ret (.val (.bool false))
theorem op2_ok {ro : R2} {g : PyData → PyData → Option Rv} (hs : Op2 K ro g) {x y : Rv} {v w : V} {Q : VK} (S : SR K α r σ H F) (t1 : TR K α r σ H F x v) (t2 : TR K α r σ H F y w) (h : Aft K α σ (Own α r σ) H F W (op2 g x y r) Q) : ro v w H Q := by
  unfold op2 at h
  cases e1 : peek r x with
  | none => simp only [e1] at h; exact h.elim
  | some d =>
    cases e2 : peek r y with
    | none => simp only [e1, e2] at h; exact h.elim
    | some e =>
      simp only [e1, e2] at h
      cases e3 : g d e with
      | none => simp only [e3] at h; exact h.elim
      | some z =>
        simp only [e3] at h
        exact hs H F v w d e z Q (peek_rel S t1 e1) (peek_rel S t2 e2) e3 (Aft.fin S h)
/-- what op2 ends with: the state is as it was -/
theorem op2_at {g : PyData → PyData → Option Rv} {x y z : Rv} {r1 : En} (h : op2 g x y r = .ok z r1) : r1 = r := by
  unfold op2 at h
  split at h
  · split at h
    · cases h; rfl
    · cases h
  · cases h
theorem op2_ex {g : PyData → PyData → Option Rv} {x y : Rv} {r1 : En} {z : Exc} : op2 g x y r ≠ .ex z r1 := fun h => by
  unfold op2 at h
  split at h
  · split at h <;> cases h
  · cases h
theorem chain_ok {ro ro' : R2} {g g' : PyData → PyData → Option Rv} (hs : Op2 K ro g) (hs' : Op2 K ro' g') {fa fb fc : M Rv} {Q : VK} (h : tE K α W (chE g g' fa fb fc) σ H Q) : tChain ro ro' (tE K α W fa) (tE K α W fb) (tE K α W fc) σ H Q := by
  obtain ⟨r, F, S, h⟩ := h
  refine tE_mono (tE_bnd S h) fun x H1 ⟨r1, F1, x1, S1, st1, t1, h1⟩ => ?_
  refine tE_mono (tE_bnd S1 h1) fun y H2 ⟨r2, F2, x2, S2, st2, t2, h2⟩ => ?_
  have t1' := t1.step st2 fun a z => .inl z
  refine op2_ok (W := W) hs S2 t1' t2 ?_
  unfold M.bnd at h2
  cases e : op2 g x1 x2 r2 with
  | no => simp only [e] at h2; exact h2.elim
  | ex z r3 => exact absurd e op2_ex
  | ok z r3 =>
    have er := op2_at e
    subst er
    simp only [e] at h2
    intro v H3 F3 S3 st3 t3
    unfold tst at h2
    cases e1 : peek r3 z with
    | none => simp only [e1] at h2; exact h2.elim
    | some d =>
      cases e2 : boolOf d with
      | none => simp only [e1, Option.bind_some, e2] at h2; exact h2.elim
      | some k =>
        simp only [e1, Option.bind_some, e2] at h2
        refine ⟨k, bool_pk (peek_rel S3 t3 e1) e2, ?_⟩
        have q := h2.step st3 fun _ z => .inl z
        have t2' := t2.step st3 fun _ z => .inl z
        cases k with
        | true =>
          have q2 : Aft K α σ (Own α r3 σ) H3 F3 W (M.bnd fc (fun z => op2 g' x2 z) r3) Q := q
          refine iteT ?_
          refine tE_mono (tE_bnd S3 q2) fun w H4 ⟨r4, F4, x4, S4, st4, t4, h4⟩ => ?_
          exact op2_ok hs' S4 (t2'.step st4 fun _ z => .inl z) t4 h4
        | false =>
          have q2 : Aft K α σ (Own α r3 σ) H3 F3 W (.ok (.val (.bool false)) r3) Q := q
          refine iteF ?_
          exact (Aft.fin S3 q2).val _ _ rfl (.bl _)
section
variable {X : Cx} {a b c : Expr} {fa fb fc : M Rv} {op op' : CmpOp} {ro ro' : R2} {g g' : PyData → PyData → Option Rv} {pos : Pos}
theorem ev_chain (ho : OpR X (compareOp op) ro) (ho' : OpR X (compareOp op') ro') (hs : Op2 K ro g) (hs' : Op2 K ro' g') (ha : PE X a (tE K α W fa)) (hb : PE X b (tE K α W fb)) (hc : PE X c (tE K α W fc)) (hm : lastMarks [op, op'] [b, c] = false := by rfl) : PE X (.Compare a [op, op'] [b, c] pos) (tE K α W (chE g g' fa fb fc)) :=
  pe_weak (pe_chain ho ho' ha hb hc hm) fun _ _ _ q => chain_ok hs hs' q
theorem tv_chain (ho : OpR X (compareOp op) ro) (ho' : OpR X (compareOp op') ro') (hs : Op2 K ro g) (hs' : Op2 K ro' g') (ha : PE X a (tE K α W fa)) (hb : PE X b (tE K α W fb)) (hc : PE X c (tE K α W fc)) (hm : lastMarks [op, op'] [b, c] = false := by rfl) : PT X (.Compare a [op, op'] [b, c] pos) (tT K α W (tstB (chE g g' fa fb fc))) :=
  pt_weak (pt_chain ho ho' ha hb hc hm) fun _ _ _ q => chain_ok hs hs' (tstB_ok q)
end
end Mi

/-! Mi4.lean -/
set_option Elab.async false
set_option linter.all false
set_option maxRecDepth 100000
/-! the operators on data -/
namespace Mi
open PySem L2 PySem.Spec PyProof.Rows
variable {K : PySem.W.Frag} {H : Hp} {F : Addr → Prop} {X : Cx}

abbrev vI (i : Int) : Rv := .val (.int i)
abbrev vB (b : Bool) : Rv := .val (.bool b)
abbrev vS (x : Str) : Rv := .val (.str x)
def gI2 (g : Int → Int → Option Rv) : PyData → PyData → Option Rv
  | .int i, .int j => g i j
  | _, _ => none
theorem gI2_inv {g : Int → Int → Option Rv} {d e : PyData} {z : Rv} (h : gI2 g d e = some z) : ∃ i j, d = .int i ∧ e = .int j ∧ g i j = some z := by
  unfold gI2 at h
  split at h
  · exact ⟨_, _, rfl, rfl, h⟩
  · cases h
theorem opt_if {β : Type} {c : Prop} [Decidable c] {x z : β} (h : (if c then some x else none) = some z) : c ∧ x = z := by
  split at h
  · cases h; exact ⟨by assumption, rfl⟩
  · cases h
theorem OpX.or {f : Value → Value → Sem Value} {r r' : R2} (h : OpR X f r) (h' : OpR X f r') : OpR X f (fun x y H Q => r x y H Q ∨ r' x y H Q) := OpR.or h h'
/-! + - * // -/
def gSubI : PyData → PyData → Option Rv := gI2 fun i j => some (vI (i - j))
theorem o_sub : Op2 K (rI0 fun i j => .int (i - j)) gSubI := fun H F x y d e z Q px py h q => by
  obtain ⟨i, j, rfl, rfl, h⟩ := gI2_inv h
  cases h
  exact ⟨i, j, px.int, py.int, q.val _ _ rfl (.int _)⟩
def gAdd : PyData → PyData → Option Rv
  | .int i, .int j => some (vI (i + j))
  | .str x, .str y => if x.length + y.length ≤ sizeLine then some (vS (x ++ y)) else none
  | .list xs, .list ys => if xs.length + ys.length ≤ sizeLine then some (.own (.lst (xs ++ ys))) else none
  | .tuple xs, .tuple ys => if xs.length + ys.length ≤ sizeLine then some (.val (.tuple (xs ++ ys))) else none
  | _, _ => none
theorem lx_obj {pins : List (Addr × Obj)} {σ : L2.St} {s : Shared} (I : Inv X pins σ H s) {a : Addr} {xs : List V} (h : Lx X.K H a xs) : ∃ (its : List Value) (n : Nat), Vals xs its ∧ xs.length ≤ sizeLine ∧ s.heap.get? a = some { cls := .type "list", data := .seq its.toArray n } := by
  rcases h with h | ⟨its, n, h1, h2, h3⟩
  · obtain ⟨z, its, n, r, e⟩ := h.ok I.hok
    exact ⟨its, n, r, z, e⟩
  · exact ⟨its, n, h3, by rw [h3.length]; exact h2, I.kIn _ _ h1⟩
def rCatS (K : PySem.W.Frag) : R2 := fun x y H Q => ∃ l b xs zs, x = .ref l ∧ y = .ref b ∧ Lx K H l xs ∧ Lx K H b zs ∧ xs.length + zs.length ≤ sizeLine ∧ ∀ p, H p = none → Q (.ref p) (upd H p (.lst (xs ++ zs)))
theorem op_catS : OpR X (binaryOp .Add) (rCatS X.K) := fun pins s σ H x y v u Q I rx ry h => by
  obtain ⟨l, b, xs, zs, rfl, rfl, hl, hb, hz, q⟩ := h
  cases rx
  cases ry
  obtain ⟨its, n, rv, z1, e1⟩ := lx_obj I hl
  obtain ⟨its2, n2, rv2, z2, e2⟩ := lx_obj I hb
  have l1 := rv.length
  have l2 := rv2.length
  refine PySem.P.add_list e1 e2 ?_ (by rw [List.size_toArray, List.size_toArray]; omega)
  have ea : its.toArray ++ its2.toArray = List.toArray (its ++ its2) := by simp
  rw [ea]
  exact ⟨.ref _, _, I.lnew (t' := s.toks) (Vals.append rv rv2) (by rw [List.length_append]; omega), rfl, q _ I.fresh⟩
theorem op_addX : OpR X (binaryOp .Add) (fun x y H Q => rI0 (fun i j => .int (i + j)) x y H Q ∨ (∃ i j, x = .str i ∧ y = .str j ∧ i.length + j.length ≤ sizeLine ∧ Q (.str (i ++ j)) H) ∨ rCatS X.K x y H Q ∨ rCatA X.K x y H Q) :=
  OpX.or op_add (OpX.or op_add_str (OpX.or op_catS op_catA))
theorem FrAll.nil_of {H : Hp} {F : Addr → Prop} {v : List V} {d : List PyData} (h : FrAll K H F v d) (e : v = []) : d = [] := by subst e; cases h; rfl
theorem o_add : Op2 K (fun x y H Q => rI0 (fun i j => .int (i + j)) x y H Q ∨ (∃ i j, x = .str i ∧ y = .str j ∧ i.length + j.length ≤ sizeLine ∧ Q (.str (i ++ j)) H) ∨ rCatS K x y H Q ∨ rCatA K x y H Q) gAdd := fun H F x y d e z Q px py h q => by
  unfold gAdd at h
  split at h
  · cases h; exact .inl ⟨_, _, px.int, py.int, q.val _ _ rfl (.int _)⟩
  · obtain ⟨h1, rfl⟩ := opt_if h
    exact .inr (.inl ⟨_, _, px.str, py.str, h1, q.val _ _ rfl (.str _)⟩)
  · obtain ⟨h1, rfl⟩ := opt_if h
    obtain ⟨a, xs, rfl, e1, r1⟩ := px.lx
    obtain ⟨b, ys, rfl, e2, r2⟩ := py.lx
    exact .inr (.inr (.inl ⟨a, b, xs, ys, rfl, rfl, e1, e2, by rw [r1.len, r2.len]; exact h1, fun p hp => q.new _ _ p rfl hp (r1.app r2)⟩))
  · obtain ⟨h1, rfl⟩ := opt_if h
    obtain ⟨a, xs, rfl, e1, r1⟩ := px.tup
    obtain ⟨b, ys, rfl, e2, r2⟩ := py.tup
    refine .inr (.inr (.inr ⟨a, b, xs, ys, rfl, rfl, e1, e2, by rw [r1.len, r2.len]; exact h1, fun z => ?_, fun z1 z => ?_, fun z1 z2 p hp => q.tup _ _ p rfl hp (r1.app r2)⟩))
    · have := r1.nil_of z
      subst this
      exact q.val _ _ rfl (.tup e2 r2)
    · have := r2.nil_of z
      subst this
      rw [List.append_nil] at q
      exact q.val _ _ rfl (.tup e1 r1)
  · cases h
def gMul : PyData → PyData → Option Rv := gI2 fun i j => if i.natAbs.log2 + j.natAbs.log2 < 1000000 then some (vI (i * j)) else none
theorem o_mul : Op2 K (rI CMulW fun i j => .int (i * j)) gMul := fun H F x y d e z Q px py h q => by
  obtain ⟨i, j, rfl, rfl, h⟩ := gI2_inv h
  obtain ⟨h1, rfl⟩ := opt_if h
  exact ⟨i, j, px.int, py.int, h1, q.val _ _ rfl (.int _)⟩
def gDiv : PyData → PyData → Option Rv := gI2 fun i j => if 0 < j ∧ j.natAbs.log2 < 9000 then some (vI (i / j)) else none
theorem o_div : Op2 K (rI CDivW fun i j => .int (i / j)) gDiv := fun H F x y d e z Q px py h q => by
  obtain ⟨i, j, rfl, rfl, h⟩ := gI2_inv h
  obtain ⟨h1, rfl⟩ := opt_if h
  exact ⟨i, j, px.int, py.int, h1, q.val _ _ rfl (.int _)⟩
def gMod : PyData → PyData → Option Rv := gI2 fun i j => if 0 < j then some (vI (i % j)) else none
theorem o_mod : Op2 K (rI (fun _ j => 0 < j) fun i j => .int (i % j)) gMod := fun H F x y d e z Q px py h q => by
  obtain ⟨i, j, rfl, rfl, h⟩ := gI2_inv h
  obtain ⟨h1, rfl⟩ := opt_if h
  exact ⟨i, j, px.int, py.int, h1, q.val _ _ rfl (.int _)⟩
def CPowW (i j : Int) : Prop := 0 ≤ j ∧ ((i.natAbs.log2 : Int) + 1) * j ≤ 1000000
instance : Decidable (CPowW i j) := inferInstanceAs (Decidable (_ ∧ _))
theorem op_powW : OpR X (binaryOp .Pow) (rI CPowW fun i j => .int (i ^ j.toNat)) := opI fun i j _ _ _ _ _ hc q => by
  refine pow_int hc.1 ?_ q
  have h2 := hc.2
  have b : (Builtin.Int.intBits i : Int) ≤ (i.natAbs.log2 : Int) + 1 := by
    unfold Builtin.Int.intBits
    split <;> omega
  have : (Builtin.Int.intBits i : Int) * j ≤ ((i.natAbs.log2 : Int) + 1) * j := Int.mul_le_mul_of_nonneg_right b hc.1
  have : (1000000 : Int) ≤ 2 ^ 27 := by decide
  omega
def gPow : PyData → PyData → Option Rv := gI2 fun i j => if CPowW i j then some (vI (i ^ j.toNat)) else none
theorem o_pow : Op2 K (rI CPowW fun i j => .int (i ^ j.toNat)) gPow := fun H F x y d e z Q px py h q => by
  obtain ⟨i, j, rfl, rfl, h⟩ := gI2_inv h
  obtain ⟨h1, rfl⟩ := opt_if h
  exact ⟨i, j, px.int, py.int, h1, q.val _ _ rfl (.int _)⟩
def gNeg : PyData → Option Rv
  | .int i => some (vI (-i))
  | _ => none
theorem o_neg : Op1 K (rU fun i => .int (-i)) gNeg := fun H F x d z Q px h q => by
  unfold gNeg at h
  split at h
  · cases h; exact ⟨_, px.int, q.val _ _ rfl (.int _)⟩
  · cases h
/-! comparisons -/
def gCmp (p : Int → Int → Bool) : PyData → PyData → Option Rv := gI2 fun i j => some (vB (p i j))
theorem o_cmp {p : Int → Int → Bool} : Op2 K (rI0 fun i j => .bl (p i j)) (gCmp p) := fun H F x y d e z Q px py h q => by
  obtain ⟨i, j, rfl, rfl, h⟩ := gI2_inv h
  cases h
  exact ⟨i, j, px.int, py.int, q.val _ _ rfl (.bl _)⟩
abbrev gLt : PyData → PyData → Option Rv := gCmp fun i j => decide (i < j)
abbrev gLe : PyData → PyData → Option Rv := gCmp fun i j => decide (i ≤ j)
abbrev gGt : PyData → PyData → Option Rv := gCmp fun i j => decide (j < i)
abbrev gGe : PyData → PyData → Option Rv := gCmp fun i j => decide (j ≤ i)
def gLeS : PyData → PyData → Option Rv
  | .str i, .str j => some (vB (!decide (j.cps.toList < i.cps.toList)))
  | _, _ => none
theorem o_leS : Op2 K (fun x y H Q => ∃ i j, x = .str i ∧ y = .str j ∧ Q (.bl (!decide (j.cps.toList < i.cps.toList))) H) gLeS := fun H F x y d e z Q px py h q => by
  unfold gLeS at h
  split at h
  · cases h; exact ⟨_, _, px.str, py.str, q.val _ _ rfl (.bl _)⟩
  · cases h
/-- == of data: where either is None, or both are ints, texts, truths, nothing else is asked -/
def flatEq : PyData → PyData → Bool
  | .none, .none => true | .none, .int _ => true | .int _, .none => true | .none, .bool _ => true | .bool _, .none => true | .none, .str _ => true | .str _, .none => true
  | .int _, .int _ => true | .bool _, .bool _ => true | .str _, .str _ => true
  | .int _, .str _ => true | .str _, .int _ => true | .bool _, .str _ => true | .str _, .bool _ => true
  | _, _ => false
def eqOk (d e : PyData) : Bool := flatEq d e || (SeqAt.shaped d && SeqAt.shaped e)
def gEq (d e : PyData) : Option Rv := if eqOk d e = true then some (vB (PyData.eqv d e)) else none
def gNe (d e : PyData) : Option Rv := if eqOk d e = true then some (vB (!PyData.eqv d e)) else none
theorem dec_beq {β : Type} [DecidableEq β] (a b : β) : decide (a = b) = (a == b) := by
  rw [Bool.eq_iff_iff]
  simp
theorem flat_scal {F : Addr → Prop} {x y : V} {d e : PyData} (px : Pk K H F x d) (py : Pk K H F y e) (h : flatEq d e = true) : scal x y = true ∧ decide (x = y) = PyData.eqv d e := by
  unfold flatEq at h
  split at h
  · rw [px.non, py.non]; exact ⟨rfl, rfl⟩
  · rw [px.non, py.int]; exact ⟨rfl, rfl⟩
  · rw [px.int, py.non]; exact ⟨rfl, rfl⟩
  · rw [px.non, py.bl]; exact ⟨rfl, rfl⟩
  · rw [px.bl, py.non]; exact ⟨rfl, rfl⟩
  · rw [px.non, py.str]; exact ⟨rfl, rfl⟩
  · rw [px.str, py.non]; exact ⟨rfl, rfl⟩
  · rw [px.int, py.int]; exact ⟨rfl, dec_int⟩
  · rw [px.bl, py.bl]; exact ⟨rfl, dec_bl⟩
  · rw [px.str, py.str]; exact ⟨rfl, dec_str⟩
  · rw [px.int, py.str]; exact ⟨rfl, rfl⟩
  · rw [px.str, py.int]; exact ⟨rfl, rfl⟩
  · rw [px.bl, py.str]; exact ⟨rfl, rfl⟩
  · rw [px.str, py.bl]; exact ⟨rfl, rfl⟩
  · cases h
theorem op_eqX (hu : X.A.units + 64 < cLine) : OpR X (compareOp .Eq) (fun x y H Q => rEq x y H Q ∨ rEqD X.K x y H Q) := OpX.or op_eq (op_eqD hu)
theorem op_neX (hu : X.A.units + 64 < cLine) : OpR X (compareOp .NotEq) (fun x y H Q => rNe x y H Q ∨ rNeD X.K x y H Q) := OpX.or op_ne (op_neD hu)
theorem o_eq : Op2 K (fun x y H Q => rEq x y H Q ∨ rEqD K x y H Q) gEq := fun H F x y d e z Q px py h q => by
  obtain ⟨h1, rfl⟩ := opt_if h
  rcases Bool.or_eq_true_iff.mp h1 with h1 | h1
  · obtain ⟨h2, h3⟩ := flat_scal px py h1
    exact .inl ⟨h2, by rw [h3]; exact q.val _ _ rfl (.bl _)⟩
  · obtain ⟨h2, h3⟩ := Bool.and_eq_true_iff.mp h1
    exact .inr ⟨d, e, px.dp, py.dp, h2, h3, q.val _ _ rfl (.bl _)⟩
theorem o_ne : Op2 K (fun x y H Q => rNe x y H Q ∨ rNeD K x y H Q) gNe := fun H F x y d e z Q px py h q => by
  obtain ⟨h1, rfl⟩ := opt_if h
  rcases Bool.or_eq_true_iff.mp h1 with h1 | h1
  · obtain ⟨h2, h3⟩ := flat_scal px py h1
    exact .inl ⟨h2, by rw [h3]; exact q.val _ _ rfl (.bl _)⟩
  · obtain ⟨h2, h3⟩ := Bool.and_eq_true_iff.mp h1
    exact .inr ⟨d, e, px.dp, py.dp, h2, h3, q.val _ _ rfl (.bl _)⟩
def isNon : PyData → Bool
  | .none => true
  | _ => false
def gIsN (d e : PyData) : Option Rv := if isNon e = true then some (vB (isNon d)) else none
def gIsntN (d e : PyData) : Option Rv := if isNon e = true then some (vB (!isNon d)) else none
theorem isNon_eq {d : PyData} (h : isNon d = true) : d = .none := by cases d <;> first | rfl | cases h
theorem pk_non {F : Addr → Prop} {x : V} {d : PyData} (px : Pk K H F x d) : decide (x = .non) = isNon d := by
  cases d with
  | none => have e := px.non; subst e; rfl
  | int i => have e := px.int; subst e; rfl
  | str i => have e := px.str; subst e; rfl
  | bool i => have e := px.bl; subst e; rfl
  | list ds => obtain ⟨a, xs, e, _⟩ := px.list; subst e; rfl
  | tuple ds => obtain ⟨a, xs, e, _⟩ := px.tup; subst e; rfl
  | dict ds => exact absurd (px.dead fun _ => nofun) fun z => nomatch z
theorem o_isN : Op2 K (fun x y H Q => y = .non ∧ Q (.bl (decide (x = .non))) H) gIsN := fun H F x y d e z Q px py h q => by
  obtain ⟨h1, rfl⟩ := opt_if h
  have h2 := isNon_eq h1
  subst h2
  exact ⟨py.non, by rw [pk_non px]; exact q.val _ _ rfl (.bl _)⟩
theorem o_isntN : Op2 K (fun x y H Q => y = .non ∧ Q (.bl (!decide (x = .non))) H) gIsntN := fun H F x y d e z Q px py h q => by
  obtain ⟨h1, rfl⟩ := opt_if h
  have h2 := isNon_eq h1
  subst h2
  exact ⟨py.non, by rw [pk_non px]; exact q.val _ _ rfl (.bl _)⟩
/-- in -/
def gInB : PyData → PyData → Option Bool
  | .str ⟨⟨[c]⟩⟩, .str z => some (decide (c ∈ z.cps.toList))
  | d, .list ds => if (SeqAt.shaped d && SeqAt.shaped (.list ds)) = true then some (ds.any fun z => PyData.eqv z d) else none
  | d, .tuple ds => if (SeqAt.shaped d && SeqAt.shaped (.tuple ds)) = true then some (ds.any fun z => PyData.eqv z d) else none
  | _, _ => none
def gIn (d e : PyData) : Option Rv := (gInB d e).map vB
def gNotIn (d e : PyData) : Option Rv := (gInB d e).map fun b => vB (!b)
def rInT (K : PySem.W.Frag) (neg : Bool) : R2 := fun x y H Q => ∃ d ds, Dp K H x d ∧ Dp K H y (.tuple ds) ∧ SeqAt.shaped d = true ∧ SeqAt.shaped (.tuple ds) = true ∧ Q (.bl (if neg then !ds.any fun z => PyData.eqv z d else ds.any fun z => PyData.eqv z d)) H
theorem op_inT (hu : X.A.units + 65 < cLine) : OpR X (compareOp .In) (rInT X.K false) := fun pins s σ H x y v u Q I rx ry h => by
  obtain ⟨d, ds, hd, he, sd, se, q⟩ := h
  obtain ⟨_, r1⟩ := Dp.reads I d x v hd rx
  obtain ⟨_, r2⟩ := Dp.reads I (.tuple ds) y u he ry
  exact SeqAt.in_tuple_reads r2 r1 (SeqAt.canLay_of_shaped se) (SeqAt.canLay_of_shaped sd) (room_in_shaped sd hu) ⟨.bl _, H, I, rfl, q⟩
theorem op_notInT (hu : X.A.units + 65 < cLine) : OpR X (compareOp .NotIn) (rInT X.K true) := fun pins s σ H x y v u Q I rx ry h => by
  obtain ⟨d, ds, hd, he, sd, se, q⟩ := h
  obtain ⟨_, r1⟩ := Dp.reads I d x v hd rx
  obtain ⟨_, r2⟩ := Dp.reads I (.tuple ds) y u he ry
  exact SeqAt.notIn_tuple_reads r2 r1 (SeqAt.canLay_of_shaped se) (SeqAt.canLay_of_shaped sd) (room_in_shaped sd hu) ⟨.bl _, H, I, rfl, q⟩
theorem gInB_cases {F : Addr → Prop} {x y : V} {d e : PyData} {b : Bool} (px : Pk K H F x d) (py : Pk K H F y e) (h : gInB d e = some b) :
    (∃ c z, x = .str ⟨#[c]⟩ ∧ y = .str z ∧ b = decide (c ∈ z.cps.toList)) ∨
    (∃ ds, Dp K H x d ∧ Dp K H y (.list ds) ∧ SeqAt.shaped d = true ∧ SeqAt.shaped (.list ds) = true ∧ b = ds.any fun z => PyData.eqv z d) ∨
    (∃ ds, Dp K H x d ∧ Dp K H y (.tuple ds) ∧ SeqAt.shaped d = true ∧ SeqAt.shaped (.tuple ds) = true ∧ b = ds.any fun z => PyData.eqv z d) := by
  unfold gInB at h
  split at h
  · cases h; exact .inl ⟨_, _, px.str, py.str, rfl⟩
  · obtain ⟨h1, rfl⟩ := opt_if h
    obtain ⟨h2, h3⟩ := Bool.and_eq_true_iff.mp h1
    exact .inr (.inl ⟨_, px.dp, py.dp, h2, h3, rfl⟩)
  · obtain ⟨h1, rfl⟩ := opt_if h
    obtain ⟨h2, h3⟩ := Bool.and_eq_true_iff.mp h1
    exact .inr (.inr ⟨_, px.dp, py.dp, h2, h3, rfl⟩)
  · cases h
def rInX (K : PySem.W.Frag) : R2 := fun x y H Q => (∃ (c : Nat) (z : Str), x = .str ⟨#[c]⟩ ∧ y = .str z ∧ Q (.bl (decide (c ∈ z.cps.toList))) H) ∨ rInD K x y H Q ∨ rInT K false x y H Q
def rNotInX (K : PySem.W.Frag) : R2 := fun x y H Q => (∃ (c : Nat) (z : Str), x = .str ⟨#[c]⟩ ∧ y = .str z ∧ Q (.bl (!decide (c ∈ z.cps.toList))) H) ∨ rNotInD K x y H Q ∨ rInT K true x y H Q
theorem op_inX (hu : X.A.units + 65 < cLine) : OpR X (compareOp .In) (rInX X.K) := OpX.or op_in_sign (OpX.or (op_inD hu) (op_inT hu))
theorem op_notInX (hu : X.A.units + 65 < cLine) : OpR X (compareOp .NotIn) (rNotInX X.K) := OpX.or op_notIn_sign (OpX.or (op_notInD hu) (op_notInT hu))
theorem o_in : Op2 K (rInX K) gIn := fun H F x y d e z Q px py h q => by
  unfold gIn at h
  cases hb : gInB d e with
  | none => rw [hb] at h; cases h
  | some b =>
    rw [hb] at h; cases h
    have qq := q.val _ (.bl b) rfl (.bl _)
    rcases gInB_cases px py hb with ⟨c, z, h1, h2, rfl⟩ | ⟨ds, h1, h2, h3, h4, rfl⟩ | ⟨ds, h1, h2, h3, h4, rfl⟩
    · exact .inl ⟨c, z, h1, h2, qq⟩
    · exact .inr (.inl ⟨d, ds, h1, h2, h3, h4, qq⟩)
    · exact .inr (.inr ⟨d, ds, h1, h2, h3, h4, qq⟩)
theorem o_notIn : Op2 K (rNotInX K) gNotIn := fun H F x y d e z Q px py h q => by
  unfold gNotIn at h
  cases hb : gInB d e with
  | none => rw [hb] at h; cases h
  | some b =>
    rw [hb] at h; cases h
    have qq := q.val _ (.bl !b) rfl (.bl _)
    rcases gInB_cases px py hb with ⟨c, z, h1, h2, rfl⟩ | ⟨ds, h1, h2, h3, h4, rfl⟩ | ⟨ds, h1, h2, h3, h4, rfl⟩
    · exact .inl ⟨c, z, h1, h2, qq⟩
    · exact .inr (.inl ⟨d, ds, h1, h2, h3, h4, qq⟩)
    · exact .inr (.inr ⟨d, ds, h1, h2, h3, h4, qq⟩)
/-! x[i] -/
def gIx : PyData → PyData → Option Rv
  | .list ds, .int i => (atI ds i).map .val
  | .tuple ds, .int i => (atI ds i).map .val
  | .str z, .int i => if z.length ≤ sizeLine then (atI z.cps.toList i).map fun c => vS ⟨#[c]⟩ else none
  | _, _ => none
theorem FrAll.at {F : Addr → Prop} {xs : List V} {ds : List PyData} {i : Int} {e : PyData} (h : FrAll K H F xs ds) (he : atI ds i = some e) : ∃ v, atI xs i = some v ∧ Fr K H F v e := by
  unfold atI at he ⊢
  rw [h.len]
  cases q : ixN ds.length i with
  | none => rw [q] at he; cases he
  | some j => rw [q] at he; exact h.get he
theorem o_ix : Op2 K (rIx K) gIx := fun H F x y d e z Q px py h q => by
  unfold gIx at h
  split at h
  · obtain ⟨w, h1, rfl⟩ := Option.map_eq_some_iff.mp h
    obtain ⟨a, xs, rfl, e1, r1⟩ := px.list
    obtain ⟨v, h2, h3⟩ := r1.at h1
    exact .inl ⟨a, xs, _, v, rfl, py.int, e1, h2, q.val _ _ rfl h3⟩
  · obtain ⟨w, h1, rfl⟩ := Option.map_eq_some_iff.mp h
    obtain ⟨a, xs, rfl, e1, r1⟩ := px.tup
    obtain ⟨v, h2, h3⟩ := r1.at h1
    exact .inr (.inl ⟨a, xs, _, v, rfl, py.int, e1, h2, q.val _ _ rfl h3⟩)
  · split at h
    · rename_i hz
      obtain ⟨w, h1, rfl⟩ := Option.map_eq_some_iff.mp h
      exact .inr (.inr ⟨_, _, w, px.str, py.int, hz, h1, q.val _ _ rfl (.str _)⟩)
    · cases h
  · cases h
end Mi

/-! Mi5.lean -/
set_option Elab.async false
set_option linter.all false
set_option maxRecDepth 100000
/-! frozen arguments, displays, slices -/
namespace Mi
open PySem L2 PySem.Spec PyProof.Rows
variable {K : PySem.W.Frag} {α : List Addr} {r r' : En} {σ : L2.St} {H H' : Hp} {F F' : Addr → Prop}

/-- a value from now on immutable -/
def setLo (r : En) (l : Lo) (b : Bo) : En :=
  match l, b with
  | .slot i, .live o => { r with vs := r.vs.set i (some (.own o)) }
  | .slot i, .dead d => { r with vs := r.vs.set i (some (.val d)) }
  | .obj k, b => { r with os := r.os.set k b }
def frz (x : Rv) : M PyData := fun r =>
  match x with
  | .val d => .ok d r
  | .own (.lst ds) => .ok (.list ds) r
  | .own _ => .no
  | .at l => match look r l with
    | some (.dead d) => .ok d r
    | some (.live (.lst ds)) => .ok (.list ds) (setLo r l (.dead (.list ds)))
    | _ => .no
theorem look_slot {i : Nat} {o : Ob} (h : look r (.slot i) = some (.live o)) : r.vs[i]? = some (some (.own o)) := by
  unfold look at h
  simp only at h
  split at h
  · rename_i q; cases h; exact q
  · cases h
  · cases h
theorem look_dead {i : Nat} {d : PyData} (h : look r (.slot i) = some (.dead d)) : r.vs[i]? = some (some (.val d)) := by
  unfold look at h
  simp only at h
  split at h
  · cases h
  · rename_i q; cases h; exact q
  · cases h
theorem look_holds {l : Lo} {o : Ob} {a : Addr} (h : look r l = some (.live o)) (ha : LoAt α σ l a) : Holds α r σ l a := by
  cases l with
  | slot i => exact ⟨⟨o, look_slot h⟩, ha⟩
  | obj k => exact ⟨⟨o, h⟩, ha⟩
theorem set_get {β : Type} {xs : List β} {i j : Nat} {x y : β} (h : (xs.set i x)[j]? = some y) : (i = j ∧ x = y) ∨ (i ≠ j ∧ xs[j]? = some y) := by
  by_cases e : i = j
  · subst e
    by_cases hl : i < xs.length
    · rw [List.getElem?_set_self hl] at h; cases h; exact .inl ⟨rfl, rfl⟩
    · rw [List.getElem?_eq_none (by simpa using hl)] at h; cases h
  · rw [List.getElem?_set_ne e] at h; exact .inr ⟨e, h⟩
/-- who holds what behind setLo -/
theorem setLo_holds {l l' : Lo} {b : Bo} {a : Addr} (h : Holds α (setLo r l b) σ l' a) : (l' = l ∧ ∃ o, b = .live o) ∨ (l' ≠ l ∧ Holds α r σ l' a) := by
  cases l with
  | slot i =>
    cases b with
    | live o =>
      cases l' with
      | slot j =>
        obtain ⟨⟨o', q⟩, h2⟩ := h
        rcases set_get q with ⟨e, q⟩ | ⟨e, q⟩
        · subst e; exact .inl ⟨rfl, o, rfl⟩
        · exact .inr ⟨fun z => e (by cases z; rfl), ⟨o', q⟩, h2⟩
      | obj k => exact .inr ⟨nofun, h⟩
    | dead d =>
      cases l' with
      | slot j =>
        obtain ⟨⟨o', q⟩, h2⟩ := h
        rcases set_get q with ⟨e, q⟩ | ⟨e, q⟩
        · cases q
        · exact .inr ⟨fun z => e (by cases z; rfl), ⟨o', q⟩, h2⟩
      | obj k => exact .inr ⟨nofun, h⟩
  | obj k =>
    cases l' with
    | slot j => exact .inr ⟨nofun, by cases b <;> exact h⟩
    | obj j =>
      have h' : (∃ o, (r.os.set k b)[j]? = some (.live o)) ∧ α[j]? = some a := by cases b <;> exact h
      obtain ⟨⟨o', q⟩, h2⟩ := h'
      rcases set_get q with ⟨e, q2⟩ | ⟨e, q2⟩
      · subst e; exact .inl ⟨rfl, o', q2⟩
      · exact .inr ⟨fun z => e (by cases z; rfl), ⟨o', q2⟩, h2⟩
/-- the object at l is from now on immutable -/
theorem SR.kill (S : SR K α r σ H F) {l : Lo} {ds : List PyData} {a : Addr} (h : look r l = some (.live (.lst ds))) (ha : LoAt α σ l a) :
    SR K α (setLo r l (.dead (.list ds))) σ H (fun x => F x ∨ x = a) ∧ Fr K H (fun x => F x ∨ x = a) (.ref a) (.list ds) ∧ Own α r σ a ∧ (∀ x, Own α (setLo r l (.dead (.list ds))) σ x → Own α r σ x) := by
  have hh : Holds α r σ l a := look_holds h ha
  have st : Stay H F H (fun x => F x ∨ x = a) := ⟨fun _ h => .inl h, fun _ _ => rfl, fun _ _ h _ => h⟩
  have hold : ∃ xs, H a = some (.lst xs) ∧ FrAll K H F xs ds := by
    cases l with
    | slot i =>
      have q := look_slot h
      obtain ⟨v, h1, a', u, rfl, h3, xs, h4, h5⟩ := S.slot _ _ q
      have ha' : σ[i]? = some (some (V.ref a)) := ha
      rw [h1] at ha'; cases ha'; subst h4
      exact ⟨xs, h3, h5⟩
    | obj k =>
      have q : r.os[k]? = some (.live (.lst ds)) := h
      obtain ⟨a', h1, u, h3, xs, h4, h5⟩ := S.obj _ _ q
      have ha' : α[k]? = some a := ha
      rw [h1] at ha'; cases ha'; subst h4
      exact ⟨xs, h3, h5⟩
  obtain ⟨xs, hH, hx⟩ := hold
  have fr : Fr K H (fun x => F x ∨ x = a) (.ref a) (.list ds) := .own (.inr rfl) hH (hx.stay st)
  have own : ∀ l' x, Holds α (setLo r l (.dead (.list ds))) σ l' x → l' ≠ l ∧ Holds α r σ l' x := fun l' x q => by
    rcases setLo_holds q with ⟨_, o, z⟩ | z
    · cases z
    · exact z
  refine ⟨⟨?_, fun i s q => ?_, fun k b q => ?_, fun l1 l2 x q1 q2 => S.apart l1 l2 x (own _ _ q1).2 (own _ _ q2).2, fun l' x q z => ?_, fun x z => ?_⟩, fr, ⟨l, hh⟩, fun x ⟨l', q⟩ => ⟨l', (own _ _ q).2⟩⟩
  · cases l with
    | slot i => show (r.vs.set i _).length = _; rw [List.length_set]; exact S.len
    | obj k => exact S.len
  · have old : r.vs[i]? = some (some s) → ∃ v : V, σ[i]? = some (some v) ∧ SlR K α H (fun x => F x ∨ x = a) s v := fun q => by
      obtain ⟨v, h1, h2⟩ := S.slot i s q
      refine ⟨v, h1, ?_⟩
      cases s with
      | val d => exact Fr.stay st h2
      | own o => obtain ⟨b, u, e, h3, h4⟩ := h2; exact ⟨b, u, e, h3, h4.stay st⟩
      | bor k => exact h2
    cases l with
    | slot j =>
      rcases set_get (show (r.vs.set j (some (.val (.list ds))))[i]? = some (some s) from q) with ⟨e, q2⟩ | ⟨e, q2⟩
      · subst e
        cases q2
        exact ⟨.ref a, ha, fr⟩
      · exact old q2
    | obj k => exact old q
  · have old : r.os[k]? = some b → ∃ a', α[k]? = some a' ∧ BoR K H (fun x => F x ∨ x = a) b a' := fun q => by
      obtain ⟨v, h1, h2⟩ := S.obj k b q
      refine ⟨v, h1, ?_⟩
      cases b with
      | live o => obtain ⟨u, h3, h4⟩ := h2; exact ⟨u, h3, h4.stay st⟩
      | dead d => exact Fr.stay st h2
    cases l with
    | slot j => exact old q
    | obj j =>
      rcases set_get (show (r.os.set j (.dead (.list ds)))[k]? = some b from q) with ⟨e, q2⟩ | ⟨e, q2⟩
      · subst e
        subst q2
        exact ⟨a, ha, fr⟩
      · exact old q2
  · obtain ⟨n, q⟩ := own l' x q
    rcases z with z | z
    · exact S.sep l' x q z
    · subst z; exact n (S.apart l' l x q hh)
  · rcases z with z | z
    · exact S.fdom x z
    · subst z; exact ⟨_, hH⟩
theorem frz_ok (S : SR K α r σ H F) {x : Rv} {v : V} {d : PyData} (t : TR K α r σ H F x v) (e : frz x r = .ok d r') :
    ∃ F', SR K α r' σ H F' ∧ Fr K H F' v d ∧ Step (OwnT α r σ x v) H F H F' (Own α r' σ) ∧ (∀ a, Own α r' σ a → Own α r σ a) := by
  cases x with
  | val d' => cases e; exact ⟨F, S, t, Step.refl fun _ h => .inl h, fun _ h => h⟩
  | own o =>
    cases o with
    | dct _ => cases e
    | fdc _ => cases e
    | lst ds =>
      cases e
      obtain ⟨a, u, rfl, h1, ⟨xs, rfl, h2⟩, h3, h4⟩ := t
      have st : Stay H F H (fun x => F x ∨ x = a) := ⟨fun _ h => .inl h, fun _ _ => rfl, fun _ _ h _ => h⟩
      refine ⟨fun x => F x ∨ x = a, S.over st (fun _ _ => rfl) (fun x q z => ?_) (fun x z => ?_), .own (.inr rfl) h1 (h2.stay st), ⟨fun _ _ h _ => h, st, fun x z => ?_, fun x z => .inl (.inl z), fun _ h => h⟩, fun _ h => h⟩
      · rcases z with z | z
        · obtain ⟨l, q⟩ := q; exact S.sep l x q z
        · subst z; exact h4 q
      · rcases z with z | z
        · exact S.fdom x z
        · subst z; exact ⟨_, h1⟩
      · rcases z with z | z
        · exact .inl z
        · subst z; exact .inr (.inl (.inr ⟨⟨_, rfl⟩, rfl⟩))
  | «at» l =>
    obtain ⟨a, rfl, h⟩ := t
    have e : (match look r l with
      | some (.dead d) => (.ok d r : Res PyData)
      | some (.live (.lst ds)) => .ok (.list ds) (setLo r l (.dead (.list ds)))
      | _ => .no) = .ok d r' := e
    split at e
    · rename_i q
      cases e
      exact ⟨F, S, content_rel S (x := .at l) (b := .dead d) ⟨a, rfl, h⟩ q, Step.refl fun _ h => .inl h, fun _ h => h⟩
    · rename_i ds q
      cases e
      obtain ⟨S', f, o, oo⟩ := S.kill q h
      refine ⟨_, S', f, ⟨fun _ _ h _ => h, ⟨fun _ h => .inl h, fun _ _ => rfl, fun _ _ h _ => h⟩, fun x z => ?_, fun x z => .inl (.inl (oo x z)), fun _ h => h⟩, oo⟩
      rcases z with z | z
      · exact .inl z
      · subst z; exact .inr (.inl (.inl o))
    · cases e
theorem frz_ex {x : Rv} {r1 : En} {z : Exc} : frz x r ≠ .ex z r1 := fun h => by
  cases x with
  | val d => cases h
  | own o => cases o <;> cases h
  | «at» l =>
    have h : (match look r l with
      | some (.dead d) => (.ok d r : Res PyData)
      | some (.live (.lst ds)) => .ok (.list ds) (setLo r l (.dead (.list ds)))
      | _ => .no) = .ex z r1 := h
    split at h <;> cases h
/-- a list of frozen values -/
def AftL (K : PySem.W.Frag) (α : List Addr) (σ : L2.St) (O : Addr → Prop) (H : Hp) (F : Addr → Prop) (W : L2.WX) (x : Res (List PyData)) (Q : List V → Hp → Prop) : Prop :=
  match x with
  | .ok ds e => ∀ vs H' F', SR K α e σ H' F' → Step O H F H' F' (Own α e σ) → FrAll K H' F' vs ds → Q vs H'
  | .ex x e => AftX K α σ O H F W x e
  | .no => False
def tL (K : PySem.W.Frag) (α : List Addr) (W : L2.WX) (f : M (List PyData)) : TA := fun σ H Q => ∃ r F, SR K α r σ H F ∧ AftL K α σ (Own α r σ) H F W (f r) Q
def nilL : M (List PyData) := M.ret []
def consL (f : M Rv) (g : M (List PyData)) : M (List PyData) := M.bnd f fun x => M.bnd (frz x) fun d => M.bnd g fun ds => M.ret (d :: ds)
theorem tL_mono {f : M (List PyData)} {Q Q' : List V → Hp → Prop} (h : tL K α W f σ H Q) (q : ∀ v H1, Q v H1 → Q' v H1) : tL K α W f σ H Q' := by
  obtain ⟨r, F, S, a⟩ := h
  refine ⟨r, F, S, ?_⟩
  cases e : f r with
  | ok x r1 => rw [e] at a; exact fun v H1 F1 b c d => q _ _ (a v H1 F1 b c d)
  | ex x r1 => rw [e] at a; exact a
  | no => rw [e] at a; exact a
/-- f, then frozen, then more: what a rule's proof gets -/
theorem frz_bnd {β : Type} {f : M Rv} {g : PyData → M β} {P : Res β → Prop} (hno : ¬ P .no) (S : SR K α r σ H F) (hex : ∀ x e, P (.ex x e) → AftX K α σ (Own α r σ) H F W x e) (h : P (M.bnd f (fun x => M.bnd (frz x) g) r)) {Q : VK}
    (q : ∀ v H1 r1 F1 d, SR K α r1 σ H1 F1 → Step (Own α r σ) H F H1 F1 (Own α r1 σ) → Fr K H1 F1 v d → P (g d r1) → Q v H1) : tE K α W f σ H Q := by
  refine ⟨r, F, S, ?_⟩
  unfold M.bnd at h
  cases e : f r with
  | no => simp only [e] at h; exact absurd h hno
  | ex x r1 => simp only [e] at h; exact hex _ _ h
  | ok x r1 =>
    simp only [e] at h
    intro v H1 F1 S1 st t
    cases e2 : frz x r1 with
    | no => simp only [e2] at h; exact absurd h hno
    | ex z r2 => exact absurd e2 frz_ex
    | ok d r2 =>
      simp only [e2] at h
      obtain ⟨F2, S2, fr, st2, _⟩ := frz_ok S1 t e2
      exact q v H1 r2 F2 d S2 (st.trans st2 fun _ z => z) fr h
theorem cons_ok {f : M Rv} {g : M (List PyData)} {Q : List V → Hp → Prop} (h : tL K α W (consL f g) σ H Q) : tCons (tE K α W f) (tL K α W g) σ H Q := by
  obtain ⟨r, F, S, h⟩ := h
  refine frz_bnd (P := fun x => AftL K α σ (Own α r σ) H F W x Q) (fun z => z) S (fun _ _ z => z) h fun v H1 r1 F1 d S1 st fr h1 => ⟨r1, F1, S1, ?_⟩
  unfold M.bnd at h1
  cases e : g r1 with
  | no => rw [e] at h1; exact h1
  | ex x r2 => rw [e] at h1; exact AftX.step h1 st fun _ z => z
  | ok ds r2 =>
    rw [e] at h1
    exact fun vs H2 F2 S2 st2 frs => h1 (v :: vs) H2 F2 S2 (st.trans st2 fun _ z => z) (.cons (fr.stay st2.stay) frs)
theorem nilL_ok {Q : List V → Hp → Prop} (h : tL K α W nilL σ H Q) : tNil σ H Q := by
  obtain ⟨r, F, S, h⟩ := h
  exact h [] H F S (Step.refl fun _ z => z) .nil
def tupE (f : M (List PyData)) : M Rv := M.bnd f fun ds r => if ds.length ≤ sizeLine then .ok (.val (.tuple ds)) r else .no
def lstE (f : M (List PyData)) : M Rv := M.bnd f fun ds r => if ds.length ≤ sizeLine then .ok (.own (.lst ds)) r else .no
theorem tL_fin {f : M (List PyData)} {z : List PyData → Rv} {Q : VK} (S : SR K α r σ H F) (h : Aft K α σ (Own α r σ) H F W (M.bnd f (fun ds r => if ds.length ≤ sizeLine then .ok (z ds) r else .no) r) Q) :
    tL K α W f σ H fun vs H1 => ∃ F1 ds, FrAll K H1 F1 vs ds ∧ ds.length ≤ sizeLine ∧ Fin K H1 F1 (z ds) Q := by
  refine ⟨r, F, S, ?_⟩
  unfold M.bnd at h
  cases e : f r with
  | no => simp only [e] at h; exact h
  | ex x r1 => simp only [e] at h; exact h
  | ok ds r1 =>
    simp only [e] at h
    intro vs H1 F1 S1 st fr
    split at h
    · rename_i hz
      exact ⟨F1, ds, fr, hz, Aft.fin S1 (h.step st fun _ z => z)⟩
    · exact h.elim
section
variable {X : Cx} {e : Expr} {es : List Expr} {f : M Rv} {g : M (List PyData)} {pos : Pos}
theorem al_nil : PA X [] (tL K α W nilL) := pa_weak pa_nil fun _ _ _ q => nilL_ok q
theorem al_cons (h : PE X e (tE K α W f)) (h2 : PA X es (tL K α W g)) (hs : starEach (e :: es) X.env = (false, eval e X.env) :: starEach es X.env := by rfl) : PA X (e :: es) (tL K α W (consL f g)) := pa_weak (pa_cons h h2 hs) fun _ _ _ q => cons_ok q
theorem ev_tup {x1} (h : PA X es (tL K α W g)) : PE X (.Tuple es x1 pos) (tE K α W (tupE g)) := pe_weak (pe_tup h) fun σ H Q ⟨r, F, S, h⟩ =>
  tL_mono (tL_fin S h) fun vs H1 ⟨F1, ds, fr, hz, q⟩ => ⟨by rw [fr.len]; exact hz, fun p hp => q.tup ds vs p rfl hp fr⟩
theorem ev_lst (h : PA X es (tL K α W g)) : PE X (.List es pos) (tE K α W (lstE g)) := pe_weak (pe_lst h) fun σ H Q ⟨r, F, S, h⟩ =>
  tL_mono (tL_fin S h) fun vs H1 ⟨F1, ds, fr, hz, q⟩ => ⟨by rw [fr.len]; exact hz, fun p hp => q.new ds vs p rfl hp fr⟩
end
end Mi

/-! Mi6.lean -/
set_option Elab.async false
set_option linter.all false
set_option maxRecDepth 100000
/-! statements -/
namespace Mi
open PySem L2 PySem.Spec PyProof.Rows
variable {K : PySem.W.Frag} {α : List Addr} {r r' : En} {σ : L2.St} {H H' : Hp} {F F' : Addr → Prop}

inductive Out where
  | nx (r : En)
  | rt (x : Rv) (r : En)
  | bk (r : En)
  | ct (r : En)
  | ex (e : Exc) (r : En)
  | no
abbrev Stm := En → Out
def AftS (K : PySem.W.Frag) (α : List Addr) (O : Addr → Prop) (H : Hp) (F : Addr → Prop) (W : L2.WX) (x : Out) (D : Ends) : Prop :=
  match x with
  | .nx e => ∀ (σ' : L2.St) H' F', SR K α e σ' H' F' → Step O H F H' F' (Own α e σ') → D.nx σ' H'
  | .rt x e => ∀ v (σ' : L2.St) H' F', SR K α e σ' H' F' → Step O H F H' F' (OwnT α e σ' x v) → TR K α e σ' H' F' x v → D.rt v H'
  | .bk e => ∀ (σ' : L2.St) H' F', SR K α e σ' H' F' → Step O H F H' F' (Own α e σ') → D.bk σ' H'
  | .ct e => ∀ (σ' : L2.St) H' F', SR K α e σ' H' F' → Step O H F H' F' (Own α e σ') → D.ct σ' H'
  | .ex x e => ∀ σ', AftX K α σ' O H F W x e
  | .no => False
def tS (K : PySem.W.Frag) (α : List Addr) (W : L2.WX) (f : Stm) : TS := fun D σ H => ∃ r F, SR K α r σ H F ∧ AftS K α (Own α r σ) H F W (f r) D
theorem AftS.step {O O1 O1' : Addr → Prop} {H1 : Hp} {F1 : Addr → Prop} {W : L2.WX} {x : Out} {D : Ends} (h : AftS K α O H F W x D) (s : Step O H F H1 F1 O1) (h1 : ∀ a, O1' a → O1 a) : AftS K α O1' H1 F1 W x D := by
  cases x with
  | nx e => exact fun σ' H' F' a b => h σ' H' F' a (s.trans b h1)
  | rt x e => exact fun v σ' H' F' a b c => h v σ' H' F' a (s.trans b h1) c
  | bk e => exact fun σ' H' F' a b => h σ' H' F' a (s.trans b h1)
  | ct e => exact fun σ' H' F' a b => h σ' H' F' a (s.trans b h1)
  | ex x e => exact fun σ' => AftX.step (h σ') s h1
  | no => exact h
/-! ### sequences, if, return -/
def nxS : Stm := fun r => .nx r
def seqS (f g : Stm) : Stm := fun r => match f r with
  | .nx r1 => g r1
  | o => o
def ofM {β : Type} (f : M β) (g : β → En → Out) : Stm := fun r => match f r with
  | .ok x r1 => g x r1
  | .ex e r1 => .ex e r1
  | .no => .no
def ifS (t : M Bool) (f g : Stm) : Stm := ofM t fun c => if c = true then f else g
def retS (f : M Rv) : Stm := ofM f fun x r => .rt x r
def retN : Stm := fun r => .rt (.val .none) r
def dropS (f : M Rv) : Stm := ofM f fun _ r => .nx r
def brkS : Stm := fun r => .bk r
def cntS : Stm := fun r => .ct r
theorem ofM_E {f : M Rv} {g : Rv → En → Out} {D : Ends} (S : SR K α r σ H F) (h : AftS K α (Own α r σ) H F W (ofM f g r) D) :
    tE K α W f σ H fun v H1 => ∃ r1 F1 x, SR K α r1 σ H1 F1 ∧ Step (Own α r σ) H F H1 F1 (OwnT α r1 σ x v) ∧ TR K α r1 σ H1 F1 x v ∧ AftS K α (OwnT α r1 σ x v) H1 F1 W (g x r1) D := by
  refine ⟨r, F, S, ?_⟩
  unfold ofM at h
  cases e : f r with
  | ok x r1 =>
    rw [e] at h
    exact fun v H1 F1 a b c => ⟨r1, F1, x, a, b, c, h.step b fun _ z => z⟩
  | ex x r1 => rw [e] at h; exact h σ
  | no => rw [e] at h; exact h.elim
theorem ofM_B {β : Type} {f : M β} {g : β → En → Out} {D : Ends} (S : SR K α r σ H F) (h : AftS K α (Own α r σ) H F W (ofM f g r) D) :
    tB' K α W f σ H fun b H1 => tS K α W (g b) D σ H1 := by
  refine ⟨r, F, S, ?_⟩
  unfold ofM at h
  cases e : f r with
  | ok x r1 =>
    rw [e] at h
    exact fun H1 F1 a b => ⟨r1, F1, a, h.step b fun _ z => z⟩
  | ex x r1 => rw [e] at h; exact h σ
  | no => rw [e] at h; exact h.elim
theorem AftS.go (S : SR K α r σ H F) {D : Ends} {O : Addr → Prop} (h : AftS K α O H F W (.nx r) D) (ho : ∀ a, Own α r σ a → O a) : D.nx σ H := h σ H F S (Step.refl ho)
section
variable {X : Cx} {e : Expr} {st : Stmt} {rest a b : List Stmt} {f : M Rv} {p q : Stm} {t : M Bool} {pos : Pos}
theorem sv_nil : PSs X [] (tS K α W nxS) := pss_weak pss_nil fun D σ H ⟨r, F, S, h⟩ => AftS.go S h fun _ z => z
theorem sv_cons (h1 : PS X st (tS K α W p)) (h2 : PSs X rest (tS K α W q)) : PSs X (st :: rest) (tS K α W (seqS p q)) := pss_weak (pss_cons h1 h2) fun D σ H ⟨r, F, S, h⟩ => by
  refine ⟨r, F, S, ?_⟩
  unfold seqS at h
  cases e : p r with
  | nx r1 => rw [e] at h; exact fun σ' H' F' a b => ⟨r1, F', a, h.step b fun _ z => z⟩
  | rt x r1 => rw [e] at h; exact h
  | bk r1 => rw [e] at h; exact h
  | ct r1 => rw [e] at h; exact h
  | ex x r1 => rw [e] at h; exact h
  | no => rw [e] at h; exact h
theorem sv_one (h1 : PS X st (tS K α W p)) : PSs X [st] (tS K α W p) := pss_one h1
theorem sv_if {c : Expr} (hc : PT X c (tT K α W t)) (h1 : PSs X a (tS K α W p)) (h2 : PSs X b (tS K α W q)) : PS X (.If c a b pos) (tS K α W (ifS t p q)) := ps_weak (ps_if hc h1 h2) fun D σ H ⟨r, F, S, h⟩ =>
  tB_mono (ofM_B S h) fun b H1 h1 => by cases b with
    | true => exact h1
    | false => exact h1
theorem sv_ret (he : PE X e (tE K α W f)) : PS X (.Return (some e) pos) (tS K α W (retS f)) := ps_weak (ps_ret he) fun D σ H ⟨r, F, S, h⟩ =>
  tE_mono (ofM_E S h) fun v H1 ⟨r1, F1, x, S1, st, tr, h1⟩ => h1 v σ H1 F1 S1 (Step.refl fun _ z => z) tr
theorem sv_retN : PS X (.Return none pos) (tS K α W retN) := ps_weak ps_retN fun D σ H ⟨r, F, S, h⟩ => h .non σ H F S (Step.refl fun _ z => z.elim id fun ⟨⟨_, z⟩, _⟩ => nomatch z) .non
theorem sv_expr (he : PE X e (tE K α W f)) (hs : swapsWith e none pos.line X.env = pure false := by rfl) : PS X (.Expr e pos) (tS K α W (dropS f)) := ps_weak (ps_expr he hs) fun D σ H ⟨r, F, S, h⟩ =>
  tE_mono (ofM_E S h) fun v H1 ⟨r1, F1, x, S1, st, tr, h1⟩ => h1 σ H1 F1 S1 (Step.refl fun _ z => .inl z)
theorem sv_pass : PS X (.Pass pos) (tS K α W nxS) := ps_weak ps_pass fun D σ H ⟨r, F, S, h⟩ => AftS.go S h fun _ z => z
theorem sv_brk : PS X (.Break pos) (tS K α W brkS) := ps_weak ps_break fun D σ H ⟨r, F, S, h⟩ => h σ H F S (Step.refl fun _ z => z)
theorem sv_cnt : PS X (.Continue pos) (tS K α W cntS) := ps_weak ps_continue fun D σ H ⟨r, F, S, h⟩ => h σ H F S (Step.refl fun _ z => z)
/-- what is never reached -/
theorem sv_no : PS X st (tS K α W fun _ => .no) := ps_weak ps_never fun D σ H ⟨r, F, S, h⟩ => h.elim
end
/-! ### names stored -/
def put (r : En) (i : Nat) (s : Sl) : En := { r with vs := r.vs.set i (some s) }
def bindR (i : Nat) (x : Rv) : Stm := fun r => match x with
  | .val d => .nx (put r i (.val d))
  | .own o => .nx (put r i (.own o))
  | .at (.obj k) => match r.os[k]? with
    | some (.live _) => .nx (put r i (.bor k))
    | some (.dead d) => .nx (put r i (.val d))
    | none => .no
  | .at (.slot j) => match frz (.at (.slot j)) r with
    | .ok d r1 => .nx (put r1 i (.val d))
    | _ => .no
def setS (i : Nat) (f : M Rv) : Stm := ofM f fun x => bindR i x
theorem put_holds {i : Nat} {s : Sl} {v : V} {l : Lo} {a : Addr} (h : Holds α (put r i s) (σ.set i (some v)) l a) : (l = .slot i ∧ (∃ o, s = .own o) ∧ v = .ref a) ∨ (l ≠ .slot i ∧ Holds α r σ l a) := by
  cases l with
  | obj k => exact .inr ⟨nofun, h⟩
  | slot j =>
    obtain ⟨⟨o, q⟩, h2⟩ := h
    rcases set_get (show (r.vs.set i (some s))[j]? = _ from q) with ⟨e, q1⟩ | ⟨e, q1⟩
    · subst e
      rcases set_get (show (σ.set i (some v))[i]? = _ from h2) with ⟨_, q2⟩ | ⟨n, _⟩
      · injection q1 with q1; injection q2 with q2
        exact .inl ⟨rfl, ⟨o, q1⟩, q2⟩
      · exact absurd rfl n
    · rw [List.getElem?_set_ne e] at h2
      exact .inr ⟨fun z => e (by cases z; rfl), ⟨o, q1⟩, h2⟩
theorem SR.put (S : SR K α r σ H F) {i : Nat} {s : Sl} {v : V} (hs : SlR K α H F s v) (hn : ∀ o a, s = .own o → v = .ref a → ¬ F a ∧ ¬ Own α r σ a) : SR K α (put r i s) (σ.set i (some v)) H F where
  len := by show (r.vs.set i _).length = _; rw [List.length_set, List.length_set]; exact S.len
  slot := fun j s' q => by
    rcases set_get (show (r.vs.set i (some s))[j]? = some (some s') from q) with ⟨e, q1⟩ | ⟨e, q1⟩
    · subst e
      injection q1 with q1
      subst q1
      have hj : i < σ.length := by
        have : i < (r.vs.set i (some s)).length := (List.getElem?_eq_some_iff.mp q).1
        rw [List.length_set, S.len] at this
        exact this
      exact ⟨v, List.getElem?_set_self hj, hs⟩
    · obtain ⟨w, h1, h2⟩ := S.slot j s' q1
      exact ⟨w, by rw [List.getElem?_set_ne e]; exact h1, h2⟩
  obj := S.obj
  apart := fun l l' a h h' => by
    rcases put_holds h with ⟨e1, ⟨o, e2⟩, e3⟩ | ⟨n, h⟩
    · rcases put_holds h' with ⟨e1', _⟩ | ⟨n', h'⟩
      · rw [e1, e1']
      · exact absurd ⟨l', h'⟩ (hn o a e2 e3).2
    · rcases put_holds h' with ⟨e1, ⟨o, e2⟩, e3⟩ | ⟨n', h'⟩
      · exact absurd ⟨l, h⟩ (hn o a e2 e3).2
      · exact S.apart l l' a h h'
  sep := fun l a h => by
    rcases put_holds h with ⟨e1, ⟨o, e2⟩, e3⟩ | ⟨n, h⟩
    · exact (hn o a e2 e3).1
    · exact S.sep l a h
  fdom := S.fdom
theorem put_own {i : Nat} {s : Sl} {v : V} {a : Addr} (h : Own α (Mi.put r i s) (σ.set i (some v)) a) : Own α r σ a ∨ ((∃ o, s = .own o) ∧ v = .ref a) := by
  obtain ⟨l, h⟩ := h
  rcases put_holds h with ⟨_, e2, e3⟩ | ⟨_, h⟩
  · exact .inr ⟨e2, e3⟩
  · exact .inl ⟨l, h⟩
theorem bind_ok {i : Nat} {x : Rv} {v : V} {D : Ends} (S : SR K α r σ H F) (t : TR K α r σ H F x v) (h : AftS K α (OwnT α r σ x v) H F W (bindR i x r) D) : D.nx (σ.set i (some v)) H := by
  cases x with
  | val d =>
    refine h _ H F (S.put (s := .val d) t fun o a z => nomatch z) (Step.refl fun a z => ?_)
    rcases put_own z with z | ⟨⟨o, z⟩, _⟩
    · exact .inl z
    · cases z
  | own o =>
    obtain ⟨a, u, rfl, h1, h2, h3, h4⟩ := t
    refine h _ H F (S.put (s := .own o) ⟨a, u, rfl, h1, h2⟩ fun o' a' _ z => by cases z; exact ⟨h3, h4⟩) (Step.refl fun a' z => ?_)
    rcases put_own z with z | ⟨_, z⟩
    · exact .inl z
    · exact .inr ⟨⟨o, rfl⟩, z⟩
  | «at» l =>
    cases l with
    | obj k =>
      obtain ⟨a, rfl, ha⟩ := t
      have h : AftS K α (OwnT α r σ (.at (.obj k)) (.ref a)) H F W (match r.os[k]? with
        | some (.live _) => .nx (Mi.put r i (.bor k))
        | some (.dead d) => .nx (Mi.put r i (.val d))
        | none => .no) D := h
      split at h
      · refine h _ H F (S.put (s := .bor k) ⟨a, rfl, ha⟩ fun o a z => nomatch z) (Step.refl fun a z => ?_)
        rcases put_own z with z | ⟨⟨o, z⟩, _⟩
        · exact .inl z
        · cases z
      · rename_i d q
        obtain ⟨a', h1, h2⟩ := S.obj _ _ q
        have ha : α[k]? = some a := ha
        rw [h1] at ha; cases ha
        refine h _ H F (S.put (s := .val d) h2 fun o a z => nomatch z) (Step.refl fun a z => ?_)
        rcases put_own z with z | ⟨⟨o, z⟩, _⟩
        · exact .inl z
        · cases z
      · exact h.elim
    | slot j =>
      have h : AftS K α (OwnT α r σ (.at (.slot j)) v) H F W (match frz (.at (.slot j)) r with
        | .ok d r1 => .nx (Mi.put r1 i (.val d))
        | _ => .no) D := h
      cases e : frz (.at (.slot j)) r with
      | no => rw [e] at h; exact h.elim
      | ex z r1 => exact absurd e frz_ex
      | ok d r1 =>
        rw [e] at h
        obtain ⟨F1, S1, fr, st, oo⟩ := frz_ok S t e
        refine h _ H F1 (S1.put (s := .val d) fr fun o a z => nomatch z) (st.more fun a z => ?_)
        rcases put_own z with z | ⟨⟨o, z⟩, _⟩
        · exact z
        · cases z
/-- several names from a tuple -/
def bindL : List Nat → List PyData → En → Option En
  | [], [], r => some r
  | i :: is, d :: ds, r => bindL is ds (put r i (.val d))
  | _, _, _ => none
def unpS (is : List Nat) (f : M Rv) : Stm := ofM f fun x r => match peek r x with
  | some (.tuple ds) => match bindL is ds r with
    | some r1 => .nx r1
    | none => .no
  | some (.list ds) => .no
  | _ => .no
def gNames : List Nat → TGs
  | [] => gNil
  | i :: is => gCons (gName i) (gNames is)
theorem gNames_ok : ∀ {is : List Nat} {ds : List PyData} {vs : List V} {r r1 : En} {σ : L2.St} {H : Hp} {F : Addr → Prop} {Q : L2.St → Hp → Prop}, SR K α r σ H F → FrAll K H F vs ds → bindL is ds r = some r1 →
    (∀ σ', SR K α r1 σ' H F → (∀ a, Own α r1 σ' a → Own α r σ a) → Q σ' H) → vs.length = is.length ∧ gNames is vs σ H Q
  | [], [], _, _, _, _, _, _, _, S, .nil, e, q => by cases e; exact ⟨rfl, rfl, q _ S fun _ z => z⟩
  | i :: is, d :: ds, v :: vs, r, r1, σ, H, F, Q, S, .cons h1 h2, e, q => by
    have S1 : SR K α (put r i (.val d)) (σ.set i (some v)) H F := S.put (s := .val d) h1 fun o a z => nomatch z
    have own : ∀ a, Own α (put r i (.val d)) (σ.set i (some v)) a → Own α r σ a := fun a z => by
      rcases put_own z with z | ⟨⟨o, z⟩, _⟩
      · exact z
      · cases z
    obtain ⟨e1, e2⟩ := gNames_ok (Q := Q) S1 h2 e fun σ' S' o => q σ' S' fun a z => own a (o a z)
    exact ⟨by simp [e1], v, vs, rfl, e2⟩
section
variable {X : Cx} {e tg : Expr} {f : M Rv} {pos : Pos}
theorem sv_set {i : Nat} {x : Str} {pos' : Pos} (hN : X.N.Nodup) (hi : X.N[i]? = some x) (hx : Loc X.env.scope x) (he : PE X e (tE K α W f)) (hs : swapsWith e (some (.Name x pos')) pos.line X.env = pure false := by rfl) (hf : X.fn x = true ∨ X.env.scope.names.lookup x = some .local := by first | exact .inl rfl | exact .inr rfl | assumption) :
    PS X (.Assign [.Name x pos'] e pos) (tS K α W (setS i f)) := ps_weak (ps_set hN hi hx he hs hf) fun D σ H ⟨r, F, S, h⟩ =>
  tE_mono (ofM_E S h) fun v H1 ⟨r1, F1, x, S1, st, tr, h1⟩ => bind_ok S1 tr h1
theorem sv_unp {is : List Nat} (he : PE X e (tE X.K α W f)) (hg : PG X tg (gTup X.K is.length (gNames is))) (hs : swapsWithSole [tg] e pos.line X.env = pure false := by rfl) (hw : swappedStores [tg] e X.env = pure none := by rfl)
    (h1 : (assignEach [tg] X.env).map (·.2) = [assign tg X.env] := by rfl) : PS X (.Assign [tg] e pos) (tS X.K α W (unpS is f)) := ps_weak (ps_asg he hg hs hw h1) fun D σ H ⟨r, F, S, h⟩ =>
  tE_mono (ofM_E S h) fun v H1 ⟨r1, F1, x, S1, st, tr, h1⟩ => by
    cases e1 : peek r1 x with
    | none => simp only [e1] at h1; exact h1.elim
    | some d =>
      simp only [e1] at h1
      split at h1
      · rename_i ds q
        cases q
        cases e2 : bindL is ds r1 with
        | none => simp only [e2] at h1; exact h1.elim
        | some r2 =>
          simp only [e2] at h1
          obtain ⟨a, xs, rfl, hx, fr⟩ := (peek_rel S1 tr e1).tup
          obtain ⟨l, g⟩ := gNames_ok (Q := D.nx) S1 fr e2 fun σ' S' o => h1 σ' H1 F1 S' (Step.refl fun a z => .inl (o a z))
          exact ⟨a, xs, rfl, hx, l, g⟩
      · exact h1.elim
      · exact h1.elim
end
/-! ### objects changed -/
theorem SR.writeG (S : SR K α r σ H F) {l : Lo} {o o' : Ob} {a : Addr} {u' : HO} (h : look r l = some (.live o)) (ha : LoAt α σ l a) (ho : ObR K (upd H a u') F o' u') (sF : ∀ v d, Fr K H F v d → Fr K (upd H a u') F v d) (sO : ∀ o u, ObR K H F o u → ObR K (upd H a u') F o u) :
    SR K α (setLo r l (.live o')) σ (upd H a u') F ∧ (∀ l' x, Holds α (setLo r l (.live o')) σ l' x → Holds α r σ l' x) := by
  have hh : Holds α r σ l a := look_holds h ha
  have nF : ¬ F a := S.sep l a hh
  have own : ∀ l' x, Holds α (setLo r l (.live o')) σ l' x → Holds α r σ l' x := fun l' x q => by
    rcases setLo_holds q with ⟨e, _⟩ | ⟨_, z⟩
    · subst e
      have : x = a := by
        have q2 := q.lo
        cases l' with
        | slot i => have q2 : σ[i]? = some (some (V.ref x)) := q2; have ha : σ[i]? = some (some (V.ref a)) := ha; rw [ha] at q2; cases q2; rfl
        | obj k => have q2 : α[k]? = some x := q2; have ha : α[k]? = some a := ha; rw [ha] at q2; cases q2; rfl
      exact this ▸ hh
    · exact z
  refine ⟨⟨?_, fun i s q => ?_, fun k b q => ?_, fun l1 l2 x q1 q2 => S.apart l1 l2 x (own _ _ q1) (own _ _ q2), fun l' x q => S.sep l' x (own _ _ q), fun x z => ?_⟩, own⟩
  · cases l with
    | slot i => show (r.vs.set i _).length = _; rw [List.length_set]; exact S.len
    | obj k => exact S.len
  · have old : r.vs[i]? = some (some s) → l ≠ .slot i → ∃ v : V, σ[i]? = some (some v) ∧ SlR K α (upd H a u') F s v := fun q n => by
      obtain ⟨v, h1, h2⟩ := S.slot i s q
      refine ⟨v, h1, ?_⟩
      cases s with
      | val d => exact sF _ _ h2
      | own o =>
        obtain ⟨b, w, e, h3, h4⟩ := h2
        subst e
        refine ⟨b, w, rfl, ?_, sO _ _ h4⟩
        rw [upd_ne (show b ≠ a from fun e => n (S.apart l (.slot i) a hh ⟨⟨o, q⟩, by rw [← e]; exact h1⟩))]
        exact h3
      | bor k => exact h2
    cases l with
    | slot j =>
      rcases set_get (show (r.vs.set j (some (.own o')))[i]? = some (some s) from q) with ⟨e, q2⟩ | ⟨e, q2⟩
      · subst e
        cases q2
        exact ⟨.ref a, ha, a, u', rfl, upd_same, ho⟩
      · exact old q2 fun z => e (by cases z; rfl)
    | obj k => exact old q nofun
  · have old : r.os[k]? = some b → l ≠ .obj k → ∃ a', α[k]? = some a' ∧ BoR K (upd H a u') F b a' := fun q n => by
      obtain ⟨v, h1, h2⟩ := S.obj k b q
      refine ⟨v, h1, ?_⟩
      cases b with
      | live o =>
        obtain ⟨w, h3, h4⟩ := h2
        refine ⟨w, ?_, sO _ _ h4⟩
        rw [upd_ne (show v ≠ a from fun e => n (S.apart l (.obj k) a hh ⟨⟨o, q⟩, by rw [← e]; exact h1⟩))]
        exact h3
      | dead d => exact sF _ _ h2
    cases l with
    | slot j => exact old q nofun
    | obj j =>
      rcases set_get (show (r.os.set j (.live o'))[k]? = some b from q) with ⟨e, q2⟩ | ⟨e, q2⟩
      · subst e
        subst q2
        exact ⟨a, ha, u', upd_same, ho⟩
      · exact old q2 fun z => e (by cases z; rfl)
  · obtain ⟨w, q⟩ := S.fdom x z
    exact ⟨w, by rw [upd_ne (fun e => nF (by rw [← e]; exact z))]; exact q⟩
theorem SR.write (S : SR K α r σ H F) {l : Lo} {o o' : Ob} {a : Addr} {u' : HO} (h : look r l = some (.live o)) (ha : LoAt α σ l a) (ho : ObR K H F o' u') (nf : ∀ kvs, o ≠ .fdc kvs := by nofun) :
    SR K α (setLo r l (.live o')) σ (upd H a u') F ∧ Step (Own α r σ) H F (upd H a u') F (Own α (setLo r l (.live o')) σ) ∧ (∀ x, Own α (setLo r l (.live o')) σ x → Own α r σ x) := by
  have hh : Holds α r σ l a := look_holds h ha
  obtain ⟨a', u, e', hH, hr⟩ : ∃ a' u, V.ref a = .ref a' ∧ H a' = some u ∧ ObR K H F o u := content_rel S (x := .at l) (b := .live o) ⟨a, rfl, ha⟩ h
  cases e'
  have nF : ¬ F a := S.sep l a hh
  have st : Stay H F (upd H a u') F := ⟨fun _ h => h, fun x q => upd_ne (fun e => nF (e ▸ q)), fun x w q i => by
    by_cases e : x = a
    · subst e; rw [hH] at q; cases q; rw [hr.mut nf] at i; cases i
    · rw [upd_ne e]; exact q⟩
  obtain ⟨S', own⟩ := S.writeG h ha (ho.stay st) (fun _ _ z => Fr.stay st z) fun _ _ z => z.stay st
  refine ⟨S', ⟨fun x w q n => by rw [upd_ne (show x ≠ a from fun e => n (by rw [e]; exact ⟨l, hh⟩))]; exact q, st, fun x z => .inl z, fun x ⟨l', q⟩ => .inl ⟨l', own _ _ q⟩, fun x q => ?_⟩, fun x ⟨l', q⟩ => ⟨l', own _ _ q⟩⟩
  by_cases e : x = a
  · subst e; rw [upd_same] at q; cases q
  · rwa [upd_ne e] at q
end Mi

/-! Mi7.lean -/
set_option Elab.async false
set_option linter.all false
set_option maxRecDepth 100000
/-! defs and their calls -/
namespace Mi
open PySem L2 PySem.Spec PyProof.Rows
variable {K : PySem.W.Frag} {α : List Addr} {r r' : En} {σ : L2.St} {H H' : Hp} {F F' : Addr → Prop}

/-! ### a list of results, nothing frozen -/
def Tm (xs : List Rv) (vs : List V) (a : Addr) : Prop := ∃ (i : Nat) (o : Ob), xs[i]? = some (.own o) ∧ vs[i]? = some (.ref a)
def OwnTs (α : List Addr) (r : En) (σ : L2.St) (xs : List Rv) (vs : List V) (a : Addr) : Prop := Own α r σ a ∨ Tm xs vs a
structure TRs (K : PySem.W.Frag) (α : List Addr) (r : En) (σ : L2.St) (H : Hp) (F : Addr → Prop) (xs : List Rv) (vs : List V) : Prop where
  all : Paired (TR K α r σ H F) xs vs
  one : ∀ (i j : Nat) (o o' : Ob) (a : Addr), xs[i]? = some (.own o) → vs[i]? = some (.ref a) → xs[j]? = some (.own o') → vs[j]? = some (.ref a) → i = j
def AftR (K : PySem.W.Frag) (α : List Addr) (σ : L2.St) (O : Addr → Prop) (H : Hp) (F : Addr → Prop) (W : L2.WX) (x : Res (List Rv)) (Q : List V → Hp → Prop) : Prop :=
  match x with
  | .ok xs e => ∀ vs H' F', SR K α e σ H' F' → Step O H F H' F' (OwnTs α e σ xs vs) → TRs K α e σ H' F' xs vs → Q vs H'
  | .ex x e => AftX K α σ O H F W x e
  | .no => False
def tR (K : PySem.W.Frag) (α : List Addr) (W : L2.WX) (f : M (List Rv)) : TA := fun σ H Q => ∃ r F, SR K α r σ H F ∧ AftR K α σ (Own α r σ) H F W (f r) Q
def nilR : M (List Rv) := M.ret []
def consR (f : M Rv) (g : M (List Rv)) : M (List Rv) := M.bnd f fun x => M.bnd g fun xs => M.ret (x :: xs)
theorem tR_mono {f : M (List Rv)} {Q Q' : List V → Hp → Prop} (h : tR K α W f σ H Q) (q : ∀ v H1, Q v H1 → Q' v H1) : tR K α W f σ H Q' := by
  obtain ⟨r, F, S, a⟩ := h
  refine ⟨r, F, S, ?_⟩
  cases e : f r with
  | ok x r1 => rw [e] at a; exact fun v H1 F1 b c d => q _ _ (a v H1 F1 b c d)
  | ex x r1 => rw [e] at a; exact a
  | no => rw [e] at a; exact a
theorem Step.widen {O P : Addr → Prop} {O' P' : Addr → Prop} (s : Step O H F H' F' O') (h : ∀ a, O a → P a) (h' : ∀ a, P' a → O' a ∨ P a) : Step P H F H' F' P' :=
  ⟨fun a o q n => s.keep a o q fun z => n (h a z), s.stay, fun a z => (s.nfz a z).imp id fun z => z.imp (h a) id, fun a z => (h' a z).elim (fun z => (s.own a z).imp (h a) id) .inl, s.dom⟩
theorem tm_cons {x : Rv} {v : V} {xs : List Rv} {vs : List V} {a : Addr} (h : Tm (x :: xs) (v :: vs) a) : ((∃ o, x = .own o) ∧ v = .ref a) ∨ Tm xs vs a := by
  obtain ⟨i, o, h1, h2⟩ := h
  cases i with
  | zero => simp at h1 h2; exact .inl ⟨⟨o, h1⟩, h2⟩
  | succ i => exact .inr ⟨i, o, by simpa using h1, by simpa using h2⟩
theorem nilR_ok {Q : List V → Hp → Prop} (h : tR K α W nilR σ H Q) : tNil σ H Q := by
  obtain ⟨r, F, S, h⟩ := h
  exact h [] H F S (Step.refl fun _ z => z.elim id fun ⟨i, o, z, _⟩ => by simp at z) ⟨.nil, fun i j o o' a z => by simp at z⟩
theorem consR_ok {f : M Rv} {g : M (List Rv)} {Q : List V → Hp → Prop} (h : tR K α W (consR f g) σ H Q) : tCons (tE K α W f) (tR K α W g) σ H Q := by
  obtain ⟨r, F, S, h⟩ := h
  refine ⟨r, F, S, ?_⟩
  unfold consR M.bnd at h
  cases e : f r with
  | no => simp only [e] at h; exact h
  | ex x r1 => simp only [e] at h; exact h
  | ok x r1 =>
    simp only [e] at h
    intro v H1 F1 S1 st1 t1
    refine ⟨r1, F1, S1, ?_⟩
    cases e2 : g r1 with
    | no => simp only [e2] at h; exact h
    | ex x r1 => simp only [e2] at h; exact AftX.step h st1 fun _ z => .inl z
    | ok xs r2 =>
      simp only [e2] at h
      intro vs H2 F2 S2 st2 t2
      have sub : ∀ a, Own α r2 σ a → OwnTs α r2 σ xs vs a := fun _ z => .inl z
      refine h (v :: vs) H2 F2 S2 (st1.trans (st2.widen (fun a z => .inl z) fun a z => ?_) fun _ z => z) ⟨.cons (t1.step st2 sub) t2.all, ?_⟩
      · exact (show OwnTs α r2 σ (x :: xs) (v :: vs) a from z).elim (fun z => .inl (.inl z)) fun z => (tm_cons z).elim (fun z => .inr (.inr z)) fun z => .inl (.inr z)
      · have apart : ∀ (o : Ob) (a : Addr), x = .own o → v = .ref a → ¬ Tm xs vs a := fun o a e1 e2 z => by
          subst e1 e2
          obtain ⟨a', u, e3, h3, _, _, h4⟩ := t1
          cases e3
          rcases st2.own a (.inr z) with q | q
          · exact h4 q
          · rw [h3] at q; cases q
        intro i j o o' a h1 h2 h3 h4
        cases i with
        | zero =>
          simp at h1 h2
          cases j with
          | zero => rfl
          | succ j => exact absurd ⟨j, o', by simpa using h3, by simpa using h4⟩ (apart o a h1 h2)
        | succ i =>
          cases j with
          | zero => simp at h3 h4; exact absurd ⟨i, o, by simpa using h1, by simpa using h2⟩ (apart o' a h3 h4)
          | succ j => rw [t2.one i j o o' a (by simpa using h1) (by simpa using h2) (by simpa using h3) (by simpa using h4)]
/-! ### a def's run -/
inductive Ag where
  | val (d : PyData)
  | own (o : Ob)
  | ref (o : Ob)
inductive FR where
  | ret (x : Rv) (os : List Bo)
  | ex (e : Exc) (os : List Bo)
  | no
def entVs : List Ag → Nat → List (Option Sl)
  | [], _ => []
  | .val d :: as, k => some (.val d) :: entVs as k
  | .own o :: as, k => some (.own o) :: entVs as k
  | .ref o :: as, k => some (.bor k) :: entVs as (k + 1)
def entOs : List Ag → List Bo
  | [] => []
  | .val _ :: as => entOs as
  | .own _ :: as => entOs as
  | .ref o :: as => .live o :: entOs as
def entry (n : Nat) (as : List Ag) : En := ⟨entVs as 0 ++ List.replicate (n - as.length) none, entOs as⟩
def finish (x : Out) : FR := match x with
  | .nx r => .ret (.val .none) r.os
  | .rt x r => match x with
    | .val d => .ret (.val d) r.os
    | .own o => .ret (.own o) r.os
    | .at (.slot i) => match look r (.slot i) with
      | some (.live o) => .ret (.own o) r.os
      | some (.dead d) => .ret (.val d) r.os
      | none => .no
    | .at (.obj k) => match frz (.at (.obj k)) r with
      | .ok d r1 => .ret (.val d) r1.os
      | _ => .no
  | .ex e r => .ex e r.os
  | _ => .no
def runF (np n : Nat) (bd : Stm) (as : List Ag) : FR := if as.length = np then finish (bd (entry n as)) else .no
/-- the promise of a def with the body bd: n names, np parameters -/
def spF (K : PySem.W.Frag) (np n : Nat) (bd : Stm) : Sp := fun vs H Q E => vs.length = np ∧ ∃ (as : List Ag) (β : List Addr) (F : Addr → Prop) (N : List Str), N.length = n ∧ SR K β (entry n as) (L2.start N vs) H F ∧
  AftS K β (Own β (entry n as) (L2.start N vs)) H F (fun cls d _ H2 => E cls d H2) (bd (entry n as)) { nx := fun _ H' => Q .non H', rt := Q }
/-! ### the caller's side -/
def agOf (r : En) : Rv → Option (Ag × Option Lo)
  | .val d => some (.val d, none)
  | .own o => some (.own o, none)
  | .at l => match look r l with
    | some (.live o) => some (.ref o, some l)
    | some (.dead d) => some (.val d, none)
    | none => none
def agsOf (r : En) : List Rv → Option (List Ag × List Lo)
  | [] => some ([], [])
  | x :: xs => match agOf r x, agsOf r xs with
    | some (a, some l), some (as, ls) => some (a :: as, l :: ls)
    | some (a, none), some (as, ls) => some (a :: as, ls)
    | _, _ => none
def back : List Lo → List Bo → En → En
  | l :: ls, b :: bs, r => back ls bs (setLo r l b)
  | _, _, r => r
def noDup : List Lo → Bool
  | [] => true
  | l :: ls => !ls.contains l && noDup ls
def callF (G : List Ag → FR) (xs : List Rv) : M Rv := fun r =>
  match agsOf r xs with
  | some (as, ls) => if noDup ls = true then (match G as with
      | .ret x os => if os.length = ls.length then .ok x (back ls os r) else .no
      | .ex e os => if os.length = ls.length then .ex e (back ls os r) else .no
      | .no => .no) else .no
  | none => .no
/-! entering -/
inductive EA (K : PySem.W.Frag) (H : Hp) (F : Addr → Prop) : List Ag → List V → List Addr → Prop
  | nil : EA K H F [] [] []
  | val {v d as vs β} : Fr K H F v d → EA K H F as vs β → EA K H F (.val d :: as) (v :: vs) β
  | own {a u o as vs β} : H a = some u → ObR K H F o u → EA K H F as vs β → EA K H F (.own o :: as) (.ref a :: vs) β
  | ref {a u o as vs β} : H a = some u → ObR K H F o u → EA K H F as vs β → EA K H F (.ref o :: as) (.ref a :: vs) (a :: β)
theorem EA.len : ∀ {as : List Ag} {vs : List V} {β : List Addr}, EA K H F as vs β → as.length = vs.length
  | _, _, _, .nil => rfl
  | _, _, _, .val _ h => by simp [EA.len h]
  | _, _, _, .own _ _ h => by simp [EA.len h]
  | _, _, _, .ref _ _ h => by simp [EA.len h]
theorem EA.slot : ∀ {as : List Ag} {vs : List V} {β : List Addr} (k i : Nat) (s : Sl), EA K H F as vs β → (entVs as k)[i]? = some (some s) →
    (∃ d v, s = .val d ∧ vs[i]? = some v ∧ Fr K H F v d) ∨ (∃ o a u, s = .own o ∧ as[i]? = some (.own o) ∧ vs[i]? = some (.ref a) ∧ H a = some u ∧ ObR K H F o u) ∨ (∃ j a, s = .bor (k + j) ∧ vs[i]? = some (.ref a) ∧ β[j]? = some a)
  | _, _, _, _, _, _, .nil, e => by simp [entVs] at e
  | _, _, _, k, 0, s, .val h1 h, e => by
    simp [entVs] at e
    exact .inl ⟨_, _, e.symm, rfl, h1⟩
  | _, _, _, k, 0, s, .own h1 h2 h, e => by
    simp [entVs] at e
    exact .inr (.inl ⟨_, _, _, e.symm, rfl, rfl, h1, h2⟩)
  | _, _, _, k, 0, s, .ref h1 h2 h, e => by
    simp [entVs] at e
    exact .inr (.inr ⟨0, _, e.symm, rfl, rfl⟩)
  | _, _, _, k, i + 1, s, .val h1 h, e => by
    have e : (entVs _ k)[i]? = some (some s) := e
    simpa using EA.slot k i s h e
  | _, _, _, k, i + 1, s, .own h1 h2 h, e => by
    have e : (entVs _ k)[i]? = some (some s) := e
    simpa using EA.slot k i s h e
  | _, _, _, k, i + 1, s, .ref h1 h2 h, e => by
    have e : (entVs _ (k + 1))[i]? = some (some s) := e
    rcases EA.slot (k + 1) i s h e with ⟨d, v, q1, q2, q3⟩ | ⟨o, a, u, q1, q2, q3⟩ | ⟨j, a, q1, q2, q3⟩
    · exact .inl ⟨d, v, q1, by simpa using q2, q3⟩
    · exact .inr (.inl ⟨o, a, u, q1, by simpa using q2, by simpa using q3⟩)
    · exact .inr (.inr ⟨j + 1, a, by rw [q1]; congr 1; omega, by simpa using q2, by simpa using q3⟩)
theorem EA.obj : ∀ {as : List Ag} {vs : List V} {β : List Addr} (k : Nat) (b : Bo), EA K H F as vs β → (entOs as)[k]? = some b → ∃ o a u, b = .live o ∧ β[k]? = some a ∧ H a = some u ∧ ObR K H F o u
  | _, _, _, _, _, .nil, e => by simp [entOs] at e
  | _, _, _, k, b, .val h1 h, e => EA.obj k b h e
  | _, _, _, k, b, .own h1 h2 h, e => EA.obj k b h e
  | _, _, _, 0, b, .ref h1 h2 h, e => by
    have e : some (Bo.live _) = some b := e
    cases e
    exact ⟨_, _, _, rfl, rfl, h1, h2⟩
  | _, _, _, k + 1, b, .ref h1 h2 h, e => by
    obtain ⟨o, a, u, q1, q2, q3⟩ := EA.obj k b h e
    exact ⟨o, a, u, q1, by simpa using q2, q3⟩
theorem EA.objs : ∀ {as : List Ag} {vs : List V} {β : List Addr}, EA K H F as vs β → (entOs as).length = β.length
  | _, _, _, .nil => rfl
  | _, _, _, .val _ h => (EA.objs h : _)
  | _, _, _, .own _ _ h => (EA.objs h : _)
  | _, _, _, .ref _ _ h => by simp [entOs, EA.objs h]
theorem start_get {N : List Str} {vs : List V} {i : Nat} {v : V} (h : vs[i]? = some v) : (L2.start N vs)[i]? = some (some v) := by
  have hi : i < vs.length := (List.getElem?_eq_some_iff.mp h).1
  unfold L2.start
  rw [List.getElem?_append_left (by simpa using hi), List.getElem?_map, h]
  rfl
theorem start_some {N : List Str} {vs : List V} {i : Nat} {v : V} (h : (L2.start N vs)[i]? = some (some v)) : vs[i]? = some v := by
  unfold L2.start at h
  by_cases hi : i < vs.length
  · rw [List.getElem?_append_left (by simpa using hi), List.getElem?_map] at h
    cases e : vs[i]? with
    | none => rw [e] at h; cases h
    | some w => rw [e] at h; cases h; rfl
  · rw [List.getElem?_append_right (by simpa using hi), List.getElem?_replicate] at h
    split at h <;> cases h
theorem entVs_len : ∀ (as : List Ag) (k : Nat), (entVs as k).length = as.length
  | [], _ => rfl
  | .val _ :: as, k => by simp [entVs, entVs_len as k]
  | .own _ :: as, k => by simp [entVs, entVs_len as k]
  | .ref _ :: as, k => by simp [entVs, entVs_len as (k + 1)]
theorem entry_slot {n : Nat} {as : List Ag} {i : Nat} {s : Sl} (h : (entry n as).vs[i]? = some (some s)) : (entVs as 0)[i]? = some (some s) := by
  have h : (entVs as 0 ++ List.replicate (n - as.length) none)[i]? = some (some s) := h
  by_cases hi : i < (entVs as 0).length
  · rwa [List.getElem?_append_left hi] at h
  · rw [List.getElem?_append_right (by omega), List.getElem?_replicate] at h
    split at h <;> cases h
/-- who is held at an entry -/
theorem entry_holds {N : List Str} {n : Nat} {as : List Ag} {vs : List V} {β : List Addr} (E : EA K H F as vs β) {l : Lo} {a : Addr} (h : Holds β (entry n as) (L2.start N vs) l a) :
    (∃ (i : Nat) (o : Ob), l = .slot i ∧ as[i]? = some (.own o) ∧ vs[i]? = some (.ref a)) ∨ ∃ k : Nat, l = .obj k ∧ β[k]? = some a := by
  cases l with
  | slot i =>
    obtain ⟨⟨o, q⟩, h2⟩ := h
    have h2 := start_some h2
    rcases E.slot 0 i _ (entry_slot q) with ⟨d, v, q1, _⟩ | ⟨o', a', u, q1, q2, q3, q4⟩ | ⟨j, a', q1, _⟩
    · cases q1
    · exact .inl ⟨i, o', rfl, q2, h2⟩
    · cases q1
  | obj k => exact .inr ⟨k, rfl, h.2⟩
theorem entry_SR {N : List Str} {n : Nat} {as : List Ag} {vs : List V} {β : List Addr} (E : EA K H F as vs β) (hN : N.length = n) (hn : vs.length ≤ n)
    (fd : ∀ a, F a → ∃ u, H a = some u) (d1 : ∀ (i j : Nat) (o o' : Ob) (a : Addr), as[i]? = some (.own o) → vs[i]? = some (.ref a) → as[j]? = some (.own o') → vs[j]? = some (.ref a) → i = j)
    (d2 : ∀ (i : Nat) (o : Ob) (a : Addr) (k : Nat), as[i]? = some (.own o) → vs[i]? = some (.ref a) → β[k]? ≠ some a) (d3 : ∀ (k k' : Nat) (a : Addr), β[k]? = some a → β[k']? = some a → k = k')
    (s1 : ∀ (i : Nat) (o : Ob) (a : Addr), as[i]? = some (.own o) → vs[i]? = some (.ref a) → ¬ F a) (s2 : ∀ (k : Nat) (a : Addr), β[k]? = some a → ¬ F a) : SR K β (entry n as) (L2.start N vs) H F where
  len := by
    show (entVs as 0 ++ List.replicate (n - as.length) none).length = (vs.map some ++ List.replicate (N.length - vs.length) none).length
    have e1 := E.len
    simp only [List.length_append, entVs_len, List.length_replicate, List.length_map]
    omega
  slot := fun i s q => by
    rcases E.slot 0 i s (entry_slot q) with ⟨d, v, q1, q2, q3⟩ | ⟨o, a, u, q1, q2, q3, q4, q5⟩ | ⟨j, a, q1, q2, q3⟩
    · subst q1; exact ⟨v, start_get q2, q3⟩
    · subst q1; exact ⟨_, start_get q3, a, u, rfl, q4, q5⟩
    · subst q1; exact ⟨_, start_get q2, a, rfl, by simpa using q3⟩
  obj := fun k b q => by
    obtain ⟨o, a, u, q1, q2, q3, q4⟩ := E.obj k b q
    subst q1
    exact ⟨a, q2, u, q3, q4⟩
  apart := fun l l' a h h' => by
    rcases entry_holds E h with ⟨i, o, rfl, h1, h2⟩ | ⟨k, rfl, h1⟩
    · rcases entry_holds E h' with ⟨j, o', rfl, h1', h2'⟩ | ⟨k', rfl, h1'⟩
      · rw [d1 i j o o' a h1 h2 h1' h2']
      · exact absurd h1' (d2 i o a k' h1 h2)
    · rcases entry_holds E h' with ⟨j, o', rfl, h1', h2'⟩ | ⟨k', rfl, h1'⟩
      · exact absurd h1 (d2 j o' a k h1' h2')
      · rw [d3 k k' a h1 h1']
  sep := fun l a h => by
    rcases entry_holds E h with ⟨i, o, rfl, h1, h2⟩ | ⟨k, rfl, h1⟩
    · exact s1 i o a h1 h2
    · exact s2 k a h1
  fdom := fd
/-- the arguments of a call -/
theorem ags_ea (S : SR K α r σ H F) : ∀ {xs : List Rv} {vs : List V} {as : List Ag} {ls : List Lo}, Paired (TR K α r σ H F) xs vs → agsOf r xs = some (as, ls) →
    ∃ β, EA K H F as vs β ∧ Paired (Holds α r σ) ls β ∧ ∀ (i : Nat) (o : Ob), as[i]? = some (.own o) → xs[i]? = some (.own o)
  | [], _, _, _, .nil, e => by cases e; exact ⟨[], .nil, .nil, fun i o z => by simp at z⟩
  | x :: xs, v :: vs, as, ls, .cons t p, e => by
    unfold agsOf at e
    split at e
    · rename_i a l as1 ls1 q1 q2
      cases e
      obtain ⟨β, E, P, o1⟩ := ags_ea S p q2
      cases x with
      | val d => cases q1
      | own o => cases q1
      | «at» l1 =>
        obtain ⟨b, rfl, hb⟩ := t
        have q1 : (match look r l1 with
          | some (.live o) => some (Ag.ref o, some l1)
          | some (.dead d) => some (.val d, none)
          | none => none) = some (a, some l) := q1
        split at q1
        · rename_i o ho
          cases q1
          have hh := look_holds ho hb
          obtain ⟨b', u, e3, h3, h4⟩ := content_rel S (x := .at l) (b := .live o) ⟨b, rfl, hb⟩ ho
          cases e3
          exact ⟨b :: β, .ref h3 h4 E, .cons hh P, fun i o' z => by
            cases i with
            | zero => simp at z
            | succ i => simpa using o1 i o' (by simpa using z)⟩
        · cases q1
        · cases q1
    · rename_i a as1 ls1 q1 q2
      cases e
      obtain ⟨β, E, P, o1⟩ := ags_ea S p q2
      cases x with
      | val d =>
        cases q1
        exact ⟨β, .val t E, P, fun i o' z => by
          cases i with
          | zero => simp at z
          | succ i => simpa using o1 i o' (by simpa using z)⟩
      | own o =>
        cases q1
        obtain ⟨b, u, rfl, h3, h4, _⟩ := t
        exact ⟨β, .own h3 h4 E, P, fun i o' z => by
          cases i with
          | zero => simpa using z
          | succ i => simpa using o1 i o' (by simpa using z)⟩
      | «at» l1 =>
        have q1 : (match look r l1 with
          | some (.live o) => some (Ag.ref o, some l1)
          | some (.dead d) => some (.val d, none)
          | none => none) = some (a, none) := q1
        split at q1
        · cases q1
        · rename_i d ho
          cases q1
          have := content_rel S (x := .at l1) t ho
          exact ⟨β, .val this E, P, fun i o' z => by
            cases i with
            | zero => simp at z
            | succ i => simpa using o1 i o' (by simpa using z)⟩
        · cases q1
    · cases e
/-! coming back -/
structure SX (K : PySem.W.Frag) (α : List Addr) (r : En) (σ : L2.St) (H : Hp) (F : Addr → Prop) (P : Lo → Prop) : Prop where
  len : r.vs.length = σ.length
  slot : ∀ (i : Nat) (s : Sl), r.vs[i]? = some (some s) → ¬ P (.slot i) → ∃ v : V, σ[i]? = some (some v) ∧ SlR K α H F s v
  obj : ∀ (k : Nat) (b : Bo), r.os[k]? = some b → ¬ P (.obj k) → ∃ a, α[k]? = some a ∧ BoR K H F b a
  apart : ∀ l l' a, ¬ P l → ¬ P l' → Holds α r σ l a → Holds α r σ l' a → l = l'
  sep : ∀ l a, ¬ P l → Holds α r σ l a → ¬ F a
  fdom : ∀ a, F a → ∃ u, H a = some u
theorem setLo_slot {l : Lo} {b : Bo} {i : Nat} {s : Sl} (h : (setLo r l b).vs[i]? = some (some s)) : (l = .slot i ∧ ((∃ o, b = .live o ∧ s = .own o) ∨ ∃ d, b = .dead d ∧ s = .val d)) ∨ (l ≠ .slot i ∧ r.vs[i]? = some (some s)) := by
  cases l with
  | obj k => exact .inr ⟨nofun, by cases b <;> exact h⟩
  | slot j =>
    cases b with
    | live o =>
      rcases set_get (show (r.vs.set j (some (.own o)))[i]? = _ from h) with ⟨e, q⟩ | ⟨e, q⟩
      · subst e; injection q with q; exact .inl ⟨rfl, .inl ⟨o, rfl, q.symm⟩⟩
      · exact .inr ⟨fun z => e (by cases z; rfl), q⟩
    | dead d =>
      rcases set_get (show (r.vs.set j (some (.val d)))[i]? = _ from h) with ⟨e, q⟩ | ⟨e, q⟩
      · subst e; injection q with q; exact .inl ⟨rfl, .inr ⟨d, rfl, q.symm⟩⟩
      · exact .inr ⟨fun z => e (by cases z; rfl), q⟩
theorem setLo_obj {l : Lo} {b c : Bo} {k : Nat} (h : (setLo r l b).os[k]? = some c) : (l = .obj k ∧ c = b) ∨ (l ≠ .obj k ∧ r.os[k]? = some c) := by
  cases l with
  | slot j => exact .inr ⟨nofun, by cases b <;> exact h⟩
  | obj j =>
    have h : (r.os.set j b)[k]? = some c := by cases b <;> exact h
    rcases set_get h with ⟨e, q⟩ | ⟨e, q⟩
    · subst e; exact .inl ⟨rfl, q.symm⟩
    · exact .inr ⟨fun z => e (by cases z; rfl), q⟩
theorem setLo_len {l : Lo} {b : Bo} : (setLo r l b).vs.length = r.vs.length := by
  cases l with
  | slot j => cases b <;> exact List.length_set
  | obj j => cases b <;> rfl
theorem SX.one {P Q : Lo → Prop} (S : SX K α r σ H F P) {l : Lo} {b : Bo} {a : Addr} (hp : ∀ l', P l' → l' = l ∨ Q l') (ha : LoAt α σ l a) (hb : BoR K H F b a) (hl : ∀ o, b = .live o → ¬ F a ∧ ∀ l', ¬ P l' → ¬ Holds α r σ l' a) :
    SX K α (setLo r l b) σ H F Q where
  len := setLo_len.trans S.len
  slot := fun i s q n => by
    rcases setLo_slot q with ⟨e, ⟨o, e1, e2⟩ | ⟨d, e1, e2⟩⟩ | ⟨e, q⟩
    · subst e e1 e2; obtain ⟨u, h1, h2⟩ := hb; exact ⟨.ref a, ha, a, u, rfl, h1, h2⟩
    · subst e e1 e2; exact ⟨.ref a, ha, hb⟩
    · exact S.slot i s q fun z => (hp _ z).elim (fun z => e z.symm) n
  obj := fun k c q n => by
    rcases setLo_obj q with ⟨e, e1⟩ | ⟨e, q⟩
    · subst e e1; exact ⟨a, ha, hb⟩
    · exact S.obj k c q fun z => (hp _ z).elim (fun z => e z.symm) n
  apart := fun l1 l2 x n1 n2 h1 h2 => by
    have addr : ∀ x, LoAt α σ l x → x = a := fun x q => by
      cases l with
      | slot i => have q : σ[i]? = some (some (V.ref x)) := q; have ha : σ[i]? = some (some (V.ref a)) := ha; rw [ha] at q; cases q; rfl
      | obj k => have q : α[k]? = some x := q; have ha : α[k]? = some a := ha; rw [ha] at q; cases q; rfl
    rcases setLo_holds h1 with ⟨e1, o, eb⟩ | ⟨e1, q1⟩
    · subst e1
      have ex := addr x h1.lo
      subst ex
      rcases setLo_holds h2 with ⟨e2, _⟩ | ⟨e2, q2⟩
      · exact e2.symm
      · exact absurd q2 ((hl o eb).2 l2 fun z => (hp _ z).elim e2 n2)
    · rcases setLo_holds h2 with ⟨e2, o, eb⟩ | ⟨e2, q2⟩
      · subst e2
        have ex := addr x h2.lo
        subst ex
        exact absurd q1 ((hl o eb).2 l1 fun z => (hp _ z).elim e1 n1)
      · exact S.apart l1 l2 x (fun z => (hp _ z).elim e1 n1) (fun z => (hp _ z).elim e2 n2) q1 q2
  sep := fun l1 x n1 h1 => by
    rcases setLo_holds h1 with ⟨e1, o, eb⟩ | ⟨e1, q1⟩
    · subst e1
      have : x = a := by
        have q := h1.lo
        cases l1 with
        | slot i => have q : σ[i]? = some (some (V.ref x)) := q; have ha : σ[i]? = some (some (V.ref a)) := ha; rw [ha] at q; cases q; rfl
        | obj k => have q : α[k]? = some x := q; have ha : α[k]? = some a := ha; rw [ha] at q; cases q; rfl
      exact this ▸ (hl o eb).1
    · exact S.sep l1 x (fun z => (hp _ z).elim e1 n1) q1
  fdom := S.fdom
theorem back_ok : ∀ {ls : List Lo} {os : List Bo} {β : List Addr} {r : En}, SX K α r σ H F (fun l => l ∈ ls) → Paired (LoAt α σ) ls β → os.length = ls.length →
    (∀ (k : Nat) (b : Bo) (a : Addr), os[k]? = some b → β[k]? = some a → BoR K H F b a ∧ ∀ o, b = .live o → ¬ F a) → (∀ (k k' : Nat) (o o' : Ob) (a : Addr), os[k]? = some (.live o) → β[k]? = some a → os[k']? = some (.live o') → β[k']? = some a → k = k') → noDup ls = true →
    (∀ l a, l ∉ ls → Holds α r σ l a → ∀ (k : Nat) (o : Ob), os[k]? = some (.live o) → β[k]? ≠ some a) →
    SR K α (back ls os r) σ H F ∧ ∀ l a, Holds α (back ls os r) σ l a → (Holds α r σ l a ∧ l ∉ ls) ∨ ∃ (k : Nat) (o : Ob), ls[k]? = some l ∧ os[k]? = some (.live o) ∧ β[k]? = some a
  | [], [], _, r, S, .nil, _, _, _, _, _ => ⟨⟨S.len, fun i s q => S.slot i s q (by simp), fun k b q => S.obj k b q (by simp), fun l l' a => S.apart l l' a (by simp) (by simp), fun l a => S.sep l a (by simp), S.fdom⟩, fun l a h => .inl ⟨h, by simp⟩⟩
  | [], _ :: _, _, _, _, _, e, _, _, _, _ => by simp at e
  | _ :: _, [], _, _, _, _, e, _, _, _, _ => by simp at e
  | l :: ls, b :: os, a :: β, r, S, .cons h P, e, hb, hd, hn, ho => by
    have hn1 : l ∉ ls ∧ noDup ls = true := by
      have hn : (!ls.contains l && noDup ls) = true := hn
      rw [Bool.and_eq_true] at hn
      exact ⟨by simpa using hn.1, hn.2⟩
    have addr : ∀ x, LoAt α σ l x → x = a := fun x q => by
      cases l with
      | slot i => have q : σ[i]? = some (some (V.ref x)) := q; have h : σ[i]? = some (some (V.ref a)) := h; rw [h] at q; cases q; rfl
      | obj k => have q : α[k]? = some x := q; have h : α[k]? = some a := h; rw [h] at q; cases q; rfl
    have S1 : SX K α (setLo r l b) σ H F (fun l' => l' ∈ ls) := S.one (fun l' z => List.mem_cons.mp z) h (hb 0 b a rfl rfl).1 fun o eb => ⟨(hb 0 b a rfl rfl).2 o eb, fun l' n q => ho l' a n q 0 o (by rw [eb]; rfl) rfl⟩
    obtain ⟨R, ow⟩ := back_ok (os := os) S1 P (by simpa using e) (fun k c x q1 q2 => hb (k + 1) c x (by simpa using q1) (by simpa using q2))
      (fun k k' o o' x q1 q2 q3 q4 => by have := hd (k + 1) (k' + 1) o o' x (by simpa using q1) (by simpa using q2) (by simpa using q3) (by simpa using q4); omega) hn1.2
      (fun l' x n q k o q1 q2 => by
        rcases setLo_holds q with ⟨e1, o', eb⟩ | ⟨e1, q⟩
        · subst e1
          have ex := addr x q.lo
          subst ex
          have := hd 0 (k + 1) o' o x (by rw [eb]; rfl) rfl (by simpa using q1) (by simpa using q2)
          omega
        · exact ho l' x (fun z => (List.mem_cons.mp z).elim e1 n) q (k + 1) o (by simpa using q1) (by simpa using q2))
    refine ⟨R, fun l' x q => ?_⟩
    rcases ow l' x q with ⟨q, n⟩ | ⟨k, o, q1, q2, q3⟩
    · rcases setLo_holds q with ⟨e1, o', eb⟩ | ⟨e1, q⟩
      · subst e1
        exact .inr ⟨0, o', rfl, by rw [eb]; rfl, by rw [addr x q.lo]; rfl⟩
      · exact .inl ⟨q, fun z => (List.mem_cons.mp z).elim e1 n⟩
    · exact .inr ⟨k + 1, o, by simpa using q1, by simpa using q2, by simpa using q3⟩
def callE (G : List Ag → FR) (f : M (List Rv)) : M Rv := M.bnd f fun xs => callF G xs
end Mi

/-! Mi8.lean -/
set_option Elab.async false
set_option linter.all false
set_option maxRecDepth 100000
/-! calls -/
namespace Mi
open PySem L2 PySem.Spec PyProof.Rows
variable {K : PySem.W.Frag} {α : List Addr} {r r' : En} {σ : L2.St} {H H' : Hp} {F F' : Addr → Prop}

theorem paired_get {β γ : Type} {P : β → γ → Prop} : ∀ {xs : List β} {ys : List γ} {k : Nat} {y : γ}, Paired P xs ys → ys[k]? = some y → ∃ x, xs[k]? = some x ∧ P x y
  | _, _, _, _, .nil, h => by simp at h
  | _, _, 0, _, .cons a b, h => by simp at h; subst h; exact ⟨_, rfl, a⟩
  | _, _, k + 1, _, .cons a b, h => by
    obtain ⟨x, h1, h2⟩ := paired_get (k := k) b (by simpa using h)
    exact ⟨x, by simpa using h1, h2⟩
theorem paired_len {β γ : Type} {P : β → γ → Prop} : ∀ {xs : List β} {ys : List γ}, Paired P xs ys → xs.length = ys.length
  | _, _, .nil => rfl
  | _, _, .cons a b => by simp [paired_len b]
theorem noDup_get : ∀ {ls : List Lo} {i j : Nat} {l : Lo}, noDup ls = true → ls[i]? = some l → ls[j]? = some l → i = j
  | [], _, _, _, _, h, _ => by simp at h
  | x :: ls, i, j, l, n, h1, h2 => by
    have n : (!ls.contains x && noDup ls) = true := n
    rw [Bool.and_eq_true] at n
    have nx : x ∉ ls := by simpa using n.1
    cases i with
    | zero =>
      cases j with
      | zero => rfl
      | succ j => simp at h1 h2; subst h1; exact absurd (List.mem_of_getElem? h2) nx
    | succ i =>
      cases j with
      | zero => simp at h1 h2; subst h2; exact absurd (List.mem_of_getElem? h1) nx
      | succ j => exact congrArg Nat.succ (noDup_get (l := l) n.2 (by simpa using h1) (by simpa using h2))
/-- behind a call: from what the callee has left to the caller's state -/
theorem call_end {xs : List Rv} {vs : List V} {ls : List Lo} {β : List Addr} {Oc P : Addr → Prop} {os : List Bo} {x : Rv} {v : V} {Q : VK} {W : L2.WX}
    (S : SR K α r σ H F) (T : TRs K α r σ H F xs vs) (B : Paired (Holds α r σ) ls β) (nd : noDup ls = true) (oc : ∀ a, Oc a → Tm xs vs a ∨ ∃ k : Nat, β[k]? = some a)
    (st : Step Oc H F H' F' P) (hl : os.length = ls.length) (bo : ∀ (k : Nat) (b : Bo), os[k]? = some b → ∃ a, β[k]? = some a ∧ BoR K H' F' b a)
    (lv : ∀ (k : Nat) (o : Ob) (a : Addr), os[k]? = some (.live o) → β[k]? = some a → ¬ F' a) (fd : ∀ a, F' a → ∃ u, H' a = some u)
    (hx : match x with
      | .val d => Fr K H' F' v d
      | .own o => ∃ a u, v = .ref a ∧ H' a = some u ∧ ObR K H' F' o u ∧ ¬ F' a ∧ P a ∧ ∀ (k : Nat) (o' : Ob), os[k]? = some (.live o') → β[k]? ≠ some a
      | .at _ => False)
    (h : Aft K α σ (OwnTs α r σ xs vs) H F W (.ok x (back ls os r)) Q) : Q v H' := by
  -- an address held by the caller, of no argument
  have out : ∀ l a, l ∉ ls → Holds α r σ l a → ¬ Oc a := fun l a n q z => by
    rcases oc a z with z | ⟨k, z⟩
    · obtain ⟨i, o, e1, e2⟩ := z
      obtain ⟨y, e3, t⟩ := paired_get T.all e2
      rw [e1] at e3; cases e3
      obtain ⟨a', u, e4, _, _, _, n2⟩ := t
      cases e4
      exact n2 ⟨l, q⟩
    · obtain ⟨l', e1, q'⟩ := paired_get B z
      have := S.apart l l' a q q'
      subst this
      exact n (List.mem_of_getElem? e1)
  have nF : ∀ l a, l ∉ ls → Holds α r σ l a → ¬ F' a := fun l a n q z => by
    rcases st.nfz a z with z | z | z
    · exact S.sep l a q z
    · exact out l a n q z
    · obtain ⟨_, u, e, _⟩ := q.has S
      rw [e] at z; cases z
  have SX0 : SX K α r σ H' F' (fun l => l ∈ ls) := {
    len := S.len
    slot := fun i s q n => by
      obtain ⟨w, h1, h2⟩ := S.slot i s q
      refine ⟨w, h1, ?_⟩
      cases s with
      | val d => exact Fr.stay st.stay h2
      | own o =>
        obtain ⟨a, u, rfl, h3, h4⟩ := h2
        exact ⟨a, u, rfl, st.keep a u h3 (out _ a n ⟨⟨o, q⟩, h1⟩), h4.stay st.stay⟩
      | bor k => exact h2
    obj := fun k b q n => by
      obtain ⟨a, h1, h2⟩ := S.obj k b q
      refine ⟨a, h1, ?_⟩
      cases b with
      | live o =>
        obtain ⟨u, h3, h4⟩ := h2
        exact ⟨u, st.keep a u h3 (out _ a n ⟨⟨o, q⟩, h1⟩), h4.stay st.stay⟩
      | dead d => exact Fr.stay st.stay h2
    apart := fun l l' a _ _ q q' => S.apart l l' a q q'
    sep := fun l a n q => nF l a n q
    fdom := fd }
  obtain ⟨R, ow⟩ := back_ok SX0 (paired_imp (fun _ _ q => q.lo) B) hl (fun k b a q1 q2 => by
      obtain ⟨a', q3, q4⟩ := bo k b q1
      rw [q2] at q3; cases q3
      exact ⟨q4, fun o e => lv k o a (by rw [q1, e]) q2⟩)
    (fun k k' o o' a q1 q2 q3 q4 => by
      obtain ⟨l, e1, p1⟩ := paired_get B q2
      obtain ⟨l', e2, p2⟩ := paired_get B q4
      have := S.apart l l' a p1 p2
      subst this
      exact noDup_get nd e1 e2) nd
    (fun l a n q k o q1 q2 => by
      obtain ⟨l', e1, p1⟩ := paired_get B q2
      have := S.apart l l' a q p1
      subst this
      exact n (List.mem_of_getElem? e1))
  have sub : ∀ a, Oc a → OwnTs α r σ xs vs a := fun a z => (oc a z).elim .inr fun ⟨k, z⟩ => by
    obtain ⟨l, _, p⟩ := paired_get B z
    exact .inl ⟨l, p⟩
  have own2 : ∀ a, Own α (back ls os r) σ a → OwnTs α r σ xs vs a := fun a ⟨l, q⟩ => by
    rcases ow l a q with ⟨q, _⟩ | ⟨k, o, e1, e2, e3⟩
    · exact .inl ⟨l, q⟩
    · obtain ⟨l', _, p⟩ := paired_get B e3
      exact .inl ⟨l', p⟩
  refine h v H' F' R (st.widen sub fun a z => ?_) ?_
  · rcases z with z | ⟨⟨o, e⟩, e2⟩
    · exact .inr (own2 a z)
    · subst e
      obtain ⟨a', u, e3, _, _, _, p, _⟩ := hx
      rw [e3] at e2; cases e2
      exact .inl p
  · cases x with
    | val d => exact hx
    | «at» l => exact hx.elim
    | own o =>
      obtain ⟨a, u, e3, h1, h2, h3, p, h4⟩ := hx
      refine ⟨a, u, e3, h1, h2, h3, fun ⟨l, q⟩ => ?_⟩
      rcases ow l a q with ⟨q, n⟩ | ⟨k, o', e1, e2, e4⟩
      · rcases st.own a p with z | z
        · exact out l a n q z
        · obtain ⟨_, w, e, _⟩ := q.has S
          rw [e] at z; cases z
      · exact h4 k o' e2 e4
/-- behind a call: from what the callee has left to the caller's state -/
theorem call_state {xs : List Rv} {vs : List V} {ls : List Lo} {β : List Addr} {Oc P : Addr → Prop} {os : List Bo}
    (S : SR K α r σ H F) (T : TRs K α r σ H F xs vs) (B : Paired (Holds α r σ) ls β) (nd : noDup ls = true) (oc : ∀ a, Oc a → Tm xs vs a ∨ ∃ k : Nat, β[k]? = some a)
    (st : Step Oc H F H' F' P) (hl : os.length = ls.length) (bo : ∀ (k : Nat) (b : Bo), os[k]? = some b → ∃ a, β[k]? = some a ∧ BoR K H' F' b a)
    (lv : ∀ (k : Nat) (o : Ob) (a : Addr), os[k]? = some (.live o) → β[k]? = some a → ¬ F' a) (fd : ∀ a, F' a → ∃ u, H' a = some u) : SR K α (back ls os r) σ H' F' ∧ Step (OwnTs α r σ xs vs) H F H' F' (Own α (back ls os r) σ) := by
  -- an address held by the caller, of no argument
  have out : ∀ l a, l ∉ ls → Holds α r σ l a → ¬ Oc a := fun l a n q z => by
    rcases oc a z with z | ⟨k, z⟩
    · obtain ⟨i, o, e1, e2⟩ := z
      obtain ⟨y, e3, t⟩ := paired_get T.all e2
      rw [e1] at e3; cases e3
      obtain ⟨a', u, e4, _, _, _, n2⟩ := t
      cases e4
      exact n2 ⟨l, q⟩
    · obtain ⟨l', e1, q'⟩ := paired_get B z
      have := S.apart l l' a q q'
      subst this
      exact n (List.mem_of_getElem? e1)
  have nF : ∀ l a, l ∉ ls → Holds α r σ l a → ¬ F' a := fun l a n q z => by
    rcases st.nfz a z with z | z | z
    · exact S.sep l a q z
    · exact out l a n q z
    · obtain ⟨_, u, e, _⟩ := q.has S
      rw [e] at z; cases z
  have SX0 : SX K α r σ H' F' (fun l => l ∈ ls) := {
    len := S.len
    slot := fun i s q n => by
      obtain ⟨w, h1, h2⟩ := S.slot i s q
      refine ⟨w, h1, ?_⟩
      cases s with
      | val d => exact Fr.stay st.stay h2
      | own o =>
        obtain ⟨a, u, rfl, h3, h4⟩ := h2
        exact ⟨a, u, rfl, st.keep a u h3 (out _ a n ⟨⟨o, q⟩, h1⟩), h4.stay st.stay⟩
      | bor k => exact h2
    obj := fun k b q n => by
      obtain ⟨a, h1, h2⟩ := S.obj k b q
      refine ⟨a, h1, ?_⟩
      cases b with
      | live o =>
        obtain ⟨u, h3, h4⟩ := h2
        exact ⟨u, st.keep a u h3 (out _ a n ⟨⟨o, q⟩, h1⟩), h4.stay st.stay⟩
      | dead d => exact Fr.stay st.stay h2
    apart := fun l l' a _ _ q q' => S.apart l l' a q q'
    sep := fun l a n q => nF l a n q
    fdom := fd }
  obtain ⟨R, ow⟩ := back_ok SX0 (paired_imp (fun _ _ q => q.lo) B) hl (fun k b a q1 q2 => by
      obtain ⟨a', q3, q4⟩ := bo k b q1
      rw [q2] at q3; cases q3
      exact ⟨q4, fun o e => lv k o a (by rw [q1, e]) q2⟩)
    (fun k k' o o' a q1 q2 q3 q4 => by
      obtain ⟨l, e1, p1⟩ := paired_get B q2
      obtain ⟨l', e2, p2⟩ := paired_get B q4
      have := S.apart l l' a p1 p2
      subst this
      exact noDup_get nd e1 e2) nd
    (fun l a n q k o q1 q2 => by
      obtain ⟨l', e1, p1⟩ := paired_get B q2
      have := S.apart l l' a q p1
      subst this
      exact n (List.mem_of_getElem? e1))
  have sub : ∀ a, Oc a → OwnTs α r σ xs vs a := fun a z => (oc a z).elim .inr fun ⟨k, z⟩ => by
    obtain ⟨l, _, p⟩ := paired_get B z
    exact .inl ⟨l, p⟩
  have own2 : ∀ a, Own α (back ls os r) σ a → OwnTs α r σ xs vs a := fun a ⟨l, q⟩ => by
    rcases ow l a q with ⟨q, _⟩ | ⟨k, o, e1, e2, e3⟩
    · exact .inl ⟨l, q⟩
    · obtain ⟨l', _, p⟩ := paired_get B e3
      exact .inl ⟨l', p⟩
  exact ⟨R, st.widen sub fun a z => .inr (own2 a z)⟩
theorem call_ok {xs : List Rv} {vs : List V} {np n : Nat} {bd : Stm} {Q : VK} {W : L2.WX} (hn : np ≤ n) (S : SR K α r σ H F) (T : TRs K α r σ H F xs vs)
    (h : Aft K α σ (OwnTs α r σ xs vs) H F W (callF (runF np n bd) xs r) Q) : spF K np n bd vs H Q (fun cls d H2 => W cls d σ H2) := by
  unfold callF at h
  cases e : agsOf r xs with
  | none => rw [e] at h; exact h.elim
  | some p =>
    obtain ⟨as, ls⟩ := p
    rw [e] at h
    simp only at h
    split at h
    · rename_i nd
      obtain ⟨β, E, B, ox⟩ := ags_ea S T.all e
      have el := E.len
      unfold runF at h
      by_cases hp0 : as.length = np
      case neg => rw [if_neg hp0] at h; exact h.elim
      rw [if_pos hp0] at h
      have hp : vs.length = np := el.symm.trans hp0
      refine ⟨hp, ?_⟩
      have hNl : (List.replicate n ("" : Str)).length = n := List.length_replicate
      have tm : ∀ (i : Nat) (o : Ob) (a : Addr), as[i]? = some (.own o) → vs[i]? = some (.ref a) → Tm xs vs a := fun i o a q1 q2 => ⟨i, o, ox i o q1, q2⟩
      have tmO : ∀ a, Tm xs vs a → ¬ F a ∧ ¬ Own α r σ a := fun a ⟨i, o, q1, q2⟩ => by
        obtain ⟨y, e3, t⟩ := paired_get T.all q2
        rw [q1] at e3; cases e3
        obtain ⟨a', u, e4, _, _, n1, n2⟩ := t
        cases e4
        exact ⟨n1, n2⟩
      have S0 := entry_SR (n := n) E hNl (by omega) S.fdom (fun i j o o' a q1 q2 q3 q4 => T.one i j o o' a (ox i o q1) q2 (ox j o' q3) q4)
        (fun i o a k q1 q2 q3 => by
          obtain ⟨l, _, p⟩ := paired_get B q3
          exact (tmO a (tm i o a q1 q2)).2 ⟨l, p⟩)
        (fun k k' a q1 q2 => by
          obtain ⟨l, e1, p1⟩ := paired_get B q1
          obtain ⟨l', e2, p2⟩ := paired_get B q2
          have := S.apart l l' a p1 p2
          subst this
          exact noDup_get nd e1 e2)
        (fun i o a q1 q2 => (tmO a (tm i o a q1 q2)).1) (fun k a q => by
          obtain ⟨l, _, p⟩ := paired_get B q
          exact S.sep l a p)
      have oc : ∀ a, Own β (entry n as) (L2.start (List.replicate n ("" : Str)) vs) a → Tm xs vs a ∨ ∃ k : Nat, β[k]? = some a := fun a ⟨l, q⟩ => by
        rcases entry_holds E q with ⟨i, o, _, q1, q2⟩ | ⟨k, _, q1⟩
        · exact .inl (tm i o a q1 q2)
        · exact .inr ⟨k, q1⟩
      refine ⟨as, β, F, List.replicate n "", hNl, S0, ?_⟩
      have lvOf : ∀ {e' : En} {σ' : L2.St} {H' : Hp} {F' : Addr → Prop}, SR K β e' σ' H' F' → ∀ (k : Nat) (o : Ob) (a : Addr), e'.os[k]? = some (.live o) → β[k]? = some a → ¬ F' a := fun S' k o a q1 q2 => S'.sep (.obj k) a ⟨⟨o, q1⟩, q2⟩
      cases eb : bd (entry n as) with
      | no => rw [eb] at h; exact h
      | ex z e' =>
        rw [eb] at h
        have h : (match (FR.ex z e'.os : FR) with
          | .ret x os => if os.length = ls.length then (Res.ok x (back ls os r) : Res Rv) else .no
          | .ex e os => if os.length = ls.length then .ex e (back ls os r) else .no
          | .no => .no) = (if e'.os.length = ls.length then .ex z (back ls e'.os r) else .no) → Aft K α σ (OwnTs α r σ xs vs) H F W (if e'.os.length = ls.length then .ex z (back ls e'.os r) else .no) Q := fun _ => h
        have h := h rfl
        split at h
        · rename_i hl
          intro σ' cls d H' F' S' st ex
          obtain ⟨R, st2⟩ := call_state S T B nd oc st hl S'.obj (lvOf S') S'.fdom
          exact h cls d H' F' R st2 ex
        · exact h.elim
      | bk e' => rw [eb] at h; exact h.elim
      | ct e' => rw [eb] at h; exact h.elim
      | nx e' =>
        rw [eb] at h
        intro σ' H' F' S' st
        simp only [finish] at h
        split at h
        · rename_i hl
          exact call_end (x := .val .none) S T B nd oc st hl S'.obj (lvOf S') S'.fdom .non h
        · exact h.elim
      | rt x e' =>
        rw [eb] at h
        intro v σ' H' F' S' st t
        cases x with
        | val d =>
          simp only [finish] at h
          split at h
          · rename_i hl
            exact call_end (x := .val d) S T B nd oc st hl S'.obj (lvOf S') S'.fdom t h
          · exact h.elim
        | own o =>
          simp only [finish] at h
          split at h
          · rename_i hl
            obtain ⟨a, u, rfl, h1, h2, h3, h4⟩ := t
            exact call_end (x := .own o) S T B nd oc st hl S'.obj (lvOf S') S'.fdom ⟨a, u, rfl, h1, h2, h3, .inr ⟨⟨o, rfl⟩, rfl⟩, fun k o' q1 q2 => h4 ⟨.obj k, ⟨o', q1⟩, q2⟩⟩ h
          · exact h.elim
        | «at» l =>
          cases l with
          | slot i =>
            simp only [finish] at h
            cases el : look e' (.slot i) with
            | none => simp only [el] at h; exact h.elim
            | some b =>
              have t2 := content_rel S' (x := .at (.slot i)) t el
              cases b with
              | dead d =>
                simp only [el] at h
                split at h
                · rename_i hl
                  exact call_end (x := .val d) S T B nd oc st hl S'.obj (lvOf S') S'.fdom t2 h
                · exact h.elim
              | live o =>
                simp only [el] at h
                split at h
                · rename_i hl
                  obtain ⟨a, u, rfl, h1, h2⟩ := t2
                  obtain ⟨a', e3, ha⟩ := t
                  cases e3
                  have hh := look_holds el ha
                  exact call_end (x := .own o) S T B nd oc st hl S'.obj (lvOf S') S'.fdom ⟨a, u, rfl, h1, h2, S'.sep _ a hh, .inl ⟨_, hh⟩, fun k o' q1 q2 => nomatch S'.apart (.slot i) (.obj k) a hh ⟨⟨o', q1⟩, q2⟩⟩ h
                · exact h.elim
          | obj k =>
            simp only [finish] at h
            cases ez : frz (.at (.obj k)) e' with
            | no => simp only [ez] at h; exact h.elim
            | ex z e2 => exact absurd ez frz_ex
            | ok d e2 =>
              simp only [ez] at h
              split at h
              · rename_i hl
                obtain ⟨F2, S2, fr, st2, _⟩ := frz_ok S' t ez
                exact call_end (x := .val d) S T B nd oc (st.trans st2 fun _ z => z) hl S2.obj (lvOf S2) S2.fdom fr h
              · exact h.elim
    · exact h.elim
end Mi

/-! Mi9.lean -/
set_option Elab.async false
set_option linter.all false
set_option maxRecDepth 100000
/-! defs: kept promises under known guards; their calls -/
namespace Mi
open PySem L2 PySem.Spec PyProof.Rows
variable {P : Program} {w : World} {K : PySem.W.Frag} {mg : Str → Option Value} {base : Heap} {α : List Addr} {r : En}

/-- a def keeps its promise wherever no repr is under way -/
structure FnG (P : Program) (w : World) (K : PySem.W.Frag) (mg : Str → Option Value) (base : Heap) (k : Nat) (f : Addr) (fd : FuncData) (ps : List Str) (sp : Sp) : Prop where
  len : ∀ vs H Q E, sp vs H Q E → vs.length = ps.length
  run : ∀ (A : Around) (outer : List Env) (s : Shared) (H : Hp) (args : Args) (us : List Value) (vs : List V) (Q : VK) (E : XK), Room k A → A.guards = some [] → Env0 P w K mg base A outer s H →
    BindsTo s fd args (ps.zip us) → Vals vs us → sp vs H Q E → codeAny (model P w) A (.call (.ref f) args) (L2.CR (L2.CX P w) outer P w H s Q E) s
theorem FnG.mono {j k : Nat} {f : Addr} {fd : FuncData} {ps : List Str} {sp : Sp} (F : FnG P w K mg base j f fd ps sp) (h : j ≤ k) : FnG P w K mg base k f fd ps sp :=
  ⟨F.len, fun A outer s H args us vs Q E hr => F.run A outer s H args us vs Q E (hr.mono h)⟩
/-- a def of the text, from its body -/
theorem fg_of {k n np : Nat} {x qual : Str} {st : Stmt} {f : Addr} {fd : FuncData} {N ps : List Str} {bd : Stm} (F : Fun K x qual st f fd) (S : FnScope N ps (defScope st)) (hN : N.length = n) (hp : ps.length = np)
    (hb : ∀ (cdv : Value) (A : Around) (outer : List Env) (s : Shared) (H : Hp) (β : List Addr) (E : XK), Room k (A.deeper (envOfC qual (defScope st) s.heap.objs.size f cdv)) → A.guards = some [] →
      L2.Takes (cxOf (L2.CX P w) P w K mg base N qual (defScope st) f cdv A outer s H E) (fun cls d _ H2 => E cls d H2) →
      PassesOwn (model P w) (cxOf (L2.CX P w) P w K mg base N qual (defScope st) f cdv A outer s H E).A (cxOf (L2.CX P w) P w K mg base N qual (defScope st) f cdv A outer s H E).env (cxOf (L2.CX P w) P w K mg base N qual (defScope st) f cdv A outer s H E).xe →
      PSs (cxOf (L2.CX P w) P w K mg base N qual (defScope st) f cdv A outer s H E) (defBody st) (tS K β (fun cls d _ H2 => E cls d H2) bd)) : FnG P w K mg base (k + 1) f fd ps (spF K np n bd) := by
  obtain ⟨oc, od, kV, doc, pm, an, cdv, ct, osl, rfl, lk, hcd⟩ := F.ex
  refine ⟨fun vs H Q E h => h.1.trans hp.symm, fun A outer s H args us vs Q E hr hgd e0 hbi rv hsp => ?_⟩
  obtain ⟨hlen, as, β, Fz, N', hN', S0, hA⟩ := hsp
  have KX : K.In s.heap := e0.mod.kin.keeps fun b o e => (e0.bs b o e).1
  have named : ∀ y ∈ ps.zip us, (defScope st).names.lookup y.1 = some .local ∨ ((defScope st).names.lookup y.1 = some .cell ∧ ((cellsFrom (s.heap.objs.size + 1) (defScope st).names []).lookup y.1).isSome = true) := by
    rintro ⟨m, u⟩ hy
    exact (S.par m (List.of_mem_zip hy).1).imp id fun q => ⟨q, PySem.W.cellsFrom_some _ _ _ (.inl q)⟩
  refine codeAny_call_function hr.depth (KX _ _ lk) rfl S.co S.gen rfl (PySem.W.codeRec_of KX hcd) (hbi _ _ _ _ ?_)
  refine wpAny_newFunctionEnv_cells S.kind named fun env he s1 ent => ?_
  subst he
  have lim : s.heap.NoLimit := e0.mod.nolimit.keeps fun b o e => (e0.bs b o e).1
  refine ⟨lim.keeps ent.toInCall.keep, codeAny_func ?_⟩
  have I := inv_start (CX := L2.CX P w) (E := E) S hr.hd e0 (hlen.trans hp.symm) rv ent
  have hst : L2.start N' vs = L2.start N vs := by
    unfold L2.start
    rw [hN', hN]
  rw [hst] at S0 hA
  refine wpAny_mono ((hb cdv A outer s H β E (hr.deeper _) hgd (takes_of rfl rfl rfl rfl) (passes_of rfl)).run [] s1 (L2.start N vs) H _ I ⟨entry n as, Fz, S0, hA⟩) (fun fl s' q => ?_) fun e s' q => q
  cases fl with
  | brk => obtain ⟨_, _, _, z⟩ := q; exact z.elim
  | cont => obtain ⟨_, _, _, z⟩ := q; exact z.elim
  | next => obtain ⟨σ', H', J, z⟩ := q; exact ⟨V.non, H', J.os, J.bare, J.base, J.hok, rfl, z⟩
  | ret u => obtain ⟨v, σ', H', J, rv', z⟩ := q; exact ⟨v, H', J.os, J.bare, J.base, J.hok, rv', z⟩

section
variable {X : Cx} {x : Str} {p pos : Pos} {e : Expr} {es : List Expr} {k np n : Nat} {f : Addr} {fd : FuncData} {ps : List Str} {bd : Stm} {g : M (List Rv)}
theorem run_fg {sp : Sp} {W : L2.WX} {pins : List (Addr × Obj)} {σ : L2.St} {H : Hp} {s : Shared} {Q : VK} {us : List Value} {vs : List V} {args : Args} (F : FnG X.prog X.w X.K X.mg X.base k f fd ps sp) (hr : Room k X.A) (hgd : X.A.guards = some []) (tk : L2.Takes X W)
    (hb : BindsTo s fd args (ps.zip us)) (I : Inv X pins σ H s) (rv : Vals vs us) (h : sp vs H Q (fun cls d H2 => W cls d σ H2)) : codeAny (model X.prog X.w) X.A (.call (.ref f) args) (fun r s' => match r with
      | .ok (.ret v) => EP X pins σ Q v s'
      | .ok _ => False
      | .error e => X.xe e s') s := by
  refine codeAny_mono (F.run X.A X.stack s H args us vs Q _ hr hgd I.env0 hb rv h) fun res s' q => ?_
  match res, q with
  | .ok (.ret u), q => exact I.after q
  | .ok .next, q => exact q
  | .ok .brk, q => exact q
  | .ok .cont, q => exact q
  | .error e, q => exact tk e s' (XE.of_call I (fun _ _ _ h => h) q)
/-- the arguments in a row -/
theorem args_ok {G : List Ag → FR} {σ : L2.St} {H : Hp} {Q : VK} (h : tE K α W (callE G g) σ H Q) : tR K α W g σ H fun vs H1 => ∃ r1 F1 xs, SR K α r1 σ H1 F1 ∧ TRs K α r1 σ H1 F1 xs vs ∧ Aft K α σ (OwnTs α r1 σ xs vs) H1 F1 W (callF G xs r1) Q := by
  obtain ⟨r, F, S, h⟩ := h
  refine ⟨r, F, S, ?_⟩
  unfold callE M.bnd at h
  cases e : g r with
  | no => rw [e] at h; exact h
  | ex z r1 => rw [e] at h; exact h
  | ok xs r1 =>
    rw [e] at h
    exact fun vs H1 F1 S1 st T => ⟨r1, F1, xs, S1, T, h.step st fun _ z => z⟩
theorem ar_nil : PA X [] (tR K α W nilR) := pa_weak pa_nil fun _ _ _ q => nilR_ok q
theorem ar_cons {a : M Rv} (h : PE X e (tE K α W a)) (h2 : PA X es (tR K α W g)) (hs : starEach (e :: es) X.env = (false, eval e X.env) :: starEach es X.env := by rfl) : PA X (e :: es) (tR K α W (consR a g)) := pa_weak (pa_cons h h2 hs) fun _ _ _ q => consR_ok q
/-- f(e, ..) -/
theorem ev_call (F : FnG X.prog X.w X.K X.mg X.base k f fd ps (spF X.K np n bd)) (hr : Room k X.A) (hgd : X.A.guards = some []) (tk : L2.Takes X W) (hg : Gl X x) (hm : X.mg x = some (.ref f)) (hk : PySem.W.keepIn X.K (.ref f) = true) (hb : Binds X.K fd ps [])
    (hps : ps.length = np) (hn : np ≤ n) (ha : PA X (e :: es) (tR X.K α W g)) (hdb : (x == ("__debug__" : Str)) = false := by decide) (he : starEach (e :: es) X.env = (false, eval e X.env) :: starEach es X.env := by rfl)
    (hpl : (backTo pos (starEach es X.env)).any (·.1) = false := by rfl) : PE X (.Call (.Name x p) (e :: es) [] pos) (tE X.K α W (callE (runF np n bd) g)) := ⟨fun pins s σ H Q I h => by
  refine wpAny_Call_Name_kw (ld_glob I hg hm ?_ hdb)
  have key := args_ok h
  refine PySem.W.callWith_K (h₀ := X.base) I.ok.mod.kin hk (thn (ha.run pos pins s σ H _ I key) fun us s1 ⟨vs, H1, I1, rv, r1, F1, xs, S1, T, q⟩ => ⟨I1.kIn, ?_⟩) he hpl
  have sp := call_ok hn S1 T q
  have hl : us.length = ps.length := by rw [← rv.length, hps]; exact sp.1
  have b := hb s1 us I1.kIn (by simpa using hl)
  rw [List.append_nil] at b
  exact wpAny_call (run_fg F hr hgd tk b I1 rv sp)⟩
theorem ev_call0 (F : FnG X.prog X.w X.K X.mg X.base k f fd ps (spF X.K np n bd)) (hr : Room k X.A) (hgd : X.A.guards = some []) (tk : L2.Takes X W) (hg : Gl X x) (hm : X.mg x = some (.ref f)) (hk : PySem.W.keepIn X.K (.ref f) = true) (hb : Binds X.K fd ps [])
    (hps : ps.length = np) (hn : np ≤ n) (hdb : (x == ("__debug__" : Str)) = false := by decide) : PE X (.Call (.Name x p) [] [] pos) (tE X.K α W (callE (runF np n bd) nilR)) := ⟨fun pins s σ H Q I h => by
  refine wpAny_Call_Name_kw (ld_glob I hg hm ?_ hdb)
  have key := args_ok h
  refine PySem.W.callWith_K0 I.kIn hk ?_
  obtain ⟨r1, F1, xs, S1, T, q⟩ := nilR_ok key
  have sp := call_ok hn S1 T q
  have hl : ([] : List Value).length = ps.length := by rw [hps]; exact sp.1
  have b := hb s [] I.kIn (by simpa using hl)
  rw [List.append_nil] at b
  exact wpAny_call (run_fg F hr hgd tk b I .nil sp)⟩
/-- f(k = v, ..), all by name; perm: the parameters' order of the values -/
def permL {β : Type} (pm : List Nat) (xs : List β) : List β := pm.filterMap fun i => xs[i]?
def callK (pm : List Nat) (G : List Ag → FR) (f : M (List Rv)) : M Rv := M.bnd f fun xs => callF G (permL pm xs)
end
end Mi

/-! Mi10.lean -/
set_option Elab.async false
set_option linter.all false
set_option maxRecDepth 100000
/-! loops and comprehensions -/
namespace Mi
open PySem L2 PySem.Spec PyProof.Rows
variable {K : PySem.W.Frag} {α : List Addr} {r r' : En} {σ : L2.St} {H H' : Hp} {F F' : Addr → Prop}

/-- what is walked: the item at a turn (none: the end), the most turns -/
structure Src where
  nth : En → Nat → Option (Option PyData)
  fuel : Nat
/-- an item drawn: the heap as it was, or with a new tuple -/
def Yl (K : PySem.W.Frag) (H : Hp) (F : Addr → Prop) (x : V) (d : PyData) (H' : Hp) : Prop :=
  (H' = H ∧ Fr K H F x d) ∨ ∃ p ts ds, H p = none ∧ H' = upd H p (.tup ts) ∧ x = .ref p ∧ d = .tuple ds ∧ FrAll K H F ts ds
structure SrcOk (K : PySem.W.Frag) (α : List Addr) (s : Src) (J : It) (V : Hp → (Addr → Prop) → Prop) : Prop where
  stay : ∀ H F H' F', V H F → Stay H F H' F' → V H' F'
  turn : ∀ r σ H F i o, SR K α r σ H F → V H F → s.nth r i = some o → match o with
    | none => J.stop i H
    | some d => J.go i H ∧ ∀ x H', J.yld i H x H' → Yl K H F x d H'
def AftI (K : PySem.W.Frag) (α : List Addr) (σ : L2.St) (O : Addr → Prop) (H : Hp) (F : Addr → Prop) (W : L2.WX) (x : Res Src) (R : It → Hp → Prop) : Prop :=
  match x with
  | .ok s e => ∀ J V H' F', SR K α e σ H' F' → Step O H F H' F' (Own α e σ) → SrcOk K α s J V → V H' F' → R J H'
  | .ex x e => AftX K α σ O H F W x e
  | .no => False
/-- an iterable by its evaluator -/
def tI (K : PySem.W.Frag) (α : List Addr) (W : L2.WX) (f : M Src) : TI := fun σ H R => ∃ r F, SR K α r σ H F ∧ AftI K α σ (Own α r σ) H F W (f r) R
theorem pi_weak {X : Cx} {tg e : Expr} {t t' : TI} (h : PI X tg e t) (w : ∀ σ H R, t' σ H R → t σ H R) : PI X tg e t' := ⟨fun pins s σ H R I q => h.run pins s σ H R I (w σ H R q)⟩
theorem pi_or {X : Cx} {tg e : Expr} {t t' : TI} (h : PI X tg e t) (h' : PI X tg e t') : PI X tg e (fun σ H R => t σ H R ∨ t' σ H R) :=
  ⟨fun pins s σ H R I q => q.elim (fun q => h.run pins s σ H R I q) fun q => h'.run pins s σ H R I q⟩
/-! lists and tuples -/
def lstNth (x : Rv) (r : En) (i : Nat) : Option (Option PyData) := match peek r x with
  | some (.list ds) => some ds[i]?
  | _ => none
def tupNth (x : Rv) (r : En) (i : Nat) : Option (Option PyData) := match peek r x with
  | some (.tuple ds) => some ds[i]?
  | _ => none
def lenD : PyData → Nat
  | .list ds => ds.length
  | .tuple ds => ds.length
  | _ => 0
/-- a source that may be walked: frozen, or an object of the caller's -/
def hold (x : Rv) : M Rv := fun r => match x with
  | .at (.obj k) => .ok x r
  | _ => match frz x r with
    | .ok d r1 => .ok (.val d) r1
    | .ex e r1 => .ex e r1
    | .no => .no
def seqI (f : M Rv) : M Src := M.bnd f fun x => M.bnd (hold x) fun y r => match peek r y with
  | some (.list ds) => .ok ⟨lstNth y, ds.length⟩ r
  | some (.tuple ds) => .ok ⟨tupNth y, ds.length⟩ r
  | _ => .no
/-- what a held source leans on -/
def HV (K : PySem.W.Frag) (α : List Addr) (y : Rv) (v : V) (H : Hp) (F : Addr → Prop) : Prop := match y with
  | .val d => Fr K H F v d
  | .at (.obj k) => ∃ a, v = .ref a ∧ α[k]? = some a
  | _ => False
theorem HV.stay {y : Rv} {v : V} (h : HV K α y v H F) (s : Stay H F H' F') : HV K α y v H' F' := by
  cases y with
  | val d => exact Fr.stay s h
  | own o => exact h
  | «at» l => cases l <;> exact h
theorem HV.tr {y : Rv} {v : V} (h : HV K α y v H F) (r : En) (σ : L2.St) : TR K α r σ H F y v := by
  cases y with
  | val d => exact h
  | own o => exact h.elim
  | «at» l => cases l with
    | slot i => exact h.elim
    | obj k => exact h
theorem hold_ok (S : SR K α r σ H F) {x y : Rv} {v : V} (t : TR K α r σ H F x v) (e : hold x r = .ok y r') :
    ∃ F', SR K α r' σ H F' ∧ HV K α y v H F' ∧ Step (OwnT α r σ x v) H F H F' (Own α r' σ) := by
  have gen : (match frz x r with
    | .ok d r1 => (.ok (.val d) r1 : Res Rv)
    | .ex e r1 => .ex e r1
    | .no => .no) = .ok y r' → ∃ F', SR K α r' σ H F' ∧ HV K α y v H F' ∧ Step (OwnT α r σ x v) H F H F' (Own α r' σ) := fun e => by
    cases ez : frz x r with
    | no => rw [ez] at e; cases e
    | ex z r1 => rw [ez] at e; cases e
    | ok d r1 =>
      rw [ez] at e
      cases e
      obtain ⟨F1, S1, fr, st, _⟩ := frz_ok S t ez
      exact ⟨F1, S1, fr, st⟩
  cases x with
  | val d => exact gen e
  | own o => exact gen e
  | «at» l => cases l with
    | slot i => exact gen e
    | obj k => cases e; exact ⟨F, S, t, Step.refl fun _ z => .inl z⟩
theorem hold_ex {x : Rv} {z : Exc} : hold x r ≠ .ex z r' := fun e => by
  have gen : (match frz x r with
    | .ok d r1 => (.ok (.val d) r1 : Res Rv)
    | .ex e r1 => .ex e r1
    | .no => .no) = .ex z r' → False := fun e => by
    cases ez : frz x r with
    | no => rw [ez] at e; cases e
    | ex z r1 => exact absurd ez frz_ex
    | ok d r1 => rw [ez] at e; cases e
  cases x with
  | val d => exact gen e
  | own o => exact gen e
  | «at» l => cases l with
    | slot i => exact gen e
    | obj k => cases e
theorem get_some {β : Type} {xs : List β} {i : Nat} {x : β} (h : xs[i]? = some x) : i < xs.length := (List.getElem?_eq_some_iff.mp h).1
theorem get_none {β : Type} {xs : List β} {i : Nat} (h : xs[i]? = none) : xs.length ≤ i := List.getElem?_eq_none_iff.mp h
theorem src_list {y : Rv} {a : Addr} {n : Nat} : SrcOk K α ⟨lstNth y, n⟩ (Itl K a) (HV K α y (.ref a)) where
  stay := fun _ _ _ _ h s => h.stay s
  turn := fun r σ H F i o S h e => by
    have e : lstNth y r i = some o := e
    unfold lstNth at e
    split at e
    · rename_i ds q
      injection e with e
      subst e
      obtain ⟨a', xs, e1, h1, h2⟩ := (peek_rel S (h.tr r σ) q).list
      cases e1
      cases g : ds[i]? with
      | none => exact ⟨xs, h1, by rw [h2.len]; exact get_none g⟩
      | some d =>
        obtain ⟨x, gx, fx⟩ := h2.get g
        exact ⟨⟨xs, x, h1, gx⟩, fun z H' yl => .inl ⟨yl.1, by
          have := yl.2 xs h1
          rw [gx] at this; cases this
          exact fx⟩⟩
    · cases e
theorem src_tup {y : Rv} {a : Addr} {n : Nat} : SrcOk K α ⟨tupNth y, n⟩ (Itt K a) (HV K α y (.ref a)) where
  stay := fun _ _ _ _ h s => h.stay s
  turn := fun r σ H F i o S h e => by
    have e : tupNth y r i = some o := e
    unfold tupNth at e
    split at e
    · rename_i ds q
      injection e with e
      subst e
      obtain ⟨a', xs, e1, h1, h2⟩ := (peek_rel S (h.tr r σ) q).tup
      cases e1
      cases g : ds[i]? with
      | none => exact ⟨xs, h1, by rw [h2.len]; exact get_none g⟩
      | some d =>
        obtain ⟨x, gx, fx⟩ := h2.get g
        exact ⟨⟨xs, x, h1, gx⟩, fun z H' yl => .inl ⟨yl.1, by
          have := yl.2 xs h1
          rw [gx] at this; cases this
          exact fx⟩⟩
    · cases e
theorem seq_ok {f : M Rv} {R : It → Hp → Prop} (h : tI K α W (seqI f) σ H R) : iList K (tE K α W f) σ H R ∨ iTup K (tE K α W f) σ H R := by
  obtain ⟨r, F, S, h⟩ := h
  unfold seqI M.bnd at h
  cases e : f r with
  | no => simp only [e] at h; exact h.elim
  | ex z r1 => simp only [e] at h; exact .inl ⟨r, F, S, by rw [e]; exact h⟩
  | ok x r1 =>
    simp only [e] at h
    cases e2 : hold x r1 with
    | no => simp only [e2] at h; exact h.elim
    | ex z r2 => exact absurd e2 hold_ex
    | ok y r2 =>
      simp only [e2] at h
      split at h
      · rename_i ds q
        refine .inl ⟨r, F, S, ?_⟩
        rw [e]
        intro v H1 F1 S1 st t
        obtain ⟨F2, S2, hv, st2⟩ := hold_ok S1 t e2
        obtain ⟨a, xs, rfl, h1, h2⟩ := (peek_rel S2 (hv.tr r2 σ) q).list
        exact ⟨a, rfl, ⟨xs, h1⟩, h _ _ H1 F2 S2 (st.trans st2 fun _ z => z) src_list hv⟩
      · rename_i ds q
        refine .inr ⟨r, F, S, ?_⟩
        rw [e]
        intro v H1 F1 S1 st t
        obtain ⟨F2, S2, hv, st2⟩ := hold_ok S1 t e2
        obtain ⟨a, xs, rfl, h1, h2⟩ := (peek_rel S2 (hv.tr r2 σ) q).tup
        exact ⟨a, rfl, ⟨xs, h1⟩, h _ _ H1 F2 S2 (st.trans st2 fun _ z => z) src_tup hv⟩
      · exact h.elim
/-! range(n), range(a, b) -/
def rngNth (lo : Int) (n : Nat) (_ : En) (i : Nat) : Option (Option PyData) := if i < n then some (some (.int (lo + i))) else some none
def rng1 (f : M Rv) : M Src := M.bnd f fun x r => match peek r x with
  | some (.int j) => if -(2 ^ 62) ≤ j ∧ j < 2 ^ 62 then .ok ⟨rngNth 0 j.toNat, j.toNat⟩ r else .no
  | _ => .no
def rng2 (f g : M Rv) : M Src := M.bnd f fun x => M.bnd g fun y r => match peek r x, peek r y with
  | some (.int i), some (.int j) => if (-(2 ^ 62) ≤ i ∧ i < 2 ^ 62) ∧ -(2 ^ 62) ≤ j ∧ j < 2 ^ 62 then .ok ⟨rngNth i (j - i).toNat, (j - i).toNat⟩ r else .no
  | _, _ => .no
theorem src_rng {lo : Int} {n : Nat} : SrcOk K α ⟨rngNth lo n, n⟩ (Itr lo n) (fun _ _ => True) where
  stay := fun _ _ _ _ h s => h
  turn := fun r σ H F i o S h e => by
    have e : rngNth lo n r i = some o := e
    unfold rngNth at e
    split at e
    · rename_i hi
      injection e with e
      subst e
      exact ⟨hi, fun x H' y => .inl ⟨y.1, by rw [y.2]; exact .int _⟩⟩
    · rename_i hi
      injection e with e
      subst e
      exact Nat.le_of_not_lt hi
theorem tE_bndI {f : M Rv} {g : Rv → M Src} {R : It → Hp → Prop} (S : SR K α r σ H F) (h : AftI K α σ (Own α r σ) H F W (M.bnd f g r) R) :
    tE K α W f σ H fun v H1 => ∃ r1 F1 x, SR K α r1 σ H1 F1 ∧ Step (Own α r σ) H F H1 F1 (OwnT α r1 σ x v) ∧ TR K α r1 σ H1 F1 x v ∧ AftI K α σ (Own α r1 σ) H1 F1 W (g x r1) R := by
  refine ⟨r, F, S, ?_⟩
  unfold M.bnd at h
  cases e : f r with
  | ok x r1 =>
    rw [e] at h
    have h : AftI K α σ (Own α r σ) H F W (g x r1) R := h
    intro v H1 F1 a b c
    refine ⟨r1, F1, x, a, b, c, ?_⟩
    cases e2 : g x r1 with
    | no => rw [e2] at h; exact h
    | ex z r2 => rw [e2] at h; exact AftX.step h b fun _ z => .inl z
    | ok s r2 => rw [e2] at h; exact fun J V H' F' S' st' => h J V H' F' S' (b.trans st' fun _ z => .inl z)
  | ex x r1 => rw [e] at h; exact h
  | no => rw [e] at h; exact h.elim
theorem rng1_ok {f : M Rv} {R : It → Hp → Prop} (h : tI K α W (rng1 f) σ H R) : iRng1 (tCons (tE K α W f) tNil) σ H R := by
  obtain ⟨r, F, S, h⟩ := h
  refine tE_mono (tE_bndI S h) fun v H1 ⟨r1, F1, x, S1, st, t, h1⟩ => ?_
  split at h1
  · rename_i j q
    split at h1
    · rename_i hj
      exact ⟨j, by rw [(peek_rel S1 t q).int], hj.1, hj.2, h1 _ _ H1 F1 S1 (Step.refl fun _ z => z) src_rng trivial⟩
    · exact h1.elim
  · exact h1.elim
theorem rng2_ok {f g : M Rv} {R : It → Hp → Prop} (h : tI K α W (rng2 f g) σ H R) : iRng2 (tCons (tE K α W f) (tCons (tE K α W g) tNil)) σ H R := by
  obtain ⟨r, F, S, h⟩ := h
  refine tE_mono (tE_bndI S h) fun v H1 ⟨r1, F1, x, S1, st1, t1, h1⟩ => tE_mono (tE_bndI S1 h1) fun w H2 ⟨r2, F2, y, S2, st2, t2, h2⟩ => ?_
  have t1' := t1.step st2 fun _ z => .inl z
  split at h2
  · rename_i i j q1 q2
    split at h2
    · rename_i hj
      exact ⟨i, j, by rw [(peek_rel S2 t1' q1).int, (peek_rel S2 t2 q2).int], ⟨hj.1.1, hj.1.2, hj.2.1, hj.2.2⟩, h2 _ _ H2 F2 S2 (Step.refl fun _ z => z) src_rng trivial⟩
    · exact h2.elim
  · exact h2.elim
/-! enumerate(xs) -/
def enuNth (x : Rv) (r : En) (i : Nat) : Option (Option PyData) := match peek r x with
  | some (.list ds) => some (ds[i]?.map fun d => .tuple [.int (i : Nat), d])
  | _ => none
def enuI (f : M Rv) : M Src := M.bnd f fun x => M.bnd (hold x) fun y r => match peek r y with
  | some (.list ds) => .ok ⟨enuNth y, ds.length⟩ r
  | _ => .no
theorem src_enu {y : Rv} {a : Addr} {n : Nat} : SrcOk K α ⟨enuNth y, n⟩ (Ite K a) (HV K α y (.ref a)) where
  stay := fun _ _ _ _ h s => h.stay s
  turn := fun r σ H F i o S h e => by
    have e : enuNth y r i = some o := e
    unfold enuNth at e
    split at e
    · rename_i ds q
      injection e with e
      subst e
      obtain ⟨a', xs, e1, h1, h2⟩ := (peek_rel S (h.tr r σ) q).list
      cases e1
      cases g : ds[i]? with
      | none => exact ⟨xs, h1, by rw [h2.len]; exact get_none g⟩
      | some d =>
        obtain ⟨x, gx, fx⟩ := h2.get g
        refine ⟨⟨xs, x, h1, gx⟩, fun z H' ⟨T, x', e1, e2, e3, e4⟩ => .inr ⟨T, _, [.int (i : Nat), d], e2, e3, e1, rfl, .cons (.int _) (.cons ?_ .nil)⟩⟩
        have := e4 xs h1
        rw [gx] at this; cases this
        exact fx
    · cases e
theorem enu_ok {f : M Rv} {R : It → Hp → Prop} (h : tI K α W (enuI f) σ H R) : iEnum K (tCons (tE K α W f) tNil) σ H R := by
  obtain ⟨r, F, S, h⟩ := h
  unfold enuI M.bnd at h
  refine ⟨r, F, S, ?_⟩
  cases e : f r with
  | no => simp only [e] at h; exact h.elim
  | ex z r1 => simp only [e] at h; exact h
  | ok x r1 =>
    simp only [e] at h
    cases e2 : hold x r1 with
    | no => simp only [e2] at h; exact h.elim
    | ex z r2 => exact absurd e2 hold_ex
    | ok y r2 =>
      simp only [e2] at h
      split at h
      · rename_i ds q
        intro v H1 F1 S1 st t
        obtain ⟨F2, S2, hv, st2⟩ := hold_ok S1 t e2
        obtain ⟨a, xs, rfl, h1, h2⟩ := (peek_rel S2 (hv.tr r2 σ) q).list
        exact ⟨a, xs, rfl, h1, h _ _ H1 F2 S2 (st.trans st2 fun _ z => z) src_enu hv⟩
      · exact h.elim
section
variable {X : Cx} {tg l a b : Expr} {f g : M Rv} {p pos : Pos}
theorem iv_seq (hl : PE X l (tE X.K α W f)) : PI X tg l (tI X.K α W (seqI f)) := pi_weak (pi_or (pi_list hl) (pi_tup hl)) fun _ _ _ q => seq_ok q
theorem iv_rng1 (hg : Gl X "range") (hm : X.mg "range" = none) (ha : PE X a (tE K α W f)) (hs : starEach [a] X.env = [(false, eval a X.env)] := by rfl) : PI X tg (.Call (.Name "range" p) [a] [] pos) (tI K α W (rng1 f)) :=
  pi_weak (pi_range1 hg hm (pa_cons ha pa_nil hs) hs) fun _ _ _ q => rng1_ok q
theorem iv_rng2 (hg : Gl X "range") (hm : X.mg "range" = none) (ha : PE X a (tE K α W f)) (hb : PE X b (tE K α W g)) (hs : starEach [a, b] X.env = [(false, eval a X.env), (false, eval b X.env)] := by rfl) (hs2 : starEach [b] X.env = [(false, eval b X.env)] := by rfl) :
    PI X tg (.Call (.Name "range" p) [a, b] [] pos) (tI K α W (rng2 f g)) := pi_weak (pi_range2 hg hm (pa_cons ha (pa_cons hb pa_nil hs2) (by rw [hs, hs2])) hs hs2) fun _ _ _ q => rng2_ok q
theorem iv_enu {elts : List Expr} {kk : Nat} {tpos : Pos} (hg : Gl X "enumerate") (hm : X.mg "enumerate" = none) (ha : PE X a (tE X.K α W f)) (hs : starEach [a] X.env = [(false, eval a X.env)] := by rfl) :
    PI X (.Tuple elts kk tpos) (.Call (.Name "enumerate" p) [a] [] pos) (tI X.K α W (enuI f)) := pi_weak (pi_enum hg hm (pa_cons ha pa_nil hs) hs) fun _ _ _ q => enu_ok q
end
/-! ### targets of loops -/
structure TgOk (K : PySem.W.Frag) (α : List Addr) (g : TG) (tg : PyData → En → Option En) (T : List Nat) : Prop where
  go : ∀ (r r1 : En) (σ : L2.St) (H : Hp) (F : Addr → Prop) (x : V) (d : PyData) (Q : L2.St → Hp → Prop), SR K α r σ H F → Fr K H F x d → tg d r = some r1 →
    (∀ σ', SR K α r1 σ' H F → (∀ a, Own α r1 σ' a → Own α r σ a) → wipe σ' T = wipe σ T → Q σ' H) → g x σ H Q
theorem wipe_set (v : Option V) : ∀ (T : List Nat) (σ : L2.St) (i : Nat), i ∈ T → wipe (σ.set i v) T = wipe σ T
  | [], _, _, h => by simp at h
  | t :: T, σ, i, h => by
    unfold wipe
    by_cases e : i ∈ T
    · rw [wipe_set v T σ i e]
    · have e2 : i = t := (List.mem_cons.mp h).elim id fun z => absurd z e
      subst e2
      have comm : ∀ (T : List Nat) (σ : L2.St), i ∉ T → wipe (σ.set i v) T = (wipe σ T).set i v := by
        intro T
        induction T with
        | nil => intro σ _; rfl
        | cons t T ih =>
          intro σ n
          unfold wipe
          rw [ih σ fun z => n (List.mem_cons_of_mem _ z), List.set_comm]
          exact fun z => n (by rw [z]; exact List.mem_cons_self)
      rw [comm T σ e, List.set_set]
theorem tg_name (i : Nat) : TgOk K α (gName i) (fun d r => some (put r i (.val d))) [i] := ⟨fun r r1 σ H F x d Q S h e q => by
  cases e
  refine q _ (S.put (s := .val d) h fun o a z => nomatch z) (fun a z => ?_) (wipe_set _ [i] σ i (by simp))
  rcases put_own z with z | ⟨⟨o, z⟩, _⟩
  · exact z
  · cases z⟩
def tgTup (is : List Nat) (d : PyData) (r : En) : Option En := match d with
  | .tuple ds => bindL is ds r
  | _ => none
theorem gNames_w {T : List Nat} : ∀ {is : List Nat} {ds : List PyData} {vs : List V} {r r1 : En} {σ : L2.St} {H : Hp} {F : Addr → Prop} {Q : L2.St → Hp → Prop}, (∀ i ∈ is, i ∈ T) → SR K α r σ H F → FrAll K H F vs ds → bindL is ds r = some r1 →
    (∀ σ', SR K α r1 σ' H F → (∀ a, Own α r1 σ' a → Own α r σ a) → wipe σ' T = wipe σ T → Q σ' H) → vs.length = is.length ∧ gNames is vs σ H Q
  | [], [], _, _, _, _, _, _, _, _, S, .nil, e, q => by cases e; exact ⟨rfl, rfl, q _ S (fun _ z => z) rfl⟩
  | i :: is, d :: ds, v :: vs, r, r1, σ, H, F, Q, hT, S, .cons h1 h2, e, q => by
    have S1 : SR K α (put r i (.val d)) (σ.set i (some v)) H F := S.put (s := .val d) h1 fun o a z => nomatch z
    have own : ∀ a, Own α (put r i (.val d)) (σ.set i (some v)) a → Own α r σ a := fun a z => by
      rcases put_own z with z | ⟨⟨o, z⟩, _⟩
      · exact z
      · cases z
    obtain ⟨e1, e2⟩ := gNames_w (T := T) (Q := Q) (fun j hj => hT j (List.mem_cons_of_mem _ hj)) S1 h2 e fun σ' S' o w => q σ' S' (fun a z => own a (o a z)) (w.trans (wipe_set _ T σ i (hT i List.mem_cons_self)))
    exact ⟨by simp [e1], v, vs, rfl, e2⟩
theorem tg_tup (is : List Nat) : TgOk K α (gTup K is.length (gNames is)) (tgTup is) is := ⟨fun r r1 σ H F x d Q S h e q => by
  cases d with
  | tuple ds =>
    obtain ⟨a, xs, rfl, h1, h2⟩ := (Pk.fr h).tup
    obtain ⟨e1, e2⟩ := gNames_w (T := is) (Q := Q) (fun _ z => z) S h2 e q
    exact ⟨a, xs, rfl, h1, e1, e2⟩
  | _ => cases e⟩
end Mi

/-! Mi11.lean -/
set_option Elab.async false
set_option linter.all false
set_option maxRecDepth 100000
/-! for, while, comprehensions -/
namespace Mi
open PySem L2 PySem.Spec PyProof.Rows
variable {K : PySem.W.Frag} {α : List Addr} {r r' : En} {σ : L2.St} {H H' : Hp} {F F' : Addr → Prop}

def forN (nth : En → Nat → Option (Option PyData)) (tg : PyData → En → Option En) (bd : Stm) : Nat → Nat → Stm
  | m, i, r => match nth r i with
    | none => .no
    | some none => .nx r
    | some (some d) => match m with
      | 0 => .no
      | m + 1 => match tg d r with
        | none => .no
        | some r1 => match bd r1 with
          | .nx r2 => forN nth tg bd m (i + 1) r2
          | .ct r2 => forN nth tg bd m (i + 1) r2
          | .bk r2 => .nx r2
          | o => o
def forS (it : M Src) (tg : PyData → En → Option En) (bd : Stm) : Stm := ofM it fun s r => forN s.nth tg bd s.fuel 0 r
theorem yl_sr (S : SR K α r σ H F) {x : V} {d : PyData} (y : Yl K H F x d H') : SR K α r σ H' F ∧ Fr K H' F x d ∧ Step (Own α r σ) H F H' F (Own α r σ) := by
  rcases y with ⟨e, f⟩ | ⟨p, ts, ds, hp, e, e2, e3, f⟩
  · subst e; exact ⟨S, f, Step.refl fun _ z => z⟩
  · subst e e2 e3
    exact ⟨S.new _ hp, .tup (.inl (.inl upd_same)) (f.stay (stay_new S _ hp)), step_new S _ hp fun a z => .inl z⟩
theorem for_ok {it : M Src} {g : TG} {tg : PyData → En → Option En} {T : List Nat} {bd : Stm} {D : Ends} (ht : TgOk K α g tg T) (h : tS K α W (forS it tg bd) D σ H) : tFor (tI K α W it) g (tS K α W bd) D σ H := by
  obtain ⟨r, F, S, h⟩ := h
  refine ⟨r, F, S, ?_⟩
  unfold forS ofM at h
  cases e : it r with
  | no => rw [e] at h; exact h
  | ex z r1 => rw [e] at h; exact h σ
  | ok s r1 =>
    rw [e] at h
    have h : AftS K α (Own α r σ) H F W (forN s.nth tg bd s.fuel 0 r1) D := h
    intro J V H1 F1 S1 st1 so v1
    refine ⟨fun i m σ H => ∃ r F, SR K α r σ H F ∧ V H F ∧ AftS K α (Own α r σ) H F W (forN s.nth tg bd m i r) D, ⟨s.fuel, r1, F1, S1, v1, h.step st1 fun _ z => z⟩, ?_⟩
    rintro i m σ H ⟨r, F, S, v, h⟩
    unfold forN at h
    cases en : s.nth r i with
    | none => simp only [en] at h; exact h.elim
    | some o =>
      have tn := so.turn r σ H F i o S v en
      cases o with
      | none => simp only [en] at h; exact .inl ⟨tn, AftS.go S h fun _ z => z⟩
      | some d =>
        simp only [en] at h
        obtain ⟨go, yl⟩ := tn
        cases m with
        | zero => exact h.elim
        | succ m =>
          simp only at h
          cases et : tg d r with
          | none => simp only [et] at h; exact h.elim
          | some r2 =>
            simp only [et] at h
            refine .inr ⟨go, fun σ' H' => ∃ r F, SR K α r σ' H' F ∧ V H' F ∧ AftS K α (Own α r σ') H' F W (forN s.nth tg bd m (i + 1) r) D, fun σ' H' q => ⟨m, Nat.lt_succ_self m, q⟩, fun x H' y => ?_⟩
            obtain ⟨S2, fx, st2⟩ := yl_sr S (yl x H' y)
            refine ht.go r r2 σ H' F x d _ S2 fx et fun σ3 S3 ow _ => ⟨r2, F, S3, ?_⟩
            have st3 : Step (Own α r σ) H F H' F (Own α r2 σ3) := st2.more fun a z => ow a z
            have v3 : V H' F := so.stay _ _ _ _ v st2.stay
            cases eb : bd r2 with
            | no => simp only [eb] at h; exact h
            | ex z r3 => simp only [eb] at h; exact AftS.step (x := .ex z r3) (D := D) h st3 fun _ z => z
            | rt z r3 => simp only [eb] at h; exact AftS.step (D := D) h st3 fun _ z => z
            | bk r3 => simp only [eb] at h; exact AftS.step (x := .nx r3) (D := D) h st3 fun _ z => z
            | nx r3 =>
              simp only [eb] at h
              intro σ4 H4 F4 S4 st4
              exact ⟨r3, F4, S4, so.stay _ _ _ _ v3 st4.stay, h.step (st3.trans st4 fun _ z => z) fun _ z => z⟩
            | ct r3 =>
              simp only [eb] at h
              intro σ4 H4 F4 S4 st4
              exact ⟨r3, F4, S4, so.stay _ _ _ _ v3 st4.stay, h.step (st3.trans st4 fun _ z => z) fun _ z => z⟩
/-! while, of at most so many turns -/
def whlN (t : M Bool) (bd : Stm) : Nat → Stm
  | 0, _ => .no
  | m + 1, r => match t r with
    | .no => .no
    | .ex e r1 => .ex e r1
    | .ok false r1 => .nx r1
    | .ok true r1 => match bd r1 with
      | .nx r2 => whlN t bd m r2
      | .ct r2 => whlN t bd m r2
      | .bk r2 => .nx r2
      | o => o
theorem whl_ok {t : M Bool} {bd : Stm} {D : Ends} {m : Nat} (h : tS K α W (whlN t bd m) D σ H) : tWhile (tT K α W t) (tS K α W bd) D σ H := by
  refine ⟨fun m σ H => tS K α W (whlN t bd m) D σ H, ⟨m, h⟩, ?_⟩
  rintro m σ H ⟨r, F, S, h⟩
  cases m with
  | zero => exact h.elim
  | succ m =>
    unfold whlN at h
    refine ⟨r, F, S, ?_⟩
    cases e : t r with
    | no => simp only [e] at h; exact h
    | ex z r1 => simp only [e] at h; exact h σ
    | ok b r1 =>
      simp only [e] at h
      intro H1 F1 S1 st1
      cases b with
      | false => exact iteF (AftS.go (O := Own α r1 σ) S1 (AftS.step (x := .nx r1) (D := D) h st1 fun _ z => z) fun _ z => z)
      | true =>
        refine iteT ⟨fun σ' H' => tS K α W (whlN t bd m) D σ' H', fun σ' H' q => ⟨m, Nat.lt_succ_self m, q⟩, r1, F1, S1, ?_⟩
        cases eb : bd r1 with
        | no => simp only [eb] at h; exact h
        | ex z r3 => simp only [eb] at h; exact AftS.step (x := .ex z r3) (D := D) h st1 fun _ z => z
        | rt z r3 => simp only [eb] at h; exact AftS.step (D := D) h st1 fun _ z => z
        | bk r3 => simp only [eb] at h; exact AftS.step (x := .nx r3) (D := D) h st1 fun _ z => z
        | nx r3 => simp only [eb] at h; exact fun σ4 H4 F4 S4 st4 => ⟨r3, F4, S4, h.step (st1.trans st4 fun _ z => z) fun _ z => z⟩
        | ct r3 => simp only [eb] at h; exact fun σ4 H4 F4 S4 st4 => ⟨r3, F4, S4, h.step (st1.trans st4 fun _ z => z) fun _ z => z⟩
section
variable {X : Cx} {tg i c : Expr} {body : List Stmt} {it : M Src} {g : TG} {tgf : PyData → En → Option En} {T : List Nat} {bd : Stm} {t : M Bool} {pos : Pos}
theorem sv_for (hp : PassesOwn (model X.prog X.w) X.A X.env X.xe) (hc : X.calm = true) (hi : PI X tg i (tI K α W it)) (hg : PG X tg g) (ht : TgOk K α g tgf T) (hb : PSs X body (tS K α W bd)) (hs : ∀ x, foldedSetIterable i X.env x = pure x := by intro _; rfl) : PS X (.For tg i body [] pos) (tS K α W (forS it tgf bd)) := ps_weak (ps_for hp hc hi hg hb hs) fun _ _ _ q => for_ok ht q
theorem sv_while (m : Nat) (hp : PassesOwn (model X.prog X.w) X.A X.env X.xe) (hc : PT X c (tT K α W t)) (hb : PSs X body (tS K α W bd)) : PS X (.While c body [] pos) (tS K α W (whlN t bd m)) := ps_weak (ps_while hp hc hb) fun _ _ _ q => whl_ok q
end
/-! ### [e for x in xs if t] -/
def wipeV (r : En) : List Nat → En
  | [] => r
  | v :: vs => { wipeV r vs with vs := (wipeV r vs).vs.set v none }
/-- the names of the comprehension as they stood ahead -/
def restV (r0 r : En) : List Nat → En
  | [] => r
  | v :: vs => { restV r0 r vs with vs := (restV r0 r vs).vs.set v (r0.vs[v]?.join) }
def calm (r : En) : List Nat → Bool
  | [] => true
  | v :: vs => (match r.vs[v]? with
    | some (some (.own _)) => false
    | some (some (.bor _)) => false
    | _ => true) && calm r vs
def lcN (nth : En → Nat → Option (Option PyData)) (tg : PyData → En → Option En) (T : List Nat) (tt : M Bool) (f : M Rv) : Nat → Nat → List PyData → M (List PyData)
  | m, i, acc, r => match nth r i with
    | none => .no
    | some none => .ok acc r
    | some (some d) => match m with
      | 0 => .no
      | m + 1 => match tg d (wipeV r T) with
        | none => .no
        | some r1 => match tt r1 with
          | .no => .no
          | .ex e r2 => .no
          | .ok false r2 => lcN nth tg T tt f m (i + 1) acc (wipeV r2 T)
          | .ok true r2 => match M.bnd f frz r2 with
            | .no => .no
            | .ex e r3 => .no
            | .ok y r3 => if acc.length < sizeLine then lcN nth tg T tt f m (i + 1) (acc ++ [y]) (wipeV r3 T) else .no
def lcE (it : M Src) (tg : PyData → En → Option En) (T : List Nat) (tt : M Bool) (f : M Rv) : M Rv := M.bnd it fun s r => if calm r T = true then
    (match lcN s.nth tg T tt f s.fuel 0 [] (wipeV r T) with
    | .no => .no
    | .ex e r1 => .no
    | .ok acc r1 => .ok (.own (.lst acc)) (restV r r1 T)) else .no
theorem wipeV_get : ∀ (T : List Nat) {r : En} {i : Nat} {s : Sl}, (wipeV r T).vs[i]? = some (some s) → i ∉ T ∧ r.vs[i]? = some (some s)
  | [], _, _, _, h => ⟨by simp, h⟩
  | t :: T, r, i, s, h => by
    rcases set_get (show ((wipeV r T).vs.set t none)[i]? = some (some s) from h) with ⟨e, q⟩ | ⟨e, q⟩
    · cases q
    · obtain ⟨h1, h2⟩ := wipeV_get T q
      exact ⟨fun z => (List.mem_cons.mp z).elim (fun z => e z.symm) h1, h2⟩
theorem wipeV_os : ∀ (T : List Nat) (r : En), (wipeV r T).os = r.os
  | [], _ => rfl
  | t :: T, r => wipeV_os T r
theorem wipeV_len : ∀ (T : List Nat) (r : En), (wipeV r T).vs.length = r.vs.length
  | [], _ => rfl
  | t :: T, r => by show ((wipeV r T).vs.set t none).length = _; rw [List.length_set]; exact wipeV_len T r
theorem wipe_get : ∀ (T : List Nat) {σ : L2.St} {i : Nat}, i ∉ T → (wipe σ T)[i]? = σ[i]?
  | [], _, _, _ => rfl
  | t :: T, σ, i, h => by
    unfold wipe
    rw [List.getElem?_set_ne (fun e => h (by rw [e]; exact List.mem_cons_self))]
    exact wipe_get T fun z => h (List.mem_cons_of_mem _ z)
theorem wipe_holds {T : List Nat} {l : Lo} {a : Addr} (h : Holds α (wipeV r T) (wipe σ T) l a) : Holds α r σ l a := by
  cases l with
  | slot i =>
    obtain ⟨⟨o, q⟩, h2⟩ := h
    obtain ⟨n, q2⟩ := wipeV_get T q
    rw [wipe_get T n] at h2
    exact ⟨⟨o, q2⟩, h2⟩
  | obj k =>
    obtain ⟨⟨o, q⟩, h2⟩ := h
    rw [wipeV_os] at q
    exact ⟨⟨o, q⟩, h2⟩
theorem SR.wipe (S : SR K α r σ H F) (T : List Nat) : SR K α (wipeV r T) (wipe σ T) H F where
  len := by rw [wipeV_len, wipe_length]; exact S.len
  slot := fun i s q => by
    obtain ⟨n, q2⟩ := wipeV_get T q
    obtain ⟨v, h1, h2⟩ := S.slot i s q2
    exact ⟨v, by rw [wipe_get T n]; exact h1, h2⟩
  obj := fun k b q => S.obj k b (by rw [wipeV_os] at q; exact q)
  apart := fun l l' a h h' => S.apart l l' a (wipe_holds h) (wipe_holds h')
  sep := fun l a h => S.sep l a (wipe_holds h)
  fdom := S.fdom
theorem restV_get : ∀ (T : List Nat) {r0 r : En} {i : Nat} {s : Sl}, (restV r0 r T).vs[i]? = some (some s) → (i ∈ T ∧ r0.vs[i]? = some (some s)) ∨ (i ∉ T ∧ r.vs[i]? = some (some s))
  | [], _, _, _, _, h => .inr ⟨by simp, h⟩
  | t :: T, r0, r, i, s, h => by
    rcases set_get (show ((restV r0 r T).vs.set t (r0.vs[t]?.join))[i]? = some (some s) from h) with ⟨e, q⟩ | ⟨e, q⟩
    · subst e
      refine .inl ⟨List.mem_cons_self, ?_⟩
      cases g : r0.vs[t]? with
      | none => rw [g] at q; cases q
      | some x => rw [g] at q; rw [show x = some s from q]
    · rcases restV_get T q with ⟨h1, h2⟩ | ⟨h1, h2⟩
      · exact .inl ⟨List.mem_cons_of_mem _ h1, h2⟩
      · exact .inr ⟨fun z => (List.mem_cons.mp z).elim (fun z => e z.symm) h1, h2⟩
theorem restV_os : ∀ (T : List Nat) (r0 r : En), (restV r0 r T).os = r.os
  | [], _, _ => rfl
  | t :: T, r0, r => restV_os T r0 r
theorem restV_len : ∀ (T : List Nat) (r0 r : En), (restV r0 r T).vs.length = r.vs.length
  | [], _, _ => rfl
  | t :: T, r0, r => by show ((restV r0 r T).vs.set t _).length = _; rw [List.length_set]; exact restV_len T r0 r
theorem calm_get : ∀ {T : List Nat} {r : En} {i : Nat} {s : Sl}, calm r T = true → i ∈ T → r.vs[i]? = some (some s) → ∃ d, s = .val d
  | [], _, _, _, _, h, _ => by simp at h
  | t :: T, r, i, s, c, h, q => by
    have c : (match r.vs[t]? with
      | some (some (.own _)) => false
      | some (some (.bor _)) => false
      | _ => true) = true ∧ calm r T = true := Bool.and_eq_true_iff.mp c
    rcases List.mem_cons.mp h with e | e
    · subst e
      have c1 := c.1
      rw [q] at c1
      cases s with
      | val d => exact ⟨d, rfl⟩
      | own o => cases c1
      | bor k => cases c1
    · exact calm_get c.2 e q
/-- behind a comprehension -/
theorem SR.rest {r0 : En} {H0 : Hp} {F0 : Addr → Prop} {T : List Nat} (S0 : SR K α r0 σ H0 F0) (S : SR K α r (L2.wipe σ T) H F) (st : Stay H0 F0 H F) (c : calm r0 T = true) :
    SR K α (restV r0 r T) σ H F ∧ ∀ a, Own α (restV r0 r T) σ a → Own α r (L2.wipe σ T) a := by
  have ow : ∀ l a, Holds α (restV r0 r T) σ l a → Holds α r (L2.wipe σ T) l a := fun l a h => by
    cases l with
    | slot i =>
      obtain ⟨⟨o, q⟩, h2⟩ := h
      rcases restV_get T q with ⟨h3, h4⟩ | ⟨h3, h4⟩
      · obtain ⟨d, e⟩ := calm_get c h3 h4
        cases e
      · exact ⟨⟨o, h4⟩, by rw [wipe_get T h3]; exact h2⟩
    | obj k =>
      obtain ⟨⟨o, q⟩, h2⟩ := h
      rw [restV_os] at q
      exact ⟨⟨o, q⟩, h2⟩
  refine ⟨⟨by rw [restV_len, S.len, wipe_length], fun i s q => ?_, fun k b q => S.obj k b (by rw [restV_os] at q; exact q), fun l l' a h h' => S.apart l l' a (ow _ _ h) (ow _ _ h'), fun l a h => S.sep l a (ow _ _ h), S.fdom⟩, fun a ⟨l, h⟩ => ⟨l, ow l a h⟩⟩
  rcases restV_get T q with ⟨h3, h4⟩ | ⟨h3, h4⟩
  · obtain ⟨v, h1, h2⟩ := S0.slot i s h4
    obtain ⟨d, e⟩ := calm_get c h3 h4
    subst e
    exact ⟨v, h1, Fr.stay st h2⟩
  · obtain ⟨v, h1, h2⟩ := S.slot i s h4
    rw [wipe_get T h3] at h1
    exact ⟨v, h1, h2⟩
theorem wipe_wipe : ∀ (T : List Nat) (σ : L2.St), L2.wipe (L2.wipe σ T) T = L2.wipe σ T := fun T σ => by
  have idem : ∀ (T U : List Nat) (σ : L2.St), (∀ t ∈ T, t ∈ U) → wipe (wipe σ U) T = wipe σ U := by
    intro T U σ
    induction T with
    | nil => intro _; rfl
    | cons t T ih =>
      intro h
      show (wipe (wipe σ U) T).set t none = wipe σ U
      rw [ih fun x hx => h x (List.mem_cons_of_mem _ hx)]
      apply List.ext_getElem?
      intro i
      by_cases e : t = i
      · subst e
        have hn : ∀ (U : List Nat) (σ : L2.St), t ∈ U → ∀ x, (wipe σ U)[t]? = some x → x = none := by
          intro U
          induction U with
          | nil => intro σ h; simp at h
          | cons u U ih2 =>
            intro σ h x hx
            rcases set_get (show ((wipe σ U).set u none)[t]? = some x from hx) with ⟨e, q⟩ | ⟨e, q⟩
            · exact q.symm
            · exact ih2 σ ((List.mem_cons.mp h).elim (fun z => absurd z.symm e) id) x q
        by_cases hl : t < (wipe σ U).length
        · rw [List.getElem?_set_self hl, List.getElem?_eq_getElem hl]
          have := hn U σ (h t List.mem_cons_self) _ (List.getElem?_eq_getElem hl)
          rw [this]
        · rw [List.getElem?_eq_none (by simpa using hl), List.getElem?_eq_none (by simpa using hl)]
      · rw [List.getElem?_set_ne e]
  exact idem T T σ fun _ h => h
end Mi

/-! Mi12.lean -/
set_option Elab.async false
set_option linter.all false
set_option maxRecDepth 100000
/-! comprehensions -/
namespace Mi
open PySem L2 PySem.Spec PyProof.Rows
variable {K : PySem.W.Frag} {α : List Addr} {r r' : En} {σ : L2.St} {H H' : Hp} {F F' : Addr → Prop}

/-- a new list that stands aside -/
theorem TR.move {σ' : L2.St} {O' : Addr → Prop} {o : Ob} {v : V} (h : TR K α r σ H F (.own o) v) (s : Step (Own α r σ) H F H' F' O') (ho : ∀ a, Own α r' σ' a → O' a) : TR K α r' σ' H' F' (.own o) v := by
  obtain ⟨a, u, e, hH, hO, hF, hN⟩ := h
  refine ⟨a, u, e, s.keep a u hH hN, hO.stay s.stay, fun z => ?_, fun z => ?_⟩
  · rcases s.nfz a z with z | z | z
    · exact hF z
    · exact hN z
    · rw [hH] at z; cases z
  · rcases s.own a (ho a z) with z | z
    · exact hN z
    · rw [hH] at z; cases z
theorem TR.grow {D : Addr} {acc : List PyData} {y : V} {d : PyData} (S : SR K α r σ H F) (h : TR K α r σ H F (.own (.lst acc)) (.ref D)) (fy : Fr K H F y d) :
    ∃ xs, H D = some (.lst xs) ∧ xs.length = acc.length ∧ SR K α r σ (upd H D (.lst (xs ++ [y]))) F ∧ TR K α r σ (upd H D (.lst (xs ++ [y]))) F (.own (.lst (acc ++ [d]))) (.ref D) ∧ Stay H F (upd H D (.lst (xs ++ [y]))) F ∧
      Step (fun a => Own α r σ a ∨ a = D) H F (upd H D (.lst (xs ++ [y]))) F (fun a => Own α r σ a ∨ a = D) := by
  obtain ⟨a, u, e, hH, ⟨xs, rfl, fr⟩, hF, hN⟩ := h
  cases e
  have st : Stay H F (upd H D (.lst (xs ++ [y]))) F := ⟨fun _ h => h, fun x q => upd_ne (fun e => hF (by rw [← e]; exact q)), fun x w q i => by
    by_cases e : x = D
    · subst e; rw [hH] at q; cases q; cases i
    · rw [upd_ne e]; exact q⟩
  refine ⟨xs, hH, fr.len, S.over st (fun x q => upd_ne fun e => hN (by rw [← e]; exact q)) (fun x ⟨l, q⟩ => S.sep l x q) (fun x q => ?_), ⟨D, _, rfl, upd_same, ⟨_, rfl, (fr.stay st).app (.cons (fy.stay st) .nil)⟩, hF, hN⟩, st,
    ⟨fun x o q n => by rw [upd_ne (show x ≠ D from fun e => n (.inr e))]; exact q, st, fun x q => .inl q, fun x q => .inl q, fun x q => ?_⟩⟩
  · obtain ⟨w, q2⟩ := S.fdom x q
    exact ⟨w, by rw [upd_ne (show x ≠ D from fun e => hF (by rw [← e]; exact q))]; exact q2⟩
  · by_cases e : x = D
    · subst e; rw [upd_same] at q; cases q
    · rwa [upd_ne e] at q
/-- the state and the new list, in a turn -/
structure Tn (K : PySem.W.Frag) (α : List Addr) (O0 : Addr → Prop) (H0 : Hp) (F0 : Addr → Prop) (H1 : Hp) (F1 : Addr → Prop) (V : Hp → (Addr → Prop) → Prop) (D : Addr) (acc : List PyData) (r : En) (σ : L2.St) (H : Hp) (F : Addr → Prop) : Prop where
  sr : SR K α r σ H F
  v : V H F
  tr : TR K α r σ H F (.own (.lst acc)) (.ref D)
  stay : Stay H1 F1 H F
  step : Step O0 H0 F0 H F (fun a => Own α r σ a ∨ a = D)
theorem Tn.next {O0 : Addr → Prop} {H0 H1 : Hp} {F0 F1 : Addr → Prop} {V : Hp → (Addr → Prop) → Prop} {D : Addr} {acc : List PyData} {σ' : L2.St} {O' : Addr → Prop} (t : Tn K α O0 H0 F0 H1 F1 V D acc r σ H F) (hv : ∀ H F H' F', V H F → Stay H F H' F' → V H' F')
    (S : SR K α r' σ' H' F') (s : Step (Own α r σ) H F H' F' O') (ho : ∀ a, Own α r' σ' a → O' a) : Tn K α O0 H0 F0 H1 F1 V D acc r' σ' H' F' :=
  ⟨S, hv _ _ _ _ t.v s.stay, t.tr.move s ho, t.stay.trans s.stay, t.step.trans (s.widen (P := fun a => Own α r σ a ∨ a = D) (fun _ z => .inl z) fun a z => z.elim (fun z => .inl (ho a z)) fun z => .inr (.inr z)) fun _ z => z⟩
theorem lc_ok {it : M Src} {g : TG} {tg : PyData → En → Option En} {T : List Nat} {tt : M Bool} {f : M Rv} {Q : VK} (ht : TgOk K α g tg T) (h : tE K α W (lcE it tg T tt f) σ H Q) : tLc (tI K α W it) g (tT K α W0 tt) (tE K α W0 f) T σ H Q := by
  obtain ⟨r, F, S, h⟩ := h
  refine ⟨r, F, S, ?_⟩
  unfold lcE M.bnd at h
  cases e : it r with
  | no => simp only [e] at h; exact h
  | ex z r1 => simp only [e] at h; exact h
  | ok s r1 =>
    simp only [e] at h
    intro J V H1 F1 S1 st1 so v1 D hD
    by_cases hc : calm r1 T = true
    case neg => rw [if_neg hc] at h; exact h.elim
    rw [if_pos hc] at h
    -- what is wanted of the rest of the loop
    let Pw : Res (List PyData) → Prop := fun x => Aft K α σ (Own α r σ) H F W (match x with
      | .no => .no
      | .ex e r2 => .no
      | .ok acc r2 => .ok (.own (.lst acc)) (restV r1 r2 T)) Q
    have h : Pw (lcN s.nth tg T tt f s.fuel 0 [] (wipeV r1 T)) := h
    have S1w := S1.wipe T
    refine ⟨fun i m H' => ∃ rc F' acc, Tn K α (Own α r σ) H F H1 F1 V D acc rc (L2.wipe σ T) H' F' ∧ Pw (lcN s.nth tg T tt f m i acc rc), ⟨s.fuel, wipeV r1 T, F1, [], ⟨S1w.new _ hD, so.stay _ _ _ _ v1 (stay_new S1 _ hD),
      ⟨D, _, rfl, upd_same, ⟨[], rfl, .nil⟩, notF_new S1 hD, notOwn_new S1w hD⟩, stay_new S1 _ hD, st1.trans (step_new S1 _ hD fun a z => z.imp (fun ⟨l, q⟩ => ⟨l, wipe_holds q⟩) id) fun _ z => z⟩, h⟩, ?_⟩
    rintro i m H2 ⟨rc, F2, acc, t, h⟩
    unfold lcN at h
    cases en : s.nth rc i with
    | none => simp only [en] at h; exact h.elim
    | some o =>
      have tn := so.turn rc _ H2 F2 i o t.sr t.v en
      cases o with
      | none =>
        simp only [en] at h
        obtain ⟨R, ow⟩ := SR.rest S1 t.sr t.stay hc
        refine .inl ⟨tn, h (.ref D) H2 F2 R (t.step.more fun a z => z.imp (ow a) fun ⟨_, z⟩ => by injection z with z; exact z.symm) ?_⟩
        obtain ⟨a, u, e1, e2, e3, e4, e5⟩ := t.tr
        exact ⟨a, u, e1, e2, e3, e4, fun z => e5 (ow a z)⟩
      | some d =>
        simp only [en] at h
        obtain ⟨go, yl⟩ := tn
        cases m with
        | zero => exact h.elim
        | succ m =>
          simp only at h
          cases et : tg d (wipeV rc T) with
          | none => simp only [et] at h; exact h.elim
          | some r2 =>
            simp only [et] at h
            refine .inr ⟨go, fun H' => ∃ rc F' acc, Tn K α (Own α r σ) H F H1 F1 V D acc rc (L2.wipe σ T) H' F' ∧ Pw (lcN s.nth tg T tt f m (i + 1) acc rc), fun H' q => ⟨m, Nat.lt_succ_self m, q⟩, fun x H' y => ?_⟩
            have Sw : SR K α (wipeV rc T) (L2.wipe σ T) H2 F2 := by
              have q := t.sr.wipe T
              rwa [wipe_wipe] at q
            have tw : Tn K α (Own α r σ) H F H1 F1 V D acc (wipeV rc T) (L2.wipe σ T) H2 F2 := t.next so.stay Sw (Step.refl fun _ z => z) fun a ⟨l, q⟩ => by
              rw [← wipe_wipe] at q
              exact ⟨l, wipe_holds q⟩
            obtain ⟨S3, fx, st3⟩ := yl_sr Sw (yl x H' y)
            refine ht.go (wipeV rc T) r2 (L2.wipe σ T) H' F2 x d _ S3 fx et fun σ3 S4 ow4 w4 => ?_
            have w4 : L2.wipe σ3 T = L2.wipe σ T := w4.trans (wipe_wipe T σ)
            have t4 : Tn K α (Own α r σ) H F H1 F1 V D acc r2 σ3 H' F2 := tw.next so.stay S4 st3 ow4
            refine ⟨w4, r2, F2, S4, ?_⟩
            cases ett : tt r2 with
            | no => simp only [ett] at h; exact h
            | ex z r3 => simp only [ett] at h; exact h.elim
            | ok b r3 =>
              simp only [ett] at h
              intro H5 F5 S5 st5
              have t5 : Tn K α (Own α r σ) H F H1 F1 V D acc r3 σ3 H5 F5 := t4.next so.stay S5 st5 fun _ z => z
              have toW : ∀ {acc : List PyData} {r3 : En} {H5 : Hp} {F5 : Addr → Prop}, Tn K α (Own α r σ) H F H1 F1 V D acc r3 σ3 H5 F5 → Tn K α (Own α r σ) H F H1 F1 V D acc (wipeV r3 T) (L2.wipe σ T) H5 F5 := fun {acc r3 H5 F5} t5 => by
                have Sw5 := t5.sr.wipe T
                rw [w4] at Sw5
                exact t5.next so.stay Sw5 (Step.refl fun _ z => z) fun a ⟨l, q⟩ => by
                  rw [← w4] at q
                  exact ⟨l, wipe_holds q⟩
              cases b with
              | false =>
                refine iteF ?_
                exact ⟨wipeV r3 T, F5, acc, toW t5, h⟩
              | true =>
                refine iteT ⟨r3, F5, S5, ?_⟩
                have h : Pw (match M.bnd f frz r3 with
                  | .no => .no
                  | .ex e r3 => .no
                  | .ok y r3 => if acc.length < sizeLine then lcN s.nth tg T tt f m (i + 1) (acc ++ [y]) (wipeV r3 T) else .no) := h
                unfold M.bnd at h
                cases ef : f r3 with
                | no => simp only [ef] at h; exact h
                | ex z r4 => simp only [ef] at h; exact h.elim
                | ok z r4 =>
                  simp only [ef] at h
                  intro yv H6 F6 S6 st6 tz
                  cases ez : frz z r4 with
                  | no => simp only [ez] at h; exact h.elim
                  | ex w r5 => exact absurd ez frz_ex
                  | ok dy r5 =>
                    simp only [ez] at h
                    obtain ⟨F7, S7, fr7, st7, _⟩ := frz_ok S6 tz ez
                    have t7 : Tn K α (Own α r σ) H F H1 F1 V D acc r5 σ3 H6 F7 := t5.next so.stay S7 (st6.trans st7 fun _ z => z) fun _ z => z
                    obtain ⟨xs, h1, h2, h3, h4, h5, h6⟩ := t7.tr.grow t7.sr fr7
                    split at h
                    · rename_i hz
                      refine ⟨xs, h1, by rw [h2]; exact hz, ?_⟩
                      exact ⟨wipeV r5 T, F7, acc ++ [dy], toW ⟨h3, so.stay _ _ _ _ t7.v h5, h4, t7.stay.trans h5, t7.step.trans h6 fun _ z => z⟩, h⟩
                    · exact h.elim
def yesB : M Bool := M.ret true
section
variable {X : Cx} {elt tg iter c : Expr} {ifs : List Expr} {scope : Scope} {own : List (Str × Nat)} {pos spos : Pos} {it : M Src} {g : TG} {tgf : PyData → En → Option En} {tt : M Bool} {f : M Rv}
theorem ts_nil : PTs X [] (tT K α W yesB) := ⟨fun pins s σ H Q I h => pts_nil.run pins s σ H Q I (tB_ret h)⟩
theorem ts_one (h : PT X c (tT K α W0 tt)) : PTs X [c] (tT K α W0 tt) := pts_one h
theorem ev_lc {T : List Nat} (hT : own.map (·.2) = T) (hc : X.calm = true) (hN : X.N.Nodup) (hi : PI X tg iter (tI K α W it)) (ok : BlkOk X.N X.env.scope scope own)
    (hg : ∀ (s : Shared) (H : Hp) (C : Addr) (cl : List (Str × Addr)) (fp : List Addr), PG (X.blk s H scope (compEnvC scope cl C X.env) fp) tg g) (ht : ∀ (s : Shared) (H : Hp) (C : Addr) (cl : List (Str × Addr)) (fp : List Addr), PTs (X.blk s H scope (compEnvC scope cl C X.env) fp) ifs (tT K α W0 tt))
    (he : ∀ (s : Shared) (H : Hp) (C : Addr) (cl : List (Str × Addr)) (fp : List Addr), PE (X.blk s H scope (compEnvC scope cl C X.env) fp) elt (tE K α W0 f)) (htg : TgOk K α g tgf T) (hs : ∀ x, foldedSetIterable iter X.env x = pure x := by intro _; rfl) :
    PE X (.ListComp elt [⟨tg, iter, ifs, 0⟩] scope pos) (tE K α W (lcE it tgf T tt f)) := pe_weak (pe_lc hc hN hi ok hg ht he hs) fun σ H Q q => by
  rw [hT]
  exact lc_ok htg q
/-- y = [..] -/
theorem sv_setLc {i : Nat} {y : Str} {py : Pos} {T : List Nat} (hT : own.map (·.2) = T) (hc : X.calm = true) (hN : X.N.Nodup) (hy : X.N[i]? = some y) (hyl : X.env.scope.names.lookup y = some .local)
    (hsw : swapsWith (.ListComp elt [⟨tg, iter, ifs, 0⟩] scope pos) (some (.Name y py)) spos.line X.env = pure true) (hi : PI X tg iter (tI K α W it)) (ok : BlkOk X.N X.env.scope scope own)
    (hg : ∀ (s : Shared) (H : Hp) (C : Addr) (cl : List (Str × Addr)) (fp : List Addr), PG (X.blk s H scope (compEnvC scope cl C X.env) fp) tg g) (ht : ∀ (s : Shared) (H : Hp) (C : Addr) (cl : List (Str × Addr)) (fp : List Addr), PTs (X.blk s H scope (compEnvC scope cl C X.env) fp) ifs (tT K α W0 tt))
    (he : ∀ (s : Shared) (H : Hp) (C : Addr) (cl : List (Str × Addr)) (fp : List Addr), PE (X.blk s H scope (compEnvC scope cl C X.env) fp) elt (tE K α W0 f)) (htg : TgOk K α g tgf T) (hs : ∀ x, foldedSetIterable iter X.env x = pure x := by intro _; rfl) :
    PS X (.Assign [.Name y py] (.ListComp elt [⟨tg, iter, ifs, 0⟩] scope pos) spos) (tS K α W (setS i (lcE it tgf T tt f))) := ps_weak (ps_setLc hc hN hy hyl hsw hi ok hg ht he hs) fun D σ H ⟨r, F, S, h⟩ => by
  rw [hT]
  exact lc_ok htg (tE_mono (ofM_E S h) fun v H1 ⟨r1, F1, x, S1, st, tr, h1⟩ => bind_ok S1 tr h1)
end
end Mi

/-! Mi13.lean -/
set_option Elab.async false
set_option linter.all false
set_option maxRecDepth 100000
/-! the end of a law -/
namespace Mi
open PySem L2 PySem.Spec PyProof.Rows

/-- a def of the program's top, to be called by its name -/
structure Def (P : Program) (w : World) (K : PySem.W.Frag) (mg : Str → Option Value) (base : Heap) (x : Str) (k np n : Nat) (bd : Stm) : Prop where
  ex : ∃ (f : Addr) (fd : FuncData) (ps : List Str), mg x = some (.ref f) ∧ PySem.W.keepIn K (.ref f) = true ∧ Binds K fd ps [] ∧ ps.length = np ∧ FnG P w K mg base k f fd ps (spF K np n bd)
theorem Def.mono {P : Program} {w : World} {K : PySem.W.Frag} {mg : Str → Option Value} {base : Heap} {x : Str} {j k np n : Nat} {bd : Stm} (D : Def P w K mg base x j np n bd) (h : j ≤ k) : Def P w K mg base x k np n bd := by
  obtain ⟨f, fd, ps, h1, h2, h3, h4, h5⟩ := D.ex
  exact ⟨f, fd, ps, h1, h2, h3, h4, h5.mono h⟩
section
variable {X : Cx} {x : Str} {p pos : Pos} {e : Expr} {es : List Expr} {k np n : Nat} {bd : Stm} {g : M (List Rv)} {α : List Addr}
theorem ev_callD (D : Def X.prog X.w X.K X.mg X.base x k np n bd) (hr : Room k X.A) (hgd : X.A.guards = some []) (tk : L2.Takes X W) (hg : Gl X x) (hn : np ≤ n) (ha : PA X (e :: es) (tR X.K α W g)) (hdb : (x == ("__debug__" : Str)) = false := by decide)
    (he : starEach (e :: es) X.env = (false, eval e X.env) :: starEach es X.env := by rfl) (hpl : (backTo pos (starEach es X.env)).any (·.1) = false := by rfl) : PE X (.Call (.Name x p) (e :: es) [] pos) (tE X.K α W (callE (runF np n bd) g)) := by
  obtain ⟨f, fd, ps, h1, h2, h3, h4, h5⟩ := D.ex
  exact ev_call h5 hr hgd tk hg h1 h2 h3 h4 hn ha hdb he hpl
theorem ev_callD0 (D : Def X.prog X.w X.K X.mg X.base x k np n bd) (hr : Room k X.A) (hgd : X.A.guards = some []) (tk : L2.Takes X W) (hg : Gl X x) (hn : np ≤ n) (hdb : (x == ("__debug__" : Str)) = false := by decide) : PE X (.Call (.Name x p) [] [] pos) (tE X.K α W (callE (runF np n bd) nilR)) := by
  obtain ⟨f, fd, ps, h1, h2, h3, h4, h5⟩ := D.ex
  exact ev_call0 h5 hr hgd tk hg h1 h2 h3 h4 hn hdb
end
def pyInts (ns : List Int) : PyData := .list (ns.map PyData.int)
theorem fr_pyInts {K : PySem.W.Frag} {H : Hp} {F : Addr → Prop} : ∀ ns : List Int, FrAll K H F (ns.map V.int) (ns.map PyData.int)
  | [] => .nil
  | n :: ns => .cons (.int n) (fr_pyInts ns)
/-- what a law's run over its script wants -/
theorem law_sp {K : PySem.W.Frag} {n : Nat} {bd : Stm} {H : Hp} {a : Addr} {ns : List Int} (hn : 1 ≤ n) (fr : Fr K H (fun _ => False) (.ref a) (pyInts ns)) (h : runF 1 n bd [.val (pyInts ns)] = .ret (.val (.bool true)) []) :
    spF K 1 n bd [.ref a] H (fun v _ => v = .bl true) E0 := by
  have S : SR K [] ⟨[some (.val (pyInts ns))], []⟩ [some (.ref a)] H (fun _ => False) := {
    len := rfl
    slot := fun i s q => by
      cases i with
      | zero =>
        have q : some (some (Sl.val (pyInts ns))) = some (some s) := q
        cases q
        exact ⟨.ref a, rfl, fr⟩
      | succ i => simp at q
    obj := fun k b q => by simp at q
    apart := fun l l' a h _ => by
      cases l with
      | slot i =>
        obtain ⟨⟨o, q⟩, _⟩ := h
        cases i with
        | zero => cases q
        | succ i => simp at q
      | obj k => obtain ⟨_, q⟩ := h; simp at q
    sep := fun _ _ _ z => z
    fdom := fun _ z => z.elim }
  refine call_ok (W := W0) (α := []) (r := ⟨[some (.val (pyInts ns))], []⟩) (σ := [some (.ref a)]) (F := fun _ => False) (xs := [.val (pyInts ns)]) hn S ⟨.cons fr .nil, fun i j o o' a h => by
    cases i with
    | zero => cases h
    | succ i => simp at h⟩ ?_
  unfold callF
  have e1 : agsOf ⟨[some (.val (pyInts ns))], []⟩ [Rv.val (pyInts ns)] = some ([.val (pyInts ns)], []) := rfl
  rw [e1]
  simp only [noDup, if_true, h]
  intro v H' F' _ _ t
  cases (show Fr K H' F' v (.bool true) from t)
  rfl
/-- the law's call, at the heap behind the top -/
theorem law_run {P : Program} {w : World} {K : PySem.W.Frag} {mg mb : Str → Option Value} {k n : Nat} {fa a : Addr} {fd : FuncData} {x : Str} {bd : Stm} {s₁ : Shared} {vs : List Value} {ns : List Int}
    (KX : K.In s₁.heap) (hns : s₁.heap.Ns mainGlobals mg) (hb : s₁.heap.Ns builtinsNs mb) (hbb : ∀ x : Str, x ≠ "__name__" → mb x = bootBuiltins x) (hlim : s₁.heap.NoLimit) (hg : s₁.gens = #[])
    (ha : s₁.heap.get? a = some { cls := .type "list", data := .seq vs.toArray }) (hi : IntsAre vs ns) (hl : ns.length ≤ sizeLine) (hr : Room k callerA)
    (hF : ∀ base : Heap, K.In base → base.Ns mainGlobals mg → FnG P w K mg base k fa fd [x] (spF K 1 n bd)) (hbind : ∀ (s : Shared) (u : Value), BindsTo s fd ⟨[u], []⟩ [(x, u)]) (hn : 1 ≤ n)
    (hrun : runF 1 n bd [.val (pyInts ns)] = .ret (.val (.bool true)) []) :
    codeAny (model P w) callerA (.call (.ref fa) ⟨[.ref a], []⟩) (fun r s' => r = .ok (.ret (.bool true)) ∧ OldK s₁.heap s'.heap ∧ s'.os = s₁.os ∧ AllBare s'.gens) s₁ := by
  have rv := vals_ints hi
  have lv : ns.length = vs.length := by have := rv.length; simpa using this
  -- from a heap that tells nothing but, perhaps, the script
  have go : ∀ H : Hp, Fr K H (fun _ => False) (.ref a) (pyInts ns) → HOk P w H s₁.heap → (∀ b u, H b = some u → b = a ∧ K.lookup a = none ∧ ∃ o xs, u = .frz o (.lst xs)) →
      codeAny (model P w) callerA (.call (.ref fa) ⟨[.ref a], []⟩) (fun r s' => r = .ok (.ret (.bool true)) ∧ OldK s₁.heap s'.heap ∧ s'.os = s₁.os ∧ AllBare s'.gens) s₁ := by
    intro H fr ok only
    have dicts : ∀ {b : Addr} {m : Str → Option Value}, s₁.heap.Ns b m → (hidT s₁.heap H).Ns b m := by
      rintro b m ⟨o, es, ep, e, d, rest⟩
      refine ⟨o, es, ep, hidT_get e ?_, d, rest⟩
      cases q : H b with
      | none => rfl
      | some u =>
        obtain ⟨rfl, _⟩ := only b u q
        rw [ha] at e; cases e; cases d
    have KB : K.In (hidT s₁.heap H) := fun b o e => hidT_get (KX b o e) (by
      cases q : H b with
      | none => rfl
      | some u =>
        obtain ⟨rfl, z, _⟩ := only b u q
        rw [z] at e; cases e)
    have md : Mod K mg (hidT s₁.heap H) := by
      obtain ⟨mc, h1, h2⟩ := hlim
      exact ⟨KB, dicts hns, ⟨mb, dicts hb, hbb⟩, ⟨mc, dicts h1, h2⟩⟩
    have e0 : Env0 P w K mg (hidT s₁.heap H) callerA [] s₁ H := ⟨rfl, md, fun b o e => of_hidT e, Nat.le_of_eq (hidT_size _ _), trivial, fun b z => absurd (show b ∈ ([] : List Addr) from z) (by simp), ok, .of_eq hg⟩
    refine codeAny_mono ((hF _ KB (dicts hns)).run callerA [] s₁ H ⟨[.ref a], []⟩ [.ref a] [.ref a] _ E0 hr rfl e0 (hbind s₁ (.ref a)) (.cons rfl .nil) (law_sp hn fr hrun)) fun res s' q => ?_
    match res, q with
    | .error e, q => obtain ⟨_, _, _, _, _, _, _, _, _, _, _, _, z⟩ := q; exact (show False from z).elim
    | .ok .next, q => exact q.elim
    | .ok .brk, q => exact q.elim
    | .ok .cont, q => exact q.elim
    | .ok (.ret u), ⟨v, H', os, bare, un, ok', r', z⟩ =>
      cases (show v = .bl true from z)
      cases (show u = Value.bool true from r')
      refine ⟨rfl, OldK.of_keep fun b o e => ?_, os, bare⟩
      cases g : H b with
      | none => exact un.keep b o e g (fun z => absurd (show b ∈ ([] : List Addr) from z) (by simp)) (by simp)
      | some w =>
        obtain ⟨_, _, ob, xs, rfl⟩ := only b w g
        have g1 := (ok b _ g).1
        have g2 := (ok' b _ (un.frzs b ob _ g)).1
        rw [e] at g1; cases g1
        exact g2
  cases hk : K.lookup a with
  | some o =>
    have e := KX a o hk
    rw [ha] at e; cases e
    exact go (fun _ => none) (.klst ⟨vs, _, hk, by omega, rv⟩ (fr_pyInts ns)) (fun b u z => nomatch z) fun b u z => nomatch z
  | none =>
    refine go (fun b => if b = a then some (.frz { cls := .type "list", data := .seq vs.toArray } (.lst (ns.map V.int))) else none) (.frz (if_pos rfl) (fr_pyInts ns)) (fun b u z => ?_) fun b u z => ?_
    · have z : (if b = a then some (HO.frz { cls := .type "list", data := .seq vs.toArray } (.lst (ns.map V.int))) else none) = some u := z
      by_cases e : b = a
      · rw [if_pos e] at z; cases z; subst e
        exact ⟨ha, by rw [List.length_map]; exact hl, vs, _, rv, ha⟩
      · rw [if_neg e] at z; cases z
    · have z : (if b = a then some (HO.frz { cls := .type "list", data := .seq vs.toArray } (.lst (ns.map V.int))) else none) = some u := z
      by_cases e : b = a
      · rw [if_pos e] at z; cases z
        exact ⟨e, hk, _, _, rfl⟩
      · rw [if_neg e] at z; cases z
/-- the goal that k_head leaves, by the run of the law's evaluator -/
theorem law_end {l : PySem.W.OpenLaw} {n k : Nat} {q : Program} {loose : List Str} {XP : (Str → Option Value) → Heap → Prop} {YP : World → Heap → Prop} {d : DefRec} {K : Params → PySem.W.Frag} {x : Str} {bd : Stm}
    (hm : l.most = some 63) (hdf : d.params.defaults = []) (hr : Room k callerA) (hY : ∀ (w : World) (h : Heap), YP w h → (K w.params).In h)
    (hF : ∀ (w : World) (mg : Str → Option Value) (fa : Addr) (h : Heap), (K w.params).In h → h.Ns mainGlobals mg → mg d.name = some (.ref fa) →
      ∃ fd : FuncData, (∀ (s : Shared) (u : Value), BindsTo s fd ⟨[u], []⟩ [(x, u)]) ∧ ∀ base : Heap, (K w.params).In base → base.Ns mainGlobals mg → FnG l.prog w (K w.params) mg base k fa fd [x] (spF (K w.params) 1 n bd))
    (hn : 1 ≤ n) (hrun : ∀ ns : List Int, ns.length ≤ 63 → (∀ z ∈ ns, Builtin.Int.intBits z ≤ 1048576) → runF 1 n bd [.val (pyInts ns)] = .ret (.val (.bool true)) []) :
    PySem.W.WalkO q loose XP YP l.row.toRowW d [] (fun f vs => PySem.call f vs) := by
  refine Att.attach_callB hm hdf fun w s₀ s₁ mg mb fa o pm cd doc a vs ns G Y ho hd hcd hmg hobj hints hlen hbits hg => ?_
  obtain ⟨fd, hb, hf⟩ := hF w mg fa _ (hY w _ Y) G.T.g hmg
  exact law_run (hY w _ Y) G.T.g G.T.b G.T.builtins G.T.nolimit hg hobj hints (Nat.le_trans hlen (by decide)) hr hf hb hn (hrun ns hlen hbits)
end Mi

/-! Mi14.lean -/
set_option Elab.async false
set_option linter.all false
set_option maxRecDepth 100000
/-! built-ins by their data -/
namespace Mi
open PySem L2 PySem.Spec PyProof.Rows
variable {K : PySem.W.Frag} {α : List Addr} {r r' : En} {σ : L2.St} {H H' : Hp} {F F' : Addr → Prop}

theorem call1_ok {ro : List V → Hp → VK → Prop} {g : PyData → Option Rv} (hs : Op1 K (fun x H Q => ro [x] H Q) g) {fa : M Rv} {Q : VK} (h : tE K α W (unE g fa) σ H Q) : tCB ro (tCons (tE K α W fa) tNil) σ H Q := t1_ok hs h
theorem call2_ok {ro : List V → Hp → VK → Prop} {g : PyData → PyData → Option Rv} (hs : Op2 K (fun x y H Q => ro [x, y] H Q) g) {fa fb : M Rv} {Q : VK} (h : tE K α W (binE g fa fb) σ H Q) : tCB ro (tCons (tE K α W fa) (tCons (tE K α W fb) tNil)) σ H Q := tOp_ok hs h
section
variable {X : Cx} {a b e : Expr} {fa fb f : M Rv} {pos p : Pos} {id : String} {x : Str} {ro : List V → Hp → VK → Prop}
theorem ev_b1 {g : PyData → Option Rv} (hc : CallR X (.builtin id) ro) (hs : Op1 K (fun x H Q => ro [x] H Q) g) (hg : Gl X x) (hm : X.mg x = none) (hv : bootBuiltins x = some (.builtin id)) (ha : PE X a (tE K α W fa)) (hn : x ≠ "__name__" := by decide) (hdb : (x == ("__debug__" : Str)) = false := by decide)
    (he : starEach [a] X.env = (false, eval a X.env) :: starEach [] X.env := by rfl) : PE X (.Call (.Name x p) [a] [] pos) (tE K α W (unE g fa)) := pe_weak (pe_callB hc hg hm hv (pa_cons ha pa_nil he) hn hdb he rfl) fun _ _ _ q => call1_ok hs q
theorem ev_t1 {g : PyData → Option Rv} (hc : CallR X (.type id) ro) (hs : Op1 K (fun x H Q => ro [x] H Q) g) (hg : Gl X x) (hm : X.mg x = none) (hv : bootBuiltins x = some (.type id)) (ha : PE X a (tE K α W fa)) (hn : x ≠ "__name__" := by decide) (hdb : (x == ("__debug__" : Str)) = false := by decide)
    (he : starEach [a] X.env = (false, eval a X.env) :: starEach [] X.env := by rfl) : PE X (.Call (.Name x p) [a] [] pos) (tE K α W (unE g fa)) := pe_weak (pe_callTy hc hg hm hv (pa_cons ha pa_nil he) hn hdb he rfl) fun _ _ _ q => call1_ok hs q
theorem ev_b2 {g : PyData → PyData → Option Rv} (hc : CallR X (.builtin id) ro) (hs : Op2 K (fun x y H Q => ro [x, y] H Q) g) (hg : Gl X x) (hm : X.mg x = none) (hv : bootBuiltins x = some (.builtin id)) (ha : PE X a (tE K α W fa)) (hb : PE X b (tE K α W fb)) (hn : x ≠ "__name__" := by decide) (hdb : (x == ("__debug__" : Str)) = false := by decide)
    (he : starEach [a, b] X.env = (false, eval a X.env) :: starEach [b] X.env := by rfl) (he2 : starEach [b] X.env = (false, eval b X.env) :: starEach [] X.env := by rfl) (hpl : (backTo pos (starEach [b] X.env)).any (·.1) = false := by rfl) : PE X (.Call (.Name x p) [a, b] [] pos) (tE K α W (binE g fa fb)) :=
  pe_weak (pe_callB hc hg hm hv (pa_cons ha (pa_cons hb pa_nil he2) he) hn hdb he hpl) fun _ _ _ q => call2_ok hs q
end
/-! len, list, tuple, int, str -/
def gLen : PyData → Option Rv
  | .str x => if x.length ≤ sizeLine then some (vI x.length) else none
  | .list ds => some (vI ds.length)
  | .tuple ds => some (vI ds.length)
  | _ => none
theorem o_len : Op1 K (fun x H Q => ∃ y n, [x] = [y] ∧ LenV K y H n ∧ Q (.int n) H) gLen := fun H F x d z Q px h q => by
  unfold gLen at h
  split at h
  · obtain ⟨h1, rfl⟩ := opt_if h
    have e := px.str
    subst e
    exact ⟨_, _, rfl, ⟨h1, rfl⟩, q.val _ _ rfl (.int _)⟩
  · cases h
    obtain ⟨a, xs, rfl, h1, h2⟩ := px.list
    exact ⟨_, xs.length, rfl, .inl ⟨xs, h1, rfl⟩, by rw [h2.len]; exact q.val _ _ rfl (.int _)⟩
  · cases h
    obtain ⟨a, xs, rfl, h1, h2⟩ := px.tup
    exact ⟨_, xs.length, rfl, .inr ⟨xs, h1, rfl⟩, by rw [h2.len]; exact q.val _ _ rfl (.int _)⟩
  · cases h
def gList : PyData → Option Rv
  | .list ds => some (.own (.lst ds))
  | .tuple ds => some (.own (.lst ds))
  | _ => none
theorem o_list : Op1 K (fun x H Q => ∃ p ys, [x] = [.ref p] ∧ (SqL K H p ys ∨ SqT K H p ys) ∧ ∀ l, H l = none → Q (.ref l) (upd H l (.lst ys))) gList := fun H F x d z Q px h q => by
  unfold gList at h
  split at h
  · cases h
    obtain ⟨a, xs, rfl, h1, h2⟩ := px.list
    exact ⟨a, xs, rfl, .inl h1, fun l hl => q.new _ _ l rfl hl h2⟩
  · cases h
    obtain ⟨a, xs, rfl, h1, h2⟩ := px.tup
    exact ⟨a, xs, rfl, .inr h1, fun l hl => q.new _ _ l rfl hl h2⟩
  · cases h
def gTuple : PyData → Option Rv
  | .list ds => some (.val (.tuple ds))
  | .tuple ds => some (.val (.tuple ds))
  | _ => none
theorem o_tuple : Op1 K (fun x H Q => ∃ p ys, [x] = [.ref p] ∧ ((SqL K H p ys ∧ ∀ l, H l = none → Q (.ref l) (upd H l (.tup ys))) ∨ (SqT K H p ys ∧ Q (.ref p) H))) gTuple := fun H F x d z Q px h q => by
  unfold gTuple at h
  split at h
  · cases h
    obtain ⟨a, xs, rfl, h1, h2⟩ := px.list
    exact ⟨a, xs, rfl, .inl ⟨h1, fun l hl => q.tup _ _ l rfl hl h2⟩⟩
  · cases h
    obtain ⟨a, xs, rfl, h1, h2⟩ := px.tup
    exact ⟨a, xs, rfl, .inr ⟨h1, q.val _ _ rfl (.tup h1 h2)⟩⟩
  · cases h
def gIntB : PyData → Option Rv
  | .int i => some (vI i)
  | .bool k => some (vI (if k then 1 else 0))
  | _ => none
theorem o_intB : Op1 K (fun x H Q => (∃ i, [x] = [.int i] ∧ Q (.int i) H) ∨ ∃ k, [x] = [.bl k] ∧ Q (.int (if k then 1 else 0)) H) gIntB := fun H F x d z Q px h q => by
  unfold gIntB at h
  split at h
  · cases h; have e := px.int; subst e; exact .inl ⟨_, rfl, q.val _ _ rfl (.int _)⟩
  · cases h; have e := px.bl; subst e; exact .inr ⟨_, rfl, q.val _ _ rfl (.int _)⟩
  · cases h
def gIntS : PyData → Option Rv
  | .str a => if a.length ≤ 640 then (PySem.intText? a).map vI else none
  | _ => none
theorem o_intS : Op1 K (fun x H Q => ∃ a n, [x] = [.str a] ∧ PySem.intText? a = some n ∧ a.length ≤ 640 ∧ Q (.int n) H) gIntS := fun H F x d z Q px h q => by
  unfold gIntS at h
  split at h
  · split at h
    · rename_i hz
      obtain ⟨n, h1, rfl⟩ := Option.map_eq_some_iff.mp h
      have e := px.str
      subst e
      exact ⟨_, n, rfl, h1, hz, q.val _ _ rfl (.int _)⟩
    · cases h
  · cases h
def gStrI : PyData → Option Rv
  | .int i => if i.natAbs.log2 < 1920 then some (vS (toString i)) else none
  | _ => none
theorem o_strI : Op1 K (fun x H Q => ∃ i, [x] = [.int i] ∧ i.natAbs.log2 < 1920 ∧ Q (.str (toString i)) H) gStrI := fun H F x d z Q px h q => by
  unfold gStrI at h
  split at h
  · obtain ⟨h1, rfl⟩ := opt_if h
    have e := px.int
    subst e
    exact ⟨_, rfl, h1, q.val _ _ rfl (.str _)⟩
  · cases h
/-! max, min of two; sum, any, all of a list -/
def gMax2 : PyData → PyData → Option Rv := gI2 fun i j => some (vI (if j > i then j else i))
theorem o_max2 : Op2 K (fun x y H Q => ∃ i j, [x, y] = [.int i, .int j] ∧ Q (.int (if j > i then j else i)) H) gMax2 := fun H F x y d e z Q px py h q => by
  obtain ⟨i, j, rfl, rfl, h⟩ := gI2_inv h
  cases h
  exact ⟨i, j, by rw [px.int, py.int], q.val _ _ rfl (.int _)⟩
def gMin2 : PyData → PyData → Option Rv := gI2 fun i j => some (vI (if j < i then j else i))
theorem o_min2 : Op2 K (fun x y H Q => ∃ i j, [x, y] = [.int i, .int j] ∧ Q (.int (if j < i then j else i)) H) gMin2 := fun H F x y d e z Q px py h q => by
  obtain ⟨i, j, rfl, rfl, h⟩ := gI2_inv h
  cases h
  exact ⟨i, j, by rw [px.int, py.int], q.val _ _ rfl (.int _)⟩
def intsOf : List PyData → Option (List Int)
  | [] => some []
  | .int i :: ds => (intsOf ds).map (i :: ·)
  | _ => none
theorem intsOf_map : ∀ {ds : List PyData} {ns : List Int}, intsOf ds = some ns → ds = ns.map PyData.int
  | [], ns, h => by cases h; rfl
  | .int i :: ds, ns, h => by
    obtain ⟨ms, h1, rfl⟩ := Option.map_eq_some_iff.mp (show (intsOf ds).map (i :: ·) = some ns from h)
    rw [intsOf_map h1]; rfl
  | .none :: _, _, h => by cases h
  | .bool _ :: _, _, h => by cases h
  | .str _ :: _, _, h => by cases h
  | .list _ :: _, _, h => by cases h
  | .tuple _ :: _, _, h => by cases h
  | .dict _ :: _, _, h => by cases h
theorem intsOf_of : ∀ ns : List Int, intsOf (ns.map PyData.int) = some ns
  | [] => rfl
  | n :: ns => by show (intsOf (ns.map PyData.int)).map (n :: ·) = _; rw [intsOf_of ns]; rfl
theorem FrAll.ints : ∀ {ns : List Int} {xs : List V}, FrAll K H F xs (ns.map PyData.int) → xs = ns.map V.int
  | [], _, .nil => rfl
  | n :: ns, _, .cons h1 h2 => by cases h1; rw [FrAll.ints h2]; rfl
def boolsOf : List PyData → Option (List Bool)
  | [] => some []
  | .bool i :: ds => (boolsOf ds).map (i :: ·)
  | _ => none
theorem boolsOf_map : ∀ {ds : List PyData} {ns : List Bool}, boolsOf ds = some ns → ds = ns.map PyData.bool
  | [], ns, h => by cases h; rfl
  | .bool i :: ds, ns, h => by
    obtain ⟨ms, h1, rfl⟩ := Option.map_eq_some_iff.mp (show (boolsOf ds).map (i :: ·) = some ns from h)
    rw [boolsOf_map h1]; rfl
  | .none :: _, _, h => by cases h
  | .int _ :: _, _, h => by cases h
  | .str _ :: _, _, h => by cases h
  | .list _ :: _, _, h => by cases h
  | .tuple _ :: _, _, h => by cases h
  | .dict _ :: _, _, h => by cases h
theorem boolsOf_of : ∀ ns : List Bool, boolsOf (ns.map PyData.bool) = some ns
  | [] => rfl
  | n :: ns => by show (boolsOf (ns.map PyData.bool)).map (n :: ·) = _; rw [boolsOf_of ns]; rfl
theorem FrAll.bools : ∀ {ns : List Bool} {xs : List V}, FrAll K H F xs (ns.map PyData.bool) → xs = ns.map V.bl
  | [], _, .nil => rfl
  | n :: ns, _, .cons h1 h2 => by cases h1; rw [FrAll.bools h2]; rfl
def gSum : PyData → Option Rv
  | .list ds => (intsOf ds).map fun ns => vI ns.sum
  | _ => none
theorem o_sum : Op1 K (fun x H Q => rSum K [x] H Q) gSum := fun H F x d z Q px h q => by
  unfold gSum at h
  split at h
  · obtain ⟨ns, h1, rfl⟩ := Option.map_eq_some_iff.mp h
    obtain ⟨a, xs, rfl, e1, e2⟩ := px.list
    have := intsOf_map h1
    subst this
    have := e2.ints
    subst this
    exact ⟨a, ns, rfl, e1, q.val _ _ rfl (.int _)⟩
  · cases h
def gAny : PyData → Option Rv
  | .list ds => (boolsOf ds).map fun ns => vB (ns.any id)
  | _ => none
theorem o_any : Op1 K (fun x H Q => rAny K [x] H Q) gAny := fun H F x d z Q px h q => by
  unfold gAny at h
  split at h
  · obtain ⟨ns, h1, rfl⟩ := Option.map_eq_some_iff.mp h
    obtain ⟨a, xs, rfl, e1, e2⟩ := px.list
    have := boolsOf_map h1
    subst this
    have := e2.bools
    subst this
    exact ⟨a, ns, rfl, e1, q.val _ _ rfl (.bl _)⟩
  · cases h
def gAll : PyData → Option Rv
  | .list ds => (boolsOf ds).map fun ns => vB (ns.all id)
  | _ => none
theorem o_all : Op1 K (fun x H Q => rAll K [x] H Q) gAll := fun H F x d z Q px h q => by
  unfold gAll at h
  split at h
  · obtain ⟨ns, h1, rfl⟩ := Option.map_eq_some_iff.mp h
    obtain ⟨a, xs, rfl, e1, e2⟩ := px.list
    have := boolsOf_map h1
    subst this
    have := e2.bools
    subst this
    exact ⟨a, ns, rfl, e1, q.val _ _ rfl (.bl _)⟩
  · cases h
/-- the least of a list -/
def leastI : List Int → Option Int
  | [] => none
  | n :: ns => some (ns.foldl (fun a b => if b < a then b else a) n)
theorem foldl_least : ∀ (ns : List Int) (n : Int), (ns.foldl (fun a b => if b < a then b else a) n = n ∨ ns.foldl (fun a b => if b < a then b else a) n ∈ ns) ∧ ns.foldl (fun a b => if b < a then b else a) n ≤ n ∧ ∀ y ∈ ns, ns.foldl (fun a b => if b < a then b else a) n ≤ y
  | [], n => ⟨.inl rfl, Int.le_refl _, fun y h => nomatch h⟩
  | m :: ns, n => by
    obtain ⟨h1, h2, h3⟩ := foldl_least ns (if m < n then m else n)
    simp only [List.foldl_cons]
    refine ⟨?_, ?_, fun y hy => ?_⟩
    · rcases h1 with h1 | h1
      · rw [h1]
        split
        · exact .inr List.mem_cons_self
        · exact .inl rfl
      · exact .inr (List.mem_cons_of_mem _ h1)
    · refine Int.le_trans h2 ?_
      split <;> omega
    · rcases List.mem_cons.mp hy with e | e
      · subst e
        refine Int.le_trans h2 ?_
        split <;> omega
      · exact h3 y e
theorem leastI_is {ns : List Int} {m : Int} (h : m ∈ ns) (hl : ∀ y ∈ ns, m ≤ y) : leastI ns = some m := by
  cases ns with
  | nil => cases h
  | cons n ns =>
    obtain ⟨h1, h2, h3⟩ := foldl_least ns n
    have a : ns.foldl (fun a b => if b < a then b else a) n ∈ n :: ns := h1.elim (fun e => by rw [e]; exact List.mem_cons_self) fun e => List.mem_cons_of_mem _ e
    have b := hl _ a
    have c : ns.foldl (fun a b => if b < a then b else a) n ≤ m := (List.mem_cons.mp h).elim (fun e => by rw [e]; exact h2) fun e => h3 m e
    show some _ = some m
    rw [Int.le_antisymm c b]
def gMin : PyData → Option Rv
  | .list ds => (intsOf ds).bind fun ns => (leastI ns).map vI
  | _ => none
theorem o_min : Op1 K (fun x H Q => rMin K [x] H Q) gMin := fun H F x d z Q px h q => by
  unfold gMin at h
  split at h
  · obtain ⟨ns, h1, h2⟩ := Option.bind_eq_some_iff.mp h
    obtain ⟨m, h3, rfl⟩ := Option.map_eq_some_iff.mp h2
    obtain ⟨a, xs, rfl, e1, e2⟩ := px.list
    have := intsOf_map h1
    subst this
    have := e2.ints
    subst this
    refine ⟨a, ns, rfl, e1, ?_, fun k hk hl => ?_⟩
    · cases ns with
      | nil => cases h3
      | cons n ns => exact Nat.succ_pos _
    · have e := leastI_is hk hl
      rw [h3] at e; cases e
      exact q.val _ _ rfl (.int _)
  · cases h
/-- sorted(a list of ints) -/
def gSortI : PyData → Option Rv
  | .list ds => (intsOf ds).bind fun ns => if ns.length < 64 then some (.own (.lst ((ns.mergeSort (fun a b => decide (a ≤ b))).map PyData.int))) else none
  | _ => none
theorem sorted_one : ∀ {xs ys : List Int}, xs.Perm ys → xs.Pairwise (· ≤ ·) → ys.Pairwise (· ≤ ·) → xs = ys
  | [], ys, p, _, _ => by have := p.length_eq; cases ys with
    | nil => rfl
    | cons y ys => simp at this
  | x :: xs, [], p, _, _ => by have := p.length_eq; simp at this
  | x :: xs, y :: ys, p, h1, h2 => by
    have e : x = y := by
      have a : x ∈ y :: ys := p.mem_iff.mp List.mem_cons_self
      have b : y ∈ x :: xs := p.mem_iff.mpr List.mem_cons_self
      have h1' := (List.pairwise_cons.mp h1).1
      have h2' := (List.pairwise_cons.mp h2).1
      rcases List.mem_cons.mp a with e | e
      · exact e
      · rcases List.mem_cons.mp b with e' | e'
        · exact e'.symm
        · have := h2' x e
          have := h1' y e'
          omega
    subst e
    rw [sorted_one (List.Perm.cons_inv p) (List.pairwise_cons.mp h1).2 (List.pairwise_cons.mp h2).2]
theorem mergeSort_is {xs ns : List Int} (p : xs.Perm ns) (h : xs.Pairwise (· ≤ ·)) : ns.mergeSort (fun a b => decide (a ≤ b)) = xs := by
  refine (sorted_one (p.trans (List.mergeSort_perm ns _).symm) h ?_).symm
  have := List.pairwise_mergeSort (le := fun a b : Int => decide (a ≤ b)) (fun a b c h1 h2 => by simp at *; omega) (fun a b => by simp; omega) ns
  exact this.imp fun h => by simpa using h
theorem fr_intsAll {K : PySem.W.Frag} {H : Hp} {F : Addr → Prop} (ns : List Int) : FrAll K H F (ns.map V.int) (ns.map PyData.int) := fr_pyInts ns
theorem o_sortI : Op1 K (fun x H Q => rSorted K [x] H Q) gSortI := fun H F x d z Q px h q => by
  unfold gSortI at h
  split at h
  · obtain ⟨ns, h1, h2⟩ := Option.bind_eq_some_iff.mp h
    obtain ⟨h3, rfl⟩ := opt_if h2
    obtain ⟨a, xs, rfl, e1, e2⟩ := px.list
    have := intsOf_map h1
    subst this
    have := e2.ints
    subst this
    refine ⟨a, ns, rfl, e1, h3, fun ns' p hp hw hn => q.new _ _ p rfl hn ?_⟩
    rw [mergeSort_is hp hw]
    exact fr_intsAll ns'
  · cases h
/-! repr -/
mutual
theorem dp_noDict {K : PySem.W.Frag} {H : Hp} : ∀ {v : V} {d : PyData}, Dp K H v d → d.hasDict = false
  | _, _, .non => by simp only [PyData.hasDict]
  | _, _, .bl _ => by simp only [PyData.hasDict]
  | _, _, .int _ => by simp only [PyData.hasDict]
  | _, _, .str _ => by simp only [PyData.hasDict]
  | _, _, .lst _ h => by simp only [PyData.hasDict]; exact dp_noDictAll h
  | _, _, .tup _ h => by simp only [PyData.hasDict]; exact dp_noDictAll h
theorem dp_noDictAll {K : PySem.W.Frag} {H : Hp} : ∀ {v : List V} {d : List PyData}, DpAll K H v d → PyData.hasDictAll d = false
  | _, _, .nil => by simp only [PyData.hasDictAll]
  | _, _, .cons h1 h2 => by simp only [PyData.hasDictAll, dp_noDict h1, dp_noDictAll h2, Bool.or_false]
end
def gRepr (d : PyData) : Option Rv := if (d.showable && decide (d.shown.length ≤ sizeLine) && decide (d.depth < 60)) = true then some (vS d.shown) else none
def rRepr (K : PySem.W.Frag) : List V → Hp → VK → Prop := fun xs H Q => ∃ x d, xs = [x] ∧ Dp K H x d ∧ d.showable = true ∧ d.shown.length ≤ sizeLine ∧ d.depth < 60 ∧ Q (.str d.shown) H
theorem call_reprD {X : Cx} (hgd : X.A.guards = some []) (hu : X.A.units + 64 < cLine) : CallR X (.builtin "repr") (rRepr X.K) := fun pins s σ H xs us Q I rv h => by
  obtain ⟨x, d, rfl, hd, h1, h2, h3, q⟩ := h
  obtain ⟨u, rfl, ru⟩ := vals1 rv
  obtain ⟨as, rd⟩ := Dp.reads I d x u hd ru
  have nd := dp_noDict hd
  have fin : ∀ (h' : Heap) (t tk : Tok), (∀ b o, s.heap.get? b = some o → h'.get? b = some o) → EP X pins σ Q (.str d.shown t) { s with heap := h', toks := tk } := fun h' t tk k => ⟨.str d.shown, H, I.kept k, ⟨t, rfl⟩, q⟩
  cases u with
  | ref a => exact repr_of_reads' rd h1 (PyData.noDict_hsm nd) hgd (by omega) (fun _ _ e => e) (fun h' t tk k => fin h' t tk k) h2
  | none => cases rd; exact PySem.P.repr_of_none ⟨.str (PyData.shown .none), H, I.tok _, ⟨s.toks, by simp [PyData.shown]⟩, q⟩
  | bool b => cases rd; exact PySem.P.repr_of_bool ⟨.str (PyData.shown (.bool b)), H, I.tok _, ⟨s.toks, by simp [PyData.shown]⟩, q⟩
  | int i t => cases rd; exact PySem.P.repr_of_int (by simpa [PyData.showable] using h1) ⟨.str (PyData.shown (.int i)), H, I.tok _, ⟨s.toks, by simp [PyData.shown]⟩, q⟩
  | str y t => cases rd; exact PySem.P.repr_of_str ⟨.str (PyData.shown (.str y)), H, I.tok _, ⟨s.toks, by simp [PyData.shown]⟩, q⟩ (by simpa [PyData.shown] using h2)
  | _ => cases rd
theorem o_repr : Op1 K (fun x H Q => rRepr K [x] H Q) gRepr := fun H F x d z Q px h q => by
  obtain ⟨h1, rfl⟩ := opt_if h
  simp only [Bool.and_eq_true, decide_eq_true_eq] at h1
  exact ⟨x, d, rfl, px.dp, h1.1.1, h1.1.2, h1.2, q.val _ _ rfl (.str _)⟩
end Mi

/-! Mi15.lean -/
set_option Elab.async false
set_option linter.all false
set_option maxRecDepth 100000
/-! objects changed: methods, stores; slices; two names at once -/
namespace Mi
open PySem L2 PySem.Spec PyProof.Rows
variable {K : PySem.W.Frag} {α : List Addr} {r r' : En} {σ : L2.St} {H H' : Hp} {F F' : Addr → Prop}

/-- the list of a name changed by a method: what becomes of it, what comes back -/
def mutF (x : Rv) (up : List PyData → List PyData → Option (List PyData × PyData)) (as : List PyData) : M Rv := fun r => match x with
  | .at l => match look r l with
    | some (.live (.lst ds)) => match up ds as with
      | some (ds', e) => .ok (.val e) (setLo r l (.live (.lst ds')))
      | none => .no
    | _ => .no
  | _ => .no
def isLst (x : Rv) : M Rv := fun r => match peek r x with
  | some (.list _) => .ok x r
  | _ => .no
def mutE (i : Nat) (up : List PyData → List PyData → Option (List PyData × PyData)) (g : M (List PyData)) : M Rv := M.bnd (nmE i) fun x => M.bnd (isLst x) fun x => M.bnd g fun as => mutF x up as
def MutR (K : PySem.W.Frag) (ro : V → List V → Hp → VK → Prop) (up : List PyData → List PyData → Option (List PyData × PyData)) : Prop :=
  ∀ (H : Hp) (F : Addr → Prop) (a : Addr) (xs vs : List V) (ds as ds' : List PyData) (e : PyData) (Q : VK), H a = some (.lst xs) → FrAll K H F xs ds → FrAll K H F vs as → up ds as = some (ds', e) →
    (∀ y ys, Fr K H F y e → FrAll K H F ys ds' → Q y (upd H a (.lst ys))) → ro (.ref a) vs H Q
theorem mutF_ok {ro : V → List V → Hp → VK → Prop} {up : List PyData → List PyData → Option (List PyData × PyData)} (hm : MutR K ro up) {x : Rv} {v : V} {vs : List V} {as : List PyData} {Q : VK} (S : SR K α r σ H F) (t : TR K α r σ H F x v) (fr : FrAll K H F vs as)
    (h : Aft K α σ (Own α r σ) H F W (mutF x up as r) Q) : ro v vs H Q := by
  cases x with
  | val d => exact h.elim
  | own o => exact h.elim
  | «at» l =>
    unfold mutF at h
    simp only at h
    obtain ⟨a, rfl, ha⟩ := t
    split at h
    · rename_i ds q
      split at h
      · rename_i ds' e q2
        obtain ⟨a', u, e1, h1, xs, rfl, h2⟩ := content_rel S (x := .at l) (b := .live (.lst ds)) ⟨a, rfl, ha⟩ q
        cases e1
        refine hm H F a xs vs ds as ds' e Q h1 h2 fr q2 fun y ys fy fys => ?_
        obtain ⟨S', st, ow⟩ := S.write q ha (o' := .lst ds') (u' := .lst ys) ⟨ys, rfl, fys⟩
        exact h y _ F S' (st.more fun z q => q.elim id fun ⟨⟨_, z⟩, _⟩ => nomatch z) (fy.stay st.stay)
      · exact h.elim
    · exact h.elim
theorem isLst_ok {x : Rv} {g : Rv → M Rv} {O : Addr → Prop} {Q : VK} (h : Aft K α σ O H F W (M.bnd (isLst x) g r) Q) : ∃ ds, peek r x = some (.list ds) ∧ Aft K α σ O H F W (g x r) Q := by
  unfold M.bnd isLst at h
  cases ep : peek r x with
  | none => simp only [ep] at h; exact h.elim
  | some d =>
    cases d with
    | list ds => simp only [ep] at h; exact ⟨ds, rfl, h⟩
    | _ => simp only [ep] at h; exact h.elim
theorem tL_bnd {f : M (List PyData)} {g : List PyData → M Rv} {Q : VK} (S : SR K α r σ H F) (h : Aft K α σ (Own α r σ) H F W (M.bnd f g r) Q) :
    tL K α W f σ H fun vs H1 => ∃ r1 F1 ds, SR K α r1 σ H1 F1 ∧ Step (Own α r σ) H F H1 F1 (Own α r1 σ) ∧ FrAll K H1 F1 vs ds ∧ Aft K α σ (Own α r1 σ) H1 F1 W (g ds r1) Q := by
  refine ⟨r, F, S, ?_⟩
  unfold M.bnd at h
  cases e : f r with
  | ok x r1 =>
    rw [e] at h
    exact fun v H1 F1 a b c => ⟨r1, F1, x, a, b, c, h.step b fun _ z => z⟩
  | ex x r1 => rw [e] at h; exact h
  | no => rw [e] at h; exact h.elim
theorem mut_ok {ro : V → List V → Hp → VK → Prop} {up : List PyData → List PyData → Option (List PyData × PyData)} (hm : MutR K ro up) {i : Nat} {g : M (List PyData)} {Q : VK} (h : tE K α W (mutE i up g) σ H Q) :
    tBM K "list" ro (tE K α W (nmE i)) (tL K α W g) σ H Q := by
  obtain ⟨r, F, S, h⟩ := h
  refine tE_mono (tE_bnd S h) fun x H1 ⟨r1, F1, x1, S1, st1, t1, h1⟩ => ?_
  obtain ⟨ds, ep, h2⟩ := isLst_ok h1
  obtain ⟨a, xs, e, hs, _⟩ := (peek_rel S1 t1 ep).list
  subst e
  refine ⟨.inl ⟨rfl, xs, hs⟩, tL_mono (tL_bnd S1 h2) fun vs H2 ⟨r2, F2, as, S2, st2, fr, h3⟩ => ?_⟩
  exact mutF_ok hm S2 (t1.step st2 fun _ z => z) fr h3
theorem mut0_ok {ro : V → List V → Hp → VK → Prop} {up : List PyData → List PyData → Option (List PyData × PyData)} (hm : MutR K ro up) {i : Nat} {Q : VK} (h : tE K α W (mutE i up nilL) σ H Q) :
    tBM0 K "list" ro (tE K α W (nmE i)) σ H Q := by
  obtain ⟨r, F, S, h⟩ := h
  refine tE_mono (tE_bnd S h) fun x H1 ⟨r1, F1, x1, S1, st1, t1, h1⟩ => ?_
  obtain ⟨ds, ep, h2⟩ := isLst_ok h1
  obtain ⟨a, xs, e, hs, _⟩ := (peek_rel S1 t1 ep).list
  subst e
  exact ⟨.inl ⟨rfl, xs, hs⟩, mutF_ok hm S1 t1 .nil h2⟩
def uApp (ds as : List PyData) : Option (List PyData × PyData) := match as with
  | [d] => if ds.length < sizeLine then some (ds ++ [d], .none) else none
  | _ => none
theorem m_app : MutR K rAppend uApp := fun H F a xs vs ds as ds' e Q hH fx fv h q => by
  unfold uApp at h
  split at h
  · obtain ⟨h1, h2⟩ := opt_if h
    cases h2
    match vs, fv with
    | [v], .cons f1 .nil => exact ⟨a, xs, v, rfl, rfl, hH, by rw [fx.len]; exact h1, q _ _ .non (fx.app (.cons f1 .nil))⟩
  · cases h
def uPop0 (ds as : List PyData) : Option (List PyData × PyData) := match as with
  | [] => ds[ds.length - 1]?.map fun e => (ds.dropLast, e)
  | _ => none
theorem FrAll.dropLast {v : List V} {d : List PyData} (h : FrAll K H F v d) : FrAll K H F v.dropLast d.dropLast := by
  rw [List.dropLast_eq_take, List.dropLast_eq_take, h.len]
  exact h.take _
theorem m_pop0 : MutR K rPop uPop0 := fun H F a xs vs ds as ds' e Q hH fx fv h q => by
  unfold uPop0 at h
  split at h
  · obtain ⟨w, h1, h2⟩ := Option.map_eq_some_iff.mp h
    cases h2
    cases fv
    obtain ⟨x, gx, f1⟩ := fx.get h1
    exact ⟨a, xs, x, rfl, rfl, hH, by rw [fx.len]; exact gx, q _ _ f1 fx.dropLast⟩
  · cases h
def uPop (ds as : List PyData) : Option (List PyData × PyData) := match as with
  | [.int i] => if -(2 ^ 63) ≤ i ∧ i < 2 ^ 63 then (ixN ds.length i).bind fun k => ds[k]?.map fun e => (ds.eraseIdx k, e) else none
  | _ => none
theorem m_pop : MutR K rPopAt uPop := fun H F a xs vs ds as ds' e Q hH fx fv h q => by
  unfold uPop at h
  split at h
  · split at h
    · rename_i hi
      obtain ⟨k, h1, h2⟩ := Option.bind_eq_some_iff.mp h
      obtain ⟨w, h3, h4⟩ := Option.map_eq_some_iff.mp h2
      cases h4
      match vs, fv with
      | [_], .cons (.int i) .nil =>
        obtain ⟨x, gx, f1⟩ := fx.get h3
        exact ⟨a, xs, i, k, x, rfl, rfl, hH, hi.1, hi.2, by rw [fx.len]; exact (ixN_seq h1).1, gx, q _ _ f1 (fx.erase k)⟩
    · cases h
  · cases h
def uRev (ds as : List PyData) : Option (List PyData × PyData) := match as with
  | [] => some (ds.reverse, .none)
  | _ => none
theorem m_rev : MutR K rReverse uRev := fun H F a xs vs ds as ds' e Q hH fx fv h q => by
  unfold uRev at h
  split at h
  · cases h; cases fv; exact ⟨a, xs, rfl, rfl, hH, q _ _ .non fx.rev⟩
  · cases h
def uClr (ds as : List PyData) : Option (List PyData × PyData) := match as with
  | [] => some ([], .none)
  | _ => none
theorem m_clr : MutR K rClear uClr := fun H F a xs vs ds as ds' e Q hH fx fv h q => by
  unfold uClr at h
  split at h
  · cases h; cases fv; exact ⟨a, xs, rfl, rfl, hH, q _ _ .non .nil⟩
  · cases h
/-- xs.extend(ys), ys any list -/
def rExtX (K : PySem.W.Frag) : V → List V → Hp → VK → Prop := fun x vs H Q => ∃ l b xs zs, x = .ref l ∧ vs = [.ref b] ∧ H l = some (.lst xs) ∧ Lx K H b zs ∧ xs.length + zs.length ≤ sizeLine ∧ Q .non (upd H l (.lst (xs ++ zs)))
theorem mt_extX {X : Cx} : MtM X "list.extend" (rExtX X.K) := fun pins s σ H x vs v us Q I rx rv h => by
  obtain ⟨l, b, xs, zs, rfl, rfl, hH, hB, hz, q⟩ := h
  cases rx
  obtain ⟨u, rfl, ru⟩ := rv.one
  cases ru
  obtain ⟨_, its, n, r1, _, e1⟩ := I.lstM hH
  obtain ⟨its2, n2, r2, _, e2⟩ := lx_obj I hB
  have l1 := r1.length
  have l2 := r2.length
  have small : its.toArray.size + its2.toArray.size ≤ sizeLine := by simp only [List.size_toArray]; omega
  have nl : ¬ (!its.toArray.isEmpty && Builtin.List.listTooLong (its.toArray.size + its2.toArray.size)) = true := by
    rw [notLongL small]
    simp
  have sl : its2.length ≤ sizeLine := by omega
  refine call_meets F.slot_list_extend ⟨_, e1, rfl⟩ F.entry_list_extend (F.args_list_extend_2 _ _) (AutoSeq1.list_extend_list_list_0 l its.toArray n b its2.toArray n2 nl (by simp only [List.size_toArray]; omega) (by simp only [List.size_toArray] at *; omega)) ⟨e1, e2, ?_⟩
  exact ⟨.non, _, I.lset (its' := its ++ its2) hH e1 (by simp) (Vals.append r1 r2) (by rw [List.length_append]; omega), rfl, q⟩
def uExt (ds as : List PyData) : Option (List PyData × PyData) := match as with
  | [.list es] => if ds.length + es.length ≤ sizeLine then some (ds ++ es, .none) else none
  | _ => none
theorem m_ext : MutR K (rExtX K) uExt := fun H F a xs vs ds as ds' e Q hH fx fv h q => by
  unfold uExt at h
  split at h
  · obtain ⟨h1, h2⟩ := opt_if h
    cases h2
    match vs, fv with
    | [v], .cons f1 .nil =>
      obtain ⟨b, ys, rfl, l1, f2⟩ := f1.lx
      exact ⟨a, b, xs, ys, rfl, rfl, hH, l1, by rw [fx.len, f2.len]; exact h1, q _ _ .non (fx.app f2)⟩
  · cases h
section
variable {X : Cx} {e : Expr} {g : M (List PyData)} {i : Nat} {ro : V → List V → Hp → VK → Prop} {up : List PyData → List PyData → Option (List PyData × PyData)}
theorem ev_mut (h : PE X e (tBM X.K "list" ro (tE X.K α W (nmE i)) (tL X.K α W g))) (hu : MutR X.K ro up) : PE X e (tE X.K α W (mutE i up g)) := pe_weak h fun _ _ _ q => mut_ok hu q
theorem ev_mut0 (h : PE X e (tBM0 X.K "list" ro (tE X.K α W (nmE i)))) (hu : MutR X.K ro up) : PE X e (tE X.K α W (mutE i up nilL)) := pe_weak h fun _ _ _ q => mut0_ok hu q
end
/-! reading methods of lists: xs.count(y) -/
def metE (g : PyData → List PyData → Option Rv) (f : M Rv) (a : M (List PyData)) : M Rv := M.bnd f fun x => M.bnd (isLst x) fun x => M.bnd a fun as r => match peek r x with
  | some d => match g d as with
    | some z => .ok z r
    | none => .no
  | none => .no
def MetR (K : PySem.W.Frag) (ro : V → List V → Hp → VK → Prop) (g : PyData → List PyData → Option Rv) : Prop :=
  ∀ (H : Hp) (F : Addr → Prop) (x : V) (vs : List V) (d : PyData) (as : List PyData) (z : Rv) (Q : VK), Pk K H F x d → FrAll K H F vs as → g d as = some z → Fin K H F z Q → ro x vs H Q
theorem met_ok {ro : V → List V → Hp → VK → Prop} {gm : PyData → List PyData → Option Rv} (hm : MetR K ro gm) {f : M Rv} {g : M (List PyData)} {Q : VK} (h : tE K α W (metE gm f g) σ H Q) :
    tBM K "list" ro (tE K α W f) (tL K α W g) σ H Q := by
  obtain ⟨r, F, S, h⟩ := h
  refine tE_mono (tE_bnd S h) fun x H1 ⟨r1, F1, x1, S1, st1, t1, h1⟩ => ?_
  obtain ⟨ds, ep, h2⟩ := isLst_ok h1
  obtain ⟨a, xs, e, hs, _⟩ := (peek_rel S1 t1 ep).list
  subst e
  refine ⟨.inl ⟨rfl, xs, hs⟩, tL_mono (tL_bnd S1 h2) fun vs H2 ⟨r2, F2, as, S2, st2, fr, h3⟩ => ?_⟩
  cases e1 : peek r2 x1 with
  | none => simp only [e1] at h3; exact h3.elim
  | some d =>
    simp only [e1] at h3
    cases e2 : gm d as with
    | none => simp only [e2] at h3; exact h3.elim
    | some z =>
      simp only [e2] at h3
      exact hm H2 F2 _ vs d as z Q (peek_rel S2 (t1.step st2 fun _ z => z) e1) fr e2 (Aft.fin S2 h3)
def flatD : PyData → Bool
  | .none => true
  | .bool _ => true
  | .int _ => true
  | .str _ => true
  | _ => false
def flatV' : PyData → V
  | .bool b => .bl b
  | .int i => .int i
  | .str x => .str x
  | _ => .non
theorem flat_fr {v : V} {d : PyData} (h : Fr K H F v d) (e : flatD d = true) : flatV v = true ∧ v = flatV' d := by
  cases h <;> first | exact ⟨rfl, rfl⟩ | cases e
theorem flat_eq {v w : V} {d e : PyData} (h : Fr K H F v d) (h' : Fr K H F w e) (fd : flatD d = true) (fe : flatD e = true) : eqV v w = PyData.eqv d e := by
  have h1 := (flat_fr h fd).2
  have h2 := (flat_fr h' fe).2
  subst h1 h2
  clear h h'
  cases d <;> first | (cases fd; done) | (cases e <;> first | (cases fe; done) | rfl)
theorem FrAll.flat {v : List V} {d : List PyData} (h : FrAll K H F v d) (e : d.all flatD = true) : v.all flatV = true := by
  induction d generalizing v with
  | nil => cases h; rfl
  | cons d ds ih =>
    cases h with
    | cons h1 h2 =>
      have e := Bool.and_eq_true_iff.mp (show (flatD d && ds.all flatD) = true from e)
      exact Bool.and_eq_true_iff.mpr ⟨(flat_fr h1 e.1).1, ih h2 e.2⟩
theorem FrAll.count {v : List V} {d : List PyData} {w : V} {e : PyData} (h : FrAll K H F v d) (h' : Fr K H F w e) (fd : d.all flatD = true) (fe : flatD e = true) : v.countP (fun y => eqV y w) = d.countP fun z => PyData.eqv z e := by
  induction d generalizing v with
  | nil => cases h; rfl
  | cons d ds ih =>
    cases h with
    | cons h1 h2 =>
      have fd := Bool.and_eq_true_iff.mp (show (flatD d && ds.all flatD) = true from fd)
      rw [List.countP_cons, List.countP_cons, ih h2 fd.2, flat_eq h1 h' fd.1 fe]
def rCntV (K : PySem.W.Frag) : V → List V → Hp → VK → Prop := fun x ys H Q => ∃ p xs y, x = .ref p ∧ ys = [y] ∧ Lx K H p xs ∧ flatV y = true ∧ xs.all flatV = true ∧ Q (.int (xs.countP fun z => eqV z y : Nat)) H
def absEq (y : V) (u : Value) : Bool := match absV u with
  | some z => eqV z y
  | none => false
theorem count_vals (y : V) : ∀ {xs : List V} {us : List Value}, Vals xs us → us.countP (absEq y) = xs.countP fun z => eqV z y
  | _, _, .nil => rfl
  | _, _, .cons r t => by
    rw [List.countP_cons, List.countP_cons, count_vals y t]
    unfold absEq
    rw [r.abs]
theorem vals_mem : ∀ {xs : List V} {us : List Value} {u : Value}, Vals xs us → u ∈ us → ∃ x ∈ xs, RelV x u
  | _, _, _, .nil, h => nomatch h
  | _, _, _, .cons r t, h => (List.mem_cons.mp h).elim (fun e => ⟨_, List.mem_cons_self, e ▸ r⟩) fun h => by
    obtain ⟨x, h1, h2⟩ := vals_mem t h
    exact ⟨x, List.mem_cons_of_mem _ h1, h2⟩
theorem mt_cntV {X : Cx} : MtR X "list.count" (rCntV X.K) := fun pins s σ H x ys v us Q I rx ry h => by
  obtain ⟨p, xs, y, rfl, rfl, hl, fy, fx, q⟩ := h
  cases rx
  obtain ⟨u, rfl, ru⟩ := ry.one
  obtain ⟨its, n, rv, _, ho⟩ := lx_obj I hl
  refine call_meets PySem.F.slot_list_count ⟨_, ho, rfl⟩ PySem.F.entry_list_count (PySem.F.args_list_count_2 _ _) (SeqAt.list_countAt p its.toArray n none #[] u (absEq y)) ⟨ho, fun z hz => ?_, ?_⟩
  · obtain ⟨x, h1, h2⟩ := vals_mem rv (by simpa using hz)
    have e : absEq y z = eqV x y := by unfold absEq; rw [h2.abs]
    rw [e]
    exact eqAt_V h2 ru (List.all_eq_true.mp fx x h1) fy
  · refine ⟨.int (xs.countP fun z => eqV z y : Nat), H, I.tok _, ⟨s.toks, ?_⟩, q⟩
    rw [← count_vals y rv]
def gCnt (d : PyData) (as : List PyData) : Option Rv := match d, as with
  | .list ds, [e] => if (ds.all flatD && flatD e) = true then some (vI (ds.countP fun z => PyData.eqv z e : Nat)) else none
  | _, _ => none
theorem o_cnt : MetR K (rCntV K) gCnt := fun H F x vs d as z Q px fr h q => by
  unfold gCnt at h
  split at h
  · obtain ⟨h1, rfl⟩ := opt_if h
    obtain ⟨f1, f2⟩ := Bool.and_eq_true_iff.mp h1
    obtain ⟨a, xs, rfl, l, fx⟩ := px.lx
    match vs, fr with
    | [v], .cons fv .nil => exact ⟨a, xs, v, rfl, rfl, l, (flat_fr fv f2).1, fx.flat f1, by rw [fx.count fv f1 f2]; exact q.val _ _ rfl (.int _)⟩
  · cases h
theorem ev_met {X : Cx} {e : Expr} {f : M Rv} {g : M (List PyData)} {ro : V → List V → Hp → VK → Prop} {gm : PyData → List PyData → Option Rv} (h : PE X e (tBM X.K "list" ro (tE X.K α W f) (tL X.K α W g))) (hm : MetR X.K ro gm) : PE X e (tE X.K α W (metE gm f g)) := pe_weak h fun _ _ _ q => met_ok hm q
/-! ### xs[i] = e -/
def stoF (d : PyData) (o i : Rv) (r : En) : Out := match o with
  | .at l => match look r l, peek r i with
    | some (.live (.lst ds)), some (.int k) => match ixN ds.length k with
      | some n => .nx (setLo r l (.live (.lst (ds.set n d))))
      | none => .no
    | _, _ => .no
  | _ => .no
def stoS (f : M Rv) (j : Nat) (g : M Rv) : Stm := ofM f fun x => ofM (frz x) fun d => ofM (nmE j) fun o => ofM g fun i => stoF d o i
theorem stoF_ok {d : PyData} {o i : Rv} {v vo vi : V} {D : Ends} {O : Addr → Prop} (S : SR K α r σ H F) (fv : Fr K H F v d) (t1 : TR K α r σ H F o vo) (t2 : TR K α r σ H F i vi) (ho : ∀ a, Own α r σ a → O a) (h : AftS K α O H F W (stoF d o i r) D) :
    rSetL vo vi v H fun H3 => D.nx σ H3 := by
  cases o with
  | val d => exact h.elim
  | own o => exact h.elim
  | «at» l =>
    unfold stoF at h
    simp only at h
    split at h
    · rename_i ds k q1 q2
      split at h
      · rename_i n q3
        obtain ⟨a, rfl, ha⟩ := t1
        obtain ⟨a', u, e1, h1, xs, rfl, h2⟩ := content_rel S (x := .at l) (b := .live (.lst ds)) ⟨a, rfl, ha⟩ q1
        cases e1
        have e := (peek_rel S t2 q2).int
        subst e
        obtain ⟨S', st, ow⟩ := S.write q1 ha (o' := .lst (ds.set n d)) (u' := .lst (xs.set n v)) ⟨_, rfl, h2.set fv n⟩
        exact ⟨a, xs, k, n, rfl, rfl, h1, by rw [h2.len]; exact q3, h σ _ F S' (st.widen ho fun z q => .inl q)⟩
      · exact h.elim
    · exact h.elim
theorem sto_ok {f : M Rv} {j : Nat} {g : M Rv} {D : Ends} (h : tS K α W (stoS f j g) D σ H) : tAsg (tE K α W f) (gSub (tE K α W (nmE j)) (tE K α W g) rSetL) D σ H := by
  obtain ⟨r, F, S, h⟩ := h
  refine tE_mono (ofM_E S h) fun v H1 ⟨r1, F1, x, S1, st1, t1, h1⟩ => ?_
  unfold ofM at h1
  cases ez : frz x r1 with
  | no => simp only [ez] at h1; exact h1.elim
  | ex w r5 => exact absurd ez frz_ex
  | ok d r2 =>
    simp only [ez] at h1
    obtain ⟨F2, S2, fv, st2, _⟩ := frz_ok S1 t1 ez
    have h2 : AftS K α (Own α r2 σ) H1 F2 W (ofM (nmE j) (fun o => ofM g fun i => stoF d o i) r2) D := AftS.step h1 st2 fun _ z => z
    refine tE_mono (ofM_E S2 h2) fun vo H3 ⟨r3, F3, o, S3, st3, t3, h3⟩ => ?_
    have h3' : AftS K α (Own α r3 σ) H3 F3 W (ofM g (fun i => stoF d o i) r3) D := AftS.step h3 (Step.refl (O' := Own α r3 σ) fun _ z => .inl z) fun _ z => z
    refine tE_mono (ofM_E S3 h3') fun vi H4 ⟨r4, F4, i, S4, st4, t4, h4⟩ => ?_
    exact stoF_ok S4 (Fr.stay st4.stay (Fr.stay st3.stay fv)) (t3.step st4 fun _ z => .inl z) t4 (fun _ z => .inl z) h4
theorem sv_sto {X : Cx} {e : Expr} {f g : M Rv} {j : Nat} {pos : Pos} {tg : Expr} (he : PE X e (tE K α W f)) (hg : PG X tg (gSub (tE K α W (nmE j)) (tE K α W g) rSetL)) (hs : swapsWithSole [tg] e pos.line X.env = pure false := by rfl) (hw : swappedStores [tg] e X.env = pure none := by rfl)
    (h1 : (assignEach [tg] X.env).map (·.2) = [assign tg X.env] := by rfl) : PS X (.Assign [tg] e pos) (tS K α W (stoS f j g)) := ps_weak (ps_asg he hg hs hw h1) fun _ _ _ q => sto_ok q
/-! ### x[a:b] -/
def optI (f : Option (M Rv)) : M (Option Int) := match f with
  | none => M.ret none
  | some f => M.bnd f fun x r => match peek r x with
    | some (.int i) => .ok (some i) r
    | _ => .no
def cutD (xs : List PyData) (lo hi : Option Int) : List PyData := (xs.drop (HT.sIx xs.length 0 lo)).take (HT.sIx xs.length xs.length hi - HT.sIx xs.length 0 lo)
def gSl (d : PyData) (lo hi : Option Int) : Option Rv := match d with
  | .list ds => some (.own (.lst (cutD ds lo hi)))
  | .tuple ds => some (.val (.tuple (cutD ds lo hi)))
  | .str z => if z.length ≤ sizeLine then some (vS (cutS z lo hi)) else none
  | _ => none
def slE (f : M Rv) (lo hi : Option (M Rv)) : M Rv := M.bnd f fun x => M.bnd (optI lo) fun l => M.bnd (optI hi) fun h r => match (peek r x).bind fun d => gSl d l h with
  | some z => .ok z r
  | none => .no
theorem FrAll.cut {xs : List V} {ds : List PyData} (h : FrAll K H F xs ds) (lo hi : Option Int) : FrAll K H F (cutV xs lo hi) (cutD ds lo hi) := by
  unfold cutV cutD
  rw [h.len]
  exact (h.drop _).take _
def tO' (K : PySem.W.Frag) (α : List Addr) (W : L2.WX) (f : M (Option Int)) : TO := tB' K α W f
theorem tE_bndO {β : Type} {f : M Rv} {g : Rv → M β} {Q : β → Hp → Prop} (S : SR K α r σ H F) (h : AftB K α σ (Own α r σ) H F W (M.bnd f g r) Q) :
    tE K α W f σ H fun v H1 => ∃ r1 F1 x, SR K α r1 σ H1 F1 ∧ TR K α r1 σ H1 F1 x v ∧ AftB K α σ (Own α r1 σ) H1 F1 W (g x r1) Q := tE_mono (tE_bndB S h) fun v H1 ⟨r1, F1, x, a, b, c, d⟩ => ⟨r1, F1, x, a, c, d⟩
theorem optI_ok {f : M Rv} {Q : Option Int → Hp → Prop} (h : tB' K α W (optI (some f)) σ H Q) : tPart (tE K α W f) σ H Q := by
  obtain ⟨r, F, S, h⟩ := h
  refine tE_mono (tE_bndO S h) fun v H1 ⟨r1, F1, x, S1, t, h1⟩ => ?_
  split at h1
  · rename_i i q
    exact ⟨i, (peek_rel S1 t q).int, AftB.here S1 h1⟩
  · exact h1.elim
def rSlX (K : PySem.W.Frag) : V → Option Int → Option Int → Hp → VK → Prop := fun x lo hi H Q => rSlL K x lo hi H Q ∨ rSlA K x lo hi H Q ∨ rSlS x lo hi H Q
theorem sl_any {X : Cx} : L2.SlR X (rSlX X.K) := sl_list.or (sl_tupA.or sl_str)
theorem o_sl {x : V} {d : PyData} {lo hi : Option Int} {z : Rv} {Q : VK} (px : Pk K H F x d) (h : gSl d lo hi = some z) (q : Fin K H F z Q) : rSlX K x lo hi H Q := by
  unfold gSl at h
  split at h
  · cases h
    obtain ⟨a, xs, rfl, e1, r1⟩ := px.list
    exact .inl ⟨a, xs, rfl, e1, fun p hp => q.new _ _ p rfl hp (r1.cut lo hi)⟩
  · cases h
    obtain ⟨a, xs, rfl, e1, r1⟩ := px.tup
    refine .inr (.inl ⟨a, xs, rfl, e1, fun w => ?_, fun _ p hp => q.tup _ _ p rfl hp (r1.cut lo hi)⟩)
    refine q.val _ _ rfl (.tup e1 ?_)
    have c := r1.cut lo hi
    have e : cutV xs lo hi = xs := by
      unfold cutV
      rw [w.1, w.2]
      simp
    rwa [e] at c
  · obtain ⟨h1, rfl⟩ := opt_if h
    have e := px.str
    subst e
    exact .inr (.inr ⟨_, rfl, h1, q.val _ _ rfl (.str _)⟩)
  · cases h
theorem tB_bndK {β γ : Type} {f : M β} {g : β → M γ} {P : Res γ → Prop} (hno : ¬ P .no) (S : SR K α r σ H F) (hex : ∀ x e, P (.ex x e) → AftX K α σ (Own α r σ) H F W x e) (h : P (M.bnd f g r)) {Q : β → Hp → Prop}
    (q : ∀ b H1 r1 F1, SR K α r1 σ H1 F1 → Step (Own α r σ) H F H1 F1 (Own α r1 σ) → P (g b r1) → Q b H1) : tB' K α W f σ H Q := by
  refine ⟨r, F, S, ?_⟩
  unfold M.bnd at h
  cases e : f r with
  | no => rw [e] at h; exact absurd h hno
  | ex z r1 => rw [e] at h; exact hex _ _ h
  | ok b r1 => rw [e] at h; exact fun H1 F1 S1 st => q b H1 r1 F1 S1 st h
theorem sl_ok {f : M Rv} {lo hi : Option (M Rv)} {tl th : TO} (hl : ∀ σ H Q, tB' K α W (optI lo) σ H Q → tl σ H Q) (hh : ∀ σ H Q, tB' K α W (optI hi) σ H Q → th σ H Q) {Q : VK} (h : tE K α W (slE f lo hi) σ H Q) : tSl (rSlX K) (tE K α W f) tl th σ H Q := by
  obtain ⟨r, F, S, h⟩ := h
  refine tE_mono (tE_bnd S h) fun x H1 ⟨r1, F1, x1, S1, st1, t1, h1⟩ => hl _ _ _ ?_
  refine tB_bndK (P := fun z => Aft K α σ (Own α r1 σ) H1 F1 W z Q) (fun z => z) S1 (fun _ _ z => z) h1 fun l H2 r2 F2 S2 st2 h2 => hh _ _ _ ?_
  have h2 := h2.step st2 fun _ z => z
  refine tB_bndK (P := fun z => Aft K α σ (Own α r2 σ) H2 F2 W z Q) (fun z => z) S2 (fun _ _ z => z) h2 fun u H3 r3 F3 S3 st3 h3 => ?_
  have h3 := h3.step st3 fun _ z => z
  split at h3
  · rename_i z q
    obtain ⟨d, q1, q2⟩ := Option.bind_eq_some_iff.mp q
    exact o_sl (peek_rel S3 ((t1.step st2 fun _ z => z).step st3 fun _ z => z) q1) q2 (Aft.fin S3 h3)
  · exact h3.elim
section
variable {X : Cx} {e a b : Expr} {f fa fb : M Rv} {pos p2 : Pos}
theorem ev_sl (he : PE X e (tE X.K α W f)) : PE X (.Subscript e (.Slice none none none p2) pos) (tE X.K α W (slE f none none)) := pe_weak (pe_slice sl_any he po_none po_none) fun _ _ _ q => sl_ok (fun _ _ _ z => tB_ret z) (fun _ _ _ z => tB_ret z) q
theorem ev_slL (he : PE X e (tE X.K α W f)) (ha : PE X a (tE X.K α W fa)) : PE X (.Subscript e (.Slice (some a) none none p2) pos) (tE X.K α W (slE f (some fa) none)) := pe_weak (pe_slice sl_any he (po_some ha) po_none) fun _ _ _ q => sl_ok (fun _ _ _ z => optI_ok z) (fun _ _ _ z => tB_ret z) q
theorem ev_slH (he : PE X e (tE X.K α W f)) (hb : PE X b (tE X.K α W fb)) : PE X (.Subscript e (.Slice none (some b) none p2) pos) (tE X.K α W (slE f none (some fb))) := pe_weak (pe_slice sl_any he po_none (po_some hb)) fun _ _ _ q => sl_ok (fun _ _ _ z => tB_ret z) (fun _ _ _ z => optI_ok z) q
theorem ev_slLH (he : PE X e (tE X.K α W f)) (ha : PE X a (tE X.K α W fa)) (hb : PE X b (tE X.K α W fb)) : PE X (.Subscript e (.Slice (some a) (some b) none p2) pos) (tE X.K α W (slE f (some fa) (some fb))) := pe_weak (pe_slice sl_any he (po_some ha) (po_some hb)) fun _ _ _ q => sl_ok (fun _ _ _ z => optI_ok z) (fun _ _ _ z => optI_ok z) q
end
end Mi

/-! Mi16.lean -/
set_option Elab.async false
set_option linter.all false
set_option maxRecDepth 100000
/-! constants of the top; two names at once; repeated lists; ranges as lists -/
namespace Mi
open PySem L2 PySem.Spec PyProof.Rows
variable {K : PySem.W.Frag} {α : List Addr} {r r' : En} {σ : L2.St} {H H' : Hp} {F F' : Addr → Prop}
theorem u65 {A : Around} {k : Nat} (hr : Room k A) : A.units + 65 < cLine := by have := hr.un; omega
theorem ev_gint {X : Cx} {x : Str} {pos : Pos} {i : Int} (hg : Gl X x) (h : ∃ t, X.mg x = some (.int i t)) (hd : (x == ("__debug__" : Str)) = false := by decide) : PE X (.Name x pos) (tE K α W (kE (.int i))) := by
  obtain ⟨t, h⟩ := h
  exact ev_k (v := .int i) (pe_glob hg h ⟨t, rfl⟩ hd) fun _ _ => .int i
theorem ev_gstr {X : Cx} {x : Str} {pos : Pos} {i : Str} (hg : Gl X x) (h : ∃ t, X.mg x = some (.str i t)) (hd : (x == ("__debug__" : Str)) = false := by decide) : PE X (.Name x pos) (tE K α W (kE (.str i))) := by
  obtain ⟨t, h⟩ := h
  exact ev_k (v := .str i) (pe_glob hg h ⟨t, rfl⟩ hd) fun _ _ => .str i
/-! a, b = x, y -/
def deS (x : Rv) : M Rv := fun r => match x with
  | .at (.slot j) => match frz (.at (.slot j)) r with
    | .ok d r1 => .ok (.val d) r1
    | _ => .no
  | _ => .ok x r
def slOf (r : En) : Rv → Option Sl
  | .val d => some (.val d)
  | .own o => some (.own o)
  | .at (.obj k) => match r.os[k]? with
    | some (.live _) => some (.bor k)
    | some (.dead d) => some (.val d)
    | none => none
  | .at (.slot _) => none
def parS (i j : Nat) (g : M (List Rv)) : Stm := fun r => match g r with
  | .ok [x, y] r1 => match deS x r1 with
    | .ok x r2 => match deS y r2 with
      | .ok y r3 => match slOf r3 x, slOf r3 y with
        | some s, some t => .nx (put (put r3 i s) j t)
        | _, _ => .no
      | _ => .no
    | _ => .no
  | .ex e r1 => .ex e r1
  | _ => .no
theorem deS_ok (S : SR K α r σ H F) {x y : Rv} {v : V} (t : TR K α r σ H F x v) (e : deS x r = .ok y r') : ∃ F', SR K α r' σ H F' ∧ TR K α r' σ H F' y v ∧ Step (Own α r σ) H F H F' (Own α r' σ) ∧
    (∀ a, Own α r' σ a → Own α r σ a) ∧ ((∃ o, y = .own o) → x = y) := by
  have same : .ok x r = (.ok y r' : Res Rv) → ∃ F', SR K α r' σ H F' ∧ TR K α r' σ H F' y v ∧ Step (Own α r σ) H F H F' (Own α r' σ) ∧ (∀ a, Own α r' σ a → Own α r σ a) ∧ ((∃ o, y = .own o) → x = y) := fun e => by
    cases e; exact ⟨F, S, t, Step.refl fun _ z => z, fun _ z => z, fun _ => rfl⟩
  cases x with
  | val d => exact same e
  | own o => exact same e
  | «at» l =>
    cases l with
    | obj k => exact same e
    | slot j =>
      have e : (match frz (.at (.slot j)) r with
        | .ok d r1 => (.ok (.val d) r1 : Res Rv)
        | _ => .no) = .ok y r' := e
      split at e
      · rename_i d r1 q
        cases e
        obtain ⟨F', S', fr, st, ow⟩ := frz_ok S t q
        exact ⟨F', S', fr, st.widen (fun a z => z.elim id fun ⟨⟨_, z⟩, _⟩ => nomatch z) fun a z => .inl z, fun a z => ow a z, fun ⟨_, z⟩ => nomatch z⟩
      · cases e
theorem slOf_ok (S : SR K α r σ H F) {x : Rv} {v : V} {s : Sl} (t : TR K α r σ H F x v) (e : slOf r x = some s) : SlR K α H F s v ∧ (∀ o, s = .own o → x = .own o) ∧ (∀ o a, s = .own o → v = .ref a → ¬ F a ∧ ¬ Own α r σ a) := by
  cases x with
  | val d => cases e; exact ⟨t, nofun, nofun⟩
  | own o =>
    cases e
    obtain ⟨a, u, rfl, h1, h2, h3, h4⟩ := t
    exact ⟨⟨a, u, rfl, h1, h2⟩, fun o z => by cases z; rfl, fun o' a' _ z => by cases z; exact ⟨h3, h4⟩⟩
  | «at» l =>
    cases l with
    | slot j => cases e
    | obj k =>
      obtain ⟨a, rfl, ha⟩ := t
      have e : (match r.os[k]? with
        | some (.live _) => some (.bor k)
        | some (.dead d) => some (.val d)
        | none => none) = some s := e
      split at e
      · cases e; exact ⟨⟨a, rfl, ha⟩, nofun, nofun⟩
      · rename_i d q
        cases e
        obtain ⟨a', h1, h2⟩ := S.obj _ _ q
        have ha : α[k]? = some a := ha
        rw [h1] at ha; cases ha
        exact ⟨h2, nofun, nofun⟩
      · cases e
theorem par_ok {g : M (List Rv)} {i j : Nat} {D : Ends} (S : SR K α r σ H F) (h : AftS K α (Own α r σ) H F W (parS i j g r) D) :
    tR K α W g σ H fun vs H1 => ∃ v w, vs = [v, w] ∧ D.nx ((σ.set i (some v)).set j (some w)) H1 := by
  refine ⟨r, F, S, ?_⟩
  unfold parS at h
  cases e : g r with
  | no => rw [e] at h; exact h.elim
  | ex x r1 => rw [e] at h; exact h σ
  | ok xs r1 =>
    rw [e] at h
    intro vs H1 F1 S1 st1 t1
    obtain ⟨all, one⟩ := t1
    match xs, vs, all, h with
    | [x, y], [v, w], .cons tx (.cons ty .nil), h =>
      refine ⟨v, w, rfl, ?_⟩
      cases e1 : deS x r1 with
      | no => simp only [e1] at h; exact h.elim
      | ex z r2 => simp only [e1] at h; exact h.elim
      | ok x' r2 =>
        simp only [e1] at h
        cases e2 : deS y r2 with
        | no => simp only [e2] at h; exact h.elim
        | ex z r3 => simp only [e2] at h; exact h.elim
        | ok y' r3 =>
          simp only [e2] at h
          obtain ⟨F2, S2, tx2, st2, ow2, sx⟩ := deS_ok S1 tx e1
          obtain ⟨F3, S3, ty3, st3, ow3, sy⟩ := deS_ok S2 (ty.step st2 fun a z => z) e2
          have tx3 := tx2.step st3 fun a z => z
          cases e3 : slOf r3 x' with
          | none => simp only [e3] at h; exact h.elim
          | some s =>
            cases e4 : slOf r3 y' with
            | none => simp only [e3, e4] at h; exact h.elim
            | some t =>
              simp only [e3, e4] at h
              obtain ⟨rs, os, ns⟩ := slOf_ok S3 tx3 e3
              obtain ⟨rt, ot, nt⟩ := slOf_ok S3 ty3 e4
              have far : ∀ o o' a, s = .own o → v = .ref a → t = .own o' → w = .ref a → False := fun o o' a z1 z2 z3 z4 => by
                have ex : x = .own o := by rw [sx ⟨o, os o z1⟩]; exact os o z1
                have ey : y = .own o' := by rw [sy ⟨o', ot o' z3⟩]; exact ot o' z3
                have := one 0 1 o o' a (by simp [ex]) (by simp [z2]) (by simp [ey]) (by simp [z4])
                cases this
              have S4 := S3.put (i := i) rs ns
              have S5 := S4.put (i := j) rt fun o a z1 z2 => ⟨(nt o a z1 z2).1, fun z => (put_own z).elim (nt o a z1 z2).2 fun ⟨⟨o', z3⟩, z4⟩ => far o' o a z3 z4 z1 z2⟩
              have wide : ∀ a, Own α r1 σ a → OwnTs α r1 σ [x, y] [v, w] a := fun a z => .inl z
              have st12 := st1.trans (st2.widen wide fun a z => .inr (.inl (ow2 a z))) fun a z => z
              have st13 := st12.trans st3 fun a z => z
              refine h _ H1 F3 S5 ?_
              have fresh : ∀ (q : V) (u : Rv) (k : Nat) (a : Addr), (∃ o, [x, y][k]? = some (.own o)) → [v, w][k]? = some (.ref a) → OwnTs α r1 σ [x, y] [v, w] a := fun q u k a ⟨o, z1⟩ z2 => .inr ⟨k, o, z1, z2⟩
              have low : ∀ a, Own α (put (put r3 i s) j t) ((σ.set i (some v)).set j (some w)) a → OwnTs α r1 σ [x, y] [v, w] a := fun a z => by
                rcases put_own z with z | ⟨⟨o, z1⟩, z2⟩
                · rcases put_own z with z | ⟨⟨o, z1⟩, z2⟩
                  · exact .inl (ow2 a (ow3 a z))
                  · exact .inr ⟨0, o, by rw [sx ⟨o, os o z1⟩, os o z1]; rfl, by rw [z2]; rfl⟩
                · exact .inr ⟨1, o, by rw [sy ⟨o, ot o z1⟩, ot o z1]; rfl, by rw [z2]; rfl⟩
              exact ⟨st13.keep, st13.stay, st13.nfz, fun a z => st1.own a (low a z), st13.dom⟩
theorem sv_par {X : Cx} {i j : Nat} {x y : Str} {a b : Expr} {g : M (List Rv)} {px py pt pos : Pos} {kt k2 pt2} (hc : X.calm = true) (hN : X.N.Nodup) (hi : X.N[i]? = some x) (hj : X.N[j]? = some y) (hij : i ≠ j)
    (hx : X.env.scope.names.lookup x = some .local) (hy : X.env.scope.names.lookup y = some .local) (ha : PA X [a, b] (tR X.K α W g))
    (hw : swappedStores [.Tuple [.Name x px, .Name y py] kt pt] (.Tuple [a, b] k2 pt2) X.env = pure (some [x, y]) := by rfl)
    (hs : swapsWithSole [.Tuple [.Name x px, .Name y py] kt pt] (.Tuple [a, b] k2 pt2) pos.line X.env = pure false := by rfl) :
    PS X (.Assign [.Tuple [.Name x px, .Name y py] kt pt] (.Tuple [a, b] k2 pt2) pos) (tS X.K α W (parS i j g)) := ps_weak (ps_par hc hN hi hj hij hx hy ha hw hs) fun D σ H ⟨r, F, S, h⟩ => par_ok S h
end Mi

/-! Mi17.lean -/
set_option Elab.async false
set_option linter.all false
set_option maxRecDepth 100000
/-! lists repeated; ranges as lists; two sequences side by side; types -/
namespace Mi
open PySem L2 PySem.Spec PyProof.Rows
variable {K : PySem.W.Frag} {α : List Addr} {r r' : En} {σ : L2.St} {H H' : Hp} {F F' : Addr → Prop}
theorem FrAll.repl {v : List V} {d : List PyData} (h : FrAll K H F v d) : ∀ n : Nat, FrAll K H F (List.replicate n v).flatten (List.replicate n d).flatten
  | 0 => .nil
  | n + 1 => by rw [List.replicate_succ, List.replicate_succ, List.flatten_cons, List.flatten_cons]; exact h.app (h.repl n)
def repE (f g : M Rv) : M Rv := M.bnd f fun x => M.bnd g fun y r => match x, peek r y with
  | .own (.lst ds), some (.int k) => if (-(2 ^ 63) ≤ k ∧ k < 2 ^ 63) ∧ ds.length * k.toNat ≤ sizeLine then .ok (.own (.lst (List.replicate k.toNat ds).flatten)) r else .no
  | _, _ => .no
theorem rep_ok {f g : M Rv} {Q : VK} (h : tE K α W (repE f g) σ H Q) : tOp rRep (tE K α W f) (tE K α W g) σ H Q := by
  obtain ⟨r, F, S, h⟩ := h
  refine tE_mono (tE_bnd S h) fun x H1 ⟨r1, F1, x1, S1, st1, t1, h1⟩ => ?_
  refine tE_mono (tE_bnd S1 h1) fun y H2 ⟨r2, F2, x2, S2, st2, t2, h2⟩ => ?_
  have t1' := t1.step st2 fun a z => .inl z
  split at h2
  · rename_i ds k q _
    split at h2
    · rename_i c
      obtain ⟨a, u, rfl, hH, ⟨xs, rfl, fr⟩, _, _⟩ := t1'
      exact ⟨a, k, xs, rfl, (peek_rel S2 t2 q).int, hH, c.1.1, c.1.2, by rw [fr.len]; exact c.2, fun p hp => (Aft.fin S2 h2).new _ _ p rfl hp (fr.repl _)⟩
    · exact h2.elim
  · exact h2.elim
theorem ev_rep {X : Cx} {a b : Expr} {pos : Pos} {f g : M Rv} (ha : PE X a (tE K α W f)) (hb : PE X b (tE K α W g)) : PE X (.BinOp a .Mult b pos) (tE K α W (repE f g)) := pe_weak (pe_op op_rep ha hb) fun _ _ _ q => rep_ok q
/-! list(range(n)) -/
def rgD (a b : Int) : List PyData := (List.range (b - a).toNat).map fun i => PyData.int (a + (i : Nat))
theorem rgD_fr (a b : Int) : FrAll K H F (rgV a b) (rgD a b) := by
  unfold rgV rgD
  induction List.range (b - a).toNat with
  | nil => exact .nil
  | cons x xs ih => exact .cons (.int _) ih
def lrgE (f : M Rv) : M Rv := M.bnd f fun x r => match peek r x with
  | some (.int j) => if 0 ≤ j ∧ j ≤ 16777216 then .ok (.own (.lst (rgD 0 j))) r else .no
  | _ => .no
theorem lrg_ok {f : M Rv} {Q : VK} (h : tE K α W (lrgE f) σ H Q) : tLstRg (tRg1 (tE K α W f)) σ H Q := by
  obtain ⟨r, F, S, h⟩ := h
  refine tE_mono (tE_bnd S h) fun x H1 ⟨r1, F1, x1, S1, st1, t1, h1⟩ => ?_
  split at h1
  · rename_i j q
    split at h1
    · rename_i c
      exact ⟨j, (peek_rel S1 t1 q).int, RgOk.of_le (Int.le_refl 0) c.2 (by decide) c.1, fun p hp => (Aft.fin S1 h1).new _ _ p rfl hp (rgD_fr 0 j)⟩
    · exact h1.elim
  · exact h1.elim
theorem ev_lrg {X : Cx} {a : Expr} {p p2 pos pos2 : Pos} {f : M Rv} (hc : X.calm = true) (hg : Gl X "list") (hm : X.mg "list" = none) (hg2 : Gl X "range") (hm2 : X.mg "range" = none) (ha : PE X a (tE K α W f)) (na : starEach [a] X.env = (false, eval a X.env) :: starEach [] X.env := by rfl)
    (na2 : starEach [Expr.Call (.Name "range" p2) [a] [] pos2] X.env = (false, eval (Expr.Call (.Name "range" p2) [a] [] pos2) X.env) :: starEach [] X.env := by rfl) :
    PE X (.Call (.Name "list" p) [.Call (.Name "range" p2) [a] [] pos2] [] pos) (tE K α W (lrgE f)) := pe_weak (pe_listRg hc hg hm (prg_1 hg2 hm2 ha na) na2) fun _ _ _ q => lrg_ok q
/-! zip(xs, ys) -/
def zipNth (x y : Rv) (r : En) (i : Nat) : Option (Option PyData) := match peek r x, peek r y with
  | some (.list ds), some (.list es) => some (match ds[i]?, es[i]? with
    | some d, some e => some (.tuple [d, e])
    | _, _ => none)
  | _, _ => none
def zipTh (x y : Rv) (r : En) (i : Nat) : Option (Option PyData) := match peek r x, peek r y with
  | some (.tuple ds), some (.tuple es) => some (match ds[i]?, es[i]? with
    | some d, some e => some (.tuple [d, e])
    | _, _ => none)
  | _, _ => none
def zipI (f g : M Rv) : M Src := M.bnd f fun x => M.bnd (hold x) fun x => M.bnd g fun y => M.bnd (hold y) fun y r => match peek r x, peek r y with
  | some (.list ds), some (.list es) => .ok ⟨zipNth x y, min ds.length es.length⟩ r
  | some (.tuple ds), some (.tuple es) => .ok ⟨zipTh x y, min ds.length es.length⟩ r
  | _, _ => .no
theorem src_zip {x y : Rv} {a b : Addr} {n : Nat} : SrcOk K α ⟨zipNth x y, n⟩ (Itz K a b) (fun H F => HV K α x (.ref a) H F ∧ HV K α y (.ref b) H F) where
  stay := fun _ _ _ _ h s => ⟨h.1.stay s, h.2.stay s⟩
  turn := fun r σ H F i o S h e => by
    have e : zipNth x y r i = some o := e
    unfold zipNth at e
    split at e
    · rename_i ds es q1 q2
      injection e with e
      subst e
      obtain ⟨a', xs, e1, h1, h2⟩ := (peek_rel S (h.1.tr r σ) q1).list
      cases e1
      obtain ⟨b', ys, e1, h3, h4⟩ := (peek_rel S (h.2.tr r σ) q2).list
      cases e1
      cases g : ds[i]? with
      | none => exact ⟨xs, ys, h1, h3, .inl (by rw [h2.len]; exact get_none g)⟩
      | some d =>
        cases g2 : es[i]? with
        | none => exact ⟨xs, ys, h1, h3, .inr (by rw [h4.len]; exact get_none g2)⟩
        | some e =>
          obtain ⟨u, gu, fu⟩ := h2.get g
          obtain ⟨w, gw, fw⟩ := h4.get g2
          refine ⟨⟨xs, ys, u, w, h1, h3, gu, gw⟩, fun z H' ⟨T, u', w', e1, e2, e3, e4, e5⟩ => .inr ⟨T, _, [d, e], e2, e3, e1, rfl, .cons ?_ (.cons ?_ .nil)⟩⟩
          · have := e4 xs h1; rw [gu] at this; cases this; exact fu
          · have := e5 ys h3; rw [gw] at this; cases this; exact fw
    · cases e
theorem src_zipT {x y : Rv} {a b : Addr} {n : Nat} : SrcOk K α ⟨zipTh x y, n⟩ (RZ.ItzT K a b) (fun H F => HV K α x (.ref a) H F ∧ HV K α y (.ref b) H F) where
  stay := fun _ _ _ _ h s => ⟨h.1.stay s, h.2.stay s⟩
  turn := fun r σ H F i o S h e => by
    have e : zipTh x y r i = some o := e
    unfold zipTh at e
    split at e
    · rename_i ds es q1 q2
      injection e with e
      subst e
      obtain ⟨a', xs, e1, h1, h2⟩ := (peek_rel S (h.1.tr r σ) q1).tup
      cases e1
      obtain ⟨b', ys, e1, h3, h4⟩ := (peek_rel S (h.2.tr r σ) q2).tup
      cases e1
      cases g : ds[i]? with
      | none => exact ⟨xs, ys, h1, h3, .inl (by rw [h2.len]; exact get_none g)⟩
      | some d =>
        cases g2 : es[i]? with
        | none => exact ⟨xs, ys, h1, h3, .inr (by rw [h4.len]; exact get_none g2)⟩
        | some e =>
          obtain ⟨u, gu, fu⟩ := h2.get g
          obtain ⟨w, gw, fw⟩ := h4.get g2
          refine ⟨⟨xs, ys, u, w, h1, h3, gu, gw⟩, fun z H' ⟨T, u', w', e1, e2, e3, e4, e5⟩ => .inr ⟨T, _, [d, e], e2, e3, e1, rfl, .cons ?_ (.cons ?_ .nil)⟩⟩
          · have := e4 xs h1; rw [gu] at this; cases this; exact fu
          · have := e5 ys h3; rw [gw] at this; cases this; exact fw
    · cases e
theorem tE_hold {f : M Rv} {g : Rv → M Src} {R : It → Hp → Prop} (S : SR K α r σ H F) (h : AftI K α σ (Own α r σ) H F W (M.bnd f (fun x => M.bnd (hold x) g) r) R) :
    tE K α W f σ H fun v H1 => ∃ r1 F1 x, SR K α r1 σ H1 F1 ∧ Stay H F H1 F1 ∧ HV K α x v H1 F1 ∧ AftI K α σ (Own α r1 σ) H1 F1 W (g x r1) R := by
  refine ⟨r, F, S, ?_⟩
  unfold M.bnd at h
  cases e : f r with
  | no => simp only [e] at h; exact h.elim
  | ex z r1 => simp only [e] at h; exact h
  | ok x r1 =>
    simp only [e] at h
    cases e2 : hold x r1 with
    | no => simp only [e2] at h; exact h.elim
    | ex z r2 => exact absurd e2 hold_ex
    | ok y r2 =>
      simp only [e2] at h
      intro v H1 F1 S1 st t
      obtain ⟨F2, S2, hv, st2⟩ := hold_ok S1 t e2
      have tot := st.trans st2 fun _ z => z
      refine ⟨r2, F2, y, S2, tot.stay, hv, ?_⟩
      cases e3 : g y r2 with
      | no => rw [e3] at h; exact h
      | ex z r3 => rw [e3] at h; exact AftX.step h tot fun _ z => z
      | ok s r3 => rw [e3] at h; exact fun J V H' F' S' st' => h J V H' F' S' (tot.trans st' fun _ z => z)
theorem zip_ok {f g : M Rv} {R : It → Hp → Prop} (h : tI K α W (zipI f g) σ H R) : RZ.iZipA K (tCons (tE K α W f) (tCons (tE K α W g) tNil)) σ H R := by
  obtain ⟨r, F, S, h⟩ := h
  refine tE_mono (tE_hold S h) fun v H1 ⟨r1, F1, x, S1, _, hx, h1⟩ => tE_mono (tE_hold S1 h1) fun w H2 ⟨r2, F2, y, S2, sy, hy, h2⟩ => ?_
  have hx := hx.stay sy
  split at h2
  · rename_i ds es q1 q2
    obtain ⟨a, xs, rfl, e1, _⟩ := (peek_rel S2 (hx.tr r2 σ) q1).list
    obtain ⟨b, ys, rfl, e2, _⟩ := (peek_rel S2 (hy.tr r2 σ) q2).list
    exact ⟨a, b, xs, ys, rfl, .inl ⟨e1, e2, h2 _ _ H2 F2 S2 (Step.refl fun _ z => z) src_zip ⟨hx, hy⟩⟩⟩
  · rename_i ds es q1 q2
    obtain ⟨a, xs, rfl, e1, _⟩ := (peek_rel S2 (hx.tr r2 σ) q1).tup
    obtain ⟨b, ys, rfl, e2, _⟩ := (peek_rel S2 (hy.tr r2 σ) q2).tup
    exact ⟨a, b, xs, ys, rfl, .inr ⟨e1, e2, h2 _ _ H2 F2 S2 (Step.refl fun _ z => z) src_zipT ⟨hx, hy⟩⟩⟩
  · exact h2.elim
theorem iv_zip {X : Cx} {a b : Expr} {f g : M Rv} {p pos tpos : Pos} {elts : List Expr} {kk : Nat} (hg : Gl X "zip") (hm : X.mg "zip" = none) (ha : PE X a (tE X.K α W f)) (hb : PE X b (tE X.K α W g))
    (hs : starEach [a, b] X.env = (false, eval a X.env) :: starEach [b] X.env := by rfl) (hs2 : starEach [b] X.env = (false, eval b X.env) :: starEach [] X.env := by rfl) (hpl : (backTo pos (starEach [b] X.env)).any (·.1) = false := by rfl) :
    PI X (.Tuple elts kk tpos) (.Call (.Name "zip" p) [a, b] [] pos) (tI X.K α W (zipI f g)) := pi_weak (RZ.pi_zipA hg hm (pa_cons ha (pa_cons hb pa_nil hs2) hs) hs hpl) fun _ _ _ q => zip_ok q
end Mi

/-! Mi18.lean -/
set_option Elab.async false
set_option linter.all false
set_option maxRecDepth 100000
/-! the types of data -/
namespace Mi
open PySem L2 PySem.Spec PyProof.Rows
variable {K : PySem.W.Frag} {α : List Addr} {r r' : En} {σ : L2.St} {H H' : Hp} {F F' : Addr → Prop}
/-- a value that has the built-in type n -/
inductive TyD (K : PySem.W.Frag) (H : Hp) : V → String → Prop where
  | non : TyD K H .non "NoneType"
  | bl (b) : TyD K H (.bl b) "bool"
  | int (i) : TyD K H (.int i) "int"
  | str (x) : TyD K H (.str x) "str"
  | lst {a : Addr} {xs : List V} : Rd H a (.lst xs) → TyD K H (.ref a) "list"
  | tup {a : Addr} {xs : List V} : Rd H a (.tup xs) → TyD K H (.ref a) "tuple"
  | klst {a : Addr} {o : Obj} : K.lookup a = some o → o.cls = .type "list" → TyD K H (.ref a) "list"
  | ktup {a : Addr} {o : Obj} : K.lookup a = some o → o.cls = .type "tuple" → TyD K H (.ref a) "tuple"
def tyN : PyData → Option String
  | .none => some "NoneType"
  | .bool _ => some "bool"
  | .int _ => some "int"
  | .str _ => some "str"
  | .list _ => some "list"
  | .tuple _ => some "tuple"
  | _ => none
theorem SqL.ty {a : Addr} {xs : List V} (h : SqL K H a xs) : TyD K H (.ref a) "list" := h.elim .lst fun ⟨_, _, _, h1, h2, _⟩ => .klst h1 h2
theorem SqT.ty {a : Addr} {xs : List V} (h : SqT K H a xs) : TyD K H (.ref a) "tuple" := h.elim .tup fun ⟨_, _, _, h1, h2, _⟩ => .ktup h1 h2
theorem Pk.ty {v : V} {d : PyData} {n : String} (h : Pk K H F v d) (e : tyN d = some n) : TyD K H v n := by
  cases d with
  | none => cases e; rw [h.non]; exact .non
  | bool b => cases e; rw [h.bl]; exact .bl b
  | int b => cases e; rw [h.int]; exact .int b
  | str b => cases e; rw [h.str]; exact .str b
  | list ds => cases e; obtain ⟨a, xs, rfl, h1, _⟩ := h.list; exact SqL.ty h1
  | tuple ds => cases e; obtain ⟨a, xs, rfl, h1, _⟩ := h.tup; exact SqT.ty h1
  | _ => cases e
section
variable {X : Cx} {pins : List (Addr × Obj)} {s : Shared}
theorem TyD.is {v : V} {u : Value} {n : String} (I : Inv X pins σ H s) (rx : RelV v u) (t : TyD X.K H v n) : s.TypeIs u n ∧ (Value.type n == Value.type "builtin_function_or_method") = false := by
  cases t with
  | non => cases (show u = Value.none from rx); exact ⟨rfl, by decide +kernel⟩
  | bl b => cases (show u = Value.bool b from rx); exact ⟨rfl, by decide +kernel⟩
  | int i => obtain ⟨t, rfl⟩ := (show ∃ t, u = Value.int i t from rx); exact ⟨rfl, by decide +kernel⟩
  | str i => obtain ⟨t, rfl⟩ := (show ∃ t, u = Value.str i t from rx); exact ⟨rfl, by decide +kernel⟩
  | @lst a xs h =>
    cases (show u = Value.ref a from rx)
    obtain ⟨_, _, n, _, h1⟩ := (show ObjOk X.prog X.w H s.heap a (.lst xs) from h.ok I.hok)
    exact ⟨⟨_, h1, rfl⟩, by decide +kernel⟩
  | @tup a xs h =>
    cases (show u = Value.ref a from rx)
    obtain ⟨_, _, _, o, h1, h2, _⟩ := (show ObjOk X.prog X.w H s.heap a (.tup xs) from h.ok I.hok)
    exact ⟨⟨o, h1, h2⟩, by decide +kernel⟩
  | @klst a o h c => cases (show u = Value.ref a from rx); exact ⟨⟨o, I.kIn a o h, c⟩, by decide +kernel⟩
  | @ktup a o h c => cases (show u = Value.ref a from rx); exact ⟨⟨o, I.kIn a o h, c⟩, by decide +kernel⟩
def rTyD (K : PySem.W.Frag) : List V → Hp → VK → Prop := fun xs H Q => ∃ x n, xs = [x] ∧ TyD K H x n ∧ Q (.ty n) H
theorem call_tyD : CallR X (.type "type") (rTyD X.K) := by
  intro pins s σ H xs us Q I r h
  obtain ⟨x, n, rfl, t, q⟩ := h
  cases r with
  | cons r rr =>
    cases rr
    obtain ⟨h1, h2⟩ := t.is I r
    exact call_type_of h1 h2 ⟨.ty n, H, I, rfl, q⟩
def MetaOk (n : String) : Prop := ∀ s' : Shared, s'.TypeIs (.type n) "type"
theorem meta_of {v : V} {n : String} (t : TyD K H v n) : MetaOk n := by
  cases t with
  | non => exact PySem.TypeEq.meta_NoneType
  | bl _ => exact PySem.TypeEq.meta_bool
  | int _ => exact PySem.TypeEq.meta_int
  | str _ => exact PySem.TypeEq.meta_str
  | lst _ => exact PySem.TypeEq.meta_list
  | tup _ => exact PySem.TypeEq.meta_tuple
  | klst _ _ => exact PySem.TypeEq.meta_list
  | ktup _ _ => exact PySem.TypeEq.meta_tuple
theorem op_eqTyD : OpR X (compareOp .Eq) (fun x y H Q => ∃ m n, x = .ty m ∧ y = .ty n ∧ MetaOk m ∧ MetaOk n ∧ Q (.bl (decide (m = n))) H) := by
  intro pins s σ H x y v u Q I rx ry h
  obtain ⟨m, n, rfl, rfl, hm, hn, q⟩ := h
  cases (show v = Value.type m from rx)
  cases (show u = Value.type n from ry)
  by_cases e : m = n
  · subst e
    exact PySem.TypeEq.eq_type_same hm ⟨.bl true, H, I, rfl, by simpa using q⟩
  · exact PySem.TypeEq.eq_type_other hm hn (by rw [Bool.eq_false_iff]; intro z; rw [beq_iff_eq] at z; cases z; exact e rfl) ⟨.bl false, H, I, rfl, by simpa [e] using q⟩
end
def gTyEq (n : String) (d : PyData) : Option Rv := (tyN d).map fun m => .val (.bool (decide (m = n)))
theorem ty_ok {n : String} (hn : MetaOk n) {f : M Rv} {Q : VK} (h : tE K α W (unE (gTyEq n) f) σ H Q) :
    tOp (fun x y H Q => ∃ m n, x = .ty m ∧ y = .ty n ∧ MetaOk m ∧ MetaOk n ∧ Q (.bl (decide (m = n))) H) (tCB (rTyD K) (tCons (tE K α W f) tNil)) (tC (.ty n)) σ H Q := by
  obtain ⟨r, F, S, h⟩ := h
  refine tE_mono (tE_bnd S h) fun x H1 ⟨r1, F1, x1, S1, st1, t1, h1⟩ => ?_
  unfold op1 at h1
  cases e1 : peek r1 x1 with
  | none => simp only [e1] at h1; exact h1.elim
  | some d =>
    simp only [e1] at h1
    unfold gTyEq at h1
    cases e3 : tyN d with
    | none => rw [e3] at h1; exact h1.elim
    | some m =>
      rw [e3] at h1
      have t := (peek_rel S1 t1 e1).ty e3
      exact ⟨x, m, rfl, t, m, n, rfl, rfl, meta_of t, hn, (Aft.fin S1 h1).val _ _ rfl (.bl _)⟩
theorem ev_tyEq {X : Cx} {a : Expr} {p q q2 pos : Pos} {x : Str} {n : String} {f : M Rv} (hn : MetaOk n) (hg : Gl X "type") (hm : X.mg "type" = none) (hg2 : Gl X x) (hm2 : X.mg x = none) (hv : bootBuiltins x = some (.type n)) (ha : PE X a (tE X.K α W f))
    (h1 : x ≠ "__name__" := by decide) (h2 : (x == ("__debug__" : Str)) = false := by decide) (he : starEach [a] X.env = (false, eval a X.env) :: starEach [] X.env := by rfl) :
    PE X (.Compare (.Call (.Name "type" p) [a] [] q) [.Eq] [.Name x q2] pos) (tE X.K α W (unE (gTyEq n) f)) :=
  pe_weak (pe_cmpR op_eqTyD (pe_callTy call_tyD hg hm (by decide +kernel) (pa_cons ha pa_nil he) (he := he)) (pe_bltn (v := .ty n) hg2 hm2 hv rfl h1 h2) (nomark _)) fun _ _ _ q => ty_ok hn q
/-! isinstance(x, T) -/
theorem TyD.x {v : V} {n : String} (t : TyD K H v n) : TyX K H v (.type n) := by
  cases t with
  | non => exact .base .non
  | bl b => exact .base (.bl b)
  | int b => exact .base (.int b)
  | str b => exact .base (.str b)
  | lst h => exact h.elim (fun h => .base (.lst h)) fun ⟨o, h⟩ => .base (.frz h)
  | tup h => exact h.elim (fun h => .base (.tup h)) fun ⟨o, h⟩ => .fTuple h
  | klst h c => exact .kList h c
  | ktup h c => exact .kTuple h c
def isN (m n : String) : Bool := decide (m = n) || (decide (m = "bool") && decide (n = "int"))
def IsiOk (K : PySem.W.Frag) (n : String) : Prop := ∀ m, m ∈ ["NoneType", "bool", "int", "str", "list", "tuple"] → PySem.W.kitOne K (.type m) (.type n) = some (isN m n)
theorem isi_str : IsiOk K "str" := fun m h => by
  simp only [List.mem_cons, List.not_mem_nil, or_false] at h
  rcases h with rfl | rfl | rfl | rfl | rfl | rfl <;> rfl
theorem isi_int : IsiOk K "int" := fun m h => by
  simp only [List.mem_cons, List.not_mem_nil, or_false] at h
  rcases h with rfl | rfl | rfl | rfl | rfl | rfl <;> rfl
theorem isi_bool : IsiOk K "bool" := fun m h => by
  simp only [List.mem_cons, List.not_mem_nil, or_false] at h
  rcases h with rfl | rfl | rfl | rfl | rfl | rfl <;> rfl
def gIsi (n : String) (d : PyData) : Option Rv := (tyN d).map fun m => .val (.bool (isN m n))
theorem tyN_mem {d : PyData} {m : String} (e : tyN d = some m) : m ∈ ["NoneType", "bool", "int", "str", "list", "tuple"] := by
  cases d <;> cases e <;> simp
theorem isi_ok {n : String} (hn : IsiOk K n) {f : M Rv} {Q : VK} (h : tE K α W (unE (gIsi n) f) σ H Q) : tCB (rIsi K) (tCons (tE K α W f) (tCons (tC (.ty n)) tNil)) σ H Q := by
  obtain ⟨r, F, S, h⟩ := h
  refine tE_mono (tE_bnd S h) fun x H1 ⟨r1, F1, x1, S1, st1, t1, h1⟩ => ?_
  unfold op1 at h1
  cases e1 : peek r1 x1 with
  | none => simp only [e1] at h1; exact h1.elim
  | some d =>
    simp only [e1] at h1
    unfold gIsi at h1
    cases e3 : tyN d with
    | none => rw [e3] at h1; exact h1.elim
    | some m =>
      rw [e3] at h1
      exact ⟨x, .ty n, .type m, .type n, isN m n, rfl, .ty n, ((peek_rel S1 t1 e1).ty e3).x, hn m (tyN_mem e3), (Aft.fin S1 h1).val _ _ rfl (.bl _)⟩
theorem ev_isi {X : Cx} {a : Expr} {p q2 pos : Pos} {x : Str} {n : String} {f : M Rv} (hn : IsiOk X.K n) (hg : Gl X "isinstance") (hm : X.mg "isinstance" = none) (hg2 : Gl X x) (hm2 : X.mg x = none) (hv : bootBuiltins x = some (.type n)) (ha : PE X a (tE X.K α W f))
    (h1 : x ≠ "__name__" := by decide) (h2 : (x == ("__debug__" : Str)) = false := by decide) (he : starEach [a, Expr.Name x q2] X.env = (false, eval a X.env) :: starEach [Expr.Name x q2] X.env := by rfl) (he2 : starEach [Expr.Name x q2] X.env = (false, eval (Expr.Name x q2) X.env) :: starEach [] X.env := by rfl)
    (hpl : (backTo pos (starEach [Expr.Name x q2] X.env)).any (·.1) = false := by rfl) : PE X (.Call (.Name "isinstance" p) [a, .Name x q2] [] pos) (tE X.K α W (unE (gIsi n) f)) :=
  pe_weak (pe_callB call_isi hg hm (by decide +kernel) (pa_cons ha (pa_cons (pe_bltn (v := .ty n) hg2 hm2 hv rfl h1 h2) pa_nil he2) he) (he := he) (hpl := hpl)) fun _ _ _ q => isi_ok hn q
end Mi

/-! Mi19.lean -/
set_option Elab.async false
set_option linter.all false
set_option maxRecDepth 100000
/-! dicts -/
namespace Mi
open PySem L2 PySem.Spec PyProof.Rows
variable {K : PySem.W.Frag} {α : List Addr} {r r' : En} {σ : L2.St} {H H' : Hp} {F F' : Addr → Prop}
abbrev DRel (K : PySem.W.Frag) (H : Hp) (F : Addr → Prop) : List (Key × V) → List (Key × PyData) → Prop := Paired fun (p : Key × V) (q : Key × PyData) => p.1 = q.1 ∧ Fr K H F p.2 q.2
def keyOf : PyData → Option Key
  | .int i => some (.inl i)
  | .str x => some (.inr x)
  | _ => none
def valD (kvs : List (Key × PyData)) (k : Key) : Option PyData := (kvs.find? fun kv => decide (kv.1 = k)).map (·.2)
def putD (kvs : List (Key × PyData)) (k : Key) (v : PyData) : List (Key × PyData) :=
  if (kvs.any fun kv => decide (kv.1 = k)) = true then kvs.map (fun kv => if kv.1 = k then (kv.1, v) else kv) else kvs ++ [(k, v)]
theorem Pk.key {v : V} {d : PyData} {k : Key} (h : Pk K H F v d) (e : keyOf d = some k) : v = kV k := by
  cases d with
  | int i => cases e; exact h.int
  | str i => cases e; exact h.str
  | _ => cases e
theorem DRel.val {ps : List (Key × V)} {kvs : List (Key × PyData)} (h : DRel K H F ps kvs) (k : Key) : match valD kvs k with
    | some d => ∃ v, valV ps k = some v ∧ Fr K H F v d
    | none => valV ps k = none := by
  induction h with
  | nil => rfl
  | @cons p q ps qs h t ih =>
    by_cases e : q.1 = k
    · have e1 : valD (q :: qs) k = some q.2 := by simp [valD, List.find?_cons, e]
      rw [e1]
      exact ⟨p.2, valV_pos (h.1.trans e), h.2⟩
    · have e1 : valD (q :: qs) k = valD qs k := by simp [valD, List.find?_cons, e]
      have e2 : valV (p :: ps) k = valV ps k := valV_neg fun z => e (h.1.symm.trans z)
      rw [e1, e2]; exact ih
theorem DRel.any {ps : List (Key × V)} {kvs : List (Key × PyData)} (h : DRel K H F ps kvs) (k : Key) : (ps.any fun kv => decide (kv.1 = k)) = kvs.any fun kv => decide (kv.1 = k) := by
  induction h with
  | nil => rfl
  | cons h t ih => simp only [List.any_cons, ih, h.1]
theorem DRel.mapP {ps : List (Key × V)} {kvs : List (Key × PyData)} (h : DRel K H F ps kvs) (k : Key) {v : V} {d : PyData} (hv : Fr K H F v d) : DRel K H F (ps.map fun kv => if kv.1 = k then (kv.1, v) else kv) (kvs.map fun kv => if kv.1 = k then (kv.1, d) else kv) := by
  induction h with
  | nil => exact .nil
  | @cons p q ps qs h t ih =>
    refine .cons ?_ ih
    show (if p.1 = k then (p.1, v) else p).1 = (if q.1 = k then (q.1, d) else q).1 ∧ Fr K H F (if p.1 = k then (p.1, v) else p).2 (if q.1 = k then (q.1, d) else q).2
    by_cases e : q.1 = k
    · rw [if_pos e, if_pos (h.1.trans e)]; exact ⟨h.1, hv⟩
    · rw [if_neg e, if_neg fun z => e (h.1.symm.trans z)]; exact h
theorem DRel.app {ps qs : List (Key × V)} {kvs lvs : List (Key × PyData)} (h : DRel K H F ps kvs) (h2 : DRel K H F qs lvs) : DRel K H F (ps ++ qs) (kvs ++ lvs) := by
  induction h with
  | nil => exact h2
  | cons h t ih => exact .cons h ih
theorem DRel.put {ps : List (Key × V)} {kvs : List (Key × PyData)} (h : DRel K H F ps kvs) (k : Key) {v : V} {d : PyData} (hv : Fr K H F v d) : DRel K H F (putK ps k v) (putD kvs k d) := by
  unfold putK putD
  rw [h.any k]
  split
  · exact h.mapP k hv
  · exact h.app (.cons ⟨rfl, hv⟩ .nil)
theorem DRel.len {ps : List (Key × V)} {kvs : List (Key × PyData)} (h : DRel K H F ps kvs) : ps.length = kvs.length := by
  induction h with
  | nil => rfl
  | cons h t ih => simp [ih]
/-- the dict that stands there -/
def dctOf (r : En) : Rv → Option (List (Key × PyData))
  | .at l => match look r l with
    | some (.live (.dct kvs)) => some kvs
    | some (.live (.fdc kvs)) => some kvs
    | _ => none
  | _ => none
theorem dct_rel (S : SR K α r σ H F) {x : Rv} {v : V} {kvs : List (Key × PyData)} (t : TR K α r σ H F x v) (e : dctOf r x = some kvs) : ∃ a ps, v = .ref a ∧ Rd H a (.dK ps) ∧ DRel K H F ps kvs := by
  cases x with
  | val d => cases e
  | own d => cases e
  | «at» l =>
    unfold dctOf at e
    simp only at e
    split at e
    · rename_i q
      cases e
      obtain ⟨a, u, e1, h1, ps, rfl, h2⟩ := content_rel S t q
      exact ⟨a, ps, e1, .inl h1, h2⟩
    · rename_i q
      cases e
      obtain ⟨a, u, e1, h1, o, ps, rfl, h2⟩ := content_rel S t q
      exact ⟨a, ps, e1, .inr ⟨o, h1⟩, h2⟩
    · cases e
/-! {} -/
def dnewE : M Rv := fun r => .ok (.own (.dct [])) r
theorem ev_dnew {X : Cx} {pos : Pos} : PE X (.Dict [] [] pos) (tE K α W dnewE) := pe_weak pe_dnewK fun _ _ _ ⟨r, F, S, h⟩ p hp => (Aft.fin S h).dct p rfl hp
/-! d.get(k) -/
def dgE (f g : M Rv) : M Rv := M.bnd f fun x r1 => match dctOf r1 x with
  | none => .no
  | some _ => (M.bnd g fun y r2 => match dctOf r2 x, (peek r2 y).bind keyOf with
    | some kvs, some k => .ok (.val ((valD kvs k).getD .none)) r2
    | _, _ => .no) r1
theorem dg_ok {f g : M Rv} {Q : VK} (h : tE K α W (dgE f g) σ H Q) : tDGet1 (tE K α W f) (tE K α W g) σ H Q := by
  obtain ⟨r, F, S, h⟩ := h
  refine tE_mono (tE_bnd S h) fun x H1 ⟨r1, F1, x1, S1, st1, t1, h1⟩ => ?_
  cases e1 : dctOf r1 x1 with
  | none => simp only [e1] at h1; exact h1.elim
  | some kvs =>
    simp only [e1] at h1
    obtain ⟨a, ps, rfl, rd, _⟩ := dct_rel S1 t1 e1
    refine ⟨a, rfl, .inl ⟨ps, rd⟩, tE_mono (tE_bnd S1 h1) fun y H2 ⟨r2, F2, x2, S2, st2, t2, h2⟩ => ?_⟩
    have t1' := t1.step st2 fun a z => .inl z
    split at h2
    · rename_i kvs' k q1 q2
      obtain ⟨a', ps', e2, rd', dr⟩ := dct_rel S2 t1' q1
      cases e2
      cases ep : peek r2 x2 with
      | none => rw [ep] at q2; cases q2
      | some d =>
        rw [ep] at q2
        have ek := (peek_rel S2 t2 ep).key q2
        refine ⟨valV ps' k, .inl ⟨ps', k, rd', ek, rfl⟩, (Aft.fin S2 h2).val _ _ rfl ?_⟩
        have := dr.val k
        cases ev : valD kvs' k with
        | none => rw [ev] at this; rw [this]; exact .non
        | some d => rw [ev] at this; obtain ⟨v, e3, fv⟩ := this; rw [e3]; exact fv
    · exact h2.elim
theorem ev_dg {X : Cx} {o e : Expr} {apos cpos : Pos} {f g : M Rv} (hu : X.A.units + 1 < cLine) (ho : PE X o (tE K α W f)) (he : PE X e (tE K α W g)) (m : M1 X o "get" apos e cpos := by exact ⟨by rfl, by rfl, by rfl, by rfl⟩) :
    PE X (.Call (.Attribute o "get" apos) [e] [] cpos) (tE K α W (dgE f g)) := pe_weak (pe_dget1 hu ho he m) fun _ _ _ q => dg_ok q
/-! d[k] = v -/
def dstF (d : PyData) (o i : Rv) (r : En) : Out := match o with
  | .at l => match look r l, (peek r i).bind keyOf with
    | some (.live (.dct kvs)), some k => if kvs.length < sizeLine then .nx (setLo r l (.live (.dct (putD kvs k d)))) else .no
    | _, _ => .no
  | _ => .no
def dstS (f : M Rv) (j : Nat) (g : M Rv) : Stm := ofM f fun x => ofM (frz x) fun d => ofM (nmE j) fun o => ofM g fun i => dstF d o i
theorem dstF_ok {d : PyData} {o i : Rv} {v vo vi : V} {D : Ends} {O : Addr → Prop} (S : SR K α r σ H F) (fv : Fr K H F v d) (t1 : TR K α r σ H F o vo) (t2 : TR K α r σ H F i vi) (ho : ∀ a, Own α r σ a → O a) (h : AftS K α O H F W (dstF d o i r) D) :
    rSetD vo vi v H fun H3 => D.nx σ H3 := by
  cases o with
  | val d => exact h.elim
  | own o => exact h.elim
  | «at» l =>
    unfold dstF at h
    simp only at h
    split at h
    · rename_i kvs k q1 q2
      split at h
      · rename_i hl
        obtain ⟨a, rfl, ha⟩ := t1
        obtain ⟨a', u, e1, h1, ps, rfl, h2⟩ := content_rel S (x := .at l) (b := .live (.dct kvs)) ⟨a, rfl, ha⟩ q1
        cases e1
        have h2 : DRel K H F ps kvs := h2
        cases ep : peek r i with
        | none => rw [ep] at q2; cases q2
        | some di =>
          rw [ep] at q2
          have ek := (peek_rel S t2 ep).key q2
          obtain ⟨S', st, ow⟩ := S.write q1 ha (o' := .dct (putD kvs k d)) (u' := .dK (putK ps k v)) ⟨_, rfl, h2.put k fv⟩
          exact ⟨a, _, rfl, .inl ⟨ps, k, h1, ek, by rw [h2.len]; exact hl, rfl⟩, h σ _ F S' (st.widen ho fun z q => .inl q)⟩
      · exact h.elim
    · exact h.elim
theorem dst_ok {f : M Rv} {j : Nat} {g : M Rv} {D : Ends} (h : tS K α W (dstS f j g) D σ H) : tAsg (tE K α W f) (gSub (tE K α W (nmE j)) (tE K α W g) rSetD) D σ H := by
  obtain ⟨r, F, S, h⟩ := h
  refine tE_mono (ofM_E S h) fun v H1 ⟨r1, F1, x, S1, st1, t1, h1⟩ => ?_
  unfold ofM at h1
  cases ez : frz x r1 with
  | no => simp only [ez] at h1; exact h1.elim
  | ex w r5 => exact absurd ez frz_ex
  | ok d r2 =>
    simp only [ez] at h1
    obtain ⟨F2, S2, fv, st2, _⟩ := frz_ok S1 t1 ez
    have h2 : AftS K α (Own α r2 σ) H1 F2 W (ofM (nmE j) (fun o => ofM g fun i => dstF d o i) r2) D := AftS.step h1 st2 fun _ z => z
    refine tE_mono (ofM_E S2 h2) fun vo H3 ⟨r3, F3, o, S3, st3, t3, h3⟩ => ?_
    have h3' : AftS K α (Own α r3 σ) H3 F3 W (ofM g (fun i => dstF d o i) r3) D := AftS.step h3 (Step.refl (O' := Own α r3 σ) fun _ z => .inl z) fun _ z => z
    refine tE_mono (ofM_E S3 h3') fun vi H4 ⟨r4, F4, i, S4, st4, t4, h4⟩ => ?_
    exact dstF_ok S4 (Fr.stay st4.stay (Fr.stay st3.stay fv)) (t3.step st4 fun _ z => .inl z) t4 (fun _ z => .inl z) h4
theorem sv_dst {X : Cx} {e : Expr} {f g : M Rv} {j : Nat} {pos : Pos} {tg : Expr} (he : PE X e (tE K α W f)) (hg : PG X tg (gSub (tE K α W (nmE j)) (tE K α W g) rSetD)) (hs : swapsWithSole [tg] e pos.line X.env = pure false := by rfl) (hw : swappedStores [tg] e X.env = pure none := by rfl)
    (h1 : (assignEach [tg] X.env).map (·.2) = [assign tg X.env] := by rfl) : PS X (.Assign [tg] e pos) (tS K α W (dstS f j g)) := ps_weak (ps_asg he hg hs hw h1) fun _ _ _ q => dst_ok q
end Mi

/-! Mi20.lean -/
set_option Elab.async false
set_option linter.all false
set_option maxRecDepth 100000
/-! a dict while its keys are walked -/
namespace Mi
open PySem L2 PySem.Spec PyProof.Rows
variable {K : PySem.W.Frag} {α : List Addr} {r r' : En} {σ : L2.St} {H H' : Hp} {F F' : Addr → Prop}
def isDk : HO → Bool
  | .dK _ => true
  | .frz _ (.dK _) => true
  | _ => false
/-- all stays but dicts -/
def Thin (H H' : Hp) : Prop := ∀ a u, H a = some u → isDk u = false → H' a = some u
theorem sqt_thin (s : Thin H H') {a : Addr} {xs : List V} (h : SqT K H a xs) : SqT K H' a xs := by
  rcases h with (h | ⟨o, h⟩) | h
  · exact .inl (.inl (s _ _ h rfl))
  · exact .inl (.inr ⟨o, s _ _ h rfl⟩)
  · exact .inr h
mutual
theorem Fr.thin (s : Thin H H') : ∀ {v : V} {d : PyData}, Fr K H F v d → Fr K H' F v d
  | _, _, .non => .non
  | _, _, .bl b => .bl b
  | _, _, .int i => .int i
  | _, _, .str x => .str x
  | _, _, .own h1 h2 h3 => .own h1 (s _ _ h2 rfl) (FrAll.thin s h3)
  | _, _, .frz h1 h3 => .frz (s _ _ h1 rfl) (FrAll.thin s h3)
  | _, _, .klst h1 h3 => .klst h1 (FrAll.thin s h3)
  | _, _, .tup h1 h3 => .tup (sqt_thin s h1) (FrAll.thin s h3)
theorem FrAll.thin (s : Thin H H') : ∀ {v : List V} {d : List PyData}, FrAll K H F v d → FrAll K H' F v d
  | _, _, .nil => .nil
  | _, _, .cons h1 h2 => .cons (Fr.thin s h1) (FrAll.thin s h2)
end
theorem ObR.thin (s : Thin H H') {o : Ob} {u : HO} (h : ObR K H F o u) : ObR K H' F o u := by
  cases o with
  | lst ds => obtain ⟨xs, e, h⟩ := h; exact ⟨xs, e, h.thin s⟩
  | dct kvs => obtain ⟨ps, e, h⟩ := h; exact ⟨ps, e, paired_imp (fun a b q => ⟨q.1, q.2.thin s⟩) h⟩
  | fdc kvs => obtain ⟨o, ps, e, h⟩ := h; exact ⟨o, ps, e, paired_imp (fun a b q => ⟨q.1, q.2.thin s⟩) h⟩
theorem lo_at (S : SR K α r σ H F) {l : Lo} {o : Ob} (q : look r l = some (.live o)) : ∃ a u, LoAt α σ l a ∧ H a = some u ∧ ObR K H F o u := by
  cases l with
  | slot i =>
    obtain ⟨v, h1, a, u, rfl, h2, h3⟩ := S.slot i (.own o) (look_slot q)
    exact ⟨a, u, h1, h2, h3⟩
  | obj k =>
    obtain ⟨a, h1, u, h2, h3⟩ := S.obj k (.live o) q
    exact ⟨a, u, h1, h2, h3⟩
theorem LoAt.same {l : Lo} {a b : Addr} (h : LoAt α σ l a) (h2 : LoAt α σ l b) : a = b := by
  cases l with
  | slot i => have h : σ[i]? = some (some (V.ref a)) := h; have h2 : σ[i]? = some (some (V.ref b)) := h2; rw [h] at h2; cases h2; rfl
  | obj k => have h : α[k]? = some a := h; have h2 : α[k]? = some b := h2; rw [h] at h2; cases h2; rfl
def lockL (l : Lo) (f : M Rv) : M Rv := fun r => match look r l with
  | some (.live (.dct kvs)) => match f (setLo r l (.live (.fdc kvs))) with
    | .ok x r1 => match look r1 l with
      | some (.live (.fdc kvs)) => .ok x (setLo r1 l (.live (.dct kvs)))
      | _ => .no
    | _ => .no
  | _ => .no
/-- the dict of name i is walked in f -/
def lockE (i : Nat) (f : M Rv) : M Rv := fun r => match nmE i r with
  | .ok (.at l) _ => lockL l f r
  | _ => .no
theorem lockL_ok {l : Lo} {f : M Rv} {Q : VK} (S : SR K α r σ H F) (h : Aft K α σ (Own α r σ) H F W (lockL l f r) Q) : tLockE (tE K α W f) σ H Q := by
  unfold lockL at h
  split at h
  · rename_i kvs q
    obtain ⟨d, u, ha, hd, ps, rfl, dr⟩ := lo_at S q
    have hold : Own α r σ d := ⟨l, look_holds q ha⟩
    refine ⟨d, .dK ps, hd, trivial, fun od => ?_⟩
    obtain ⟨S1, st1, ow1⟩ := S.write q ha (o' := .fdc kvs) (u' := .frz od (.dK ps)) ⟨od, ps, rfl, dr⟩
    refine ⟨_, F, S1, ?_⟩
    cases e : f (setLo r l (.live (.fdc kvs))) with
    | no => simp only [e] at h; exact h.elim
    | ex z r1 => simp only [e] at h; exact h.elim
    | ok x r1 =>
      simp only [e] at h
      intro v H1 F1 S2 st2 t2
      split at h
      · rename_i kvs2 q2
        obtain ⟨d2, u2, ha2, hd2, od2, ps2, rfl, dr2⟩ := lo_at S2 q2
        have := ha.same ha2
        subst this
        have hH := st2.stay.imm d _ upd_same rfl
        rw [hH] at hd2
        cases hd2
        refine ⟨hH, ?_⟩
        have thin : Thin H1 (upd H1 d (.dK ps)) := fun a u e i => by
          by_cases z : a = d
          · subst z; rw [hH] at e; cases e; cases i
          · rw [upd_ne z]; exact e
        obtain ⟨S3, ow3⟩ := S2.writeG q2 ha (o' := .dct kvs2) (u' := .dK ps) ⟨ps, rfl, paired_imp (fun a b q => ⟨q.1, q.2.thin thin⟩) dr2⟩ (fun _ _ z => z.thin thin) fun _ _ z => z.thin thin
        have ow3' : ∀ a, Own α (setLo r1 l (.live (.dct kvs2))) σ a → Own α r1 σ a := fun a ⟨l', z⟩ => ⟨l', ow3 l' a z⟩
        have in1 : Own α r1 σ d := ⟨l, look_holds q2 ha⟩
        have ne : ∀ a, ¬ Own α r σ a → a ≠ d := fun a n z => n (z ▸ hold)
        have neF : ∀ a, F a → a ≠ d := fun a z e => by subst e; obtain ⟨l, z2⟩ := hold; exact S.sep l a z2 z
        refine h v (upd H1 d (.dK ps)) F1 S3 ⟨fun a u e n => ?_, ⟨st2.stay.fz, fun a z => ?_, fun a o e i => ?_⟩, fun a z => ?_, fun a z => ?_, fun a z => ?_⟩ ?_
        · rw [upd_ne (ne a n)]
          exact st2.keep a u (st1.keep a u e n) fun z => n (ow1 a z)
        · rw [upd_ne (neF a z), st2.stay.ffz a z, upd_ne (neF a z)]
        · have : a ≠ d := fun z => by subst z; rw [hd] at e; cases e; cases i
          rw [upd_ne this]
          exact st2.stay.imm a o (st1.stay.imm a o e i) i
        · rcases st2.nfz a z with z | z | z
          · exact .inl z
          · exact .inr (.inl (ow1 a z))
          · exact .inr (.inr (st1.dom a z))
        · have z : OwnT α r1 σ x v a := z.elim (fun z => .inl (ow3' a z)) .inr
          rcases st2.own a z with z | z
          · exact .inl (ow1 a z)
          · exact .inr (st1.dom a z)
        · by_cases e : a = d
          · subst e; rw [upd_same] at z; cases z
          · rw [upd_ne e] at z; exact st1.dom a (st2.dom a z)
        · cases x with
          | val y => exact t2.thin thin
          | own o =>
            obtain ⟨a, u, rfl, g1, g2, g3, g4⟩ := t2
            exact ⟨a, u, rfl, by rw [upd_ne (show a ≠ d from fun z => g4 (by rw [z]; exact in1))]; exact g1, g2.thin thin, g3, fun z => g4 (ow3' a z)⟩
          | «at» l => exact t2
      · exact h.elim
  · exact h.elim
theorem lock_ok {i : Nat} {f : M Rv} {Q : VK} (h : tE K α W (lockE i f) σ H Q) : tLockE (tE K α W f) σ H Q := by
  obtain ⟨r, F, S, h⟩ := h
  unfold lockE at h
  split at h
  · exact lockL_ok S h
  · exact h.elim
theorem ev_lock {X : Cx} {e : Expr} {f : M Rv} (i : Nat) (h : PE X e (tE K α W f)) : PE X e (tE K α W (lockE i f)) := pe_weak (pe_lock h) fun _ _ _ q => lock_ok q
/-! walking keys -/
def keyD : Key → PyData
  | .inl i => .int i
  | .inr x => .str x
def fdcOf (r : En) : Rv → Option (List (Key × PyData))
  | .at l => match look r l with
    | some (.live (.fdc kvs)) => some kvs
    | _ => none
  | _ => none
def keysI (f : M Rv) : M Src := M.bnd f fun x r => match fdcOf r x with
  | some kvs => .ok ⟨fun _ i => some ((kvs.map fun kv => keyD kv.1)[i]?), kvs.length⟩ r
  | none => .no
theorem key_fr (k : Key) : Fr K H F (kV k) (keyD k) := by
  cases k with
  | inl i => exact .int i
  | inr i => exact .str i
theorem DRel.at {ps : List (Key × V)} {kvs : List (Key × PyData)} (h : DRel K H F ps kvs) : ∀ i : Nat, (ps[i]?).map (·.1) = (kvs[i]?).map (·.1) := by
  induction h with
  | nil => intro i; simp
  | cons h t ih =>
    intro i
    cases i with
    | zero => simp [h.1]
    | succ i => simpa using ih i
theorem src_keys {d : Addr} {o : Obj} {ps : List (Key × V)} {kvs : List (Key × PyData)} {n : Nat} (he : ∀ i : Nat, (ps[i]?).map (·.1) = (kvs[i]?).map (·.1)) (hl : ps.length = kvs.length) :
    SrcOk K α ⟨fun _ i => some ((kvs.map fun kv => keyD kv.1)[i]?), n⟩ (Itk d o ps) (fun H _ => H d = some (.frz o (.dK ps))) where
  stay := fun _ _ _ _ h s => s.imm _ _ h rfl
  turn := fun r σ H F i z S h e => by
    have e : (kvs.map fun kv => keyD kv.1)[i]? = z := Option.some.inj e
    subst e
    cases g : kvs[i]? with
    | none =>
      rw [List.getElem?_map, g]
      exact ⟨h, by rw [hl]; exact get_none g⟩
    | some kv =>
      rw [List.getElem?_map, g]
      refine ⟨⟨h, by rw [hl]; exact get_some g⟩, fun x H' ⟨e1, k, v, e2, e3⟩ => .inl ⟨e1, ?_⟩⟩
      have := he i
      rw [g, e2] at this
      cases this
      subst e3
      exact key_fr kv.1
theorem keys_ok {f : M Rv} {R : It → Hp → Prop} (h : tI K α W (keysI f) σ H R) : iKeys (tE K α W f) σ H R := by
  obtain ⟨r, F, S, h⟩ := h
  refine tE_mono (tE_bndI S h) fun v H1 ⟨r1, F1, x, S1, st, t, h1⟩ => ?_
  cases q : fdcOf r1 x with
  | none => rw [q] at h1; exact h1.elim
  | some kvs =>
    rw [q] at h1
    cases x with
    | val d => cases q
    | own d => cases q
    | «at» l =>
      unfold fdcOf at q
      simp only at q
      split at q
      · rename_i q2
        cases q
        obtain ⟨a, u, rfl, g1, o, ps, rfl, g2⟩ := content_rel S1 t q2
        have g2 : DRel K H1 F1 ps kvs := g2
        exact ⟨a, o, rfl, .inl ⟨ps, g1, h1 _ _ H1 F1 S1 (Step.refl fun _ z => z) (src_keys g2.at g2.len) g1⟩⟩
      · cases q
theorem iv_keys {X : Cx} {tg l : Expr} {f : M Rv} (hl : PE X l (tE K α W f)) : PI X tg l (tI K α W (keysI f)) := pi_weak (pi_keys hl) fun _ _ _ q => keys_ok q
section
variable {X : Cx} {elt tg iter : Expr} {ifs : List Expr} {scope : Scope} {own : List (Str × Nat)} {pos spos : Pos} {it : M Src} {g : TG} {tgf : PyData → En → Option En} {tt : M Bool} {f : M Rv}
/-- y = [.. for .. in d] -/
theorem sv_setLcL {i : Nat} {j : Nat} {y : Str} {py : Pos} {T : List Nat} (hT : own.map (·.2) = T) (hc : X.calm = true) (hN : X.N.Nodup) (hy : X.N[i]? = some y) (hyl : X.env.scope.names.lookup y = some .local)
    (hsw : swapsWith (.ListComp elt [⟨tg, iter, ifs, 0⟩] scope pos) (some (.Name y py)) spos.line X.env = pure true) (hi : PI X tg iter (tI K α W it)) (ok : BlkOk X.N X.env.scope scope own)
    (hg : ∀ (s : Shared) (H : Hp) (C : Addr) (cl : List (Str × Addr)) (fp : List Addr), PG (X.blk s H scope (compEnvC scope cl C X.env) fp) tg g) (ht : ∀ (s : Shared) (H : Hp) (C : Addr) (cl : List (Str × Addr)) (fp : List Addr), PTs (X.blk s H scope (compEnvC scope cl C X.env) fp) ifs (tT K α W0 tt))
    (he : ∀ (s : Shared) (H : Hp) (C : Addr) (cl : List (Str × Addr)) (fp : List Addr), PE (X.blk s H scope (compEnvC scope cl C X.env) fp) elt (tE K α W0 f)) (htg : TgOk K α g tgf T) (hs : ∀ x, foldedSetIterable iter X.env x = pure x := by intro _; rfl) :
    PS X (.Assign [.Name y py] (.ListComp elt [⟨tg, iter, ifs, 0⟩] scope pos) spos) (tS K α W (setS i (lockE j (lcE it tgf T tt f)))) := ps_weak (ps_lock (ps_setLc hc hN hy hyl hsw hi ok hg ht he hs)) fun D σ H ⟨r, F, S, h⟩ => by
  rw [hT]
  have q : tE K α W (lockE j (lcE it tgf T tt f)) σ H fun v H1 => D.nx (σ.set i (some v)) H1 := tE_mono (ofM_E S h) fun v H1 ⟨r1, F1, x, S1, st, tr, h1⟩ => bind_ok S1 tr h1
  obtain ⟨d, u, hd, mu, q⟩ := lock_ok q
  exact ⟨d, u, hd, mu, fun od => lc_ok htg (q od)⟩
end
end Mi

/-! Mi21.lean -/
set_option Elab.async false
set_option linter.all false
set_option maxRecDepth 100000
/-! comprehensions of two loops -/
namespace Mi
open PySem L2 PySem.Spec PyProof.Rows
variable {K : PySem.W.Frag} {α : List Addr} {r r' : En} {σ : L2.St} {H H' : Hp} {F F' : Addr → Prop}
theorem wipe_sub {T : List Nat} : ∀ (U : List Nat) (σ : L2.St), (∀ i ∈ U, i ∈ T) → wipe (wipe σ U) T = wipe σ T
  | [], _, _ => rfl
  | u :: U, σ, h => by
    show wipe ((wipe σ U).set u none) T = _
    rw [wipe_set none T _ u (h u List.mem_cons_self)]
    exact wipe_sub U σ fun i m => h i (List.mem_cons_of_mem _ m)
section
variable {O0 : Addr → Prop} {H0 H1 Hs : Hp} {F0 F1 Fs : Addr → Prop} {V V1 : Hp → (Addr → Prop) → Prop} {D : Addr} {acc0 : List PyData} {s : Src} {J : It} {g : TG} {tg : PyData → En → Option En} {T : List Nat} {tt : M Bool} {f : M Rv}
theorem inner_ok (ht : TgOk K α g tg T) (so : SrcOk K α s J V1) (hV : ∀ H F H' F', V H F → Stay H F H' F' → V H' F') {Pw : Res (List PyData) → Prop} (no : ¬ Pw .no) {Nx : Hp → Prop}
    (t0 : Tn K α O0 H0 F0 H1 F1 V D acc0 r σ Hs Fs) (v0 : V1 Hs Fs) (h : Pw (lcN s.nth tg T tt f s.fuel 0 acc0 (wipeV r T))) (hN : ∀ acc rc H' F', Tn K α O0 H0 F0 H1 F1 V D acc rc (L2.wipe σ T) H' F' → Pw (.ok acc rc) → Nx H') :
    ∃ W : Nat → Nat → Hp → Prop, (∃ m, W 0 m Hs) ∧ ∀ i m H, W i m H → (J.stop i H ∧ Nx H) ∨ (J.go i H ∧ ∃ Nx1 : Hp → Prop, (∀ H', Nx1 H' → ∃ m', m' < m ∧ W (i + 1) m' H') ∧ ∀ x H', J.yld i H x H' → g x (L2.wipe σ T) H' fun σ3 H5 => L2.wipe σ3 T = L2.wipe σ T ∧ (tT K α W0 tt) σ3 H5 fun b H6 =>
      if b = true then (tE K α W0 f) σ3 H6 fun y H7 => ∃ acc, H7 D = some (.lst acc) ∧ acc.length < sizeLine ∧ Nx1 (upd H7 D (.lst (acc ++ [y]))) else Nx1 H6) := by
  let V2 : Hp → (Addr → Prop) → Prop := fun H F => V H F ∧ V1 H F
  have hV2 : ∀ H F H' F', V2 H F → Stay H F H' F' → V2 H' F' := fun _ _ _ _ a b => ⟨hV _ _ _ _ a.1 b, so.stay _ _ _ _ a.2 b⟩
  have t00 : Tn K α O0 H0 F0 H1 F1 V2 D acc0 r σ Hs Fs := ⟨t0.sr, ⟨t0.v, v0⟩, t0.tr, t0.stay, t0.step⟩
  have tw0 : Tn K α O0 H0 F0 H1 F1 V2 D acc0 (wipeV r T) (L2.wipe σ T) Hs Fs := t00.next hV2 (t0.sr.wipe T) (Step.refl fun _ z => z) fun a ⟨l, q⟩ => ⟨l, wipe_holds q⟩
  refine ⟨fun i m H' => ∃ rc F' acc, Tn K α O0 H0 F0 H1 F1 V2 D acc rc (L2.wipe σ T) H' F' ∧ Pw (lcN s.nth tg T tt f m i acc rc), ⟨s.fuel, _, Fs, acc0, tw0, h⟩, ?_⟩
  rintro i m H2 ⟨rc, F2, acc, t, h⟩
  unfold lcN at h
  cases en : s.nth rc i with
  | none => simp only [en] at h; exact absurd h no
  | some o =>
    have tn := so.turn rc _ H2 F2 i o t.sr t.v.2 en
    cases o with
    | none =>
      simp only [en] at h
      exact .inl ⟨tn, hN acc rc H2 F2 ⟨t.sr, t.v.1, t.tr, t.stay, t.step⟩ h⟩
    | some d =>
      simp only [en] at h
      obtain ⟨go, yl⟩ := tn
      cases m with
      | zero => exact absurd h no
      | succ m =>
        simp only at h
        cases et : tg d (wipeV rc T) with
        | none => simp only [et] at h; exact absurd h no
        | some r2 =>
          simp only [et] at h
          refine .inr ⟨go, fun H' => ∃ rc F' acc, Tn K α O0 H0 F0 H1 F1 V2 D acc rc (L2.wipe σ T) H' F' ∧ Pw (lcN s.nth tg T tt f m (i + 1) acc rc), fun H' q => ⟨m, Nat.lt_succ_self m, q⟩, fun x H' y => ?_⟩
          have Sw : SR K α (wipeV rc T) (L2.wipe σ T) H2 F2 := by
            have q := t.sr.wipe T
            rwa [wipe_wipe] at q
          have tw : Tn K α O0 H0 F0 H1 F1 V2 D acc (wipeV rc T) (L2.wipe σ T) H2 F2 := t.next hV2 Sw (Step.refl fun _ z => z) fun a ⟨l, q⟩ => by
            rw [← wipe_wipe] at q
            exact ⟨l, wipe_holds q⟩
          obtain ⟨S3, fx, st3⟩ := yl_sr Sw (yl x H' y)
          refine ht.go (wipeV rc T) r2 (L2.wipe σ T) H' F2 x d _ S3 fx et fun σ3 S4 ow4 w4 => ?_
          have w4 : L2.wipe σ3 T = L2.wipe σ T := w4.trans (wipe_wipe T σ)
          have t4 : Tn K α O0 H0 F0 H1 F1 V2 D acc r2 σ3 H' F2 := tw.next hV2 S4 st3 ow4
          refine ⟨w4, r2, F2, S4, ?_⟩
          cases ett : tt r2 with
          | no => simp only [ett] at h; exact absurd h no
          | ex z r3 => simp only [ett] at h; exact absurd h no
          | ok b r3 =>
            simp only [ett] at h
            intro H5 F5 S5 st5
            have t5 : Tn K α O0 H0 F0 H1 F1 V2 D acc r3 σ3 H5 F5 := t4.next hV2 S5 st5 fun _ z => z
            have toW : ∀ {acc : List PyData} {r3 : En} {H5 : Hp} {F5 : Addr → Prop}, Tn K α O0 H0 F0 H1 F1 V2 D acc r3 σ3 H5 F5 → Tn K α O0 H0 F0 H1 F1 V2 D acc (wipeV r3 T) (L2.wipe σ T) H5 F5 := fun {acc r3 H5 F5} t5 => by
              have Sw5 := t5.sr.wipe T
              rw [w4] at Sw5
              exact t5.next hV2 Sw5 (Step.refl fun _ z => z) fun a ⟨l, q⟩ => by
                rw [← w4] at q
                exact ⟨l, wipe_holds q⟩
            cases b with
            | false =>
              refine iteF ?_
              exact ⟨wipeV r3 T, F5, acc, toW t5, h⟩
            | true =>
              refine iteT ⟨r3, F5, S5, ?_⟩
              have h : Pw (match M.bnd f frz r3 with
                | .no => .no
                | .ex e r3 => .no
                | .ok y r3 => if acc.length < sizeLine then lcN s.nth tg T tt f m (i + 1) (acc ++ [y]) (wipeV r3 T) else .no) := h
              unfold M.bnd at h
              cases ef : f r3 with
              | no => simp only [ef] at h; exact absurd h no
              | ex z r4 => simp only [ef] at h; exact absurd h no
              | ok z r4 =>
                simp only [ef] at h
                intro yv H6 F6 S6 st6 tz
                cases ez : frz z r4 with
                | no => simp only [ez] at h; exact absurd h no
                | ex w r5 => exact absurd ez frz_ex
                | ok dy r5 =>
                  simp only [ez] at h
                  obtain ⟨F7, S7, fr7, st7, _⟩ := frz_ok S6 tz ez
                  have t7 : Tn K α O0 H0 F0 H1 F1 V2 D acc r5 σ3 H6 F7 := t5.next hV2 S7 (st6.trans st7 fun _ z => z) fun _ z => z
                  obtain ⟨xs, h1, h2, h3, h4, h5, h6⟩ := t7.tr.grow t7.sr fr7
                  split at h
                  · rename_i hz
                    refine ⟨xs, h1, by rw [h2]; exact hz, ?_⟩
                    exact ⟨wipeV r5 T, F7, acc ++ [dy], toW ⟨h3, hV2 _ _ _ _ t7.v h5, h4, t7.stay.trans h5, t7.step.trans h6 fun _ z => z⟩, h⟩
                  · exact absurd h no
end
theorem tg_nameT (i : Nat) {T : List Nat} (h : i ∈ T) : TgOk K α (gName i) (fun d r => some (put r i (.val d))) T := ⟨fun r r1 σ H F x d Q S h2 e q => by
  cases e
  refine q _ (S.put (s := .val d) h2 fun o a z => nomatch z) (fun a z => ?_) (wipe_set _ T σ i h)
  rcases put_own z with z | ⟨⟨o, z⟩, _⟩
  · exact z
  · cases z⟩
theorem tg_tupT (is : List Nat) {T : List Nat} (hT : ∀ i ∈ is, i ∈ T) : TgOk K α (gTup K is.length (gNames is)) (tgTup is) T := ⟨fun r r1 σ H F x d Q S h e q => by
  cases d with
  | tuple ds =>
    obtain ⟨a, xs, rfl, h1, h2⟩ := (Pk.fr h).tup
    obtain ⟨e1, e2⟩ := gNames_w (T := T) (Q := Q) hT S h2 e q
    exact ⟨a, xs, rfl, h1, e1, e2⟩
  | _ => cases e⟩
def lc2N (nth : En → Nat → Option (Option PyData)) (tg : PyData → En → Option En) (T : List Nat) (tt : M Bool) (it1 : M Src) (tg1 : PyData → En → Option En) (T1 : List Nat) (tt1 : M Bool) (f : M Rv) : Nat → Nat → List PyData → M (List PyData)
  | m, i, acc, r => match nth r i with
    | none => .no
    | some none => .ok acc r
    | some (some d) => match m with
      | 0 => .no
      | m + 1 => match tg d (wipeV r T) with
        | none => .no
        | some r1 => match tt r1 with
          | .no => .no
          | .ex e r2 => .no
          | .ok false r2 => lc2N nth tg T tt it1 tg1 T1 tt1 f m (i + 1) acc (wipeV r2 T)
          | .ok true r2 => match it1 r2 with
            | .no => .no
            | .ex e r3 => .no
            | .ok s1 r3 => match lcN s1.nth tg1 T1 tt1 f s1.fuel 0 acc (wipeV r3 T1) with
              | .no => .no
              | .ex e r4 => .no
              | .ok acc r4 => lc2N nth tg T tt it1 tg1 T1 tt1 f m (i + 1) acc (wipeV r4 T)
def lc2E (it : M Src) (tg : PyData → En → Option En) (T : List Nat) (tt : M Bool) (it1 : M Src) (tg1 : PyData → En → Option En) (T1 : List Nat) (tt1 : M Bool) (f : M Rv) : M Rv := M.bnd it fun s r => if calm r T = true then
    (match lc2N s.nth tg T tt it1 tg1 T1 tt1 f s.fuel 0 [] (wipeV r T) with
    | .no => .no
    | .ex e r1 => .no
    | .ok acc r1 => .ok (.own (.lst acc)) (restV r r1 T)) else .no
theorem lc2_ok {it it1 : M Src} {g g1 : TG} {tg tg1 : PyData → En → Option En} {T T1 : List Nat} {tt tt1 : M Bool} {f : M Rv} {Q : VK} (ht : TgOk K α g tg T) (ht1 : TgOk K α g1 tg1 T1) (hT : ∀ i ∈ T1, i ∈ T) (h : tE K α W (lc2E it tg T tt it1 tg1 T1 tt1 f) σ H Q) :
    tLc2 (tI K α W it) g (tT K α W0 tt) (tI K α W0 it1) g1 (tT K α W0 tt1) (tE K α W0 f) T T1 σ H Q := by
  obtain ⟨r, F, S, h⟩ := h
  refine ⟨r, F, S, ?_⟩
  unfold lc2E M.bnd at h
  cases e : it r with
  | no => simp only [e] at h; exact h
  | ex z r1 => simp only [e] at h; exact h
  | ok s r1 =>
    simp only [e] at h
    intro J V H1 F1 S1 st1 so v1 D hD
    by_cases hc : calm r1 T = true
    case neg => rw [if_neg hc] at h; exact h.elim
    rw [if_pos hc] at h
    let Pw : Res (List PyData) → Prop := fun x => Aft K α σ (Own α r σ) H F W (match x with
      | .no => .no
      | .ex e r2 => .no
      | .ok acc r2 => .ok (.own (.lst acc)) (restV r1 r2 T)) Q
    have h : Pw (lc2N s.nth tg T tt it1 tg1 T1 tt1 f s.fuel 0 [] (wipeV r1 T)) := h
    have S1w := S1.wipe T
    refine ⟨fun i m H' => ∃ rc F' acc, Tn K α (Own α r σ) H F H1 F1 V D acc rc (L2.wipe σ T) H' F' ∧ Pw (lc2N s.nth tg T tt it1 tg1 T1 tt1 f m i acc rc), ⟨s.fuel, wipeV r1 T, F1, [], ⟨S1w.new _ hD, so.stay _ _ _ _ v1 (stay_new S1 _ hD),
      ⟨D, _, rfl, upd_same, ⟨[], rfl, .nil⟩, notF_new S1 hD, notOwn_new S1w hD⟩, stay_new S1 _ hD, st1.trans (step_new S1 _ hD fun a z => z.imp (fun ⟨l, q⟩ => ⟨l, wipe_holds q⟩) id) fun _ z => z⟩, h⟩, ?_⟩
    rintro i m H2 ⟨rc, F2, acc, t, h⟩
    unfold lc2N at h
    cases en : s.nth rc i with
    | none => simp only [en] at h; exact h.elim
    | some o =>
      have tn := so.turn rc _ H2 F2 i o t.sr t.v en
      cases o with
      | none =>
        simp only [en] at h
        obtain ⟨R, ow⟩ := SR.rest S1 t.sr t.stay hc
        refine .inl ⟨tn, h (.ref D) H2 F2 R (t.step.more fun a z => z.imp (ow a) fun ⟨_, z⟩ => by injection z with z; exact z.symm) ?_⟩
        obtain ⟨a, u, e1, e2, e3, e4, e5⟩ := t.tr
        exact ⟨a, u, e1, e2, e3, e4, fun z => e5 (ow a z)⟩
      | some d =>
        simp only [en] at h
        obtain ⟨go, yl⟩ := tn
        cases m with
        | zero => exact h.elim
        | succ m =>
          simp only at h
          cases et : tg d (wipeV rc T) with
          | none => simp only [et] at h; exact h.elim
          | some r2 =>
            simp only [et] at h
            refine .inr ⟨go, fun H' => ∃ rc F' acc, Tn K α (Own α r σ) H F H1 F1 V D acc rc (L2.wipe σ T) H' F' ∧ Pw (lc2N s.nth tg T tt it1 tg1 T1 tt1 f m (i + 1) acc rc), fun H' q => ⟨m, Nat.lt_succ_self m, q⟩, fun x H' y => ?_⟩
            have Sw : SR K α (wipeV rc T) (L2.wipe σ T) H2 F2 := by
              have q := t.sr.wipe T
              rwa [wipe_wipe] at q
            have tw : Tn K α (Own α r σ) H F H1 F1 V D acc (wipeV rc T) (L2.wipe σ T) H2 F2 := t.next so.stay Sw (Step.refl fun _ z => z) fun a ⟨l, q⟩ => by
              rw [← wipe_wipe] at q
              exact ⟨l, wipe_holds q⟩
            obtain ⟨S3, fx, st3⟩ := yl_sr Sw (yl x H' y)
            refine ht.go (wipeV rc T) r2 (L2.wipe σ T) H' F2 x d _ S3 fx et fun σ3 S4 ow4 w4 => ?_
            have w4 : L2.wipe σ3 T = L2.wipe σ T := w4.trans (wipe_wipe T σ)
            have t4 : Tn K α (Own α r σ) H F H1 F1 V D acc r2 σ3 H' F2 := tw.next so.stay S4 st3 ow4
            refine ⟨w4, r2, F2, S4, ?_⟩
            cases ett : tt r2 with
            | no => simp only [ett] at h; exact h
            | ex z r3 => simp only [ett] at h; exact h.elim
            | ok b r3 =>
              simp only [ett] at h
              intro H5 F5 S5 st5
              have t5 : Tn K α (Own α r σ) H F H1 F1 V D acc r3 σ3 H5 F5 := t4.next so.stay S5 st5 fun _ z => z
              have toW : ∀ {σ5 : L2.St} {acc : List PyData} {r3 : En} {H5 : Hp} {F5 : Addr → Prop}, L2.wipe σ5 T = L2.wipe σ T → Tn K α (Own α r σ) H F H1 F1 V D acc r3 σ5 H5 F5 → Tn K α (Own α r σ) H F H1 F1 V D acc (wipeV r3 T) (L2.wipe σ T) H5 F5 := fun {σ5 acc r3 H5 F5} w5 t5 => by
                have Sw5 := t5.sr.wipe T
                rw [w5] at Sw5
                exact t5.next so.stay Sw5 (Step.refl fun _ z => z) fun a ⟨l, q⟩ => by
                  rw [← w5] at q
                  exact ⟨l, wipe_holds q⟩
              cases b with
              | false =>
                refine iteF ?_
                exact ⟨wipeV r3 T, F5, acc, toW w4 t5, h⟩
              | true =>
                refine iteT ⟨r3, F5, S5, ?_⟩
                have h : Pw (match it1 r3 with
                  | .no => .no
                  | .ex e r3 => .no
                  | .ok s1 r3 => match lcN s1.nth tg1 T1 tt1 f s1.fuel 0 acc (wipeV r3 T1) with
                    | .no => .no
                    | .ex e r4 => .no
                    | .ok acc r4 => lc2N s.nth tg T tt it1 tg1 T1 tt1 f m (i + 1) acc (wipeV r4 T)) := h
                cases ei : it1 r3 with
                | no => simp only [ei] at h; exact h
                | ex z r4 => simp only [ei] at h; exact h.elim
                | ok s1 r4 =>
                  simp only [ei] at h
                  intro J1 V1 H6 F6 S6 st6 so1 v6
                  have t6 : Tn K α (Own α r σ) H F H1 F1 V D acc r4 σ3 H6 F6 := t5.next so.stay S6 st6 fun _ z => z
                  refine inner_ok (Pw := fun x => Pw (match x with
                    | .no => .no
                    | .ex e r4 => .no
                    | .ok acc r4 => lc2N s.nth tg T tt it1 tg1 T1 tt1 f m (i + 1) acc (wipeV r4 T))) ht1 so1 so.stay (fun z => z) t6 v6 h fun acc' rc' H' F' t' h' => ?_
                  exact ⟨wipeV rc' T, F', acc', toW ((wipe_sub T1 σ3 hT).trans w4) t', h'⟩
section
variable {X : Cx} {elt tg iter tg1 iter1 : Expr} {ifs ifs1 : List Expr} {scope : Scope} {own : List (Str × Nat)} {pos spos : Pos} {it it1 : M Src} {g g1 : TG} {tgf tgf1 : PyData → En → Option En} {tt tt1 : M Bool} {f : M Rv}
theorem ev_lc2 {T T1 : List Nat} (hT : own.map (·.2) = T) (hT1 : ∀ i ∈ T1, i ∈ T) (hc : X.calm = true) (hN : X.N.Nodup) (hi : PI X tg iter (tI K α W it)) (ok : BlkOk X.N X.env.scope scope own)
    (hg : ∀ (s : Shared) (H : Hp) (C : Addr) (cl : List (Str × Addr)) (fp : List Addr), PG (X.blk s H scope (compEnvC scope cl C X.env) fp) tg g) (ht : ∀ (s : Shared) (H : Hp) (C : Addr) (cl : List (Str × Addr)) (fp : List Addr), PTs (X.blk s H scope (compEnvC scope cl C X.env) fp) ifs (tT K α W0 tt))
    (hi1 : ∀ (s : Shared) (H : Hp) (C : Addr) (cl : List (Str × Addr)) (fp : List Addr), PI (X.blk s H scope (compEnvC scope cl C X.env) fp) tg1 iter1 (tI K α W0 it1))
    (hg1 : ∀ (s : Shared) (H : Hp) (C : Addr) (cl : List (Str × Addr)) (fp : List Addr), PG (X.blk s H scope (compEnvC scope cl C X.env) fp) tg1 g1) (ht1 : ∀ (s : Shared) (H : Hp) (C : Addr) (cl : List (Str × Addr)) (fp : List Addr), PTs (X.blk s H scope (compEnvC scope cl C X.env) fp) ifs1 (tT K α W0 tt1))
    (he : ∀ (s : Shared) (H : Hp) (C : Addr) (cl : List (Str × Addr)) (fp : List Addr), PE (X.blk s H scope (compEnvC scope cl C X.env) fp) elt (tE K α W0 f)) (htg : TgOk K α g tgf T) (htg1 : TgOk K α g1 tgf1 T1) (hs : ∀ x, foldedSetIterable iter X.env x = pure x := by intro _; rfl) (hs1 : ∀ env x, foldedSetIterable iter1 env x = pure x := by intro _ _; rfl) :
    PE X (.ListComp elt [⟨tg, iter, ifs, 0⟩, ⟨tg1, iter1, ifs1, 0⟩] scope pos) (tE K α W (lc2E it tgf T tt it1 tgf1 T1 tt1 f)) := pe_weak (pe_lc2 (vs1 := T1) hc hN hi ok (by rw [hT]; exact hT1) hg ht hi1 hg1 ht1 he hs hs1) fun σ H Q q => by
  rw [hT]
  exact lc2_ok htg htg1 hT1 q
theorem sv_setLc2 {i : Nat} {y : Str} {py : Pos} {T T1 : List Nat} (hT : own.map (·.2) = T) (hT1 : ∀ i ∈ T1, i ∈ T) (hc : X.calm = true) (hN : X.N.Nodup) (hy : X.N[i]? = some y) (hyl : X.env.scope.names.lookup y = some .local)
    (hsw : swapsWith (.ListComp elt [⟨tg, iter, ifs, 0⟩, ⟨tg1, iter1, ifs1, 0⟩] scope pos) (some (.Name y py)) spos.line X.env = pure true) (hi : PI X tg iter (tI K α W it)) (ok : BlkOk X.N X.env.scope scope own)
    (hg : ∀ (s : Shared) (H : Hp) (C : Addr) (cl : List (Str × Addr)) (fp : List Addr), PG (X.blk s H scope (compEnvC scope cl C X.env) fp) tg g) (ht : ∀ (s : Shared) (H : Hp) (C : Addr) (cl : List (Str × Addr)) (fp : List Addr), PTs (X.blk s H scope (compEnvC scope cl C X.env) fp) ifs (tT K α W0 tt))
    (hi1 : ∀ (s : Shared) (H : Hp) (C : Addr) (cl : List (Str × Addr)) (fp : List Addr), PI (X.blk s H scope (compEnvC scope cl C X.env) fp) tg1 iter1 (tI K α W0 it1))
    (hg1 : ∀ (s : Shared) (H : Hp) (C : Addr) (cl : List (Str × Addr)) (fp : List Addr), PG (X.blk s H scope (compEnvC scope cl C X.env) fp) tg1 g1) (ht1 : ∀ (s : Shared) (H : Hp) (C : Addr) (cl : List (Str × Addr)) (fp : List Addr), PTs (X.blk s H scope (compEnvC scope cl C X.env) fp) ifs1 (tT K α W0 tt1))
    (he : ∀ (s : Shared) (H : Hp) (C : Addr) (cl : List (Str × Addr)) (fp : List Addr), PE (X.blk s H scope (compEnvC scope cl C X.env) fp) elt (tE K α W0 f)) (htg : TgOk K α g tgf T) (htg1 : TgOk K α g1 tgf1 T1) (hs : ∀ x, foldedSetIterable iter X.env x = pure x := by intro _; rfl) (hs1 : ∀ env x, foldedSetIterable iter1 env x = pure x := by intro _ _; rfl) :
    PS X (.Assign [.Name y py] (.ListComp elt [⟨tg, iter, ifs, 0⟩, ⟨tg1, iter1, ifs1, 0⟩] scope pos) spos) (tS K α W (setS i (lc2E it tgf T tt it1 tgf1 T1 tt1 f))) := ps_weak (ps_setLc2 (vs1 := T1) hc hN hy hyl hsw hi ok (by rw [hT]; exact hT1) hg ht hi1 hg1 ht1 he hs hs1) fun D σ H ⟨r, F, S, h⟩ => by
  rw [hT]
  exact lc2_ok htg htg1 hT1 (tE_mono (ofM_E S h) fun v H1 ⟨r1, F1, x, S1, st, tr, h1⟩ => bind_ok S1 tr h1)
end
end Mi

/-! Mi22.lean -/
set_option Elab.async false
set_option linter.all false
set_option maxRecDepth 100000
/-! min of a tuple; names from a list -/
namespace Mi
open PySem L2 PySem.Spec PyProof.Rows
variable {K : PySem.W.Frag} {α : List Addr} {r r' : En} {σ : L2.St} {H H' : Hp} {F F' : Addr → Prop}
def rMinT (K : PySem.W.Frag) : List V → Hp → VK → Prop := fun vs H Q => ∃ (a : Addr) (n : Int) (ns : List Int), vs = [V.ref a] ∧ SqT K H a ((n :: ns).map V.int) ∧ Q (.int (PySem.W.minOf n ns)) H
theorem holdAll_ints {h : Heap} : ∀ {ns : List Int} {us : List Value}, Vals (ns.map V.int) us → PySem.W.HoldAll h us ns
  | [], _, .nil => ⟨[], .nil⟩
  | n :: ns, _, .cons ⟨t, e⟩ k => by
    subst e
    obtain ⟨as, r⟩ := holdAll_ints (h := h) k
    exact ⟨_, .cons (.int n t) r⟩
theorem cr_minT {X : Cx} (hc : X.calm = true) (hu : X.A.units + 64 < cLine) : CallR X (.builtin "min") (rMinT X.K) := by
  intro pins s σ H vs us Q I r h
  obtain ⟨a, n, ns, rfl, hs, q⟩ := h
  obtain ⟨its, rv, hl, _⟩ := I.tuple hs
  rw [Vals.ref1 r]
  refine PySem.W.min_tuple_datum (α := Int) (x := n) (xs := ns) (I.ok.hd hc) hl (holdAll_ints (by simpa using rv)) (by show X.A.units + 1 + 0 < cLine; omega) fun i v h' tk hi hm hk => ?_
  obtain ⟨bs, hm⟩ := hm
  generalize PySem.W.minOf n ns = m at hm q
  cases hm with
  | int j t => exact ⟨.int _, H, I.kept hk, ⟨_, rfl⟩, q⟩
def gMinX : PyData → Option Rv
  | .list ds => gMin (.list ds)
  | .tuple ds => (intsOf ds).bind fun ns => match ns with
    | [] => none
    | n :: ns => some (vI (PySem.W.minOf n ns))
  | _ => none
theorem o_minX : Op1 K (fun x H Q => rMin K [x] H Q ∨ rMinT K [x] H Q) gMinX := fun H F x d z Q px h q => by
  unfold gMinX at h
  split at h
  · exact .inl (o_min H F x _ z Q px h q)
  · obtain ⟨ns, h1, h2⟩ := Option.bind_eq_some_iff.mp h
    cases ns with
    | nil => cases h2
    | cons n ns =>
      cases h2
      obtain ⟨a, xs, rfl, e1, e2⟩ := px.tup
      have := intsOf_map h1
      subst this
      have := e2.ints
      subst this
      exact .inr ⟨a, n, ns, rfl, e1, q.val _ _ rfl (.int _)⟩
  · cases h
/-! a, b = xs -/
def unlS (is : List Nat) (f : M Rv) : Stm := ofM f fun x r => match peek r x with
  | some (.list ds) => match frz x r with
    | .ok _ r1 => match bindL is ds r1 with
      | some r2 => .nx r2
      | none => .no
    | _ => .no
  | _ => .no
theorem sv_unl {X : Cx} {e tg : Expr} {f : M Rv} {pos : Pos} {is : List Nat} (he : PE X e (tE X.K α W f)) (hg : PG X tg (gUnl X.K is.length (gNames is))) (hs : swapsWithSole [tg] e pos.line X.env = pure false := by rfl) (hw : swappedStores [tg] e X.env = pure none := by rfl)
    (h1 : (assignEach [tg] X.env).map (·.2) = [assign tg X.env] := by rfl) : PS X (.Assign [tg] e pos) (tS X.K α W (unlS is f)) := ps_weak (ps_asg he hg hs hw h1) fun D σ H ⟨r, F, S, h⟩ =>
  tE_mono (ofM_E S h) fun v H1 ⟨r1, F1, x, S1, st, tr, h1⟩ => by
    split at h1
    · rename_i ds q
      cases ez : frz x r1 with
      | no => simp only [ez] at h1; exact h1.elim
      | ex w r5 => exact absurd ez frz_ex
      | ok d r2 =>
        simp only [ez] at h1
        obtain ⟨a, xs, rfl, hx, fr⟩ := (peek_rel S1 tr q).list
        obtain ⟨F2, S2, fv, st2, ow2⟩ := frz_ok S1 tr ez
        have fr2 := FrAll.stay st2.stay fr
        cases e2 : bindL is ds r2 with
        | none => simp only [e2] at h1; exact h1.elim
        | some r3 =>
          simp only [e2] at h1
          obtain ⟨l, g⟩ := gNames_ok (Q := D.nx) S2 fr2 e2 fun σ' S' o => h1 σ' H1 F2 S' (st2.more fun a z => o a z)
          exact ⟨a, xs, rfl, hx, l, g⟩
    · exact h1.elim
theorem u1 {A : Around} {k : Nat} (hr : Room k A) : A.units + 1 < cLine := by have := hr.un; omega
end Mi

/-! Mi23.lean -/
set_option Elab.async false
set_option linter.all false
set_option maxRecDepth 100000
/-! the letters of a text, or the items of a sequence -/
namespace Mi
open PySem L2 PySem.Spec PyProof.Rows
variable {K : PySem.W.Frag} {α : List Addr} {r r' : En} {σ : L2.St} {H H' : Hp} {F F' : Addr → Prop}
def strNth (z : Str) (_ : En) (i : Nat) : Option (Option PyData) := some (z.cps.toList[i]?.map fun c => PyData.str ⟨#[c]⟩)
def sqI (f : M Rv) : M Src := fun r => match f r with
  | .ok x r1 => match peek r1 x with
    | some (.str z) => .ok ⟨strNth z, z.cps.toList.length⟩ r1
    | _ => seqI (fun _ => .ok x r1) r
  | .ex e r1 => .ex e r1
  | .no => .no
theorem src_str {z : Str} {n : Nat} : SrcOk K α ⟨strNth z, n⟩ (Its z) (fun _ _ => True) where
  stay := fun _ _ _ _ h s => h
  turn := fun r σ H F i o S h e => by
    have e : z.cps.toList[i]?.map (fun c => PyData.str ⟨#[c]⟩) = o := Option.some.inj e
    subst e
    cases g : z.cps.toList[i]? with
    | none =>
      show z.cps.size ≤ i
      have := get_none g
      simpa using this
    | some c =>
      refine ⟨show i < z.cps.size by have := get_some g; simpa using this, fun x H' ⟨e1, c', e2, e3⟩ => .inl ⟨e1, ?_⟩⟩
      have : c' = c := by
        rw [Array.getElem?_toList] at g
        rw [g] at e2
        cases e2; rfl
      subst this
      subst e3
      exact .str _
theorem sq_ok {f : M Rv} {R : It → Hp → Prop} (h : tI K α W (sqI f) σ H R) : iStr (tE K α W f) σ H R ∨ (iList K (tE K α W f) σ H R ∨ iTup K (tE K α W f) σ H R) := by
  obtain ⟨r, F, S, h⟩ := h
  unfold sqI at h
  cases e : f r with
  | no => simp only [e] at h; exact h.elim
  | ex z r1 => simp only [e] at h; exact .inl ⟨r, F, S, by rw [e]; exact h⟩
  | ok x r1 =>
    simp only [e] at h
    split at h
    · rename_i z q
      refine .inl ⟨r, F, S, ?_⟩
      rw [e]
      intro v H1 F1 S1 st t
      exact ⟨z, (peek_rel S1 t q).str, h _ _ H1 F1 S1 (st.trans (Step.refl (O' := Own α r1 σ) fun a z => .inl z) fun _ z => z) src_str trivial⟩
    · refine .inr (seq_ok ⟨r, F, S, ?_⟩)
      have e2 : seqI f r = seqI (fun _ => .ok x r1) r := by unfold seqI M.bnd; rw [e]
      rw [e2]
      exact h
theorem iv_sq {X : Cx} {tg l : Expr} {f : M Rv} (hl : PE X l (tE X.K α W f)) : PI X tg l (tI X.K α W (sqI f)) := pi_weak (pi_or (pi_str hl) (pi_or (pi_list hl) (pi_tup hl))) fun _ _ _ q => sq_ok q
end Mi

/-! Mi24.lean -/
set_option Elab.async false
set_option linter.all false
set_option maxRecDepth 100000
/-! calls with keywords alone -/
namespace Mi
open PySem L2 PySem.Spec PyProof.Rows
variable {K : PySem.W.Frag} {α : List Addr} {r r' : En} {σ : L2.St} {H H' : Hp} {F F' : Addr → Prop}
theorem permL_get {β : Type} : ∀ (pm : List Nat) (xs : List β), (∀ i ∈ pm, i < xs.length) → ∀ j : Nat, (permL pm xs)[j]? = pm[j]?.bind fun i => xs[i]?
  | [], _, _, j => by simp [permL]
  | i :: pm, xs, h, j => by
    have hi := h i List.mem_cons_self
    have e : permL (i :: pm) xs = xs[i] :: permL pm xs := by
      unfold permL
      rw [List.filterMap_cons, List.getElem?_eq_getElem hi]
    rw [e]
    cases j with
    | zero => simp [List.getElem?_eq_getElem hi]
    | succ j => simpa using permL_get pm xs (fun k hk => h k (List.mem_cons_of_mem _ hk)) j
theorem permL_len {β : Type} : ∀ (pm : List Nat) (xs : List β), (∀ i ∈ pm, i < xs.length) → (permL pm xs).length = pm.length
  | [], _, _ => rfl
  | i :: pm, xs, h => by
    have hi := h i List.mem_cons_self
    have e : permL (i :: pm) xs = xs[i] :: permL pm xs := by
      unfold permL
      rw [List.filterMap_cons, List.getElem?_eq_getElem hi]
    rw [e, List.length_cons, permL_len pm xs fun k hk => h k (List.mem_cons_of_mem _ hk), List.length_cons]
theorem permL_paired {β γ : Type} {R : β → γ → Prop} {xs : List β} {ys : List γ} (h : Paired R xs ys) : ∀ pm : List Nat, Paired R (permL pm xs) (permL pm ys)
  | [] => .nil
  | i :: pm => by
    have ih := permL_paired h pm
    have hl := paired_len h
    unfold permL at ih ⊢
    rw [List.filterMap_cons, List.filterMap_cons]
    cases e : ys[i]? with
    | none =>
      have : xs[i]? = none := by
        rw [List.getElem?_eq_none_iff] at e ⊢
        omega
      rw [this]
      exact ih
    | some y =>
      obtain ⟨x, e2, r⟩ := paired_get h e
      rw [e2]
      exact .cons r ih
theorem permL_one {β γ : Type} {pm : List Nat} {xs : List β} {ys : List γ} (hx : ∀ i ∈ pm, i < xs.length) (hy : ∀ i ∈ pm, i < ys.length) {j : Nat} {x : β} {y : γ} (h1 : (permL pm xs)[j]? = some x) (h2 : (permL pm ys)[j]? = some y) : ∃ i, pm[j]? = some i ∧ xs[i]? = some x ∧ ys[i]? = some y := by
  rw [permL_get pm xs hx] at h1
  rw [permL_get pm ys hy] at h2
  cases e : pm[j]? with
  | none => rw [e] at h1; cases h1
  | some i => rw [e] at h1 h2; exact ⟨i, rfl, h1, h2⟩
theorem TRs.perm {xs : List Rv} {vs : List V} {pm : List Nat} (T : TRs K α r σ H F xs vs) (nd : pm.Nodup) (h : ∀ i ∈ pm, i < xs.length) : TRs K α r σ H F (permL pm xs) (permL pm vs) where
  all := permL_paired T.all pm
  one := fun i j o o' a q1 q2 q3 q4 => by
    have hv : ∀ i ∈ pm, i < vs.length := fun i hi => (paired_len T.all) ▸ h i hi
    obtain ⟨m, e1, e2, e3⟩ := permL_one h hv q1 q2
    obtain ⟨n, f1, f2, f3⟩ := permL_one h hv q3 q4
    have := T.one m n o o' a e2 e3 f2 f3
    subst this
    obtain ⟨hi, ei⟩ := List.getElem?_eq_some_iff.mp e1
    obtain ⟨hj, ej⟩ := List.getElem?_eq_some_iff.mp f1
    rcases Nat.lt_trichotomy i j with l | l | l
    · exact absurd (ei.trans ej.symm) (List.pairwise_iff_getElem.mp nd i j hi hj l)
    · exact l
    · exact absurd (ej.trans ei.symm) (List.pairwise_iff_getElem.mp nd j i hj hi l)
theorem Tm.perm {xs : List Rv} {vs : List V} {pm : List Nat} {a : Addr} (hl : xs.length = vs.length) (h : ∀ i ∈ pm, i < xs.length) (t : Tm (permL pm xs) (permL pm vs) a) : Tm xs vs a := by
  obtain ⟨i, o, q1, q2⟩ := t
  obtain ⟨m, _, e2, e3⟩ := permL_one h (fun i hi => hl ▸ h i hi) q1 q2
  exact ⟨m, o, e2, e3⟩
def callKW (pm : List Nat) (G : List Ag → FR) (f : M (List Rv)) : M Rv := M.bnd f fun xs => if xs.length = pm.length then callF G (permL pm xs) else M.stop
/-- a def, and how its keywords bind: ks as they stand in the call, pm the places of the parameters among them -/
structure DefK (P : Program) (w : World) (K : PySem.W.Frag) (mg : Str → Option Value) (base : Heap) (x : Str) (k np n : Nat) (bd : Stm) (ks : List Str) (pm : List Nat) : Prop where
  ex : ∃ (f : Addr) (fd : FuncData) (ps : List Str), mg x = some (.ref f) ∧ PySem.W.keepIn K (.ref f) = true ∧ (∀ (s : Shared) (ws : List Value), ws.length = ks.length → BindsTo s fd ⟨[], ks.zip ws⟩ (ps.zip (permL pm ws))) ∧ ps.length = np ∧ FnG P w K mg base k f fd ps (spF K np n bd)
theorem DefK.mono {P : Program} {w : World} {K : PySem.W.Frag} {mg : Str → Option Value} {base : Heap} {x : Str} {j k np n : Nat} {bd : Stm} {ks : List Str} {pm : List Nat} (D : DefK P w K mg base x j np n bd ks pm) (h : j ≤ k) : DefK P w K mg base x k np n bd ks pm := by
  obtain ⟨f, fd, ps, h1, h2, h3, h4, h5⟩ := D.ex
  exact ⟨f, fd, ps, h1, h2, h3, h4, h5.mono h⟩
theorem Fun.kws {x qual : Str} {st : Stmt} {f : Addr} {fd : FuncData} {ps ks : List Str} {pm : List Nat} (Fn : Fun K x qual st f fd)
    (h : ∀ (kV doc pm' : Value) (an : Option Addr) (cdv ct : Value) (ws : List Value), ws.length = ks.length → bindArgs (PySem.W.fnOf x qual (defArgs st) (defBody st) (defScope st) .none kV doc pm' an cdv ct) ⟨[], ks.zip ws⟩ = Pure.pure (ps.zip (permL pm ws))) (s : Shared) (ws : List Value) (hl : ws.length = ks.length) : BindsTo s fd ⟨[], ks.zip ws⟩ (ps.zip (permL pm ws)) := by
  obtain ⟨oc, od, kV, doc, pm', an, cdv, ct, osl, rfl, lk, hcd⟩ := Fn.ex
  exact .of_eq (h kV doc pm' an cdv ct ws hl)
section
variable {X : Cx} {x : Str} {p pos kpos : Pos} {e : Expr} {kws : List Keyword} {k np n : Nat} {bd : Stm} {g : M (List Rv)} {ks : List Str} {pm : List Nat} {nm : Option Str}
theorem pk_weak {t t' : TA} (h : PK X kws t) (w : ∀ σ H Q, t' σ H Q → t σ H Q) : PK X kws t' := ⟨fun pos pins s σ H Q I q => h.run pos pins s σ H Q I (w σ H Q q)⟩
theorem kr_nil : PK X [] (tR K α W nilR) := pk_weak pk_nil fun _ _ _ q => nilR_ok q
theorem kr_cons {a : M Rv} (h : PE X e (tE K α W a)) (h2 : PK X kws (tR K α W g)) : PK X (⟨nm, e, kpos⟩ :: kws) (tR K α W (consR a g)) := pk_weak (pk_cons h h2) fun _ _ _ q => consR_ok q
theorem argsK_ok {G : List Ag → FR} {Q : VK} (h : tE K α W (callKW pm G g) σ H Q) : tR K α W g σ H fun vs H1 => ∃ r1 F1 xs, SR K α r1 σ H1 F1 ∧ TRs K α r1 σ H1 F1 xs vs ∧ xs.length = pm.length ∧ Aft K α σ (OwnTs α r1 σ xs vs) H1 F1 W (callF G (permL pm xs) r1) Q := by
  obtain ⟨r, F, S, h⟩ := h
  refine ⟨r, F, S, ?_⟩
  unfold callKW M.bnd at h
  cases e : g r with
  | no => rw [e] at h; exact h
  | ex z r1 => rw [e] at h; exact h
  | ok xs r1 =>
    rw [e] at h
    simp only at h
    intro vs H1 F1 S1 st T
    by_cases hl : xs.length = pm.length
    · rw [if_pos hl] at h
      exact ⟨r1, F1, xs, S1, T, hl, h.step st fun _ z => z⟩
    · rw [if_neg hl] at h
      exact h.elim
/-- f(k = v, ..) -/
theorem ev_callKW (D : DefK X.prog X.w X.K X.mg X.base x k np n bd ks pm) (hr : Room k X.A) (hgd : X.A.guards = some []) (tk : L2.Takes X W) (hg : Gl X x) (hn : np ≤ n) (nd : pm.Nodup) (hpm : ∀ i ∈ pm, i < pm.length) (hl : pm.length = ks.length) (hkw : PK X kws (tR X.K α W g))
    (hall : (backToKw pos (keywordEach kws X.env)).all (·.1.isSome) = true := by rfl) (hks : (backToKw pos (keywordEach kws X.env)).filterMap (·.1) = ks := by rfl)
    (hdb : (x == ("__debug__" : Str)) = false := by decide) (hpl : ((backTo pos (starEach [] X.env)).any (·.1) || (backToKw pos (keywordEach kws X.env)).any (·.1.isNone)) = false := by rfl) :
    PE X (.Call (.Name x p) [] kws pos) (tE X.K α W (callKW pm (runF np n bd) g)) := by
  obtain ⟨f, fd, ps, h1, h2, h3, h4, h5⟩ := D.ex
  refine ⟨fun pins s σ H Q I h => ?_⟩
  refine wpAny_Call_Name_kw (ld_glob I hg h1 ?_ hdb)
  have key := argsK_ok h
  refine PySem.W.callWith_KW0 (h₀ := X.base) I.ok.mod.kin h2 hall (thn (hkw.run pos pins s σ H _ I key) fun ws s1 ⟨vs, H1, I1, rv, r1, F1, xs, S1, T, lx, q⟩ => ⟨I1.kIn, ?_⟩) hpl
  rw [hks]
  have lv : xs.length = vs.length := paired_len T.all
  have lw : vs.length = ws.length := rv.length
  have hx : ∀ i ∈ pm, i < xs.length := fun i hi => lx ▸ hpm i hi
  have q' := q.step (Step.refl (O' := OwnTs α r1 σ (permL pm xs) (permL pm vs)) fun a z => z.elim .inl fun t => .inr (t.perm lv hx)) fun _ z => z
  have sp := call_ok hn S1 (T.perm nd hx) q'
  exact wpAny_call (run_fg h5 hr hgd tk (h3 s1 ws (by omega)) I1 (permL_paired rv pm) sp)
end
end Mi

/-! Mi25.lean -/
set_option Elab.async false
set_option linter.all false
set_option maxRecDepth 100000
/-! raise, try -/
namespace Mi
open PySem L2 PySem.Spec PyProof.Rows
variable {K : PySem.W.Frag} {α : List Addr} {r r' : En} {σ : L2.St} {H H' : Hp} {F F' : Addr → Prop}
/-- a class of errors without an __init__ of its own -/
structure ExD (K : PySem.W.Frag) (mg : Str → Option Value) (x : Str) : Prop where
  ex : ∃ C : Addr, mg x = some (.ref C) ∧ PySem.W.nsIn K mainGlobals x = some (some (.ref C)) ∧ PySem.W.excIn K C HandSPX.veTail "ValueError.__new__" = true ∧ PySem.W.keepIn K (.ref C) = true ∧ PySem.W.subIn K (.ref C) (.type "BaseException") = some true ∧
    PySem.W.typeIn K (.ref C) = some (.type "type")
def raiS (x : Str) : Stm := fun r => .ex ⟨x, []⟩ r
theorem sv_raise0 {X : Cx} {W : L2.WX} {x m : Str} {j : Nat} {p p2 p3 pos : Pos} (hc : X.calm = true) (tk : L2.Takes X W) (E : ExD X.K X.mg x) (hg : Gl X x) (hdb : (x == ("__debug__" : Str)) = false := by decide) :
    PS X (.Raise (some (.Call (.Name x p) [.Constant (.str m) j p2] [] p3)) none pos) (tS X.K α W (raiS x)) := by
  obtain ⟨C, g1, g2, g3, g4, g5, g6⟩ := E.ex
  exact ps_weak (ps_raise hc tk (pmk_own PySem.F.excBase_ValueError g3 g1 g4 (raises_own g5 g6) hg hdb)) fun D σ H ⟨r, F, S, h⟩ => h σ (.ref C) none H F S (Step.refl fun _ z => z) ⟨g2, rfl⟩
/-- which classes of errors a clause takes -/
structure Takers (K : PySem.W.Frag) (mg : Str → Option Value) (c : Str) (m : Str → Option Bool) : Prop where
  ex : ∃ C : Addr, mg c = some (.ref C) ∧ ∀ y b, m y = some b → ∃ D : Value, PySem.W.nsIn K mainGlobals y = some (some D) ∧ PySem.W.exmOne K D (.ref C) = some b
def tryS (bd : Stm) (m : Str → Option Bool) (su : Stm) : Stm := fun r => match bd r with
  | .ex x r1 => match m x.cls with
    | some true => match su r1 with
      | .ex _ _ => .no
      | o => o
    | some false => .ex x r1
    | none => .no
  | o => o
theorem AftS.wish {O : Addr → Prop} {W W' : L2.WX} {x : Out} {D : Ends} (h : AftS K α O H F W (match x with
    | .ex _ _ => .no
    | o => o) D) : AftS K α O H F W' x D := by
  cases x with
  | ex e r => exact h.elim
  | nx r => exact h
  | rt v r => exact h
  | bk r => exact h
  | ct r => exact h
  | no => exact h
/-- try: .. except c: .. -/
theorem sv_try {X : Cx} {W : L2.WX} {c : Str} {m : Str → Option Bool} {body suite : List Stmt} {b₀ : Stmt} {np pos pos' : Pos} {bd su : Stm} (hs : X.stack = X.env :: X.outer) (hf : X.env.frame = some X.env.locals) (E : Takers X.K X.mg c m) (hg : Gl X c) (tk : L2.Takes X W)
    (hb : ∀ (W1 : L2.WX) (pn : List (Addr × Obj)) (xe : Value → Shared → Prop), L2.Takes (X.tr pn xe) W1 → PassesOwn (model X.prog X.w) X.A X.env xe → PSs (X.tr pn xe) body (tS X.K α W1 bd))
    (hsu : ∀ (a : Addr) (oe : Obj) (pn : List (Addr × Obj)), PSs (X.suite a ((a, oe) :: pn)) (b₀ :: suite) (tS X.K α W0 su)) (hdb : (c == ("__debug__" : Str)) = false := by decide) :
    PS X (.Try body [.ExceptHandler (some (.Name c np)) none (b₀ :: suite) pos'] [] [] pos) (tS X.K α W (tryS bd m su)) := by
  obtain ⟨C, g1, g2⟩ := E.ex
  refine ps_weak (ps_try_only (c := .ref C) (tb := fun W1 => tS X.K α W1 bd) (ts := fun _ _ _ => tS X.K α W0 su) hs hf ⟨hg, hdb, .inl g1⟩ tk (fun W1 pn xe tk1 po1 => hb W1 pn xe tk1 po1) (fun a oe cls d pn _ _ => hsu a oe pn)) fun D σ H ⟨r, F, S, h⟩ => ⟨r, F, S, ?_⟩
  unfold tryS at h
  cases e : bd r with
  | nx r1 => rw [e] at h; exact h
  | rt v r1 => rw [e] at h; exact h
  | bk r1 => rw [e] at h; exact h
  | ct r1 => rw [e] at h; exact h
  | no => rw [e] at h; exact h.elim
  | ex x r1 =>
    rw [e] at h
    simp only at h
    intro σ' cls d H' F' S' st ex
    cases em : m x.cls with
    | none => rw [em] at h; exact h.elim
    | some b =>
      obtain ⟨Dv, e1, e2⟩ := g2 x.cls b em
      have e3 := ex.1
      rw [e1] at e3
      cases e3
      refine ⟨b, e2, fun hb => ?_, fun hb => ?_⟩
      · subst hb
        rw [em] at h
        exact fun a _ => ⟨r1, F', S', AftS.wish ((AftS.step (K := X.K) h st fun _ z => z))⟩
      · subst hb
        rw [em] at h
        exact h σ' cls d H' F' S' st ex
end Mi

/-! Mi26.lean -/
set_option Elab.async false
set_option linter.all false
set_option maxRecDepth 100000
/-! range(a, b, -1); which errors a clause takes, by a list -/
namespace Mi
open PySem L2 PySem.Spec PyProof.Rows
variable {K : PySem.W.Frag} {α : List Addr} {r r' : En} {σ : L2.St} {H H' : Hp} {F F' : Addr → Prop}
def rngDn (lo : Int) (n : Nat) (_ : En) (i : Nat) : Option (Option PyData) := if i < n then some (some (.int (lo + ((i : Nat) : Int) * (-1)))) else some none
def rngD (f g h : M Rv) : M Src := M.bnd f fun x => M.bnd g fun y => M.bnd h fun z r => match peek r x, peek r y, peek r z with
  | some (.int i), some (.int j), some (.int k) => if k = -1 ∧ (-(2 ^ 62) ≤ i ∧ i < 2 ^ 62) ∧ -(2 ^ 62) ≤ j ∧ j < 2 ^ 62 then .ok ⟨rngDn i (i - j).toNat, (i - j).toNat⟩ r else .no
  | _, _, _ => .no
theorem src_rngD {lo : Int} {n : Nat} : SrcOk K α ⟨rngDn lo n, n⟩ (Itc lo (-1) n) (fun _ _ => True) where
  stay := fun _ _ _ _ h s => h
  turn := fun r σ H F i o S h e => by
    have e : rngDn lo n r i = some o := e
    unfold rngDn at e
    split at e
    · rename_i hi
      injection e with e
      subst e
      exact ⟨hi, fun x H' y => .inl ⟨y.1, by rw [y.2]; exact .int _⟩⟩
    · rename_i hi
      injection e with e
      subst e
      exact Nat.le_of_not_lt hi
theorem rngD_ok {W : L2.WX} {f g k : M Rv} {R : It → Hp → Prop} (h : tI K α W (rngD f g k) σ H R) : iRng3 (tCons (tE K α W f) (tCons (tE K α W g) (tCons (tE K α W k) tNil))) σ H R := by
  obtain ⟨r, F, S, h⟩ := h
  refine tE_mono (tE_bndI S h) fun v H1 ⟨r1, F1, x, S1, st1, t1, h1⟩ => tE_mono (tE_bndI S1 h1) fun w H2 ⟨r2, F2, y, S2, st2, t2, h2⟩ => tE_mono (tE_bndI S2 h2) fun u H3 ⟨r3, F3, z, S3, st3, t3, h3⟩ => ?_
  have t1' := (t1.step st2 fun _ z => .inl z).step st3 fun _ z => .inl z
  have t2' := t2.step st3 fun _ z => .inl z
  split at h3
  · rename_i i j k q1 q2 q3
    split at h3
    · rename_i hj
      obtain ⟨rfl, a1, a2⟩ := hj
      exact ⟨i, j, -1, (i - j).toNat, by rw [(peek_rel S3 t1' q1).int, (peek_rel S3 t2' q2).int, (peek_rel S3 t3 q3).int], RgC.neg a1.1 a1.2 a2.1 a2.2, h3 _ _ H3 F3 S3 (Step.refl fun _ z => z) src_rngD trivial⟩
    · exact h3.elim
  · exact h3.elim
theorem iv_rngD {X : Cx} {W : L2.WX} {tg a b c : Expr} {f g k : M Rv} {p pos : Pos} (hg : Gl X "range") (hm : X.mg "range" = none) (ha : PE X a (tE K α W f)) (hb : PE X b (tE K α W g)) (hc : PE X c (tE K α W k))
    (hs : starEach [a, b, c] X.env = (false, eval a X.env) :: starEach [b, c] X.env := by rfl) (hs1 : starEach [b, c] X.env = (false, eval b X.env) :: starEach [c] X.env := by rfl) (hs2 : starEach [c] X.env = (false, eval c X.env) :: starEach [] X.env := by rfl)
    (hpl : (backTo pos (starEach [b, c] X.env)).any (·.1) = false := by rfl) : PI X tg (.Call (.Name "range" p) [a, b, c] [] pos) (tI K α W (rngD f g k)) :=
  pi_weak (pi_range3 hg hm (pa_cons ha (pa_cons hb (pa_cons hc pa_nil hs2) hs1) hs) hs hpl) fun _ _ _ q => rngD_ok q
/-- the classes that a clause takes, and those that it doesn't -/
def takeL (l : List (Str × Bool)) (y : Str) : Option Bool := l.lookup y
theorem Takers.of {K : PySem.W.Frag} {mg : Str → Option Value} {c : Str} {l : List (Str × Bool)} {C : Addr} (h1 : mg c = some (.ref C)) (h2 : ∀ p ∈ l, ∃ D : Value, PySem.W.nsIn K mainGlobals p.1 = some (some D) ∧ PySem.W.exmOne K D (.ref C) = some p.2) : Takers K mg c (takeL l) := by
  refine ⟨C, h1, fun y b e => ?_⟩
  have key : ∀ l : List (Str × Bool), l.lookup y = some b → (y, b) ∈ l := fun l => by
    induction l with
    | nil => intro e; cases e
    | cons p l ih =>
      obtain ⟨k, v⟩ := p
      intro e
      rw [List.lookup_cons] at e
      by_cases q : y == k
      · rw [q] at e
        have q := eq_of_beq q
        cases e
        rw [q]
        exact List.mem_cons_self
      · have q : (y == k) = false := by simpa using q
        rw [q] at e
        exact List.mem_cons_of_mem _ (ih e)
  exact h2 (y, b) (key l e)
end Mi

/-! Mi27.lean -/
set_option Elab.async false
set_option linter.all false
set_option maxRecDepth 100000
/-! xs[::-1] -/
namespace Mi
open PySem L2 PySem.Spec PyProof.Rows
variable {K : PySem.W.Frag} {α : List Addr} {r r' : En} {σ : L2.St} {H H' : Hp} {F F' : Addr → Prop}
def gRevL : PyData → Option Rv
  | .list ds => some (.own (.lst ds.reverse))
  | _ => none
theorem o_revL : Op1 K (fun x H Q => ∃ a xs, x = .ref a ∧ SqL K H a xs ∧ ∀ p, H p = none → Q (.ref p) (upd H p (.lst xs.reverse))) gRevL := fun H F x d z Q px h q => by
  unfold gRevL at h
  split at h
  · cases h
    obtain ⟨a, xs, rfl, h1, h2⟩ := px.list
    exact ⟨a, xs, rfl, h1, fun l hl => q.new _ _ l rfl hl h2.rev⟩
  · cases h
theorem ev_revL {X : Cx} {W : L2.WX} {e : Expr} {f : M Rv} {k : Nat} {p1 p2 p3 pos : Pos} (he : PE X e (tE X.K α W f)) : PE X (.Subscript e (.Slice none none (some (.UnaryOp .USub (.Constant (.int 1) k p1) p2)) p3) pos) (tE X.K α W (unE gRevL f)) :=
  pe_weak (pe_revL he) fun _ _ _ q => t1_ok o_revL q
end Mi

/-! Mi28.lean -/
set_option Elab.async false
set_option linter.all false
set_option maxRecDepth 100000
namespace Mi
open PySem L2 PySem.Spec PyProof.Rows
theorem exm_mk {K : PySem.W.Frag} {C : Addr} {D : Value} {b : Bool} (h1 : PySem.W.subIn K (.ref C) (.type "BaseException") = some true) (h2 : PySem.W.isClsIn K C = true) (h3 : PySem.W.typeIn K (.ref C) = some (.type "type")) (h4 : PySem.W.subIn K D (.ref C) = some b) :
    PySem.W.exmOne K D (.ref C) = some b := by
  have h2 : (PySem.W.clsIn K C).isSome = true := h2
  unfold PySem.W.exmOne PySem.W.kitCls
  rw [h1]
  simp only [h2, h3]
  exact h4
end Mi

/-! Mi29.lean -/
set_option Elab.async false
set_option linter.all false
set_option maxRecDepth 100000
/-! sorted of rows and tuples, list of a text, dicts by in and by key -/
namespace Mi
open PySem L2 PySem.Spec PyProof.Rows
open PySem.W (EachIs AllAlike Sortable dataLe sorted_data alike alikeAll)
variable {K : PySem.W.Frag} {α : List Addr} {r r' : En} {σ : L2.St} {H H' : Hp} {F F' : Addr → Prop} {W : L2.WX}
/-! list(text) -/
theorem vals_letters {x : Str} : ∀ (cs : List Nat) (vs : List Value), vs.length = cs.length → (∀ (j : Nat) (v : Value), vs[j]? = some v → ∃ (c : Nat) (u : Tok), cs[j]? = some c ∧ v = Value.str ⟨#[c]⟩ u) → Vals (cs.map fun c => V.str ⟨#[c]⟩) vs
  | [], [], _, _ => .nil
  | [], v :: vs, h, _ => by simp at h
  | c :: cs, [], h, _ => by simp at h
  | c :: cs, v :: vs, h, q => by
    obtain ⟨c', u, e1, e2⟩ := q 0 v rfl
    cases e1
    exact .cons ⟨u, e2⟩ (vals_letters (x := x) cs vs (by simpa using h) fun j w e => q (j + 1) w (by simpa using e))
theorem call_listStr {X : Cx} (hc : X.calm = true) : CallR X (.type "list") (fun xs H Q => ∃ z : Str, xs = [.str z] ∧ z.cps.size ≤ sizeLine ∧ ∀ l, H l = none → Q (.ref l) (upd H l (.lst (z.cps.toList.map fun c => V.str ⟨#[c]⟩)))) := by
  intro pins s σ H xs us Q I r h
  obtain ⟨z, rfl, hz, q⟩ := h
  obtain ⟨u, rfl, t, rfl⟩ := vals1 r
  refine call_list_str (I.ok.hd hc) z t (fun h' tk acc' c' hk hS hacc => ?_) hz
  have vl : Vals (z.cps.toList.map fun c => V.str ⟨#[c]⟩) acc'.toList := vals_letters (x := z) _ _ (by simp [hacc.1]) fun j v e => by
    obtain ⟨c, u, e1, e2⟩ := hacc.2 j v (by simpa using e)
    exact ⟨c, u, by simpa using e1, e2⟩
  exact ⟨.ref s.heap.objs.size, _, I.laid (t' := tk) hk (Nat.le_refl _) (show ObjOk X.prog X.w _ h' _ (.lst _) from ⟨by simpa using hz, acc'.toList, c', vl, by simpa using hS⟩), rfl, q _ (I.hok.fresh (Nat.le_refl _))⟩
def lettersD (z : Str) : List PyData := z.cps.toList.map fun c => .str ⟨#[c]⟩
def gListX : PyData → Option Rv
  | .str z => if z.cps.size ≤ sizeLine then some (.own (.lst (lettersD z))) else none
  | d => gList d
theorem fr_letters : ∀ cs : List Nat, FrAll K H F (cs.map fun c => V.str ⟨#[c]⟩) (cs.map fun c => PyData.str ⟨#[c]⟩)
  | [] => .nil
  | c :: cs => .cons (.str _) (fr_letters cs)
theorem o_listX : Op1 K (fun x H Q => (∃ z : Str, [x] = [.str z] ∧ z.cps.size ≤ sizeLine ∧ ∀ l, H l = none → Q (.ref l) (upd H l (.lst (z.cps.toList.map fun c => V.str ⟨#[c]⟩)))) ∨ (∃ p ys, [x] = [.ref p] ∧ (SqL K H p ys ∨ SqT K H p ys) ∧ ∀ l, H l = none → Q (.ref l) (upd H l (.lst ys)))) gListX := fun H F x d z Q px h q => by
  cases d with
  | str y =>
    obtain ⟨h1, rfl⟩ := opt_if h
    have e := px.str
    subst e
    exact .inl ⟨_, rfl, h1, fun l hl => q.new _ _ l rfl hl (fr_letters _)⟩
  | _ => exact .inr (o_list H F x _ z Q px h q)
/-! sorted -/
theorem each_of {T : V → PyData → Prop} : ∀ {ys : List V} {us : List Value} {ds : List PyData}, Vals ys us → Paired T ys ds → EachIs (fun u d => ∃ v, RelV v u ∧ T v d) us ds
  | _, _, _, .nil, .nil => .nil
  | _, _, _, .cons r1 r2, .cons t1 t2 => .cons ⟨_, r1, t1⟩ (each_of r2 t2)
theorem of_each {T : V → PyData → Prop} : ∀ {us : List Value} {ds : List PyData}, EachIs (fun u d => ∃ v, RelV v u ∧ T v d) us ds → ∃ ys, Vals ys us ∧ Paired T ys ds
  | _, _, .nil => ⟨[], .nil, .nil⟩
  | _, _, .cons ⟨v, r, t⟩ h => let ⟨ys, h1, h2⟩ := of_each h; ⟨v :: ys, .cons r h1, .cons t h2⟩
theorem each_imp {α β : Type} {R S : α → β → Prop} (h : ∀ a b, R a b → S a b) : ∀ {as : List α} {bs : List β}, EachIs R as bs → EachIs S as bs
  | _, _, .nil => .nil
  | _, _, .cons a b => .cons (h _ _ a) (each_imp h b)
def rSortDat (K : PySem.W.Frag) : List V → Hp → VK → Prop := fun vs H Q => ∃ (T : V → PyData → Prop) (a : Addr) (ys : List V) (ds : List PyData), vs = [V.ref a] ∧ SqL K H a ys ∧ Paired T ys ds ∧ (∀ v d, T v d → Dp K H v d) ∧ AllAlike ds ∧ Sortable ds ∧ (∀ d, d ∈ ds → d.depth ≤ 60) ∧
  ∀ (zs : List V) (p : Addr), Paired T zs (ds.mergeSort (dataLe false id)) → H p = none → Q (.ref p) (upd H p (.lst zs))
theorem cr_sortedDat {X : Cx} (hu : X.A.units + 64 < cLine) : CallR X (.builtin "sorted") (rSortDat X.K) := by
  intro pins s σ H vs us Q I r h
  obtain ⟨T, a, ys, ds, rfl, hs, hp, hd, hal, hso, hdp, q⟩ := h
  obtain ⟨its, rv, hl, hz⟩ := I.list hs
  rw [Vals.ref1 r]
  have e1 := each_of rv hp
  have er : EachIs (fun v b => ∃ as, Reads s.heap v (id b) as) its ds := each_imp (fun u d ⟨v, r1, t1⟩ => Dp.reads I d v u (hd v d t1) r1) e1
  have hlen : ds.length = ys.length := by rw [← e1.length, rv.length]
  refine sorted_data (enc := id) hl.isList e1 er (by simpa using hal) (by simpa using hso) (by rw [hlen]; exact hz) (fun b hb => by have := hdp b hb; show X.A.units + 2 + b.depth < cLine; omega) fun out hlo heo => ?_
  obtain ⟨zs, z1, z2⟩ := of_each heo
  obtain ⟨ep, he'⟩ := PyProof.Rows.sortedAll_at s.heap its out.toArray
  have hzl : zs.length ≤ sizeLine := by rw [z1.length, hlo, hlen]; exact hz
  exact ⟨.ref _, upd H (s.heap.objs.size + 1) (.lst zs), I.laid (t' := s.toks) (fun _ _ => PyProof.Rows.sortedAll_old) (Nat.le_succ _) ⟨hzl, out, ep, z1, he'⟩, rfl, q zs _ z2 (I.hok.fresh (Nat.le_succ _))⟩
def alikeB (ds : List PyData) : Bool := ds.all fun d => ds.all fun e => alike d e
def sortableB (ds : List PyData) : Bool := (ds.all fun d => match d with | .tuple (_ :: _) => true | _ => false) || ds.all fun d => match d with | .none => false | .tuple _ => false | _ => true
def gSortD : PyData → Option Rv
  | .list ds => if (alikeB ds && sortableB ds && ds.all fun d => decide (d.depth ≤ 60)) = true then some (.own (.lst (ds.mergeSort (dataLe false id)))) else none
  | _ => none
def gSortX (d : PyData) : Option Rv := match gSortI d with
  | some z => some z
  | none => gSortD d
theorem FrAll.pair : ∀ {vs : List V} {ds : List PyData}, FrAll K H F vs ds → Paired (fun v d => Fr K H F v d) vs ds
  | _, _, .nil => .nil
  | _, _, .cons a b => .cons a (FrAll.pair b)
theorem FrAll.of_pair {vs : List V} {ds : List PyData} (h : Paired (fun v d => Fr K H F v d) vs ds) : FrAll K H F vs ds := by
  induction h with
  | nil => exact .nil
  | cons a b ih => exact .cons a ih
theorem sortableB_ok {ds : List PyData} (h : sortableB ds = true) : Sortable ds := by
  unfold sortableB at h
  rcases Bool.or_eq_true _ _ ▸ h with h | h
  · refine .inl fun d hd => ?_
    have := List.all_eq_true.mp h d hd
    cases d with
    | tuple xs => cases xs with
      | nil => cases this
      | cons x r => exact ⟨x, r, rfl⟩
    | _ => cases this
  · refine .inr fun d hd => ?_
    have := List.all_eq_true.mp h d hd
    refine ⟨fun e => ?_, fun xs e => ?_⟩ <;> (subst e; cases this)
theorem o_sortX : Op1 K (fun x H Q => rSorted K [x] H Q ∨ rSortDat K [x] H Q) gSortX := fun H F x d z Q px h q => by
  unfold gSortX at h
  cases e : gSortI d with
  | some y => rw [e] at h; exact .inl (o_sortI H F x d z Q px (e.trans h) q)
  | none =>
    rw [e] at h
    refine .inr ?_
    cases d with
    | list ds =>
      obtain ⟨h1, rfl⟩ := opt_if h
      simp only [Bool.and_eq_true] at h1
      obtain ⟨⟨a1, a2⟩, a3⟩ := h1
      obtain ⟨a, xs, rfl, e1, e2⟩ := px.list
      exact ⟨fun v d => Fr K H F v d, a, xs, ds, rfl, e1, e2.pair, fun _ _ t => t.dp, fun d hd d' hd' => List.all_eq_true.mp (List.all_eq_true.mp a1 d hd) d' hd', sortableB_ok a2, fun d hd => of_decide_eq_true (List.all_eq_true.mp a3 d hd),
        fun zs p hz hn => q.new _ _ p rfl hn (FrAll.of_pair hz)⟩
    | _ => cases h
/-! k in d, k not in d, d[k] -/
def dinE (neg : Bool) (f g : M Rv) : M Rv := M.bnd f fun y r1 => (M.bnd g fun x r2 => match dctOf r2 x, (peek r2 y).bind keyOf with
  | some kvs, some k => .ok (.val (.bool (neg != (valD kvs k).isSome))) r2
  | _, _ => .no) r1
def dixE (f g : M Rv) : M Rv := M.bnd f fun x r1 => (M.bnd g fun y r2 => match dctOf r2 x, (peek r2 y).bind keyOf with
  | some kvs, some k => match valD kvs k with
    | some d => .ok (.val d) r2
    | none => .no
  | _, _ => .no) r1
theorem DRel.some {ps : List (Key × V)} {kvs : List (Key × PyData)} (h : DRel K H F ps kvs) (k : Key) : (valV ps k).isSome = (valD kvs k).isSome := by
  have := h.val k
  cases e : valD kvs k with
  | none => rw [e] at this; rw [this]; rfl
  | some d => rw [e] at this; obtain ⟨v, e1, _⟩ := this; rw [e1]; rfl
theorem din_ok {neg : Bool} {f g : M Rv} {Q : VK} (h : tE K α W (dinE neg f g) σ H Q) : tE K α W f σ H fun y H1 => tE K α W g σ H1 fun x H2 => ∃ a o, x = .ref a ∧ DGet H2 a y o ∧ Q (.bl (neg != o.isSome)) H2 := by
  obtain ⟨r, F, S, h⟩ := h
  refine tE_mono (tE_bnd S h) fun x H1 ⟨r1, F1, x1, S1, st1, t1, h1⟩ => ?_
  refine tE_mono (tE_bnd S1 h1) fun y H2 ⟨r2, F2, x2, S2, st2, t2, h2⟩ => ?_
  have t1' := t1.step st2 fun a z => .inl z
  split at h2
  · rename_i kvs k q1 q2
    obtain ⟨a, ps, rfl, rd, dr⟩ := dct_rel S2 t2 q1
    cases ep : peek r2 x1 with
    | none => rw [ep] at q2; cases q2
    | some d =>
      rw [ep] at q2
      have ek := (peek_rel S2 t1' ep).key q2
      refine ⟨a, _, rfl, .inl ⟨ps, k, rd, ek, rfl⟩, (Aft.fin S2 h2).val _ _ rfl ?_⟩
      rw [dr.some k]; exact .bl _
  · exact h2.elim
theorem ev_din {X : Cx} {o e : Expr} {pos : Pos} {f g : M Rv} (hu : X.A.units + 1 < cLine) (he : PE X e (tE K α W f)) (ho : PE X o (tE K α W g)) (hm : behindInMarks .In o = false) : PE X (.Compare e [.In] [o] pos) (tE K α W (dinE false f g)) :=
  pe_weak (pe_cmp (pc_din hu he ho) hm) fun σ H Q q => by
    have := din_ok q
    simpa only [tDIn, Bool.false_bne] using this
theorem ev_dnotin {X : Cx} {o e : Expr} {pos : Pos} {f g : M Rv} (hu : X.A.units + 1 < cLine) (he : PE X e (tE K α W f)) (ho : PE X o (tE K α W g)) (hm : behindInMarks .NotIn o = false) : PE X (.Compare e [.NotIn] [o] pos) (tE K α W (dinE true f g)) :=
  pe_weak (pe_cmp (pc_dnotin hu he ho) hm) fun σ H Q q => by
    have := din_ok q
    simpa only [tDNotIn, Bool.true_bne] using this
theorem tv_din {X : Cx} {o e : Expr} {pos : Pos} {f g : M Rv} (hu : X.A.units + 1 < cLine) (he : PE X e (tE K α W f)) (ho : PE X o (tE K α W g)) (hm : behindInMarks .In o = false) : PT X (.Compare e [.In] [o] pos) (tT K α W (tstB (dinE false f g))) :=
  pt_weak (pt_cmp (pc_din hu he ho) hm) fun σ H Q q => by
    have q1 := tst_ok (P := fun v _ b => v = .bl b) (fun _ _ _ _ _ p e => bool_pk p e) q
    have := din_ok q1
    simpa only [tB, tDIn, Bool.false_bne] using this
theorem tv_dnotin {X : Cx} {o e : Expr} {pos : Pos} {f g : M Rv} (hu : X.A.units + 1 < cLine) (he : PE X e (tE K α W f)) (ho : PE X o (tE K α W g)) (hm : behindInMarks .NotIn o = false) : PT X (.Compare e [.NotIn] [o] pos) (tT K α W (tstB (dinE true f g))) :=
  pt_weak (pt_cmp (pc_dnotin hu he ho) hm) fun σ H Q q => by
    have q1 := tst_ok (P := fun v _ b => v = .bl b) (fun _ _ _ _ _ p e => bool_pk p e) q
    have := din_ok q1
    simpa only [tB, tDNotIn, Bool.true_bne] using this
theorem ev_dix {X : Cx} {o e : Expr} {pos : Pos} {f g : M Rv} (hu : X.A.units + 1 < cLine) (hs : NoSl e) (ho : PE X o (tE K α W f)) (he : PE X e (tE K α W g)) : PE X (.Subscript o e pos) (tE K α W (dixE f g)) :=
  pe_weak (pe_dget hu ho he hs) fun σ H Q q => by
    obtain ⟨r, F, S, h⟩ := q
    refine tE_mono (tE_bnd S h) fun x H1 ⟨r1, F1, x1, S1, st1, t1, h1⟩ => ?_
    refine tE_mono (tE_bnd S1 h1) fun y H2 ⟨r2, F2, x2, S2, st2, t2, h2⟩ => ?_
    have t1' := t1.step st2 fun a z => .inl z
    split at h2
    · rename_i kvs k q1 q2
      obtain ⟨a, ps, rfl, rd, dr⟩ := dct_rel S2 t1' q1
      cases ep : peek r2 x2 with
      | none => rw [ep] at q2; cases q2
      | some d =>
        rw [ep] at q2
        have ek := (peek_rel S2 t2 ep).key q2
        have := dr.val k
        split at h2
        · rename_i d' e3
          rw [e3] at this
          obtain ⟨v, e4, fv⟩ := this
          exact ⟨a, v, rfl, .inl ⟨ps, k, rd, ek, e4.symm⟩, (Aft.fin S2 h2).val _ _ rfl fv⟩
        · exact h2.elim
    · exact h2.elim
end Mi

/-! Mi30.lean -/
set_option Elab.async false
set_option linter.all false
set_option maxRecDepth 100000
/-! an own list as frozen data; a, b = x, y where a name is a cell -/
namespace Mi
open PySem L2 PySem.Spec PyProof.Rows
variable {K : PySem.W.Frag} {α : List Addr} {r r' : En} {σ : L2.St} {H H' : Hp} {F F' : Addr → Prop} {W : L2.WX}
def fzE (f : M Rv) : M Rv := M.bnd f fun x => M.bnd (frz x) fun d => M.ret (Rv.val d)
theorem fz_ok {f : M Rv} {Q : VK} (h : tE K α W (fzE f) σ H Q) : tE K α W f σ H Q := by
  obtain ⟨r, F, S, h⟩ := h
  refine frz_bnd (P := fun x => Aft K α σ (Own α r σ) H F W x Q) (fun z => z) S (fun _ _ z => z) h fun v H1 r1 F1 d S1 st fr h1 => ?_
  exact h1 v H1 F1 S1 (st.widen (fun a z => z) fun a z => z.elim (fun z => .inl z) fun ⟨⟨_, z⟩, _⟩ => nomatch z) fr
theorem ev_fz {X : Cx} {e : Expr} {f : M Rv} (h : PE X e (tE K α W f)) : PE X e (tE K α W (fzE f)) := pe_weak h fun _ _ _ q => fz_ok q
theorem par2_ok {g : M (List Rv)} {i j : Nat} {D : Ends} (S : SR K α r σ H F) (h : AftS K α (Own α r σ) H F W (parS i j g r) D) :
    tAsg (tTup (tR K α W g)) (gTup K [i, j].length (gNames [i, j])) D σ H := by
  show tR K α W g σ H _
  refine ⟨r, F, S, ?_⟩
  unfold parS at h
  cases e : g r with
  | no => rw [e] at h; exact h.elim
  | ex x r1 => rw [e] at h; exact h σ
  | ok xs r1 =>
    rw [e] at h
    intro vs H1 F1 S1 st1 t1
    obtain ⟨all, one⟩ := t1
    match xs, vs, all, h with
    | [x, y], [v, w], .cons tx (.cons ty .nil), h =>
      refine ⟨by simp [sizeLine], fun p hp => ⟨p, [v, w], rfl, .inl (.inl upd_same), rfl, ⟨v, [w], rfl, w, [], rfl, rfl, ?_⟩⟩⟩
      show D.nx ((σ.set i (some v)).set j (some w)) (upd H1 p (.tup [v, w]))
      cases e1 : deS x r1 with
      | no => simp only [e1] at h; exact h.elim
      | ex z r2 => simp only [e1] at h; exact h.elim
      | ok x' r2 =>
        simp only [e1] at h
        cases e2 : deS y r2 with
        | no => simp only [e2] at h; exact h.elim
        | ex z r3 => simp only [e2] at h; exact h.elim
        | ok y' r3 =>
          simp only [e2] at h
          obtain ⟨F2, S2, tx2, st2, ow2, sx⟩ := deS_ok S1 tx e1
          obtain ⟨F3, S3, ty3, st3, ow3, sy⟩ := deS_ok S2 (ty.step st2 fun a z => z) e2
          have tx3 := tx2.step st3 fun a z => z
          cases e3 : slOf r3 x' with
          | none => simp only [e3] at h; exact h.elim
          | some s =>
            cases e4 : slOf r3 y' with
            | none => simp only [e3, e4] at h; exact h.elim
            | some t =>
              simp only [e3, e4] at h
              obtain ⟨rs, os, ns⟩ := slOf_ok S3 tx3 e3
              obtain ⟨rt, ot, nt⟩ := slOf_ok S3 ty3 e4
              have far : ∀ o o' a, s = .own o → v = .ref a → t = .own o' → w = .ref a → False := fun o o' a z1 z2 z3 z4 => by
                have ex : x = .own o := by rw [sx ⟨o, os o z1⟩]; exact os o z1
                have ey : y = .own o' := by rw [sy ⟨o', ot o' z3⟩]; exact ot o' z3
                have := one 0 1 o o' a (by simp [ex]) (by simp [z2]) (by simp [ey]) (by simp [z4])
                cases this
              have S4 := S3.put (i := i) rs ns
              have S5 := S4.put (i := j) rt fun o a z1 z2 => ⟨(nt o a z1 z2).1, fun z => (put_own z).elim (nt o a z1 z2).2 fun ⟨⟨o', z3⟩, z4⟩ => far o' o a z3 z4 z1 z2⟩
              have wide : ∀ a, Own α r1 σ a → OwnTs α r1 σ [x, y] [v, w] a := fun a z => .inl z
              have st12 := st1.trans (st2.widen wide fun a z => .inr (.inl (ow2 a z))) fun a z => z
              have st13 := st12.trans st3 fun a z => z
              have fresh : ∀ (q : V) (u : Rv) (k : Nat) (a : Addr), (∃ o, [x, y][k]? = some (.own o)) → [v, w][k]? = some (.ref a) → OwnTs α r1 σ [x, y] [v, w] a := fun q u k a ⟨o, z1⟩ z2 => .inr ⟨k, o, z1, z2⟩
              have low : ∀ a, Own α (put (put r3 i s) j t) ((σ.set i (some v)).set j (some w)) a → OwnTs α r1 σ [x, y] [v, w] a := fun a z => by
                rcases put_own z with z | ⟨⟨o, z1⟩, z2⟩
                · rcases put_own z with z | ⟨⟨o, z1⟩, z2⟩
                  · exact .inl (ow2 a (ow3 a z))
                  · exact .inr ⟨0, o, by rw [sx ⟨o, os o z1⟩, os o z1]; rfl, by rw [z2]; rfl⟩
                · exact .inr ⟨1, o, by rw [sy ⟨o, ot o z1⟩, ot o z1]; rfl, by rw [z2]; rfl⟩
              have stF : Step (Own α r σ) H F H1 F3 (Own α (put (put r3 i s) j t) ((σ.set i (some v)).set j (some w))) := ⟨st13.keep, st13.stay, st13.nfz, fun a z => st1.own a (low a z), st13.dom⟩
              exact h _ _ F3 (S5.new (.tup [v, w]) hp) (stF.trans (step_new S5 (.tup [v, w]) hp fun a z => .inl z) fun a z => z)
theorem sv_par2 {X : Cx} {i j : Nat} {tg : Expr} {a b : Expr} {g : M (List Rv)} {pos : Pos} {k2 pt2} (ha : PA X [a, b] (tR X.K α W g)) (hg : PG X tg (gTup X.K [i, j].length (gNames [i, j])))
    (hs : swapsWithSole [tg] (.Tuple [a, b] k2 pt2) pos.line X.env = pure false := by rfl) (hw : swappedStores [tg] (.Tuple [a, b] k2 pt2) X.env = pure none := by rfl)
    (h1 : (assignEach [tg] X.env).map (·.2) = [assign tg X.env] := by rfl) :
    PS X (.Assign [tg] (.Tuple [a, b] k2 pt2) pos) (tS X.K α W (parS i j g)) := ps_weak (ps_asg (pe_tup ha) hg hs hw h1) fun D σ H ⟨r, F, S, h⟩ => par2_ok S h
end Mi

/-! Mi31.lean -/
set_option Elab.async false
set_option linter.all false
set_option maxRecDepth 100000
/-! sorted of a tuple of ints -/
namespace Mi
open PySem L2 PySem.Spec PyProof.Rows
section
variable {prog : Program} {w : World} {A : Around} {E : Value → Shared → Prop} {s : Shared}
abbrev grownH (h : Heap) (vs : List Value) : Heap := (h.push (seqObj "list" #[] 0)).update h.objs.size (Obj.mapSeq (· ++ vs.toArray))
theorem tup_extend {A1 : Around} {l : Addr} {vs : List Value} {P : PySem.Fin → Shared → Prop} {EP : Value → Shared → Prop} (hl : IsTup s.heap l vs.toArray) (hsz : vs.length ≤ sizeLine)
    (h : P (.done (.ret (.ref s.heap.objs.size))) { s with heap := grownH s.heap vs }) :
    wpAny (model prog w) A1 (Builtin.List.listExtendWith (.ref s.heap.objs.size) (.ref l) (.ref s.heap.objs.size)) P EP { s with heap := s.heap.push (seqObj "list" #[] 0) } := by
  obtain ⟨o, ho, hc, n, hd⟩ := hl
  have h1 := Heap.get?_push_of_some (seqObj "list" #[] 0) ho
  have h2 : (s.heap.push (seqObj "list" #[] 0)).get? s.heap.objs.size = some (seqObj "list" #[] 0) := Heap.get?_push_size _ rfl
  unfold Builtin.List.listExtendWith
  refine wpAny_bind (wpAny_typeOf (T := "tuple") ⟨o, h1, hc⟩ ?_)
  rw [if_pos (by rw [show (Value.type "tuple" == Value.type "tuple") = true from rfl]; simp)]
  refine wpAny_bind (listItems_at h1 hd (wpAny_bind (listItems_at (xs := #[]) (n := 0) h2 rfl ?_)))
  rw [if_neg (by simp)]
  exact wpAny_bind (listUpdate_at (xs := #[]) (n := 0) h2 rfl (wpAny_pure h) (Nat.zero_le _) (by show (#[] ++ vs.toArray).size ≤ sizeLine + 1; simp only [Array.size_append, List.size_toArray, List.length_nil]; omega))
theorem tup_collect {l : Addr} {vs : List Value} {Q : List Value → Shared → Prop} (hl : IsTup s.heap l vs.toArray) (hsz : vs.length ≤ sizeLine) (h : Q vs { s with heap := grownH s.heap vs }) : wpAny (model prog w) A (collect (.ref l)) Q E s := by
  unfold collect
  refine wpAny_bind (wpAny_runValue (codeAny_builtin entry_proto_collect' ?_))
  show wpAny _ _ (do again (.builtin "list.__iadd__" ⟨[← newList [], .ref l], []⟩)) _ _ s
  refine wpAny_bind (wpAny_newList (wpAny_pure ⟨Code.quiet_builtin _ (by decide +kernel), codeAny_builtin entry_list_iadd' ?_⟩))
  show wpAny _ _ (Builtin.List.listExtendWith (.ref s.heap.objs.size) (.ref l) (.ref s.heap.objs.size)) _ _ { s with heap := s.heap.push (seqObj "list" #[] 0) }
  refine tup_extend hl hsz ?_
  show wpAny (model prog w) A (do
      let o ← load s.heap.objs.size
      match o.data with
      | .seq xs _ => pure xs.toList
      | _ => unsupported "internal:collect") Q E { s with heap := grownH s.heap vs }
  refine wpAny_bind (wpAny_load (get?_update_seq (Heap.get?_push_size _ rfl) _) ?_)
  show wpAny _ _ (pure ((#[] : Array Value) ++ vs.toArray).toList) Q E _
  rw [show ((#[] : Array Value) ++ vs.toArray).toList = vs by simp]
  exact wpAny_pure h
theorem tup_sorted {l : Addr} {vs : List Value} {ns : List Int} {Q : Value → Shared → Prop} (hl : IsTup s.heap l vs.toArray) (hI : IntsAre vs ns) (h64 : vs.length < 64)
    (h : ∀ (out : Array Value) (ns' : List Int), IntsAre out.toList ns' → ns'.Perm ns → ns'.Pairwise (· ≤ ·) → Q (.ref (s.heap.objs.size + 1)) { s with heap := sortedAll s.heap vs out }) :
    wpAny (model prog w) A (call (.builtin "sorted") [.ref l]) Q E s := by
  have hz : (grownH s.heap vs).objs.size = s.heap.objs.size + 1 := by rw [Heap.size_update, size_push']
  have ho : ((grownH s.heap vs).push (seqObj "list" vs.toArray 0)).get? (s.heap.objs.size + 1) = some (seqObj "list" vs.toArray 0) := by rw [← hz]; exact Heap.get?_push_size _ rfl
  refine Calls.call_function_entry kind_sorted plain_sorted entry_sorted (args_sorted1 _) ?_
  unfold Builtin.«sorted»
  refine wpAny_bind (m := checkCount "sorted" 1 1 _) (wpAny_pure (wpAny_bind (tup_collect hl (small64 h64) (wpAny_bind (wpAny_newList ?_)))))
  show wpAny _ _ _ _ _ { s with heap := (grownH s.heap vs).push (seqObj "list" vs.toArray 0) }
  rw [hz]
  exact wpAny_bind (wpAny_holding (wpAny_call_entry slot_list_sort ⟨_, ho, rfl⟩ entry_list_sort (list_sort_tree ho hI h64 fun out ns' a1 a2 a3 => ⟨_, rfl, wpAny_pure ⟨_, rfl, h out ns' a1 a2 a3⟩⟩) (args_list_sort _)))
end
variable {K : PySem.W.Frag} {α : List Addr} {r r' : En} {σ : L2.St} {H H' : Hp} {F F' : Addr → Prop} {W : L2.WX}
def rSortTu (K : PySem.W.Frag) : List V → Hp → VK → Prop := fun vs H Q => ∃ (a : Addr) (ns : List Int), vs = [V.ref a] ∧ SqT K H a (ns.map V.int) ∧ ns.length < 64 ∧
  ∀ (ns' : List Int) (p : Addr), ns'.Perm ns → ns'.Pairwise (· ≤ ·) → H p = none → Q (.ref p) (upd H p (.lst (ns'.map V.int)))
theorem cr_sortedTu {X : Cx} : CallR X (.builtin "sorted") (rSortTu X.K) := by
  intro pins s σ H vs us Q I r h
  obtain ⟨a, ns, rfl, hs, h64, q⟩ := h
  obtain ⟨its, rv, hl, _⟩ := I.tuple hs
  rw [Vals.ref1 r]
  have hi := rv.ints
  refine tup_sorted hl hi (by rw [hi.length]; exact h64) fun out ns' h1 h2 h3 => ?_
  obtain ⟨ep, he'⟩ := PyProof.Rows.sortedAll_at s.heap its out
  have hlen : (ns'.map V.int).length ≤ sizeLine := by rw [List.length_map, h2.length_eq]; exact small64 h64
  exact ⟨.ref _, upd H (s.heap.objs.size + 1) (.lst (ns'.map V.int)), I.laid (t' := s.toks) (fun _ _ => PyProof.Rows.sortedAll_old) (Nat.le_succ _) ⟨hlen, out.toList, ep, vals_of_ints h1, he'⟩, rfl, q ns' _ h2 h3 (I.hok.fresh (Nat.le_succ _))⟩
/-- sorted: of ints (list or tuple), or of other data (list) -/
def gSortY (d : PyData) : Option Rv := match d with
  | .tuple ds => gSortI (.list ds)
  | _ => gSortX d
theorem o_sortY : Op1 K (fun x H Q => (rSorted K [x] H Q ∨ rSortDat K [x] H Q) ∨ rSortTu K [x] H Q) gSortY := fun H F x d z Q px h q => by
  cases d with
  | tuple ds =>
    refine .inr ?_
    have h : gSortI (.list ds) = some z := h
    unfold gSortI at h
    obtain ⟨ns, h1, h2⟩ := Option.bind_eq_some_iff.mp h
    obtain ⟨h3, rfl⟩ := opt_if h2
    obtain ⟨a, xs, rfl, e1, e2⟩ := px.tup
    have := intsOf_map h1
    subst this
    have := e2.ints
    subst this
    refine ⟨a, ns, rfl, e1, h3, fun ns' p hp hw hn => q.new _ _ p rfl hn ?_⟩
    rw [mergeSort_is hp hw]
    exact fr_intsAll ns'
  | _ => exact .inl (o_sortX H F x _ z Q px h q)
end Mi

/-! Lw46.lean -/
set_option Elab.async false
set_option linter.all false
set_option maxRecDepth 100000
namespace Lw
open PySem PySem.Spec PyProof.Rows L2 Mi
def topS (i : Nat) : Stmt := PySem.Challenge.pw_fdwires_k46_whole_ways_between_tables.main.body.getD i (.Pass ⟨0, 0, 0, 0⟩)
/-- the names of the top that are read -/
structure Nm (mg : Str → Option Value) : Prop where
  b_len : mg "len" = none
  b_list : mg "list" = none
  b_tuple : mg "tuple" = none
  b_range : mg "range" = none
  b_enumerate : mg "enumerate" = none
  b_int : mg "int" = none
  b_str : mg "str" = none
  b_max : mg "max" = none
  b_min : mg "min" = none
  b_sum : mg "sum" = none
  b_any : mg "any" = none
  b_all : mg "all" = none
  b_sorted : mg "sorted" = none
  b_isinstance : mg "isinstance" = none
  b_type : mg "type" = none
  b_zip : mg "zip" = none
  b_bool : mg "bool" = none
  c_DESCRIPTORS : ∃ t, mg "DESCRIPTORS" = some (.int 10 t)
  c_MOST_LETTERS : ∃ t, mg "MOST_LETTERS" = some (.int 8 t)
  c_MOST_CALLS : ∃ t, mg "MOST_CALLS" = some (.int 100 t)
/-! _law_open_source -/
abbrev s__law_open_source : Stmt := topS 42
theorem sc__law_open_source : FnScope ["script", "k", "cell"] ["script", "k"] (defScope s__law_open_source) := ⟨rfl, rfl, rfl, by decide +kernel, rfl, by decide +kernel, by decide +kernel⟩
def b__law_open_source : Stm := seqS (setS 2 (kE (.int 0))) <| seqS (ifS (tstB (binE gLt (nmE 1) (unE gLen (nmE 0)))) (setS 2 (binE gIx (nmE 0) (nmE 1))) (nxS)) <| retS (lstE (consL (binE gMax2 (kE (.int 0)) (binE gSubI (nmE 2) (binE gPow (kE (.int 10)) (kE (.int 18))))) (consL (binE gAdd (binE gMul (binE gMod (nmE 2) (binE gAdd (binE gPow (kE (.int 10)) (kE (.int 60))) (kE (.int 7)))) (kE (.int 64))) (binE gMod (nmE 1) (kE (.int 64)))) (consL (kE (.int 0)) (nilL)))))
abbrev G__law_open_source : List Ag → FR := runF 2 3 b__law_open_source
theorem k__law_open_source {P : Program} {w : World} {K : PySem.W.Frag} {mg : Str → Option Value} {base : Heap} {f : Addr} {fd : FuncData} (F : Fun K "_law_open_source" "_law_open_source" s__law_open_source f fd) (N : Nm mg)  : FnG P w K mg base 1 f fd ["script", "k"] (spF K 2 3 b__law_open_source) :=
  fg_of F sc__law_open_source rfl rfl fun cdv A outer s H β E hr hgd tk po => sv_cons (sv_set (i := 2) sc__law_open_source.nd rfl (by first | exact Or.inl rfl | exact Or.inr rfl) (ev_int)) <| sv_cons (sv_if (tv_cmp op_lt (nomark _) o_cmp (ev_nm 1 (pv 1)) (ev_b1 call_len o_len (by rfl) N.b_len (by decide +kernel) (ev_nm 0 (pv 0)))) (sv_one (sv_set (i := 2) sc__law_open_source.nd rfl (by first | exact Or.inl rfl | exact Or.inr rfl) (ev_ix ix_seq (fun _ _ => rfl) o_ix (ev_nm 0 (pv 0)) (ev_nm 1 (pv 1))))) (sv_nil)) <| sv_one (sv_ret (ev_lst (al_cons (ev_b2 (call_max2 rfl) o_max2 (by rfl) N.b_max (by decide +kernel) (ev_int) (ev_bin op_sub o_sub (ev_nm 2 (pv 2)) (ev_bin op_powW o_pow (ev_int) (ev_int)))) (al_cons (ev_bin op_addX o_add (ev_bin op_mulW o_mul (ev_bin op_mod o_mod (ev_nm 2 (pv 2)) (ev_bin op_addX o_add (ev_bin op_powW o_pow (ev_int) (ev_int)) (ev_int))) (ev_int)) (ev_bin op_mod o_mod (ev_nm 1 (pv 1)) (ev_int))) (al_cons (ev_int) (al_nil))))))
/-! _law_draw -/
abbrev s__law_draw : Stmt := topS 43
theorem sc__law_draw : FnScope ["source", "limit", "digit", "mixed"] ["source", "limit"] (defScope s__law_draw) := ⟨rfl, rfl, rfl, by decide +kernel, rfl, by decide +kernel, by decide +kernel⟩
def b__law_draw : Stm := seqS (ifS (tstB (binE gGt (binE gIx (nmE 0) (kE (.int 0))) (kE (.int 0)))) (seqS (setS 2 (binE gMod (binE gIx (nmE 0) (kE (.int 0))) (nmE 1))) <| seqS (stoS (binE gDiv (binE gIx (nmE 0) (kE (.int 0))) (nmE 1)) 0 (kE (.int 0))) <| retS (nmE 2)) (nxS)) <| seqS (stoS (binE gAdd (binE gIx (nmE 0) (kE (.int 2))) (kE (.int 1))) 0 (kE (.int 2))) <| seqS (setS 3 (binE gMod (binE gPow (binE gAdd (binE gAdd (binE gIx (nmE 0) (kE (.int 1))) (binE gMul (binE gMul (kE (.int 40503)) (binE gIx (nmE 0) (kE (.int 2)))) (binE gIx (nmE 0) (kE (.int 2))))) (kE (.int 11))) (kE (.int 3))) (kE (.int 2305843009213693951)))) <| seqS (setS 3 (binE gMod (binE gPow (binE gAdd (nmE 3) (binE gMul (kE (.int 69621)) (binE gIx (nmE 0) (kE (.int 2))))) (kE (.int 3))) (kE (.int 2305843009213693921)))) <| retS (binE gMod (binE gDiv (nmE 3) (kE (.int 65537))) (nmE 1))
abbrev G__law_draw : List Ag → FR := runF 2 4 b__law_draw
theorem k__law_draw {P : Program} {w : World} {K : PySem.W.Frag} {mg : Str → Option Value} {base : Heap} {f : Addr} {fd : FuncData} (F : Fun K "_law_draw" "_law_draw" s__law_draw f fd) (N : Nm mg)  : FnG P w K mg base 1 f fd ["source", "limit"] (spF K 2 4 b__law_draw) :=
  fg_of F sc__law_draw rfl rfl fun cdv A outer s H β E hr hgd tk po => sv_cons (sv_if (tv_cmp op_gt (nomark _) o_cmp (ev_ix ix_seq (fun _ _ => rfl) o_ix (ev_nm 0 (pv 0)) (ev_int)) (ev_int)) (sv_cons (sv_set (i := 2) sc__law_draw.nd rfl (by first | exact Or.inl rfl | exact Or.inr rfl) (ev_bin op_mod o_mod (ev_ix ix_seq (fun _ _ => rfl) o_ix (ev_nm 0 (pv 0)) (ev_int)) (ev_nm 1 (pv 1)))) <| sv_cons (sv_sto (ev_bin op_fdivW o_div (ev_ix ix_seq (fun _ _ => rfl) o_ix (ev_nm 0 (pv 0)) (ev_int)) (ev_nm 1 (pv 1))) (pg_sub (ev_nm 0 (pv 0)) (ev_int) set_list)) <| sv_one (sv_ret (ev_nm 2 (pv 2)))) (sv_nil)) <| sv_cons (sv_sto (ev_bin op_addX o_add (ev_ix ix_seq (fun _ _ => rfl) o_ix (ev_nm 0 (pv 0)) (ev_int)) (ev_int)) (pg_sub (ev_nm 0 (pv 0)) (ev_int) set_list)) <| sv_cons (sv_set (i := 3) sc__law_draw.nd rfl (by first | exact Or.inl rfl | exact Or.inr rfl) (ev_bin op_mod o_mod (ev_bin op_powW o_pow (ev_bin op_addX o_add (ev_bin op_addX o_add (ev_ix ix_seq (fun _ _ => rfl) o_ix (ev_nm 0 (pv 0)) (ev_int)) (ev_bin op_mulW o_mul (ev_bin op_mulW o_mul (ev_int) (ev_ix ix_seq (fun _ _ => rfl) o_ix (ev_nm 0 (pv 0)) (ev_int))) (ev_ix ix_seq (fun _ _ => rfl) o_ix (ev_nm 0 (pv 0)) (ev_int)))) (ev_int)) (ev_int)) (ev_int))) <| sv_cons (sv_set (i := 3) sc__law_draw.nd rfl (by first | exact Or.inl rfl | exact Or.inr rfl) (ev_bin op_mod o_mod (ev_bin op_powW o_pow (ev_bin op_addX o_add (ev_nm 3 (pv 3)) (ev_bin op_mulW o_mul (ev_int) (ev_ix ix_seq (fun _ _ => rfl) o_ix (ev_nm 0 (pv 0)) (ev_int)))) (ev_int)) (ev_int))) <| sv_one (sv_ret (ev_bin op_mod o_mod (ev_bin op_fdivW o_div (ev_nm 3 (pv 3)) (ev_int)) (ev_nm 1 (pv 1))))
/-! _law_shuffled -/
abbrev s__law_shuffled : Stmt := topS 44
theorem sc__law_shuffled : FnScope ["source", "things", "left", "turn"] ["source", "things"] (defScope s__law_shuffled) := ⟨rfl, rfl, rfl, by decide +kernel, rfl, by decide +kernel, by decide +kernel⟩
def b__law_shuffled : Stm := seqS (setS 2 (unE gListX (nmE 1))) <| retS (lcE (rng1 (unE gLen (nmE 2))) (fun d r => some (put r 3 (.val d))) [3] (yesB) (mutE 2 uPop (consL (callE G__law_draw (consR (nmE 0) (consR (unE gLen (nmE 2)) (nilR)))) (nilL))))
abbrev G__law_shuffled : List Ag → FR := runF 2 4 b__law_shuffled
theorem k__law_shuffled {P : Program} {w : World} {K : PySem.W.Frag} {mg : Str → Option Value} {base : Heap} {f : Addr} {fd : FuncData} (F : Fun K "_law_shuffled" "_law_shuffled" s__law_shuffled f fd) (N : Nm mg) (D__law_draw : Def P w K mg base "_law_draw" 1 2 4 b__law_draw) : FnG P w K mg base 2 f fd ["source", "things"] (spF K 2 4 b__law_shuffled) :=
  fg_of F sc__law_shuffled rfl rfl fun cdv A outer s H β E hr hgd tk po => sv_cons (sv_set (i := 2) sc__law_shuffled.nd rfl (by first | exact Or.inl rfl | exact Or.inr rfl) (ev_t1 (L2.CallR.or (call_listStr rfl) call_list_of) o_listX (by rfl) N.b_list (by decide +kernel) (ev_nm 1 (pv 1)))) <| sv_one (sv_ret (ev_lc (own := [("turn", 3)]) (T := [3]) rfl rfl sc__law_shuffled.nd (iv_rng1 (by rfl) N.b_range (ev_b1 call_len o_len (by rfl) N.b_len (by decide +kernel) (ev_nm 2 (pv 2)))) (blkOk_by (own := [("turn", 3)]) (N := ["source", "things", "left", "turn"]) (sc := defScope s__law_shuffled) (by decide +kernel)) (fun _ _ _ _ _ => pg_name (i := 3) sc__law_shuffled.nd rfl (by first | exact Or.inl rfl | exact Or.inr rfl)) (fun _ _ _ _ _ => ts_nil) (fun _ _ _ _ _ => ev_mut (pe_bm PySem.F.plainAttrs_list PySem.F.slot_list_pop PySem.F.type_list_pop mt_popAt (ev_nm 2 (pv 2)) (al_cons (ev_callD (D__law_draw.mono (by decide)) hr hgd takes0 (by rfl) (by decide) (ar_cons (ev_nm 0 (pv 0)) (ar_cons (ev_b1 call_len o_len (by rfl) N.b_len (by decide +kernel) (ev_nm 2 (pv 2))) (ar_nil)))) (al_nil))) m_pop) (tg_name 3)))
/-! _law_turned -/
abbrev s__law_turned : Stmt := topS 45
theorem sc__law_turned : FnScope ["source", "row", "order", "found", "at", "group", "place"] ["source", "row", "order"] (defScope s__law_turned) := ⟨rfl, rfl, rfl, by decide +kernel, rfl, by decide +kernel, by decide +kernel⟩
def b__law_turned : Stm := seqS (parS 3 4 (consR (unE gList (nmE 1)) (consR (kE (.int 0)) (nilR)))) <| seqS (whlN (tstB (binE gLt (nmE 4) (unE gLen (nmE 2)))) (seqS (setS 5 (slE (nmE 2) (some (nmE 4)) (some (binE gAdd (binE gAdd (nmE 4) (kE (.int 1))) (callE G__law_draw (consR (nmE 0) (consR (kE (.int 4)) (nilR)))))))) <| seqS (forS (rng1 (unE gLen (nmE 5))) (fun d r => some (put r 6 (.val d))) (stoS (binE gIx (nmE 1) (binE gIx (nmE 5) (binE gSubI (nmE 6) (kE (.int 1))))) 3 (binE gIx (nmE 5) (nmE 6)))) <| setS 4 (binE gAdd (nmE 4) (unE gLen (nmE 5)))) 1000) <| retS (nmE 3)
abbrev G__law_turned : List Ag → FR := runF 3 7 b__law_turned
theorem k__law_turned {P : Program} {w : World} {K : PySem.W.Frag} {mg : Str → Option Value} {base : Heap} {f : Addr} {fd : FuncData} (F : Fun K "_law_turned" "_law_turned" s__law_turned f fd) (N : Nm mg) (D__law_draw : Def P w K mg base "_law_draw" 1 2 4 b__law_draw) : FnG P w K mg base 2 f fd ["source", "row", "order"] (spF K 3 7 b__law_turned) :=
  fg_of F sc__law_turned rfl rfl fun cdv A outer s H β E hr hgd tk po => sv_cons (sv_par rfl sc__law_turned.nd rfl rfl (by decide) rfl rfl (ar_cons (ev_t1 call_list_of o_list (by rfl) N.b_list (by decide +kernel) (ev_nm 1 (pv 1))) (ar_cons (ev_int) (ar_nil))) (by rfl)) <| sv_cons (sv_while 1000 po (tv_cmp op_lt (nomark _) o_cmp (ev_nm 4 (pv 4)) (ev_b1 call_len o_len (by rfl) N.b_len (by decide +kernel) (ev_nm 2 (pv 2)))) (sv_cons (sv_set (i := 5) sc__law_turned.nd rfl (by first | exact Or.inl rfl | exact Or.inr rfl) (ev_slLH (ev_nm 2 (pv 2)) (ev_nm 4 (pv 4)) (ev_bin op_addX o_add (ev_bin op_addX o_add (ev_nm 4 (pv 4)) (ev_int)) (ev_callD (D__law_draw.mono (by decide)) hr hgd tk (by rfl) (by decide) (ar_cons (ev_nm 0 (pv 0)) (ar_cons (ev_int) (ar_nil))))))) <| sv_cons (sv_for po rfl (iv_rng1 (by rfl) N.b_range (ev_b1 call_len o_len (by rfl) N.b_len (by decide +kernel) (ev_nm 5 (pv 5)))) (pg_name (i := 6) sc__law_turned.nd rfl (by first | exact Or.inl rfl | exact Or.inr rfl)) (tg_name 6) (sv_one (sv_sto (ev_ix ix_seq (fun _ _ => rfl) o_ix (ev_nm 1 (pv 1)) (ev_ix ix_seq (fun _ _ => rfl) o_ix (ev_nm 5 (pv 5)) (ev_bin op_sub o_sub (ev_nm 6 (pv 6)) (ev_int)))) (pg_sub (ev_nm 3 (pv 3)) (ev_ix ix_seq (fun _ _ => rfl) o_ix (ev_nm 5 (pv 5)) (ev_nm 6 (pv 6))) set_list)))) <| sv_one (sv_set (i := 4) sc__law_turned.nd rfl (by first | exact Or.inl rfl | exact Or.inr rfl) (ev_bin op_addX o_add (ev_nm 4 (pv 4)) (ev_b1 call_len o_len (by rfl) N.b_len (by decide +kernel) (ev_nm 5 (pv 5))))))) <| sv_one (sv_ret (ev_nm 3 (pv 3)))
/-! _law_pair -/
abbrev s__law_pair : Stmt := topS 46
theorem sc__law_pair : FnScope ["source", "words", "row", "turn", "order", "aim"] ["source"] (defScope s__law_pair) := ⟨rfl, rfl, rfl, by decide +kernel, rfl, by decide +kernel, by decide +kernel⟩
def b__law_pair : Stm := seqS (setS 1 (binE gIx (lstE (consL (lstE (consL (kE (.str "a")) (consL (kE (.str "b")) (consL (kE (.str "c")) (consL (kE (.str "d")) (consL (kE (.str "e")) (consL (kE (.str "f")) (consL (kE (.str "g")) (consL (kE (.str "h")) (consL (kE (.str "i")) (consL (kE (.str "abcdefgh")) (nilL)))))))))))) (consL (repE (lstE (consL (kE (.str "a")) (consL (kE (.str "b")) (consL (kE (.str "c")) (nilL))))) (kE (.int 4))) (nilL)))) (binE gDiv (callE G__law_draw (consR (nmE 0) (consR (kE (.int 3)) (nilR)))) (kE (.int 2))))) <| seqS (setS 2 (slE (callE G__law_shuffled (consR (nmE 0) (consR (nmE 1) (nilR)))) none (some (kE (.int 10))))) <| seqS (forS (rng1 (callE G__law_draw (consR (nmE 0) (consR (kE (.int 4)) (nilR))))) (fun d r => some (put r 3 (.val d))) (stoS (kE .none) 2 (callE G__law_draw (consR (nmE 0) (consR (kE (.int 10)) (nilR)))))) <| seqS (setS 4 (callE G__law_shuffled (consR (nmE 0) (consR (lrgE (kE (.int 10))) (nilR))))) <| seqS (setS 5 (callE G__law_turned (consR (nmE 0) (consR (nmE 2) (consR (slE (nmE 4) none (some (binE gIx (lstE (consL (kE (.int 10)) (consL (callE G__law_draw (consR (nmE 0) (consR (kE (.int 11)) (nilR)))) (consL (kE (.int 0)) (nilL))))) (callE G__law_draw (consR (nmE 0) (consR (kE (.int 3)) (nilR))))))) (nilR)))))) <| seqS (forS (rng1 (callE G__law_draw (consR (nmE 0) (consR (kE (.int 6)) (nilR))))) (fun d r => some (put r 3 (.val d))) (stoS (binE gIx (lstE (consL (binE gIx (nmE 2) (callE G__law_draw (consR (nmE 0) (consR (kE (.int 10)) (nilR))))) (consL (kE .none) (nilL)))) (binE gDiv (callE G__law_draw (consR (nmE 0) (consR (kE (.int 4)) (nilR)))) (kE (.int 3)))) 5 (callE G__law_draw (consR (nmE 0) (consR (kE (.int 10)) (nilR)))))) <| seqS (ifS (tstB (binE gEq (callE G__law_draw (consR (nmE 0) (consR (kE (.int 12)) (nilR)))) (kE (.int 0)))) (stoS (kE (.str "zz")) 5 (callE G__law_draw (consR (nmE 0) (consR (kE (.int 10)) (nilR))))) (nxS)) <| retS (lstE (consL (nmE 2) (consL (nmE 5) (nilL))))
abbrev G__law_pair : List Ag → FR := runF 1 6 b__law_pair
theorem k__law_pair {P : Program} {w : World} {K : PySem.W.Frag} {mg : Str → Option Value} {base : Heap} {f : Addr} {fd : FuncData} (F : Fun K "_law_pair" "_law_pair" s__law_pair f fd) (N : Nm mg) (D__law_shuffled : Def P w K mg base "_law_shuffled" 2 2 4 b__law_shuffled) (D__law_turned : Def P w K mg base "_law_turned" 2 3 7 b__law_turned) (D__law_draw : Def P w K mg base "_law_draw" 1 2 4 b__law_draw) : FnG P w K mg base 3 f fd ["source"] (spF K 1 6 b__law_pair) :=
  fg_of F sc__law_pair rfl rfl fun cdv A outer s H β E hr hgd tk po => sv_cons (sv_set (i := 1) sc__law_pair.nd rfl (by first | exact Or.inl rfl | exact Or.inr rfl) (ev_ix ix_seq (fun _ _ => rfl) o_ix (ev_lst (al_cons (ev_lst (al_cons (ev_str) (al_cons (ev_str) (al_cons (ev_str) (al_cons (ev_str) (al_cons (ev_str) (al_cons (ev_str) (al_cons (ev_str) (al_cons (ev_str) (al_cons (ev_str) (al_cons (ev_str) (al_nil)))))))))))) (al_cons (ev_rep (ev_lst (al_cons (ev_str) (al_cons (ev_str) (al_cons (ev_str) (al_nil))))) (ev_int)) (al_nil)))) (ev_bin op_fdivW o_div (ev_callD (D__law_draw.mono (by decide)) hr hgd tk (by rfl) (by decide) (ar_cons (ev_nm 0 (pv 0)) (ar_cons (ev_int) (ar_nil)))) (ev_int)))) <| sv_cons (sv_set (i := 2) sc__law_pair.nd rfl (by first | exact Or.inl rfl | exact Or.inr rfl) (ev_slH (ev_callD (D__law_shuffled.mono (by decide)) hr hgd tk (by rfl) (by decide) (ar_cons (ev_nm 0 (pv 0)) (ar_cons (ev_nm 1 (pv 1)) (ar_nil)))) (ev_int))) <| sv_cons (sv_for po rfl (iv_rng1 (by rfl) N.b_range (ev_callD (D__law_draw.mono (by decide)) hr hgd tk (by rfl) (by decide) (ar_cons (ev_nm 0 (pv 0)) (ar_cons (ev_int) (ar_nil))))) (pg_name (i := 3) sc__law_pair.nd rfl (by first | exact Or.inl rfl | exact Or.inr rfl)) (tg_name 3) (sv_one (sv_sto (ev_non) (pg_sub (ev_nm 2 (pv 2)) (ev_callD (D__law_draw.mono (by decide)) hr hgd tk (by rfl) (by decide) (ar_cons (ev_nm 0 (pv 0)) (ar_cons (ev_int) (ar_nil)))) set_list)))) <| sv_cons (sv_set (i := 4) sc__law_pair.nd rfl (by first | exact Or.inl rfl | exact Or.inr rfl) (ev_callD (D__law_shuffled.mono (by decide)) hr hgd tk (by rfl) (by decide) (ar_cons (ev_nm 0 (pv 0)) (ar_cons (ev_lrg rfl (by rfl) N.b_list (by rfl) N.b_range (ev_int)) (ar_nil))))) <| sv_cons (sv_set (i := 5) sc__law_pair.nd rfl (by first | exact Or.inl rfl | exact Or.inr rfl) (ev_callD (D__law_turned.mono (by decide)) hr hgd tk (by rfl) (by decide) (ar_cons (ev_nm 0 (pv 0)) (ar_cons (ev_nm 2 (pv 2)) (ar_cons (ev_slH (ev_nm 4 (pv 4)) (ev_ix ix_seq (fun _ _ => rfl) o_ix (ev_lst (al_cons (ev_int) (al_cons (ev_callD (D__law_draw.mono (by decide)) hr hgd tk (by rfl) (by decide) (ar_cons (ev_nm 0 (pv 0)) (ar_cons (ev_int) (ar_nil)))) (al_cons (ev_int) (al_nil))))) (ev_callD (D__law_draw.mono (by decide)) hr hgd tk (by rfl) (by decide) (ar_cons (ev_nm 0 (pv 0)) (ar_cons (ev_int) (ar_nil)))))) (ar_nil)))))) <| sv_cons (sv_for po rfl (iv_rng1 (by rfl) N.b_range (ev_callD (D__law_draw.mono (by decide)) hr hgd tk (by rfl) (by decide) (ar_cons (ev_nm 0 (pv 0)) (ar_cons (ev_int) (ar_nil))))) (pg_name (i := 3) sc__law_pair.nd rfl (by first | exact Or.inl rfl | exact Or.inr rfl)) (tg_name 3) (sv_one (sv_sto (ev_ix ix_seq (fun _ _ => rfl) o_ix (ev_lst (al_cons (ev_ix ix_seq (fun _ _ => rfl) o_ix (ev_nm 2 (pv 2)) (ev_callD (D__law_draw.mono (by decide)) hr hgd tk (by rfl) (by decide) (ar_cons (ev_nm 0 (pv 0)) (ar_cons (ev_int) (ar_nil))))) (al_cons (ev_non) (al_nil)))) (ev_bin op_fdivW o_div (ev_callD (D__law_draw.mono (by decide)) hr hgd tk (by rfl) (by decide) (ar_cons (ev_nm 0 (pv 0)) (ar_cons (ev_int) (ar_nil)))) (ev_int))) (pg_sub (ev_nm 5 (pv 5)) (ev_callD (D__law_draw.mono (by decide)) hr hgd tk (by rfl) (by decide) (ar_cons (ev_nm 0 (pv 0)) (ar_cons (ev_int) (ar_nil)))) set_list)))) <| sv_cons (sv_if (tv_cmp (op_eqX hr.units) (nomark _) o_eq (ev_callD (D__law_draw.mono (by decide)) hr hgd tk (by rfl) (by decide) (ar_cons (ev_nm 0 (pv 0)) (ar_cons (ev_int) (ar_nil)))) (ev_int)) (sv_one (sv_sto (ev_str) (pg_sub (ev_nm 5 (pv 5)) (ev_callD (D__law_draw.mono (by decide)) hr hgd tk (by rfl) (by decide) (ar_cons (ev_nm 0 (pv 0)) (ar_cons (ev_int) (ar_nil)))) set_list))) (sv_nil)) <| sv_one (sv_ret (ev_lst (al_cons (ev_nm 2 (pv 2)) (al_cons (ev_nm 5 (pv 5)) (al_nil)))))
/-! is_list -/
abbrev s_is_list : Stmt := topS 8
theorem sc_is_list : FnScope ["value"] ["value"] (defScope s_is_list) := ⟨rfl, rfl, rfl, by decide +kernel, rfl, by decide +kernel, by decide +kernel⟩
def b_is_list : Stm := retS (unE (gTyEq "list") (nmE 0))
abbrev G_is_list : List Ag → FR := runF 1 1 b_is_list
theorem k_is_list {P : Program} {w : World} {K : PySem.W.Frag} {mg : Str → Option Value} {base : Heap} {f : Addr} {fd : FuncData} (F : Fun K "is_list" "is_list" s_is_list f fd) (N : Nm mg)  : FnG P w K mg base 1 f fd ["value"] (spF K 1 1 b_is_list) :=
  fg_of F sc_is_list rfl rfl fun cdv A outer s H β E hr hgd tk po => sv_one (sv_ret (ev_tyEq PySem.TypeEq.meta_list (by rfl) N.b_type (by rfl) N.b_list (by decide +kernel) (ev_nm 0 (pv 0))))
/-! is_name -/
abbrev s_is_name : Stmt := topS 12
theorem sc_is_name : FnScope ["value", "letter"] ["value"] (defScope s_is_name) := ⟨rfl, rfl, rfl, by decide +kernel, rfl, by decide +kernel, by decide +kernel⟩
def b_is_name : Stm := seqS (ifS (orB (notB (tstT (unE (gIsi "str") (nmE 0)))) (notB (tstB (chE gLe gLe (kE (.int 1)) (unE gLen (nmE 0)) (kE (.int 8)))))) (retS (kE (.bool false))) (nxS)) <| retS (unE gAll (lcE (sqI (nmE 0)) (fun d r => some (put r 1 (.val d))) [1] (yesB) (chE gLeS gLeS (kE (.str "a")) (nmE 1) (kE (.str "z")))))
abbrev G_is_name : List Ag → FR := runF 1 2 b_is_name
theorem k_is_name {P : Program} {w : World} {K : PySem.W.Frag} {mg : Str → Option Value} {base : Heap} {f : Addr} {fd : FuncData} (F : Fun K "is_name" "is_name" s_is_name f fd) (N : Nm mg)  : FnG P w K mg base 1 f fd ["value"] (spF K 1 2 b_is_name) :=
  fg_of F sc_is_name rfl rfl fun cdv A outer s H β E hr hgd tk po => sv_cons (sv_if ((tv_or (tv_not (tv_truth (ev_isi isi_str (by rfl) N.b_isinstance (by rfl) N.b_str (by decide +kernel) (ev_nm 0 (pv 0))))) (tv_or1 (tv_not (tv_chain op_le op_le o_cmp o_cmp (ev_int) (ev_b1 call_len o_len (by rfl) N.b_len (by decide +kernel) (ev_nm 0 (pv 0))) (ev_gint (by rfl) N.c_MOST_LETTERS))))).pt) (sv_one (sv_ret (ev_bl))) (sv_nil)) <| sv_one (sv_ret (ev_b1 (cr_all rfl) o_all (by rfl) N.b_all (by decide +kernel) (ev_lc (own := [("letter", 1)]) (T := [1]) rfl rfl sc_is_name.nd (iv_sq (ev_nm 0 (pv 0))) (blkOk_by (own := [("letter", 1)]) (N := ["value", "letter"]) (sc := defScope s_is_name) (by decide +kernel)) (fun _ _ _ _ _ => pg_name (i := 1) sc_is_name.nd rfl (by first | exact Or.inl rfl | exact Or.inr rfl)) (fun _ _ _ _ _ => ts_nil) (fun _ _ _ _ _ => ev_chain op_le_str op_le_str o_leS o_leS (ev_str) (ev_nm 1 (pv 1)) (ev_str)) (tg_name 1))))
/-! is_table -/
abbrev s_is_table : Stmt := topS 16
theorem sc_is_table : FnScope ["value", "end"] ["value"] (defScope s_is_table) := ⟨rfl, rfl, rfl, by decide +kernel, rfl, by decide +kernel, by decide +kernel⟩
def b_is_table : Stm := seqS (ifS (orB (notB (tstT (callE G_is_list (consR (nmE 0) (nilR))))) (tstB (binE gNe (unE gLen (nmE 0)) (kE (.int 10))))) (retS (kE (.bool false))) (nxS)) <| retS (unE gAll (lcE (seqI (nmE 0)) (fun d r => some (put r 1 (.val d))) [1] (yesB) (orE (binE gIsN (nmE 1) (kE .none)) (callE G_is_name (consR (nmE 1) (nilR))))))
abbrev G_is_table : List Ag → FR := runF 1 2 b_is_table
theorem k_is_table {P : Program} {w : World} {K : PySem.W.Frag} {mg : Str → Option Value} {base : Heap} {f : Addr} {fd : FuncData} (F : Fun K "is_table" "is_table" s_is_table f fd) (N : Nm mg) (D_is_list : Def P w K mg base "is_list" 1 1 1 b_is_list) (D_is_name : Def P w K mg base "is_name" 1 1 2 b_is_name) : FnG P w K mg base 2 f fd ["value"] (spF K 1 2 b_is_table) :=
  fg_of F sc_is_table rfl rfl fun cdv A outer s H β E hr hgd tk po => sv_cons (sv_if ((tv_or (tv_not (tv_truth (ev_callD (D_is_list.mono (by decide)) hr hgd tk (by rfl) (by decide) (ar_cons (ev_nm 0 (pv 0)) (ar_nil))))) (tv_or1 (tv_cmp (op_neX hr.units) (nomark _) o_ne (ev_b1 call_len o_len (by rfl) N.b_len (by decide +kernel) (ev_nm 0 (pv 0))) (ev_gint (by rfl) N.c_DESCRIPTORS)))).pt) (sv_one (sv_ret (ev_bl))) (sv_nil)) <| sv_one (sv_ret (ev_b1 (cr_all rfl) o_all (by rfl) N.b_all (by decide +kernel) (ev_lc (own := [("end", 1)]) (T := [1]) rfl rfl sc_is_table.nd (iv_seq (ev_nm 0 (pv 0))) (blkOk_by (own := [("end", 1)]) (N := ["value", "end"]) (sc := defScope s_is_table) (by decide +kernel)) (fun _ _ _ _ _ => pg_name (i := 1) sc_is_table.nd rfl (by first | exact Or.inl rfl | exact Or.inr rfl)) (fun _ _ _ _ _ => ts_nil) (fun _ _ _ _ _ => ev_or (ev_cmp op_isN (nomark _) o_isN (ev_nm 1 (pv 1)) (ev_non)) (ev_or1 (ev_callD (D_is_name.mono (by decide)) hr hgd takes0 (by rfl) (by decide) (ar_cons (ev_nm 1 (pv 1)) (ar_nil))))) (tg_name 1))))
/-! check_table -/
abbrev s_check_table : Stmt := topS 17
theorem sc_check_table : FnScope ["value"] ["value"] (defScope s_check_table) := ⟨rfl, rfl, rfl, by decide +kernel, rfl, by decide +kernel, by decide +kernel⟩
def b_check_table : Stm := ifS (notB (tstT (callE G_is_table (consR (nmE 0) (nilR))))) (raiS "InvalidTable") (nxS)
abbrev G_check_table : List Ag → FR := runF 1 1 b_check_table
theorem k_check_table {P : Program} {w : World} {K : PySem.W.Frag} {mg : Str → Option Value} {base : Heap} {f : Addr} {fd : FuncData} (F : Fun K "check_table" "check_table" s_check_table f fd) (N : Nm mg) (D_is_table : Def P w K mg base "is_table" 2 1 2 b_is_table) (E_InvalidTable : ExD K mg "InvalidTable") : FnG P w K mg base 3 f fd ["value"] (spF K 1 1 b_check_table) :=
  fg_of F sc_check_table rfl rfl fun cdv A outer s H β E hr hgd tk po => sv_one (sv_if (tv_not (tv_truth (ev_callD (D_is_table.mono (by decide)) hr hgd tk (by rfl) (by decide) (ar_cons (ev_nm 0 (pv 0)) (ar_nil))))) (sv_one (sv_raise0 rfl tk E_InvalidTable (by rfl))) (sv_nil))
/-! changed_numbers -/
abbrev s_changed_numbers : Stmt := topS 21
theorem sc_changed_numbers : FnScope ["table", "goal", "number"] ["table", "goal"] (defScope s_changed_numbers) := ⟨rfl, rfl, rfl, by decide +kernel, rfl, by decide +kernel, by decide +kernel⟩
def b_changed_numbers : Stm := retS (lcE (rng1 (kE (.int 10))) (fun d r => some (put r 2 (.val d))) [2] (tstB (binE gNe (binE gIx (nmE 0) (nmE 2)) (binE gIx (nmE 1) (nmE 2)))) (nmE 2))
abbrev G_changed_numbers : List Ag → FR := runF 2 3 b_changed_numbers
theorem k_changed_numbers {P : Program} {w : World} {K : PySem.W.Frag} {mg : Str → Option Value} {base : Heap} {f : Addr} {fd : FuncData} (F : Fun K "changed_numbers" "changed_numbers" s_changed_numbers f fd) (N : Nm mg)  : FnG P w K mg base 1 f fd ["table", "goal"] (spF K 2 3 b_changed_numbers) :=
  fg_of F sc_changed_numbers rfl rfl fun cdv A outer s H β E hr hgd tk po => sv_one (sv_ret (ev_lc (own := [("number", 2)]) (T := [2]) rfl rfl sc_changed_numbers.nd (iv_rng1 (by rfl) N.b_range (ev_gint (by rfl) N.c_DESCRIPTORS)) (blkOk_by (own := [("number", 2)]) (N := ["table", "goal", "number"]) (sc := defScope s_changed_numbers) (by decide +kernel)) (fun _ _ _ _ _ => pg_name (i := 2) sc_changed_numbers.nd rfl (by first | exact Or.inl rfl | exact Or.inr rfl)) (fun _ _ _ _ _ => ts_one (tv_cmp (op_neX hr.units) (nomark _) o_ne (ev_ix ix_seq (fun _ _ => rfl) o_ix (ev_nm 0 (pv 0)) (ev_nm 2 (pv 2))) (ev_ix ix_seq (fun _ _ => rfl) o_ix (ev_nm 1 (pv 1)) (ev_nm 2 (pv 2))))) (fun _ _ _ _ _ => ev_nm 2 (pv 2)) (tg_name 2)))
/-! ring_links -/
abbrev s_ring_links : Stmt := topS 22
theorem sc_ring_links : FnScope ["table", "goal", "changed", "number", "wanted", "links", "end", "holders", "other"] ["table", "goal"] (defScope s_ring_links) := ⟨rfl, rfl, rfl, by decide +kernel, rfl, by decide +kernel, by decide +kernel⟩
def b_ring_links : Stm := seqS (setS 2 (callE G_changed_numbers (consR (nmE 0) (consR (nmE 1) (nilR))))) <| seqS (setS 4 (lcE (seqI (nmE 2)) (fun d r => some (put r 3 (.val d))) [3] (yesB) (binE gIx (nmE 1) (nmE 3)))) <| seqS (setS 5 (dnewE)) <| seqS (forS (seqI (nmE 2)) (fun d r => some (put r 3 (.val d))) (seqS (setS 6 (binE gIx (nmE 1) (nmE 3))) <| seqS (setS 7 (lcE (rng1 (kE (.int 10))) (fun d r => some (put r 8 (.val d))) [8] (tstB (binE gEq (binE gIx (nmE 0) (nmE 8)) (nmE 6))) (nmE 8))) <| ifS (andB (tstB (binE gIsntN (nmE 6) (kE .none))) (andB (tstB (binE gEq (metE gCnt (nmE 4) (consL (nmE 6) (nilL))) (kE (.int 1)))) (tstB (binE gEq (unE gLen (nmE 7)) (kE (.int 1)))))) (dstS (binE gIx (nmE 7) (kE (.int 0))) 5 (nmE 3)) (nxS))) <| retS (nmE 5)
abbrev G_ring_links : List Ag → FR := runF 2 9 b_ring_links
theorem k_ring_links {P : Program} {w : World} {K : PySem.W.Frag} {mg : Str → Option Value} {base : Heap} {f : Addr} {fd : FuncData} (F : Fun K "ring_links" "ring_links" s_ring_links f fd) (N : Nm mg) (D_changed_numbers : Def P w K mg base "changed_numbers" 1 2 3 b_changed_numbers) : FnG P w K mg base 2 f fd ["table", "goal"] (spF K 2 9 b_ring_links) :=
  fg_of F sc_ring_links rfl rfl fun cdv A outer s H β E hr hgd tk po => sv_cons (sv_set (i := 2) sc_ring_links.nd rfl (by first | exact Or.inl rfl | exact Or.inr rfl) (ev_callD (D_changed_numbers.mono (by decide)) hr hgd tk (by rfl) (by decide) (ar_cons (ev_nm 0 (pv 0)) (ar_cons (ev_nm 1 (pv 1)) (ar_nil))))) <| sv_cons (sv_setLc (i := 4) (own := [("number", 3)]) (T := [3]) rfl rfl sc_ring_links.nd rfl rfl (sw_true rfl rfl rfl (by decide +kernel)) (iv_seq (ev_nm 2 (pv 2))) (blkOk_by (own := [("number", 3)]) (N := ["table", "goal", "changed", "number", "wanted", "links", "end", "holders", "other"]) (sc := defScope s_ring_links) (by decide +kernel)) (fun _ _ _ _ _ => pg_name (i := 3) sc_ring_links.nd rfl (by first | exact Or.inl rfl | exact Or.inr rfl)) (fun _ _ _ _ _ => ts_nil) (fun _ _ _ _ _ => ev_ix ix_seq (fun _ _ => rfl) o_ix (ev_nm 1 (pv 1)) (ev_nm 3 (pv 3))) (tg_name 3)) <| sv_cons (sv_set (i := 5) sc_ring_links.nd rfl (by first | exact Or.inl rfl | exact Or.inr rfl) (ev_dnew)) <| sv_cons (sv_for po rfl (iv_seq (ev_nm 2 (pv 2))) (pg_name (i := 3) sc_ring_links.nd rfl (by first | exact Or.inl rfl | exact Or.inr rfl)) (tg_name 3) (sv_cons (sv_set (i := 6) sc_ring_links.nd rfl (by first | exact Or.inl rfl | exact Or.inr rfl) (ev_ix ix_seq (fun _ _ => rfl) o_ix (ev_nm 1 (pv 1)) (ev_nm 3 (pv 3)))) <| sv_cons (sv_setLc (i := 7) (own := [("other", 8)]) (T := [8]) rfl rfl sc_ring_links.nd rfl rfl (sw_true rfl rfl rfl (by decide +kernel)) (iv_rng1 (by rfl) N.b_range (ev_gint (by rfl) N.c_DESCRIPTORS)) (blkOk_by (own := [("other", 8)]) (N := ["table", "goal", "changed", "number", "wanted", "links", "end", "holders", "other"]) (sc := defScope s_ring_links) (by decide +kernel)) (fun _ _ _ _ _ => pg_name (i := 8) sc_ring_links.nd rfl (by first | exact Or.inl rfl | exact Or.inr rfl)) (fun _ _ _ _ _ => ts_one (tv_cmp (op_eqX hr.units) (nomark _) o_eq (ev_ix ix_seq (fun _ _ => rfl) o_ix (ev_nm 0 (pv 0)) (ev_nm 8 (pv 8))) (ev_nm 6 (pv 6)))) (fun _ _ _ _ _ => ev_nm 8 (pv 8)) (tg_name 8)) <| sv_one (sv_if ((tv_and (tv_cmp op_notN (nomark _) o_isntN (ev_nm 6 (pv 6)) (ev_non)) (tv_and (tv_cmp (op_eqX hr.units) (nomark _) o_eq (ev_met (pe_bm PySem.F.plainAttrs_list PySem.F.slot_list_count PySem.F.type_list_count mt_cntV (ev_nm 4 (pv 4)) (al_cons (ev_nm 6 (pv 6)) (al_nil))) o_cnt) (ev_int)) (tv_and1 (tv_cmp (op_eqX hr.units) (nomark _) o_eq (ev_b1 call_len o_len (by rfl) N.b_len (by decide +kernel) (ev_nm 7 (pv 7))) (ev_int))))).pt) (sv_one (sv_dst (ev_ix ix_seq (fun _ _ => rfl) o_ix (ev_nm 7 (pv 7)) (ev_int)) (pg_sub (ev_nm 5 (pv 5)) (ev_nm 3 (pv 3)) (set_dict (u1 hr))))) (sv_nil)))) <| sv_one (sv_ret (ev_nm 5 (pv 5)))
/-! ring_from -/
abbrev s_ring_from : Stmt := topS 14
theorem sc_ring_from : FnScope ["links", "start", "ring", "number"] ["links", "start"] (defScope s_ring_from) := ⟨rfl, rfl, rfl, by decide +kernel, rfl, by decide +kernel, by decide +kernel⟩
def b_ring_from : Stm := seqS (setS 2 (lstE (consL (nmE 1) (nilL)))) <| seqS (setS 3 (dgE (nmE 0) (nmE 1))) <| seqS (whlN (andB (tstB (binE gIsntN (nmE 3) (kE .none))) (tstB (binE gNe (nmE 3) (nmE 1)))) (seqS (dropS (mutE 2 uApp (consL (nmE 3) (nilL)))) <| setS 3 (dgE (nmE 0) (nmE 3))) 1000) <| retS (iteE (tstB (binE gIsN (nmE 3) (kE .none))) (tupE (nilL)) (unE gTuple (nmE 2)))
abbrev G_ring_from : List Ag → FR := runF 2 4 b_ring_from
theorem k_ring_from {P : Program} {w : World} {K : PySem.W.Frag} {mg : Str → Option Value} {base : Heap} {f : Addr} {fd : FuncData} (F : Fun K "ring_from" "ring_from" s_ring_from f fd) (N : Nm mg)  : FnG P w K mg base 1 f fd ["links", "start"] (spF K 2 4 b_ring_from) :=
  fg_of F sc_ring_from rfl rfl fun cdv A outer s H β E hr hgd tk po => sv_cons (sv_set (i := 2) sc_ring_from.nd rfl (by first | exact Or.inl rfl | exact Or.inr rfl) (ev_lst (al_cons (ev_nm 1 (pv 1)) (al_nil)))) <| sv_cons (sv_set (i := 3) sc_ring_from.nd rfl (by first | exact Or.inl rfl | exact Or.inr rfl) (ev_dg (u1 hr) (ev_nm 0 (pv 0)) (ev_nm 1 (pv 1)))) <| sv_cons (sv_while 1000 po ((tv_and (tv_cmp op_notN (nomark _) o_isntN (ev_nm 3 (pv 3)) (ev_non)) (tv_and1 (tv_cmp (op_neX hr.units) (nomark _) o_ne (ev_nm 3 (pv 3)) (ev_nm 1 (pv 1))))).pt) (sv_cons (sv_expr (ev_mut (pe_bm PySem.F.plainAttrs_list PySem.F.slot_list_append PySem.F.type_list_append mt_append (ev_nm 2 (pv 2)) (al_cons (ev_nm 3 (pv 3)) (al_nil))) m_app)) <| sv_one (sv_set (i := 3) sc_ring_from.nd rfl (by first | exact Or.inl rfl | exact Or.inr rfl) (ev_dg (u1 hr) (ev_nm 0 (pv 0)) (ev_nm 3 (pv 3)))))) <| sv_one (sv_ret (ev_ite (tv_cmp op_isN (nomark _) o_isN (ev_nm 3 (pv 3)) (ev_non)) (ev_tup (al_nil)) (ev_t1 call_tuple_of o_tuple (by rfl) N.b_tuple (by decide +kernel) (ev_nm 2 (pv 2)))))
/-! find_rings -/
abbrev s_find_rings : Stmt := topS 23
theorem sc_find_rings : FnScope ["table", "goal", "links", "rings", "number", "ring"] ["table", "goal"] (defScope s_find_rings) := ⟨rfl, rfl, rfl, by decide +kernel, rfl, by decide +kernel, by decide +kernel⟩
def b_find_rings : Stm := seqS (setS 2 (callE G_ring_links (consR (nmE 0) (consR (nmE 1) (nilR))))) <| seqS (setS 3 (lockE 2 (lcE (keysI (nmE 2)) (fun d r => some (put r 4 (.val d))) [4] (yesB) (callE G_ring_from (consR (nmE 2) (consR (nmE 4) (nilR))))))) <| retS (lcE (seqI (nmE 3)) (fun d r => some (put r 5 (.val d))) [5] (andB (tstB (binE gNe (nmE 5) (tupE (nilL)))) (tstB (binE gEq (binE gIx (nmE 5) (kE (.int 0))) (unE gMinX (nmE 5))))) (nmE 5))
abbrev G_find_rings : List Ag → FR := runF 2 6 b_find_rings
theorem k_find_rings {P : Program} {w : World} {K : PySem.W.Frag} {mg : Str → Option Value} {base : Heap} {f : Addr} {fd : FuncData} (F : Fun K "find_rings" "find_rings" s_find_rings f fd) (N : Nm mg) (D_ring_links : Def P w K mg base "ring_links" 2 2 9 b_ring_links) (D_ring_from : Def P w K mg base "ring_from" 1 2 4 b_ring_from) : FnG P w K mg base 3 f fd ["table", "goal"] (spF K 2 6 b_find_rings) :=
  fg_of F sc_find_rings rfl rfl fun cdv A outer s H β E hr hgd tk po => sv_cons (sv_set (i := 2) sc_find_rings.nd rfl (by first | exact Or.inl rfl | exact Or.inr rfl) (ev_callD (D_ring_links.mono (by decide)) hr hgd tk (by rfl) (by decide) (ar_cons (ev_nm 0 (pv 0)) (ar_cons (ev_nm 1 (pv 1)) (ar_nil))))) <| sv_cons (sv_setLcL (i := 3) (j := 2) (own := [("number", 4)]) (T := [4]) rfl rfl sc_find_rings.nd rfl rfl (sw_true rfl rfl rfl (by decide +kernel)) (iv_keys (ev_nm 2 (pv 2))) (blkOk_by (own := [("number", 4)]) (N := ["table", "goal", "links", "rings", "number", "ring"]) (sc := defScope s_find_rings) (by decide +kernel)) (fun _ _ _ _ _ => pg_name (i := 4) sc_find_rings.nd rfl (by first | exact Or.inl rfl | exact Or.inr rfl)) (fun _ _ _ _ _ => ts_nil) (fun _ _ _ _ _ => ev_callD (D_ring_from.mono (by decide)) hr hgd takes0 (by rfl) (by decide) (ar_cons (ev_nm 2 (pv 2)) (ar_cons (ev_nm 4 (pv 4)) (ar_nil)))) (tg_name 4)) <| sv_one (sv_ret (ev_lc (own := [("ring", 5)]) (T := [5]) rfl rfl sc_find_rings.nd (iv_seq (ev_nm 3 (pv 3))) (blkOk_by (own := [("ring", 5)]) (N := ["table", "goal", "links", "rings", "number", "ring"]) (sc := defScope s_find_rings) (by decide +kernel)) (fun _ _ _ _ _ => pg_name (i := 5) sc_find_rings.nd rfl (by first | exact Or.inl rfl | exact Or.inr rfl)) (fun _ _ _ _ _ => ts_one ((tv_and (tv_cmp (op_neX hr.units) (nomark _) o_ne (ev_nm 5 (pv 5)) (ev_tup (al_nil))) (tv_and1 (tv_cmp (op_eqX hr.units) (nomark _) o_eq (ev_ix ix_seq (fun _ _ => rfl) o_ix (ev_nm 5 (pv 5)) (ev_int)) (ev_b1 (L2.CallR.or (cr_min rfl) (cr_minT rfl hr.units)) o_minX (by rfl) N.b_min (by decide +kernel) (ev_nm 5 (pv 5)))))).pt)) (fun _ _ _ _ _ => ev_nm 5 (pv 5)) (tg_name 5)))
/-! has_unchanged_spare -/
abbrev s_has_unchanged_spare : Stmt := topS 24
theorem sc_has_unchanged_spare : FnScope ["table", "goal", "kept", "end", "wish"] ["table", "goal"] (defScope s_has_unchanged_spare) := ⟨rfl, rfl, rfl, by decide +kernel, rfl, by decide +kernel, by decide +kernel⟩
def b_has_unchanged_spare : Stm := seqS (setS 2 (lcE (zipI (nmE 0) (nmE 1)) (tgTup [3, 4]) [3, 4] (tstB (binE gEq (nmE 3) (nmE 4))) (nmE 3))) <| retS (unE gAny (lcE (seqI (nmE 2)) (fun d r => some (put r 3 (.val d))) [3] (yesB) (orE (binE gIsN (nmE 3) (kE .none)) (binE gGt (metE gCnt (nmE 2) (consL (nmE 3) (nilL))) (kE (.int 1))))))
abbrev G_has_unchanged_spare : List Ag → FR := runF 2 5 b_has_unchanged_spare
theorem k_has_unchanged_spare {P : Program} {w : World} {K : PySem.W.Frag} {mg : Str → Option Value} {base : Heap} {f : Addr} {fd : FuncData} (F : Fun K "has_unchanged_spare" "has_unchanged_spare" s_has_unchanged_spare f fd) (N : Nm mg)  : FnG P w K mg base 1 f fd ["table", "goal"] (spF K 2 5 b_has_unchanged_spare) :=
  fg_of F sc_has_unchanged_spare rfl rfl fun cdv A outer s H β E hr hgd tk po => sv_cons (sv_set (i := 2) sc_has_unchanged_spare.nd rfl (by first | exact Or.inl rfl | exact Or.inr rfl) (ev_lc (own := [("end", 3), ("wish", 4)]) (T := [3, 4]) rfl rfl sc_has_unchanged_spare.nd (iv_zip (by rfl) N.b_zip (ev_nm 0 (pv 0)) (ev_nm 1 (pv 1))) (blkOk_by (own := [("end", 3), ("wish", 4)]) (N := ["table", "goal", "kept", "end", "wish"]) (sc := defScope s_has_unchanged_spare) (by decide +kernel)) (fun _ _ _ _ _ => pg_tup rfl (pgs_cons (pg_name (i := 3) sc_has_unchanged_spare.nd rfl (by first | exact Or.inl rfl | exact Or.inr rfl)) (pgs_cons (pg_name (i := 4) sc_has_unchanged_spare.nd rfl (by first | exact Or.inl rfl | exact Or.inr rfl)) (pgs_nil)))) (fun _ _ _ _ _ => ts_one (tv_cmp (op_eqX hr.units) (nomark _) o_eq (ev_nm 3 (pv 3)) (ev_nm 4 (pv 4)))) (fun _ _ _ _ _ => ev_nm 3 (pv 3)) (tg_tup [3, 4]))) <| sv_one (sv_ret (ev_b1 (cr_any rfl) o_any (by rfl) N.b_any (by decide +kernel) (ev_lc (own := [("end", 3)]) (T := [3]) rfl rfl sc_has_unchanged_spare.nd (iv_seq (ev_nm 2 (pv 2))) (blkOk_by (own := [("end", 3)]) (N := ["table", "goal", "kept", "end", "wish"]) (sc := defScope s_has_unchanged_spare) (by decide +kernel)) (fun _ _ _ _ _ => pg_name (i := 3) sc_has_unchanged_spare.nd rfl (by first | exact Or.inl rfl | exact Or.inr rfl)) (fun _ _ _ _ _ => ts_nil) (fun _ _ _ _ _ => ev_or (ev_cmp op_isN (nomark _) o_isN (ev_nm 3 (pv 3)) (ev_non)) (ev_or1 (ev_cmp op_gt (nomark _) o_cmp (ev_met (pe_bm PySem.F.plainAttrs_list PySem.F.slot_list_count PySem.F.type_list_count mt_cntV (ev_nm 2 (pv 2)) (al_cons (ev_nm 3 (pv 3)) (al_nil))) o_cnt) (ev_int)))) (tg_name 3))))
/-! count_calls -/
abbrev s_count_calls : Stmt := topS 25
theorem sc_count_calls : FnScope ["table", "goal", "many", "rings", "end", "ring"] ["table", "goal"] (defScope s_count_calls) := ⟨rfl, rfl, rfl, by decide +kernel, rfl, by decide +kernel, by decide +kernel⟩
def b_count_calls : Stm := seqS (ifS (tstT (unE gAny (lcE (seqI (nmE 1)) (fun d r => some (put r 4 (.val d))) [4] (yesB) (andE (binE gIsntN (nmE 4) (kE .none)) (binE gNotIn (nmE 4) (nmE 0)))))) (retS (kE .none)) (nxS)) <| seqS (setS 2 (unE gLen (callE G_changed_numbers (consR (nmE 0) (consR (nmE 1) (nilR)))))) <| seqS (setS 3 (callE G_find_rings (consR (nmE 0) (consR (nmE 1) (nilR))))) <| seqS (ifS (tstB (binE gEq (unE gLen (nmE 3)) (kE (.int 0)))) (retS (nmE 2)) (nxS)) <| seqS (ifS (tstB (binE gLt (unE gSum (lcE (seqI (nmE 3)) (fun d r => some (put r 5 (.val d))) [5] (yesB) (unE gLen (nmE 5)))) (nmE 2))) (retS (binE gAdd (nmE 2) (unE gLen (nmE 3)))) (nxS)) <| seqS (ifS (tstT (callE G_has_unchanged_spare (consR (nmE 0) (consR (nmE 1) (nilR))))) (retS (binE gAdd (binE gAdd (nmE 2) (unE gLen (nmE 3))) (kE (.int 1)))) (nxS)) <| retS (kE .none)
abbrev G_count_calls : List Ag → FR := runF 2 6 b_count_calls
theorem k_count_calls {P : Program} {w : World} {K : PySem.W.Frag} {mg : Str → Option Value} {base : Heap} {f : Addr} {fd : FuncData} (F : Fun K "count_calls" "count_calls" s_count_calls f fd) (N : Nm mg) (D_find_rings : Def P w K mg base "find_rings" 3 2 6 b_find_rings) (D_has_unchanged_spare : Def P w K mg base "has_unchanged_spare" 1 2 5 b_has_unchanged_spare) (D_changed_numbers : Def P w K mg base "changed_numbers" 1 2 3 b_changed_numbers) : FnG P w K mg base 4 f fd ["table", "goal"] (spF K 2 6 b_count_calls) :=
  fg_of F sc_count_calls rfl rfl fun cdv A outer s H β E hr hgd tk po => sv_cons (sv_if (tv_truth (ev_b1 (cr_any rfl) o_any (by rfl) N.b_any (by decide +kernel) (ev_lc (own := [("end", 4)]) (T := [4]) rfl rfl sc_count_calls.nd (iv_seq (ev_nm 1 (pv 1))) (blkOk_by (own := [("end", 4)]) (N := ["table", "goal", "many", "rings", "end", "ring"]) (sc := defScope s_count_calls) (by decide +kernel)) (fun _ _ _ _ _ => pg_name (i := 4) sc_count_calls.nd rfl (by first | exact Or.inl rfl | exact Or.inr rfl)) (fun _ _ _ _ _ => ts_nil) (fun _ _ _ _ _ => ev_and (ev_cmp op_notN (nomark _) o_isntN (ev_nm 4 (pv 4)) (ev_non)) (ev_and1 (ev_cmp (op_notInX (u65 hr)) (by rfl) o_notIn (ev_nm 4 (pv 4)) (ev_nm 0 (pv 0))))) (tg_name 4)))) (sv_one (sv_ret (ev_non))) (sv_nil)) <| sv_cons (sv_set (i := 2) sc_count_calls.nd rfl (by first | exact Or.inl rfl | exact Or.inr rfl) (ev_b1 call_len o_len (by rfl) N.b_len (by decide +kernel) (ev_callD (D_changed_numbers.mono (by decide)) hr hgd tk (by rfl) (by decide) (ar_cons (ev_nm 0 (pv 0)) (ar_cons (ev_nm 1 (pv 1)) (ar_nil)))))) <| sv_cons (sv_set (i := 3) sc_count_calls.nd rfl (by first | exact Or.inl rfl | exact Or.inr rfl) (ev_callD (D_find_rings.mono (by decide)) hr hgd tk (by rfl) (by decide) (ar_cons (ev_nm 0 (pv 0)) (ar_cons (ev_nm 1 (pv 1)) (ar_nil))))) <| sv_cons (sv_if (tv_cmp (op_eqX hr.units) (nomark _) o_eq (ev_b1 call_len o_len (by rfl) N.b_len (by decide +kernel) (ev_nm 3 (pv 3))) (ev_int)) (sv_one (sv_ret (ev_nm 2 (pv 2)))) (sv_nil)) <| sv_cons (sv_if (tv_cmp op_lt (nomark _) o_cmp (ev_b1 (cr_sum rfl) o_sum (by rfl) N.b_sum (by decide +kernel) (ev_lc (own := [("ring", 5)]) (T := [5]) rfl rfl sc_count_calls.nd (iv_seq (ev_nm 3 (pv 3))) (blkOk_by (own := [("ring", 5)]) (N := ["table", "goal", "many", "rings", "end", "ring"]) (sc := defScope s_count_calls) (by decide +kernel)) (fun _ _ _ _ _ => pg_name (i := 5) sc_count_calls.nd rfl (by first | exact Or.inl rfl | exact Or.inr rfl)) (fun _ _ _ _ _ => ts_nil) (fun _ _ _ _ _ => ev_b1 call_len o_len (by rfl) N.b_len (by decide +kernel) (ev_nm 5 (pv 5))) (tg_name 5))) (ev_nm 2 (pv 2))) (sv_one (sv_ret (ev_bin op_addX o_add (ev_nm 2 (pv 2)) (ev_b1 call_len o_len (by rfl) N.b_len (by decide +kernel) (ev_nm 3 (pv 3)))))) (sv_nil)) <| sv_cons (sv_if (tv_truth (ev_callD (D_has_unchanged_spare.mono (by decide)) hr hgd tk (by rfl) (by decide) (ar_cons (ev_nm 0 (pv 0)) (ar_cons (ev_nm 1 (pv 1)) (ar_nil))))) (sv_one (sv_ret (ev_bin op_addX o_add (ev_bin op_addX o_add (ev_nm 2 (pv 2)) (ev_b1 call_len o_len (by rfl) N.b_len (by decide +kernel) (ev_nm 3 (pv 3)))) (ev_int)))) (sv_nil)) <| sv_one (sv_ret (ev_non))
/-! fewest_calls -/
abbrev s_fewest_calls : Stmt := topS 34
theorem sc_fewest_calls : FnScope ["table", "goal"] ["table", "goal"] (defScope s_fewest_calls) := ⟨rfl, rfl, rfl, by decide +kernel, rfl, by decide +kernel, by decide +kernel⟩
def b_fewest_calls : Stm := seqS (dropS (callE G_check_table (consR (nmE 0) (nilR)))) <| seqS (dropS (callE G_check_table (consR (nmE 1) (nilR)))) <| retS (callE G_count_calls (consR (nmE 0) (consR (nmE 1) (nilR))))
abbrev G_fewest_calls : List Ag → FR := runF 2 2 b_fewest_calls
theorem k_fewest_calls {P : Program} {w : World} {K : PySem.W.Frag} {mg : Str → Option Value} {base : Heap} {f : Addr} {fd : FuncData} (F : Fun K "fewest_calls" "fewest_calls" s_fewest_calls f fd) (N : Nm mg) (D_check_table : Def P w K mg base "check_table" 3 1 1 b_check_table) (D_count_calls : Def P w K mg base "count_calls" 4 2 6 b_count_calls) : FnG P w K mg base 5 f fd ["table", "goal"] (spF K 2 2 b_fewest_calls) :=
  fg_of F sc_fewest_calls rfl rfl fun cdv A outer s H β E hr hgd tk po => sv_cons (sv_expr (ev_callD (D_check_table.mono (by decide)) hr hgd tk (by rfl) (by decide) (ar_cons (ev_nm 0 (pv 0)) (ar_nil)))) <| sv_cons (sv_expr (ev_callD (D_check_table.mono (by decide)) hr hgd tk (by rfl) (by decide) (ar_cons (ev_nm 1 (pv 1)) (ar_nil)))) <| sv_one (sv_ret (ev_callD (D_count_calls.mono (by decide)) hr hgd tk (by rfl) (by decide) (ar_cons (ev_nm 0 (pv 0)) (ar_cons (ev_nm 1 (pv 1)) (ar_nil)))))
/-! _law_put -/
abbrev s__law_put : Stmt := topS 47
theorem sc__law_put : FnScope ["row", "places", "letters", "found", "n"] ["row", "places", "letters"] (defScope s__law_put) := ⟨rfl, rfl, rfl, by decide +kernel, rfl, by decide +kernel, by decide +kernel⟩
def b__law_put : Stm := seqS (setS 3 (repE (lstE (consL (kE .none) (nilL))) (kE (.int 10)))) <| seqS (forS (rng1 (kE (.int 10))) (fun d r => some (put r 4 (.val d))) (stoS (iteE (tstB (binE gIsN (binE gIx (nmE 0) (nmE 4)) (kE .none))) (kE .none) (dixE (nmE 2) (binE gIx (nmE 0) (nmE 4)))) 3 (binE gIx (nmE 1) (nmE 4)))) <| retS (nmE 3)
abbrev G__law_put : List Ag → FR := runF 3 5 b__law_put
theorem k__law_put {P : Program} {w : World} {K : PySem.W.Frag} {mg : Str → Option Value} {base : Heap} {f : Addr} {fd : FuncData} (F : Fun K "_law_put" "_law_put" s__law_put f fd) (N : Nm mg)  : FnG P w K mg base 1 f fd ["row", "places", "letters"] (spF K 3 5 b__law_put) :=
  fg_of F sc__law_put rfl rfl fun cdv A outer s H β E hr hgd tk po => sv_cons (sv_set (i := 3) sc__law_put.nd rfl (by first | exact Or.inl rfl | exact Or.inr rfl) (ev_rep (ev_lst (al_cons (ev_non) (al_nil))) (ev_int))) <| sv_cons (sv_for po rfl (iv_rng1 (by rfl) N.b_range (ev_int)) (pg_name (i := 4) sc__law_put.nd rfl (by first | exact Or.inl rfl | exact Or.inr rfl)) (tg_name 4) (sv_one (sv_sto (ev_ite (tv_cmp op_isN (nomark _) o_isN (ev_ix ix_seq (fun _ _ => rfl) o_ix (ev_nm 0 (pv 0)) (ev_nm 4 (pv 4))) (ev_non)) (ev_non) (ev_dix (u1 hr) (fun _ _ => rfl) (ev_nm 2 (pv 2)) (ev_ix ix_seq (fun _ _ => rfl) o_ix (ev_nm 0 (pv 0)) (ev_nm 4 (pv 4))))) (pg_sub (ev_nm 3 (pv 3)) (ev_ix ix_seq (fun _ _ => rfl) o_ix (ev_nm 1 (pv 1)) (ev_nm 4 (pv 4))) set_list)))) <| sv_one (sv_ret (ev_nm 3 (pv 3)))
/-! needed_calls -/
abbrev s_needed_calls : Stmt := topS 35
theorem sc_needed_calls : FnScope ["table", "goal", "many"] ["table", "goal"] (defScope s_needed_calls) := ⟨rfl, rfl, rfl, by decide +kernel, rfl, by decide +kernel, by decide +kernel⟩
def b_needed_calls : Stm := seqS (setS 2 (callE G_fewest_calls (consR (nmE 0) (consR (nmE 1) (nilR))))) <| seqS (ifS (tstB (binE gIsN (nmE 2) (kE .none))) (raiS "NoCalls") (nxS)) <| retS (nmE 2)
abbrev G_needed_calls : List Ag → FR := runF 2 3 b_needed_calls
theorem k_needed_calls {P : Program} {w : World} {K : PySem.W.Frag} {mg : Str → Option Value} {base : Heap} {f : Addr} {fd : FuncData} (F : Fun K "needed_calls" "needed_calls" s_needed_calls f fd) (N : Nm mg) (D_fewest_calls : Def P w K mg base "fewest_calls" 5 2 2 b_fewest_calls) (E_NoCalls : ExD K mg "NoCalls") : FnG P w K mg base 6 f fd ["table", "goal"] (spF K 2 3 b_needed_calls) :=
  fg_of F sc_needed_calls rfl rfl fun cdv A outer s H β E hr hgd tk po => sv_cons (sv_set (i := 2) sc_needed_calls.nd rfl (by first | exact Or.inl rfl | exact Or.inr rfl) (ev_callD (D_fewest_calls.mono (by decide)) hr hgd tk (by rfl) (by decide) (ar_cons (ev_nm 0 (pv 0)) (ar_cons (ev_nm 1 (pv 1)) (ar_nil))))) <| sv_cons (sv_if (tv_cmp op_isN (nomark _) o_isN (ev_nm 2 (pv 2)) (ev_non)) (sv_one (sv_raise0 rfl tk E_NoCalls (by rfl))) (sv_nil)) <| sv_one (sv_ret (ev_nm 2 (pv 2)))
/-! possible_calls -/
abbrev s_possible_calls : Stmt := topS 26
theorem sc_possible_calls : FnScope ["table", "taken", "closes", "number", "other"] ["table"] (defScope s_possible_calls) := ⟨rfl, rfl, rfl, by decide +kernel, rfl, by decide +kernel, by decide +kernel⟩
def b_possible_calls : Stm := seqS (setS 1 (lcE (rng1 (kE (.int 10))) (fun d r => some (put r 3 (.val d))) [3] (tstB (binE gIsntN (binE gIx (nmE 0) (nmE 3)) (kE .none))) (nmE 3))) <| seqS (setS 2 (lcE (seqI (nmE 1)) (fun d r => some (put r 3 (.val d))) [3] (yesB) (tupE (consL (kE (.str "close")) (consL (nmE 3) (nilL)))))) <| retS (binE gAdd (nmE 2) (lc2E (seqI (nmE 1)) (fun d r => some (put r 3 (.val d))) [3, 4] (yesB) (rng1 (kE (.int 10))) (fun d r => some (put r 4 (.val d))) [4] (yesB) (tupE (consL (kE (.str "copy")) (consL (nmE 3) (consL (nmE 4) (nilL)))))))
abbrev G_possible_calls : List Ag → FR := runF 1 5 b_possible_calls
theorem k_possible_calls {P : Program} {w : World} {K : PySem.W.Frag} {mg : Str → Option Value} {base : Heap} {f : Addr} {fd : FuncData} (F : Fun K "possible_calls" "possible_calls" s_possible_calls f fd) (N : Nm mg)  : FnG P w K mg base 1 f fd ["table"] (spF K 1 5 b_possible_calls) :=
  fg_of F sc_possible_calls rfl rfl fun cdv A outer s H β E hr hgd tk po => sv_cons (sv_setLc (i := 1) (own := [("number", 3)]) (T := [3]) rfl rfl sc_possible_calls.nd rfl rfl (sw_true rfl rfl rfl (by decide +kernel)) (iv_rng1 (by rfl) N.b_range (ev_gint (by rfl) N.c_DESCRIPTORS)) (blkOk_by (own := [("number", 3)]) (N := ["table", "taken", "closes", "number", "other"]) (sc := defScope s_possible_calls) (by decide +kernel)) (fun _ _ _ _ _ => pg_name (i := 3) sc_possible_calls.nd rfl (by first | exact Or.inl rfl | exact Or.inr rfl)) (fun _ _ _ _ _ => ts_one (tv_cmp op_notN (nomark _) o_isntN (ev_ix ix_seq (fun _ _ => rfl) o_ix (ev_nm 0 (pv 0)) (ev_nm 3 (pv 3))) (ev_non))) (fun _ _ _ _ _ => ev_nm 3 (pv 3)) (tg_name 3)) <| sv_cons (sv_setLc (i := 2) (own := [("number", 3)]) (T := [3]) rfl rfl sc_possible_calls.nd rfl rfl (sw_true rfl rfl rfl (by decide +kernel)) (iv_seq (ev_nm 1 (pv 1))) (blkOk_by (own := [("number", 3)]) (N := ["table", "taken", "closes", "number", "other"]) (sc := defScope s_possible_calls) (by decide +kernel)) (fun _ _ _ _ _ => pg_name (i := 3) sc_possible_calls.nd rfl (by first | exact Or.inl rfl | exact Or.inr rfl)) (fun _ _ _ _ _ => ts_nil) (fun _ _ _ _ _ => ev_tup (al_cons (ev_str) (al_cons (ev_nm 3 (pv 3)) (al_nil)))) (tg_name 3)) <| sv_one (sv_ret (ev_bin op_addX o_add (ev_nm 2 (pv 2)) (ev_lc2 (own := [("number", 3), ("other", 4)]) (T := [3, 4]) (T1 := [4]) rfl (by decide) rfl sc_possible_calls.nd (iv_seq (ev_nm 1 (pv 1))) (blkOk_by (own := [("number", 3), ("other", 4)]) (N := ["table", "taken", "closes", "number", "other"]) (sc := defScope s_possible_calls) (by decide +kernel)) (fun _ _ _ _ _ => pg_name (i := 3) sc_possible_calls.nd rfl (by first | exact Or.inl rfl | exact Or.inr rfl)) (fun _ _ _ _ _ => ts_nil) (fun _ _ _ _ _ => iv_rng1 (by rfl) N.b_range (ev_gint (by rfl) N.c_DESCRIPTORS)) (fun _ _ _ _ _ => pg_name (i := 4) sc_possible_calls.nd rfl (by first | exact Or.inl rfl | exact Or.inr rfl)) (fun _ _ _ _ _ => ts_nil) (fun _ _ _ _ _ => ev_tup (al_cons (ev_str) (al_cons (ev_nm 3 (pv 3)) (al_cons (ev_nm 4 (pv 4)) (al_nil))))) (tg_nameT 3 (T := [3, 4]) (by decide)) (tg_name 4))))
/-! table_behind -/
abbrev s_table_behind : Stmt := topS 18
theorem sc_table_behind : FnScope ["table", "step", "fresh", "ends", "word"] ["table", "step", "fresh"] (defScope s_table_behind) := ⟨rfl, rfl, rfl, by decide +kernel, rfl, by decide +kernel, by decide +kernel⟩
def b_table_behind : Stm := seqS (setS 3 (unE gList (nmE 0))) <| seqS (setS 4 (binE gIx (nmE 1) (kE (.int 0)))) <| seqS (ifS (tstB (binE gEq (nmE 4) (kE (.str "pipe")))) (seqS (stoS (binE gIx (nmE 2) (kE (.int 0))) 3 (binE gIx (nmE 1) (kE (.int 1)))) <| stoS (binE gIx (nmE 2) (kE (.int 1))) 3 (binE gIx (nmE 1) (kE (.int 2)))) (ifS (tstB (binE gEq (nmE 4) (kE (.str "open")))) (stoS (binE gIx (nmE 2) (kE (.int 0))) 3 (binE gIx (nmE 1) (kE (.int 1)))) (ifS (tstB (binE gEq (nmE 4) (kE (.str "copy")))) (stoS (binE gIx (nmE 3) (binE gIx (nmE 1) (kE (.int 1)))) 3 (binE gIx (nmE 1) (kE (.int 2)))) (ifS (tstB (binE gEq (nmE 4) (kE (.str "close")))) (stoS (kE .none) 3 (binE gIx (nmE 1) (kE (.int 1)))) (nxS))))) <| retS (nmE 3)
abbrev G_table_behind : List Ag → FR := runF 3 5 b_table_behind
theorem k_table_behind {P : Program} {w : World} {K : PySem.W.Frag} {mg : Str → Option Value} {base : Heap} {f : Addr} {fd : FuncData} (F : Fun K "table_behind" "table_behind" s_table_behind f fd) (N : Nm mg)  : FnG P w K mg base 1 f fd ["table", "step", "fresh"] (spF K 3 5 b_table_behind) :=
  fg_of F sc_table_behind rfl rfl fun cdv A outer s H β E hr hgd tk po => sv_cons (sv_set (i := 3) sc_table_behind.nd rfl (by first | exact Or.inl rfl | exact Or.inr rfl) (ev_t1 call_list_of o_list (by rfl) N.b_list (by decide +kernel) (ev_nm 0 (pv 0)))) <| sv_cons (sv_set (i := 4) sc_table_behind.nd rfl (by first | exact Or.inl rfl | exact Or.inr rfl) (ev_ix ix_seq (fun _ _ => rfl) o_ix (ev_nm 1 (pv 1)) (ev_int))) <| sv_cons (sv_if (tv_cmp (op_eqX hr.units) (nomark _) o_eq (ev_nm 4 (pv 4)) (ev_str)) (sv_cons (sv_sto (ev_ix ix_seq (fun _ _ => rfl) o_ix (ev_nm 2 (pv 2)) (ev_int)) (pg_sub (ev_nm 3 (pv 3)) (ev_ix ix_seq (fun _ _ => rfl) o_ix (ev_nm 1 (pv 1)) (ev_int)) set_list)) <| sv_one (sv_sto (ev_ix ix_seq (fun _ _ => rfl) o_ix (ev_nm 2 (pv 2)) (ev_int)) (pg_sub (ev_nm 3 (pv 3)) (ev_ix ix_seq (fun _ _ => rfl) o_ix (ev_nm 1 (pv 1)) (ev_int)) set_list))) (sv_one (sv_if (tv_cmp (op_eqX hr.units) (nomark _) o_eq (ev_nm 4 (pv 4)) (ev_str)) (sv_one (sv_sto (ev_ix ix_seq (fun _ _ => rfl) o_ix (ev_nm 2 (pv 2)) (ev_int)) (pg_sub (ev_nm 3 (pv 3)) (ev_ix ix_seq (fun _ _ => rfl) o_ix (ev_nm 1 (pv 1)) (ev_int)) set_list))) (sv_one (sv_if (tv_cmp (op_eqX hr.units) (nomark _) o_eq (ev_nm 4 (pv 4)) (ev_str)) (sv_one (sv_sto (ev_ix ix_seq (fun _ _ => rfl) o_ix (ev_nm 3 (pv 3)) (ev_ix ix_seq (fun _ _ => rfl) o_ix (ev_nm 1 (pv 1)) (ev_int))) (pg_sub (ev_nm 3 (pv 3)) (ev_ix ix_seq (fun _ _ => rfl) o_ix (ev_nm 1 (pv 1)) (ev_int)) set_list))) (sv_one (sv_if (tv_cmp (op_eqX hr.units) (nomark _) o_eq (ev_nm 4 (pv 4)) (ev_str)) (sv_one (sv_sto (ev_non) (pg_sub (ev_nm 3 (pv 3)) (ev_ix ix_seq (fun _ _ => rfl) o_ix (ev_nm 1 (pv 1)) (ev_int)) set_list))) (sv_nil)))))))) <| sv_one (sv_ret (ev_nm 3 (pv 3)))
/-! begins_well -/
abbrev s_begins_well : Stmt := topS 27
theorem sc_begins_well : FnScope ["table", "goal", "call", "many"] ["table", "goal", "call", "many"] (defScope s_begins_well) := ⟨rfl, rfl, rfl, by decide +kernel, rfl, by decide +kernel, by decide +kernel⟩
def b_begins_well : Stm := retS (binE gEq (callE G_count_calls (consR (callE G_table_behind (consR (nmE 0) (consR (nmE 2) (consR (tupE (nilL)) (nilR))))) (consR (nmE 1) (nilR)))) (binE gSubI (nmE 3) (kE (.int 1))))
abbrev G_begins_well : List Ag → FR := runF 4 4 b_begins_well
theorem k_begins_well {P : Program} {w : World} {K : PySem.W.Frag} {mg : Str → Option Value} {base : Heap} {f : Addr} {fd : FuncData} (F : Fun K "begins_well" "begins_well" s_begins_well f fd) (N : Nm mg) (D_count_calls : Def P w K mg base "count_calls" 4 2 6 b_count_calls) (D_table_behind : Def P w K mg base "table_behind" 1 3 5 b_table_behind) : FnG P w K mg base 5 f fd ["table", "goal", "call", "many"] (spF K 4 4 b_begins_well) :=
  fg_of F sc_begins_well rfl rfl fun cdv A outer s H β E hr hgd tk po => sv_one (sv_ret (ev_cmp (op_eqX hr.units) (nomark _) o_eq (ev_callD (D_count_calls.mono (by decide)) hr hgd tk (by rfl) (by decide) (ar_cons (ev_callD (D_table_behind.mono (by decide)) hr hgd tk (by rfl) (by decide) (ar_cons (ev_nm 0 (pv 0)) (ar_cons (ev_nm 2 (pv 2)) (ar_cons (ev_tup (al_nil)) (ar_nil))))) (ar_cons (ev_nm 1 (pv 1)) (ar_nil)))) (ev_bin op_sub o_sub (ev_nm 3 (pv 3)) (ev_int))))
/-! next_calls -/
abbrev s_next_calls : Stmt := topS 37
theorem sc_next_calls : FnScope ["table", "goal", "many", "call"] ["table", "goal"] (defScope s_next_calls) := ⟨rfl, rfl, rfl, by decide +kernel, rfl, by decide +kernel, by decide +kernel⟩
def b_next_calls : Stm := seqS (setS 2 (callE G_needed_calls (consR (nmE 0) (consR (nmE 1) (nilR))))) <| retS (lcE (seqI (callE G_possible_calls (consR (nmE 0) (nilR)))) (fun d r => some (put r 3 (.val d))) [3] (tstT (callE G_begins_well (consR (nmE 0) (consR (nmE 1) (consR (nmE 3) (consR (nmE 2) (nilR))))))) (nmE 3))
abbrev G_next_calls : List Ag → FR := runF 2 4 b_next_calls
theorem k_next_calls {P : Program} {w : World} {K : PySem.W.Frag} {mg : Str → Option Value} {base : Heap} {f : Addr} {fd : FuncData} (F : Fun K "next_calls" "next_calls" s_next_calls f fd) (N : Nm mg) (D_needed_calls : Def P w K mg base "needed_calls" 6 2 3 b_needed_calls) (D_possible_calls : Def P w K mg base "possible_calls" 1 1 5 b_possible_calls) (D_begins_well : Def P w K mg base "begins_well" 5 4 4 b_begins_well) : FnG P w K mg base 7 f fd ["table", "goal"] (spF K 2 4 b_next_calls) :=
  fg_of F sc_next_calls rfl rfl fun cdv A outer s H β E hr hgd tk po => sv_cons (sv_set (i := 2) sc_next_calls.nd rfl (by first | exact Or.inl rfl | exact Or.inr rfl) (ev_callD (D_needed_calls.mono (by decide)) hr hgd tk (by rfl) (by decide) (ar_cons (ev_nm 0 (pv 0)) (ar_cons (ev_nm 1 (pv 1)) (ar_nil))))) <| sv_one (sv_ret (ev_lc (own := [("call", 3)]) (T := [3]) rfl rfl sc_next_calls.nd (iv_seq (ev_callD (D_possible_calls.mono (by decide)) hr hgd tk (by rfl) (by decide) (ar_cons (ev_nm 0 (pv 0)) (ar_nil)))) (blkOk_by (own := [("call", 3)]) (N := ["table", "goal", "many", "call"]) (sc := defScope s_next_calls) (by decide +kernel)) (fun _ _ _ _ _ => pg_name (i := 3) sc_next_calls.nd rfl (by first | exact Or.inl rfl | exact Or.inr rfl)) (fun _ _ _ _ _ => ts_one (tv_truth (ev_callD (D_begins_well.mono (by decide)) hr hgd takes0 (by rfl) (by decide) (ar_cons (ev_nm 0 (pv 0)) (ar_cons (ev_nm 1 (pv 1)) (ar_cons (ev_nm 3 (pv 3)) (ar_cons (ev_nm 2 (pv 2)) (ar_nil)))))))) (fun _ _ _ _ _ => ev_nm 3 (pv 3)) (tg_name 3)))
/-! rings_of -/
abbrev s_rings_of : Stmt := topS 33
theorem sc_rings_of : FnScope ["table", "goal"] ["table", "goal"] (defScope s_rings_of) := ⟨rfl, rfl, rfl, by decide +kernel, rfl, by decide +kernel, by decide +kernel⟩
def b_rings_of : Stm := seqS (dropS (callE G_check_table (consR (nmE 0) (nilR)))) <| seqS (dropS (callE G_check_table (consR (nmE 1) (nilR)))) <| retS (callE G_find_rings (consR (nmE 0) (consR (nmE 1) (nilR))))
abbrev G_rings_of : List Ag → FR := runF 2 2 b_rings_of
theorem k_rings_of {P : Program} {w : World} {K : PySem.W.Frag} {mg : Str → Option Value} {base : Heap} {f : Addr} {fd : FuncData} (F : Fun K "rings_of" "rings_of" s_rings_of f fd) (N : Nm mg) (D_check_table : Def P w K mg base "check_table" 3 1 1 b_check_table) (D_find_rings : Def P w K mg base "find_rings" 3 2 6 b_find_rings) : FnG P w K mg base 4 f fd ["table", "goal"] (spF K 2 2 b_rings_of) :=
  fg_of F sc_rings_of rfl rfl fun cdv A outer s H β E hr hgd tk po => sv_cons (sv_expr (ev_callD (D_check_table.mono (by decide)) hr hgd tk (by rfl) (by decide) (ar_cons (ev_nm 0 (pv 0)) (ar_nil)))) <| sv_cons (sv_expr (ev_callD (D_check_table.mono (by decide)) hr hgd tk (by rfl) (by decide) (ar_cons (ev_nm 1 (pv 1)) (ar_nil)))) <| sv_one (sv_ret (ev_callD (D_find_rings.mono (by decide)) hr hgd tk (by rfl) (by decide) (ar_cons (ev_nm 0 (pv 0)) (ar_cons (ev_nm 1 (pv 1)) (ar_nil)))))
/-! _law_moved -/
abbrev s__law_moved : Stmt := topS 48
theorem sc__law_moved : FnScope ["call", "places", "n"] ["call", "places"] (defScope s__law_moved) := ⟨rfl, rfl, rfl, by decide +kernel, rfl, by decide +kernel, by decide +kernel⟩
def b__law_moved : Stm := retS (binE gAdd (tupE (consL (binE gIx (nmE 0) (kE (.int 0))) (nilL))) (unE gTuple (lcE (seqI (slE (nmE 0) (some (kE (.int 1))) none)) (fun d r => some (put r 2 (.val d))) [2] (yesB) (binE gIx (nmE 1) (nmE 2)))))
abbrev G__law_moved : List Ag → FR := runF 2 3 b__law_moved
theorem k__law_moved {P : Program} {w : World} {K : PySem.W.Frag} {mg : Str → Option Value} {base : Heap} {f : Addr} {fd : FuncData} (F : Fun K "_law_moved" "_law_moved" s__law_moved f fd) (N : Nm mg)  : FnG P w K mg base 1 f fd ["call", "places"] (spF K 2 3 b__law_moved) :=
  fg_of F sc__law_moved rfl rfl fun cdv A outer s H β E hr hgd tk po => sv_one (sv_ret (ev_bin op_addX o_add (ev_tup (al_cons (ev_ix ix_seq (fun _ _ => rfl) o_ix (ev_nm 0 (pv 0)) (ev_int)) (al_nil))) (ev_t1 call_tuple_of o_tuple (by rfl) N.b_tuple (by decide +kernel) (ev_lc (own := [("n", 2)]) (T := [2]) rfl rfl sc__law_moved.nd (iv_seq (ev_slL (ev_nm 0 (pv 0)) (ev_int))) (blkOk_by (own := [("n", 2)]) (N := ["call", "places", "n"]) (sc := defScope s__law_moved) (by decide +kernel)) (fun _ _ _ _ _ => pg_name (i := 2) sc__law_moved.nd rfl (by first | exact Or.inl rfl | exact Or.inr rfl)) (fun _ _ _ _ _ => ts_nil) (fun _ _ _ _ _ => ev_ix ix_seq (fun _ _ => rfl) o_ix (ev_nm 1 (pv 1)) (ev_nm 2 (pv 2))) (tg_name 2)))))
/-! _law_renamed_right -/
abbrev s__law_renamed_right : Stmt := topS 49
theorem sc__law_renamed_right : FnScope ["source", "row", "aim", "places", "fresh", "letters", "one", "first", "second", "rings", "ring", "n", "call"] ["source", "row", "aim"] (defScope s__law_renamed_right) := ⟨rfl, rfl, rfl, by decide +kernel, rfl, by decide +kernel, by decide +kernel⟩
def b__law_renamed_right : Stm := seqS (parS 3 4 (consR (fzE (callE G__law_shuffled (consR (nmE 0) (consR (lrgE (kE (.int 10))) (nilR))))) (consR (callE G__law_shuffled (consR (nmE 0) (consR (kE (.str "klmnopqrstuvwxyz")) (nilR)))) (nilR)))) <| seqS (setS 5 (dnewE)) <| seqS (forS (seqI (binE gAdd (nmE 1) (nmE 2))) (fun d r => some (put r 6 (.val d))) (ifS (andB (tstB (binE gIsntN (nmE 6) (kE .none))) (tstB (dinE true (nmE 6) (nmE 5)))) (dstS (mutE 4 uPop0 nilL) 5 (nmE 6)) (nxS))) <| seqS (parS 7 8 (consR (fzE (callE G__law_put (consR (nmE 1) (consR (nmE 3) (consR (nmE 5) (nilR)))))) (consR (fzE (callE G__law_put (consR (nmE 2) (consR (nmE 3) (consR (nmE 5) (nilR)))))) (nilR)))) <| seqS (ifS (tstB (binE gNe (callE G_fewest_calls (consR (nmE 7) (consR (nmE 8) (nilR)))) (callE G_fewest_calls (consR (nmE 1) (consR (nmE 2) (nilR)))))) (retS (kE (.bool false))) (nxS)) <| seqS (setS 9 (lcE (seqI (fzE (callE G_rings_of (consR (nmE 1) (consR (nmE 2) (nilR)))))) (fun d r => some (put r 10 (.val d))) [10] (yesB) (unE gSortY (lcE (seqI (nmE 10)) (fun d r => some (put r 11 (.val d))) [11] (yesB) (binE gIx (nmE 3) (nmE 11)))))) <| seqS (ifS (tstB (binE gNe (unE gSortY (nmE 9)) (unE gSortY (lcE (seqI (fzE (callE G_rings_of (consR (nmE 7) (consR (nmE 8) (nilR)))))) (fun d r => some (put r 10 (.val d))) [10] (yesB) (unE gSortY (nmE 10)))))) (retS (kE (.bool false))) (nxS)) <| seqS (ifS (tstB (binE gIsN (callE G_fewest_calls (consR (nmE 1) (consR (nmE 2) (nilR)))) (kE .none))) (retS (kE (.bool true))) (nxS)) <| retS (binE gEq (unE gSortY (lcE (seqI (fzE (callE G_next_calls (consR (nmE 1) (consR (nmE 2) (nilR)))))) (fun d r => some (put r 12 (.val d))) [12] (yesB) (callE G__law_moved (consR (nmE 12) (consR (nmE 3) (nilR)))))) (fzE (callE G_next_calls (consR (nmE 7) (consR (nmE 8) (nilR))))))
abbrev G__law_renamed_right : List Ag → FR := runF 3 13 b__law_renamed_right
theorem k__law_renamed_right {P : Program} {w : World} {K : PySem.W.Frag} {mg : Str → Option Value} {base : Heap} {f : Addr} {fd : FuncData} (F : Fun K "_law_renamed_right" "_law_renamed_right" s__law_renamed_right f fd) (N : Nm mg) (D__law_shuffled : Def P w K mg base "_law_shuffled" 2 2 4 b__law_shuffled) (D__law_put : Def P w K mg base "_law_put" 1 3 5 b__law_put) (D_fewest_calls : Def P w K mg base "fewest_calls" 5 2 2 b_fewest_calls) (D_next_calls : Def P w K mg base "next_calls" 7 2 4 b_next_calls) (D_rings_of : Def P w K mg base "rings_of" 4 2 2 b_rings_of) (D__law_moved : Def P w K mg base "_law_moved" 1 2 3 b__law_moved) : FnG P w K mg base 8 f fd ["source", "row", "aim"] (spF K 3 13 b__law_renamed_right) :=
  fg_of F sc__law_renamed_right rfl rfl fun cdv A outer s H β E hr hgd tk po => sv_cons (sv_par2 (ar_cons (ev_fz (ev_callD (D__law_shuffled.mono (by decide)) hr hgd tk (by rfl) (by decide) (ar_cons (ev_nm 0 (pv 0)) (ar_cons (ev_lrg rfl (by rfl) N.b_list (by rfl) N.b_range (ev_int)) (ar_nil))))) (ar_cons (ev_callD (D__law_shuffled.mono (by decide)) hr hgd tk (by rfl) (by decide) (ar_cons (ev_nm 0 (pv 0)) (ar_cons (ev_str) (ar_nil)))) (ar_nil))) (pg_tup rfl (pgs_cons (pg_name (i := 3) sc__law_renamed_right.nd rfl (by first | exact Or.inl rfl | exact Or.inr rfl)) (pgs_cons (pg_name (i := 4) sc__law_renamed_right.nd rfl (by first | exact Or.inl rfl | exact Or.inr rfl)) (pgs_nil))))) <| sv_cons (sv_set (i := 5) sc__law_renamed_right.nd rfl (by first | exact Or.inl rfl | exact Or.inr rfl) (ev_dnew)) <| sv_cons (sv_for po rfl (iv_seq (ev_bin op_addX o_add (ev_nm 1 (pv 1)) (ev_nm 2 (pv 2)))) (pg_name (i := 6) sc__law_renamed_right.nd rfl (by first | exact Or.inl rfl | exact Or.inr rfl)) (tg_name 6) (sv_one (sv_if ((tv_and (tv_cmp op_notN (nomark _) o_isntN (ev_nm 6 (pv 6)) (ev_non)) (tv_and1 (tv_dnotin (u1 hr) (ev_nm 6 (pv 6)) (ev_nm 5 (pv 5)) (by rfl)))).pt) (sv_one (sv_dst (ev_mut0 (pe_bm0 PySem.F.plainAttrs_list PySem.F.slot_list_pop PySem.F.type_list_pop mt_pop (ev_nm 4 (pv 4))) m_pop0) (pg_sub (ev_nm 5 (pv 5)) (ev_nm 6 (pv 6)) (set_dict (u1 hr))))) (sv_nil)))) <| sv_cons (sv_par rfl sc__law_renamed_right.nd rfl rfl (by decide) rfl rfl (ar_cons (ev_fz (ev_callD (D__law_put.mono (by decide)) hr hgd tk (by rfl) (by decide) (ar_cons (ev_nm 1 (pv 1)) (ar_cons (ev_nm 3 (pv 3)) (ar_cons (ev_nm 5 (pv 5)) (ar_nil)))))) (ar_cons (ev_fz (ev_callD (D__law_put.mono (by decide)) hr hgd tk (by rfl) (by decide) (ar_cons (ev_nm 2 (pv 2)) (ar_cons (ev_nm 3 (pv 3)) (ar_cons (ev_nm 5 (pv 5)) (ar_nil)))))) (ar_nil))) (by rfl)) <| sv_cons (sv_if (tv_cmp (op_neX hr.units) (nomark _) o_ne (ev_callD (D_fewest_calls.mono (by decide)) hr hgd tk (by rfl) (by decide) (ar_cons (ev_nm 7 (pv 7)) (ar_cons (ev_nm 8 (pv 8)) (ar_nil)))) (ev_callD (D_fewest_calls.mono (by decide)) hr hgd tk (by rfl) (by decide) (ar_cons (ev_nm 1 (pv 1)) (ar_cons (ev_nm 2 (pv 2)) (ar_nil))))) (sv_one (sv_ret (ev_bl))) (sv_nil)) <| sv_cons (sv_setLc (i := 9) (own := [("ring", 10)]) (T := [10]) rfl rfl sc__law_renamed_right.nd rfl rfl (sw_true rfl rfl rfl (by decide +kernel)) (iv_seq (ev_fz (ev_callD (D_rings_of.mono (by decide)) hr hgd tk (by rfl) (by decide) (ar_cons (ev_nm 1 (pv 1)) (ar_cons (ev_nm 2 (pv 2)) (ar_nil)))))) (blkOk_by (own := [("ring", 10)]) (N := ["source", "row", "aim", "places", "fresh", "letters", "one", "first", "second", "rings", "ring", "n", "call"]) (sc := defScope s__law_renamed_right) (by decide +kernel)) (fun _ _ _ _ _ => pg_name (i := 10) sc__law_renamed_right.nd rfl (by first | exact Or.inl rfl | exact Or.inr rfl)) (fun _ _ _ _ _ => ts_nil) (fun _ _ _ _ _ => ev_b1 (L2.CallR.or (L2.CallR.or cr_sorted (cr_sortedDat hr.units)) cr_sortedTu) o_sortY (by rfl) N.b_sorted (by decide +kernel) (ev_lc (own := [("n", 11)]) (T := [11]) rfl rfl sc__law_renamed_right.nd (iv_seq (ev_nm 10 (pv 10))) (blkOk_by (own := [("n", 11)]) (N := ["source", "row", "aim", "places", "fresh", "letters", "one", "first", "second", "rings", "ring", "n", "call"]) (sc := _) (by kernel_rfl)) (fun _ _ _ _ _ => pg_name (i := 11) sc__law_renamed_right.nd rfl (by first | exact Or.inl rfl | exact Or.inr rfl)) (fun _ _ _ _ _ => ts_nil) (fun _ _ _ _ _ => ev_ix ix_seq (fun _ _ => rfl) o_ix (ev_nm 3 (pv 3)) (ev_nm 11 (pv 11))) (tg_name 11))) (tg_name 10)) <| sv_cons (sv_if (tv_cmp (op_neX hr.units) (nomark _) o_ne (ev_b1 (L2.CallR.or (L2.CallR.or cr_sorted (cr_sortedDat hr.units)) cr_sortedTu) o_sortY (by rfl) N.b_sorted (by decide +kernel) (ev_nm 9 (pv 9))) (ev_b1 (L2.CallR.or (L2.CallR.or cr_sorted (cr_sortedDat hr.units)) cr_sortedTu) o_sortY (by rfl) N.b_sorted (by decide +kernel) (ev_lc (own := [("ring", 10)]) (T := [10]) rfl rfl sc__law_renamed_right.nd (iv_seq (ev_fz (ev_callD (D_rings_of.mono (by decide)) hr hgd tk (by rfl) (by decide) (ar_cons (ev_nm 7 (pv 7)) (ar_cons (ev_nm 8 (pv 8)) (ar_nil)))))) (blkOk_by (own := [("ring", 10)]) (N := ["source", "row", "aim", "places", "fresh", "letters", "one", "first", "second", "rings", "ring", "n", "call"]) (sc := defScope s__law_renamed_right) (by decide +kernel)) (fun _ _ _ _ _ => pg_name (i := 10) sc__law_renamed_right.nd rfl (by first | exact Or.inl rfl | exact Or.inr rfl)) (fun _ _ _ _ _ => ts_nil) (fun _ _ _ _ _ => ev_b1 (L2.CallR.or (L2.CallR.or cr_sorted (cr_sortedDat hr.units)) cr_sortedTu) o_sortY (by rfl) N.b_sorted (by decide +kernel) (ev_nm 10 (pv 10))) (tg_name 10)))) (sv_one (sv_ret (ev_bl))) (sv_nil)) <| sv_cons (sv_if (tv_cmp op_isN (nomark _) o_isN (ev_callD (D_fewest_calls.mono (by decide)) hr hgd tk (by rfl) (by decide) (ar_cons (ev_nm 1 (pv 1)) (ar_cons (ev_nm 2 (pv 2)) (ar_nil)))) (ev_non)) (sv_one (sv_ret (ev_bl))) (sv_nil)) <| sv_one (sv_ret (ev_cmp (op_eqX hr.units) (nomark _) o_eq (ev_b1 (L2.CallR.or (L2.CallR.or cr_sorted (cr_sortedDat hr.units)) cr_sortedTu) o_sortY (by rfl) N.b_sorted (by decide +kernel) (ev_lc (own := [("call", 12)]) (T := [12]) rfl rfl sc__law_renamed_right.nd (iv_seq (ev_fz (ev_callD (D_next_calls.mono (by decide)) hr hgd tk (by rfl) (by decide) (ar_cons (ev_nm 1 (pv 1)) (ar_cons (ev_nm 2 (pv 2)) (ar_nil)))))) (blkOk_by (own := [("call", 12)]) (N := ["source", "row", "aim", "places", "fresh", "letters", "one", "first", "second", "rings", "ring", "n", "call"]) (sc := defScope s__law_renamed_right) (by decide +kernel)) (fun _ _ _ _ _ => pg_name (i := 12) sc__law_renamed_right.nd rfl (by first | exact Or.inl rfl | exact Or.inr rfl)) (fun _ _ _ _ _ => ts_nil) (fun _ _ _ _ _ => ev_callD (D__law_moved.mono (by decide)) hr hgd takes0 (by rfl) (by decide) (ar_cons (ev_nm 12 (pv 12)) (ar_cons (ev_nm 3 (pv 3)) (ar_nil)))) (tg_name 12))) (ev_fz (ev_callD (D_next_calls.mono (by decide)) hr hgd tk (by rfl) (by decide) (ar_cons (ev_nm 7 (pv 7)) (ar_cons (ev_nm 8 (pv 8)) (ar_nil)))))))
/-! least_call -/
abbrev s_least_call : Stmt := topS 28
theorem sc_least_call : FnScope ["table", "goal", "many", "call"] ["table", "goal", "many"] (defScope s_least_call) := ⟨rfl, rfl, rfl, by decide +kernel, rfl, by decide +kernel, by decide +kernel⟩
def b_least_call : Stm := seqS (forS (seqI (callE G_possible_calls (consR (nmE 0) (nilR)))) (fun d r => some (put r 3 (.val d))) (ifS (tstT (callE G_begins_well (consR (nmE 0) (consR (nmE 1) (consR (nmE 3) (consR (nmE 2) (nilR))))))) (retS (nmE 3)) (nxS))) <| retS (kE .none)
abbrev G_least_call : List Ag → FR := runF 3 4 b_least_call
theorem k_least_call {P : Program} {w : World} {K : PySem.W.Frag} {mg : Str → Option Value} {base : Heap} {f : Addr} {fd : FuncData} (F : Fun K "least_call" "least_call" s_least_call f fd) (N : Nm mg) (D_possible_calls : Def P w K mg base "possible_calls" 1 1 5 b_possible_calls) (D_begins_well : Def P w K mg base "begins_well" 5 4 4 b_begins_well) : FnG P w K mg base 6 f fd ["table", "goal", "many"] (spF K 3 4 b_least_call) :=
  fg_of F sc_least_call rfl rfl fun cdv A outer s H β E hr hgd tk po => sv_cons (sv_for po rfl (iv_seq (ev_callD (D_possible_calls.mono (by decide)) hr hgd tk (by rfl) (by decide) (ar_cons (ev_nm 0 (pv 0)) (ar_nil)))) (pg_name (i := 3) sc_least_call.nd rfl (by first | exact Or.inl rfl | exact Or.inr rfl)) (tg_name 3) (sv_one (sv_if (tv_truth (ev_callD (D_begins_well.mono (by decide)) hr hgd tk (by rfl) (by decide) (ar_cons (ev_nm 0 (pv 0)) (ar_cons (ev_nm 1 (pv 1)) (ar_cons (ev_nm 3 (pv 3)) (ar_cons (ev_nm 2 (pv 2)) (ar_nil))))))) (sv_one (sv_ret (ev_nm 3 (pv 3)))) (sv_nil)))) <| sv_one (sv_ret (ev_non))
/-! calls_between -/
abbrev s_calls_between : Stmt := topS 36
theorem sc_calls_between : FnScope ["table", "goal", "many", "calls", "ends", "left", "call"] ["table", "goal"] (defScope s_calls_between) := ⟨rfl, rfl, rfl, by decide +kernel, rfl, by decide +kernel, by decide +kernel⟩
def b_calls_between : Stm := seqS (setS 2 (callE G_needed_calls (consR (nmE 0) (consR (nmE 1) (nilR))))) <| seqS (setS 3 (lstE (nilL))) <| seqS (setS 4 (nmE 0)) <| seqS (forS (rngD (nmE 2) (kE (.int 0)) (unE gNeg (kE (.int 1)))) (fun d r => some (put r 5 (.val d))) (seqS (setS 6 (callE G_least_call (consR (nmE 4) (consR (nmE 1) (consR (nmE 5) (nilR)))))) <| seqS (dropS (mutE 3 uApp (consL (nmE 6) (nilL)))) <| setS 4 (callE G_table_behind (consR (nmE 4) (consR (nmE 6) (consR (tupE (nilL)) (nilR))))))) <| retS (nmE 3)
abbrev G_calls_between : List Ag → FR := runF 2 7 b_calls_between
theorem k_calls_between {P : Program} {w : World} {K : PySem.W.Frag} {mg : Str → Option Value} {base : Heap} {f : Addr} {fd : FuncData} (F : Fun K "calls_between" "calls_between" s_calls_between f fd) (N : Nm mg) (D_needed_calls : Def P w K mg base "needed_calls" 6 2 3 b_needed_calls) (D_least_call : Def P w K mg base "least_call" 6 3 4 b_least_call) (D_table_behind : Def P w K mg base "table_behind" 1 3 5 b_table_behind) : FnG P w K mg base 7 f fd ["table", "goal"] (spF K 2 7 b_calls_between) :=
  fg_of F sc_calls_between rfl rfl fun cdv A outer s H β E hr hgd tk po => sv_cons (sv_set (i := 2) sc_calls_between.nd rfl (by first | exact Or.inl rfl | exact Or.inr rfl) (ev_callD (D_needed_calls.mono (by decide)) hr hgd tk (by rfl) (by decide) (ar_cons (ev_nm 0 (pv 0)) (ar_cons (ev_nm 1 (pv 1)) (ar_nil))))) <| sv_cons (sv_set (i := 3) sc_calls_between.nd rfl (by first | exact Or.inl rfl | exact Or.inr rfl) (ev_lst (al_nil))) <| sv_cons (sv_set (i := 4) sc_calls_between.nd rfl (by first | exact Or.inl rfl | exact Or.inr rfl) (ev_nm 0 (pv 0))) <| sv_cons (sv_for po rfl (iv_rngD (by rfl) N.b_range (ev_nm 2 (pv 2)) (ev_int) (ev_un un_neg o_neg (ev_int))) (pg_name (i := 5) sc_calls_between.nd rfl (by first | exact Or.inl rfl | exact Or.inr rfl)) (tg_name 5) (sv_cons (sv_set (i := 6) sc_calls_between.nd rfl (by first | exact Or.inl rfl | exact Or.inr rfl) (ev_callD (D_least_call.mono (by decide)) hr hgd tk (by rfl) (by decide) (ar_cons (ev_nm 4 (pv 4)) (ar_cons (ev_nm 1 (pv 1)) (ar_cons (ev_nm 5 (pv 5)) (ar_nil)))))) <| sv_cons (sv_expr (ev_mut (pe_bm PySem.F.plainAttrs_list PySem.F.slot_list_append PySem.F.type_list_append mt_append (ev_nm 3 (pv 3)) (al_cons (ev_nm 6 (pv 6)) (al_nil))) m_app)) <| sv_one (sv_set (i := 4) sc_calls_between.nd rfl (by first | exact Or.inl rfl | exact Or.inr rfl) (ev_callD (D_table_behind.mono (by decide)) hr hgd tk (by rfl) (by decide) (ar_cons (ev_nm 4 (pv 4)) (ar_cons (ev_nm 6 (pv 6)) (ar_cons (ev_tup (al_nil)) (ar_nil)))))))) <| sv_one (sv_ret (ev_nm 3 (pv 3)))
/-! is_call_list -/
abbrev s_is_call_list : Stmt := topS 30
theorem sc_is_call_list : FnScope ["value"] ["value"] (defScope s_is_call_list) := ⟨rfl, rfl, rfl, by decide +kernel, rfl, by decide +kernel, by decide +kernel⟩
def b_is_call_list : Stm := retS (andE (callE G_is_list (consR (nmE 0) (nilR))) (binE gLe (unE gLen (nmE 0)) (kE (.int 100))))
abbrev G_is_call_list : List Ag → FR := runF 1 1 b_is_call_list
theorem k_is_call_list {P : Program} {w : World} {K : PySem.W.Frag} {mg : Str → Option Value} {base : Heap} {f : Addr} {fd : FuncData} (F : Fun K "is_call_list" "is_call_list" s_is_call_list f fd) (N : Nm mg) (D_is_list : Def P w K mg base "is_list" 1 1 1 b_is_list) : FnG P w K mg base 2 f fd ["value"] (spF K 1 1 b_is_call_list) :=
  fg_of F sc_is_call_list rfl rfl fun cdv A outer s H β E hr hgd tk po => sv_one (sv_ret (ev_and (ev_callD (D_is_list.mono (by decide)) hr hgd tk (by rfl) (by decide) (ar_cons (ev_nm 0 (pv 0)) (ar_nil))) (ev_and1 (ev_cmp op_le (nomark _) o_cmp (ev_b1 call_len o_len (by rfl) N.b_len (by decide +kernel) (ev_nm 0 (pv 0))) (ev_gint (by rfl) N.c_MOST_CALLS)))))
/-! is_tuple -/
abbrev s_is_tuple : Stmt := topS 9
theorem sc_is_tuple : FnScope ["value"] ["value"] (defScope s_is_tuple) := ⟨rfl, rfl, rfl, by decide +kernel, rfl, by decide +kernel, by decide +kernel⟩
def b_is_tuple : Stm := retS (unE (gTyEq "tuple") (nmE 0))
abbrev G_is_tuple : List Ag → FR := runF 1 1 b_is_tuple
theorem k_is_tuple {P : Program} {w : World} {K : PySem.W.Frag} {mg : Str → Option Value} {base : Heap} {f : Addr} {fd : FuncData} (F : Fun K "is_tuple" "is_tuple" s_is_tuple f fd) (N : Nm mg)  : FnG P w K mg base 1 f fd ["value"] (spF K 1 1 b_is_tuple) :=
  fg_of F sc_is_tuple rfl rfl fun cdv A outer s H β E hr hgd tk po => sv_one (sv_ret (ev_tyEq PySem.TypeEq.meta_tuple (by rfl) N.b_type (by rfl) N.b_tuple (by decide +kernel) (ev_nm 0 (pv 0))))
/-! is_integer -/
abbrev s_is_integer : Stmt := topS 10
theorem sc_is_integer : FnScope ["value"] ["value"] (defScope s_is_integer) := ⟨rfl, rfl, rfl, by decide +kernel, rfl, by decide +kernel, by decide +kernel⟩
def b_is_integer : Stm := retS (andE (unE (gIsi "int") (nmE 0)) (notE (unE (gIsi "bool") (nmE 0))))
abbrev G_is_integer : List Ag → FR := runF 1 1 b_is_integer
theorem k_is_integer {P : Program} {w : World} {K : PySem.W.Frag} {mg : Str → Option Value} {base : Heap} {f : Addr} {fd : FuncData} (F : Fun K "is_integer" "is_integer" s_is_integer f fd) (N : Nm mg)  : FnG P w K mg base 1 f fd ["value"] (spF K 1 1 b_is_integer) :=
  fg_of F sc_is_integer rfl rfl fun cdv A outer s H β E hr hgd tk po => sv_one (sv_ret (ev_and (ev_isi isi_int (by rfl) N.b_isinstance (by rfl) N.b_int (by decide +kernel) (ev_nm 0 (pv 0))) (ev_and1 (ev_not (ev_isi isi_bool (by rfl) N.b_isinstance (by rfl) N.b_bool (by decide +kernel) (ev_nm 0 (pv 0)))))))
/-! is_descriptor -/
abbrev s_is_descriptor : Stmt := topS 11
theorem sc_is_descriptor : FnScope ["value"] ["value"] (defScope s_is_descriptor) := ⟨rfl, rfl, rfl, by decide +kernel, rfl, by decide +kernel, by decide +kernel⟩
def b_is_descriptor : Stm := retS (andE (callE G_is_integer (consR (nmE 0) (nilR))) (chE gLe gLt (kE (.int 0)) (nmE 0) (kE (.int 10))))
abbrev G_is_descriptor : List Ag → FR := runF 1 1 b_is_descriptor
theorem k_is_descriptor {P : Program} {w : World} {K : PySem.W.Frag} {mg : Str → Option Value} {base : Heap} {f : Addr} {fd : FuncData} (F : Fun K "is_descriptor" "is_descriptor" s_is_descriptor f fd) (N : Nm mg) (D_is_integer : Def P w K mg base "is_integer" 1 1 1 b_is_integer) : FnG P w K mg base 2 f fd ["value"] (spF K 1 1 b_is_descriptor) :=
  fg_of F sc_is_descriptor rfl rfl fun cdv A outer s H β E hr hgd tk po => sv_one (sv_ret (ev_and (ev_callD (D_is_integer.mono (by decide)) hr hgd tk (by rfl) (by decide) (ar_cons (ev_nm 0 (pv 0)) (ar_nil))) (ev_and1 (ev_chain op_le op_lt o_cmp o_cmp (ev_int) (ev_nm 0 (pv 0)) (ev_gint (by rfl) N.c_DESCRIPTORS)))))
/-! is_call -/
abbrev s_is_call : Stmt := topS 29
theorem sc_is_call : FnScope ["value", "number"] ["value"] (defScope s_is_call) := ⟨rfl, rfl, rfl, by decide +kernel, rfl, by decide +kernel, by decide +kernel⟩
def b_is_call : Stm := seqS (ifS (orB (notB (tstT (callE G_is_tuple (consR (nmE 0) (nilR))))) (orB (tstB (binE gLt (unE gLen (nmE 0)) (kE (.int 2)))) (notB (tstT (unE (gIsi "str") (binE gIx (nmE 0) (kE (.int 0)))))))) (retS (kE (.bool false))) (nxS)) <| seqS (ifS (notB (tstT (unE gAll (lcE (seqI (slE (nmE 0) (some (kE (.int 1))) none)) (fun d r => some (put r 1 (.val d))) [1] (yesB) (callE G_is_descriptor (consR (nmE 1) (nilR))))))) (retS (kE (.bool false))) (nxS)) <| retS (orE (andE (binE gEq (binE gIx (nmE 0) (kE (.int 0))) (kE (.str "copy"))) (binE gEq (unE gLen (nmE 0)) (kE (.int 3)))) (andE (binE gEq (binE gIx (nmE 0) (kE (.int 0))) (kE (.str "close"))) (binE gEq (unE gLen (nmE 0)) (kE (.int 2)))))
abbrev G_is_call : List Ag → FR := runF 1 2 b_is_call
theorem k_is_call {P : Program} {w : World} {K : PySem.W.Frag} {mg : Str → Option Value} {base : Heap} {f : Addr} {fd : FuncData} (F : Fun K "is_call" "is_call" s_is_call f fd) (N : Nm mg) (D_is_tuple : Def P w K mg base "is_tuple" 1 1 1 b_is_tuple) (D_is_descriptor : Def P w K mg base "is_descriptor" 2 1 1 b_is_descriptor) : FnG P w K mg base 3 f fd ["value"] (spF K 1 2 b_is_call) :=
  fg_of F sc_is_call rfl rfl fun cdv A outer s H β E hr hgd tk po => sv_cons (sv_if ((tv_or (tv_not (tv_truth (ev_callD (D_is_tuple.mono (by decide)) hr hgd tk (by rfl) (by decide) (ar_cons (ev_nm 0 (pv 0)) (ar_nil))))) (tv_or (tv_cmp op_lt (nomark _) o_cmp (ev_b1 call_len o_len (by rfl) N.b_len (by decide +kernel) (ev_nm 0 (pv 0))) (ev_int)) (tv_or1 (tv_not (tv_truth (ev_isi isi_str (by rfl) N.b_isinstance (by rfl) N.b_str (by decide +kernel) (ev_ix ix_seq (fun _ _ => rfl) o_ix (ev_nm 0 (pv 0)) (ev_int)))))))).pt) (sv_one (sv_ret (ev_bl))) (sv_nil)) <| sv_cons (sv_if (tv_not (tv_truth (ev_b1 (cr_all rfl) o_all (by rfl) N.b_all (by decide +kernel) (ev_lc (own := [("number", 1)]) (T := [1]) rfl rfl sc_is_call.nd (iv_seq (ev_slL (ev_nm 0 (pv 0)) (ev_int))) (blkOk_by (own := [("number", 1)]) (N := ["value", "number"]) (sc := defScope s_is_call) (by decide +kernel)) (fun _ _ _ _ _ => pg_name (i := 1) sc_is_call.nd rfl (by first | exact Or.inl rfl | exact Or.inr rfl)) (fun _ _ _ _ _ => ts_nil) (fun _ _ _ _ _ => ev_callD (D_is_descriptor.mono (by decide)) hr hgd takes0 (by rfl) (by decide) (ar_cons (ev_nm 1 (pv 1)) (ar_nil))) (tg_name 1))))) (sv_one (sv_ret (ev_bl))) (sv_nil)) <| sv_one (sv_ret (ev_or (ev_and (ev_cmp (op_eqX hr.units) (nomark _) o_eq (ev_ix ix_seq (fun _ _ => rfl) o_ix (ev_nm 0 (pv 0)) (ev_int)) (ev_str)) (ev_and1 (ev_cmp (op_eqX hr.units) (nomark _) o_eq (ev_b1 call_len o_len (by rfl) N.b_len (by decide +kernel) (ev_nm 0 (pv 0))) (ev_int)))) (ev_or1 (ev_and (ev_cmp (op_eqX hr.units) (nomark _) o_eq (ev_ix ix_seq (fun _ _ => rfl) o_ix (ev_nm 0 (pv 0)) (ev_int)) (ev_str)) (ev_and1 (ev_cmp (op_eqX hr.units) (nomark _) o_eq (ev_b1 call_len o_len (by rfl) N.b_len (by decide +kernel) (ev_nm 0 (pv 0))) (ev_int)))))))
/-! wrong_call -/
abbrev s_wrong_call : Stmt := topS 31
theorem sc_wrong_call : FnScope ["table", "items", "ends", "index", "item"] ["table", "items"] (defScope s_wrong_call) := ⟨rfl, rfl, rfl, by decide +kernel, rfl, by decide +kernel, by decide +kernel⟩
def b_wrong_call : Stm := seqS (setS 2 (nmE 0)) <| seqS (forS (enuI (nmE 1)) (tgTup [3, 4]) (seqS (ifS (orB (notB (tstT (callE G_is_call (consR (nmE 4) (nilR))))) (tstB (binE gIsN (binE gIx (nmE 2) (binE gIx (nmE 4) (kE (.int 1)))) (kE .none)))) (retS (nmE 3)) (nxS)) <| setS 2 (callE G_table_behind (consR (nmE 2) (consR (nmE 4) (consR (tupE (nilL)) (nilR))))))) <| retS (kE .none)
abbrev G_wrong_call : List Ag → FR := runF 2 5 b_wrong_call
theorem k_wrong_call {P : Program} {w : World} {K : PySem.W.Frag} {mg : Str → Option Value} {base : Heap} {f : Addr} {fd : FuncData} (F : Fun K "wrong_call" "wrong_call" s_wrong_call f fd) (N : Nm mg) (D_table_behind : Def P w K mg base "table_behind" 1 3 5 b_table_behind) (D_is_call : Def P w K mg base "is_call" 3 1 2 b_is_call) : FnG P w K mg base 4 f fd ["table", "items"] (spF K 2 5 b_wrong_call) :=
  fg_of F sc_wrong_call rfl rfl fun cdv A outer s H β E hr hgd tk po => sv_cons (sv_set (i := 2) sc_wrong_call.nd rfl (by first | exact Or.inl rfl | exact Or.inr rfl) (ev_nm 0 (pv 0))) <| sv_cons (sv_for po rfl (iv_enu (by rfl) N.b_enumerate (ev_nm 1 (pv 1))) (pg_tup rfl (pgs_cons (pg_name (i := 3) sc_wrong_call.nd rfl (by first | exact Or.inl rfl | exact Or.inr rfl)) (pgs_cons (pg_name (i := 4) sc_wrong_call.nd rfl (by first | exact Or.inl rfl | exact Or.inr rfl)) (pgs_nil)))) (tg_tup [3, 4]) (sv_cons (sv_if ((tv_or (tv_not (tv_truth (ev_callD (D_is_call.mono (by decide)) hr hgd tk (by rfl) (by decide) (ar_cons (ev_nm 4 (pv 4)) (ar_nil))))) (tv_or1 (tv_cmp op_isN (nomark _) o_isN (ev_ix ix_seq (fun _ _ => rfl) o_ix (ev_nm 2 (pv 2)) (ev_ix ix_seq (fun _ _ => rfl) o_ix (ev_nm 4 (pv 4)) (ev_int))) (ev_non)))).pt) (sv_one (sv_ret (ev_nm 3 (pv 3)))) (sv_nil)) <| sv_one (sv_set (i := 2) sc_wrong_call.nd rfl (by first | exact Or.inl rfl | exact Or.inr rfl) (ev_callD (D_table_behind.mono (by decide)) hr hgd tk (by rfl) (by decide) (ar_cons (ev_nm 2 (pv 2)) (ar_cons (ev_nm 4 (pv 4)) (ar_cons (ev_tup (al_nil)) (ar_nil)))))))) <| sv_one (sv_ret (ev_non))
/-! is_calls -/
abbrev s_is_calls : Stmt := topS 38
theorem sc_is_calls : FnScope ["table", "value"] ["table", "value"] (defScope s_is_calls) := ⟨rfl, rfl, rfl, by decide +kernel, rfl, by decide +kernel, by decide +kernel⟩
def b_is_calls : Stm := seqS (dropS (callE G_check_table (consR (nmE 0) (nilR)))) <| retS (andE (callE G_is_call_list (consR (nmE 1) (nilR))) (binE gIsN (callE G_wrong_call (consR (nmE 0) (consR (nmE 1) (nilR)))) (kE .none)))
abbrev G_is_calls : List Ag → FR := runF 2 2 b_is_calls
theorem k_is_calls {P : Program} {w : World} {K : PySem.W.Frag} {mg : Str → Option Value} {base : Heap} {f : Addr} {fd : FuncData} (F : Fun K "is_calls" "is_calls" s_is_calls f fd) (N : Nm mg) (D_check_table : Def P w K mg base "check_table" 3 1 1 b_check_table) (D_is_call_list : Def P w K mg base "is_call_list" 2 1 1 b_is_call_list) (D_wrong_call : Def P w K mg base "wrong_call" 4 2 5 b_wrong_call) : FnG P w K mg base 5 f fd ["table", "value"] (spF K 2 2 b_is_calls) :=
  fg_of F sc_is_calls rfl rfl fun cdv A outer s H β E hr hgd tk po => sv_cons (sv_expr (ev_callD (D_check_table.mono (by decide)) hr hgd tk (by rfl) (by decide) (ar_cons (ev_nm 0 (pv 0)) (ar_nil)))) <| sv_one (sv_ret (ev_and (ev_callD (D_is_call_list.mono (by decide)) hr hgd tk (by rfl) (by decide) (ar_cons (ev_nm 1 (pv 1)) (ar_nil))) (ev_and1 (ev_cmp op_isN (nomark _) o_isN (ev_callD (D_wrong_call.mono (by decide)) hr hgd tk (by rfl) (by decide) (ar_cons (ev_nm 0 (pv 0)) (ar_cons (ev_nm 1 (pv 1)) (ar_nil)))) (ev_non)))))
/-! table_after -/
abbrev s_table_after : Stmt := topS 32
theorem sc_table_after : FnScope ["table", "calls", "ends", "call"] ["table", "calls"] (defScope s_table_after) := ⟨rfl, rfl, rfl, by decide +kernel, rfl, by decide +kernel, by decide +kernel⟩
def b_table_after : Stm := seqS (setS 2 (unE gList (nmE 0))) <| seqS (forS (seqI (nmE 1)) (fun d r => some (put r 3 (.val d))) (setS 2 (callE G_table_behind (consR (nmE 2) (consR (nmE 3) (consR (tupE (nilL)) (nilR))))))) <| retS (nmE 2)
abbrev G_table_after : List Ag → FR := runF 2 4 b_table_after
theorem k_table_after {P : Program} {w : World} {K : PySem.W.Frag} {mg : Str → Option Value} {base : Heap} {f : Addr} {fd : FuncData} (F : Fun K "table_after" "table_after" s_table_after f fd) (N : Nm mg) (D_table_behind : Def P w K mg base "table_behind" 1 3 5 b_table_behind) : FnG P w K mg base 2 f fd ["table", "calls"] (spF K 2 4 b_table_after) :=
  fg_of F sc_table_after rfl rfl fun cdv A outer s H β E hr hgd tk po => sv_cons (sv_set (i := 2) sc_table_after.nd rfl (by first | exact Or.inl rfl | exact Or.inr rfl) (ev_t1 call_list_of o_list (by rfl) N.b_list (by decide +kernel) (ev_nm 0 (pv 0)))) <| sv_cons (sv_for po rfl (iv_seq (ev_nm 1 (pv 1))) (pg_name (i := 3) sc_table_after.nd rfl (by first | exact Or.inl rfl | exact Or.inr rfl)) (tg_name 3) (sv_one (sv_set (i := 2) sc_table_after.nd rfl (by first | exact Or.inl rfl | exact Or.inr rfl) (ev_callD (D_table_behind.mono (by decide)) hr hgd tk (by rfl) (by decide) (ar_cons (ev_nm 2 (pv 2)) (ar_cons (ev_nm 3 (pv 3)) (ar_cons (ev_tup (al_nil)) (ar_nil)))))))) <| sv_one (sv_ret (ev_nm 2 (pv 2)))
/-! least_calls -/
abbrev s_least_calls : Stmt := topS 40
theorem sc_least_calls : FnScope ["table", "goal", "value"] ["table", "goal", "value"] (defScope s_least_calls) := ⟨rfl, rfl, rfl, by decide +kernel, rfl, by decide +kernel, by decide +kernel⟩
def b_least_calls : Stm := seqS (dropS (callE G_check_table (consR (nmE 0) (nilR)))) <| seqS (dropS (callE G_check_table (consR (nmE 1) (nilR)))) <| seqS (ifS (orB (notB (tstT (callE G_is_call_list (consR (nmE 2) (nilR))))) (tstB (binE gIsntN (callE G_wrong_call (consR (nmE 0) (consR (nmE 2) (nilR)))) (kE .none)))) (retS (kE (.bool false))) (nxS)) <| retS (andE (binE gEq (unE gLen (nmE 2)) (callE G_count_calls (consR (nmE 0) (consR (nmE 1) (nilR))))) (binE gEq (callE G_table_after (consR (nmE 0) (consR (nmE 2) (nilR)))) (nmE 1)))
abbrev G_least_calls : List Ag → FR := runF 3 3 b_least_calls
theorem k_least_calls {P : Program} {w : World} {K : PySem.W.Frag} {mg : Str → Option Value} {base : Heap} {f : Addr} {fd : FuncData} (F : Fun K "least_calls" "least_calls" s_least_calls f fd) (N : Nm mg) (D_check_table : Def P w K mg base "check_table" 3 1 1 b_check_table) (D_is_call_list : Def P w K mg base "is_call_list" 2 1 1 b_is_call_list) (D_wrong_call : Def P w K mg base "wrong_call" 4 2 5 b_wrong_call) (D_count_calls : Def P w K mg base "count_calls" 4 2 6 b_count_calls) (D_table_after : Def P w K mg base "table_after" 2 2 4 b_table_after) : FnG P w K mg base 5 f fd ["table", "goal", "value"] (spF K 3 3 b_least_calls) :=
  fg_of F sc_least_calls rfl rfl fun cdv A outer s H β E hr hgd tk po => sv_cons (sv_expr (ev_callD (D_check_table.mono (by decide)) hr hgd tk (by rfl) (by decide) (ar_cons (ev_nm 0 (pv 0)) (ar_nil)))) <| sv_cons (sv_expr (ev_callD (D_check_table.mono (by decide)) hr hgd tk (by rfl) (by decide) (ar_cons (ev_nm 1 (pv 1)) (ar_nil)))) <| sv_cons (sv_if ((tv_or (tv_not (tv_truth (ev_callD (D_is_call_list.mono (by decide)) hr hgd tk (by rfl) (by decide) (ar_cons (ev_nm 2 (pv 2)) (ar_nil))))) (tv_or1 (tv_cmp op_notN (nomark _) o_isntN (ev_callD (D_wrong_call.mono (by decide)) hr hgd tk (by rfl) (by decide) (ar_cons (ev_nm 0 (pv 0)) (ar_cons (ev_nm 2 (pv 2)) (ar_nil)))) (ev_non)))).pt) (sv_one (sv_ret (ev_bl))) (sv_nil)) <| sv_one (sv_ret (ev_and (ev_cmp (op_eqX hr.units) (nomark _) o_eq (ev_b1 call_len o_len (by rfl) N.b_len (by decide +kernel) (ev_nm 2 (pv 2))) (ev_callD (D_count_calls.mono (by decide)) hr hgd tk (by rfl) (by decide) (ar_cons (ev_nm 0 (pv 0)) (ar_cons (ev_nm 1 (pv 1)) (ar_nil))))) (ev_and1 (ev_cmp (op_eqX hr.units) (nomark _) o_eq (ev_callD (D_table_after.mono (by decide)) hr hgd tk (by rfl) (by decide) (ar_cons (ev_nm 0 (pv 0)) (ar_cons (ev_nm 2 (pv 2)) (ar_nil)))) (ev_nm 1 (pv 1))))))
/-! after_calls -/
abbrev s_after_calls : Stmt := topS 39
theorem sc_after_calls : FnScope ["table", "calls", "wrong"] ["table", "calls"] (defScope s_after_calls) := ⟨rfl, rfl, rfl, by decide +kernel, rfl, by decide +kernel, by decide +kernel⟩
def b_after_calls : Stm := seqS (dropS (callE G_check_table (consR (nmE 0) (nilR)))) <| seqS (ifS (notB (tstT (callE G_is_call_list (consR (nmE 1) (nilR))))) ((fun _ => .no)) (nxS)) <| seqS (setS 2 (callE G_wrong_call (consR (nmE 0) (consR (nmE 1) (nilR))))) <| seqS (ifS (tstB (binE gIsntN (nmE 2) (kE .none))) ((fun _ => .no)) (nxS)) <| retS (callE G_table_after (consR (nmE 0) (consR (nmE 1) (nilR))))
abbrev G_after_calls : List Ag → FR := runF 2 3 b_after_calls
theorem k_after_calls {P : Program} {w : World} {K : PySem.W.Frag} {mg : Str → Option Value} {base : Heap} {f : Addr} {fd : FuncData} (F : Fun K "after_calls" "after_calls" s_after_calls f fd) (N : Nm mg) (D_check_table : Def P w K mg base "check_table" 3 1 1 b_check_table) (D_wrong_call : Def P w K mg base "wrong_call" 4 2 5 b_wrong_call) (D_table_after : Def P w K mg base "table_after" 2 2 4 b_table_after) (D_is_call_list : Def P w K mg base "is_call_list" 2 1 1 b_is_call_list) : FnG P w K mg base 5 f fd ["table", "calls"] (spF K 2 3 b_after_calls) :=
  fg_of F sc_after_calls rfl rfl fun cdv A outer s H β E hr hgd tk po => sv_cons (sv_expr (ev_callD (D_check_table.mono (by decide)) hr hgd tk (by rfl) (by decide) (ar_cons (ev_nm 0 (pv 0)) (ar_nil)))) <| sv_cons (sv_if (tv_not (tv_truth (ev_callD (D_is_call_list.mono (by decide)) hr hgd tk (by rfl) (by decide) (ar_cons (ev_nm 1 (pv 1)) (ar_nil))))) (sv_one (sv_no)) (sv_nil)) <| sv_cons (sv_set (i := 2) sc_after_calls.nd rfl (by first | exact Or.inl rfl | exact Or.inr rfl) (ev_callD (D_wrong_call.mono (by decide)) hr hgd tk (by rfl) (by decide) (ar_cons (ev_nm 0 (pv 0)) (ar_cons (ev_nm 1 (pv 1)) (ar_nil))))) <| sv_cons (sv_if (tv_cmp op_notN (nomark _) o_isntN (ev_nm 2 (pv 2)) (ev_non)) (sv_one (sv_no)) (sv_nil)) <| sv_one (sv_ret (ev_callD (D_table_after.mono (by decide)) hr hgd tk (by rfl) (by decide) (ar_cons (ev_nm 0 (pv 0)) (ar_cons (ev_nm 1 (pv 1)) (ar_nil)))))
/-! _law_calls_right -/
abbrev s__law_calls_right : Stmt := topS 50
theorem sc__law_calls_right : FnScope ["source", "row", "aim", "many", "able", "call", "turn", "left", "told"] ["source", "row", "aim"] (defScope s__law_calls_right) := ⟨rfl, rfl, rfl, by decide +kernel, rfl, by decide +kernel, by decide +kernel⟩
def b__law_calls_right : Stm := seqS (parS 3 4 (consR (callE G_fewest_calls (consR (nmE 1) (consR (nmE 2) (nilR)))) (consR (fzE (callE G_next_calls (consR (nmE 1) (consR (nmE 2) (nilR))))) (nilR)))) <| seqS (forS (seqI (slE (nmE 4) none (some (kE (.int 4))))) (fun d r => some (put r 5 (.val d))) (ifS (tstB (binE gNe (callE G_fewest_calls (consR (fzE (callE G_after_calls (consR (nmE 1) (consR (fzE (lstE (consL (nmE 5) (nilL)))) (nilR))))) (consR (nmE 2) (nilR)))) (binE gSubI (nmE 3) (kE (.int 1))))) (retS (kE (.bool false))) (nxS))) <| seqS (forS (rng1 (kE (.int 6))) (fun d r => some (put r 6 (.val d))) (seqS (setS 5 (tupE (consL (kE (.str "copy")) (consL (callE G__law_draw (consR (nmE 0) (consR (kE (.int 10)) (nilR)))) (consL (callE G__law_draw (consR (nmE 0) (consR (kE (.int 10)) (nilR)))) (nilL)))))) <| ifS (andB (tstT (callE G_is_calls (consR (nmE 1) (consR (fzE (lstE (consL (nmE 5) (nilL)))) (nilR))))) (tstB (binE gNotIn (nmE 5) (nmE 4)))) (seqS (setS 7 (callE G_fewest_calls (consR (fzE (callE G_after_calls (consR (nmE 1) (consR (fzE (lstE (consL (nmE 5) (nilL)))) (nilR))))) (consR (nmE 2) (nilR))))) <| ifS (andB (tstB (binE gIsntN (nmE 7) (kE .none))) (tstB (binE gLt (nmE 7) (nmE 3)))) (retS (kE (.bool false))) (nxS)) (nxS))) <| seqS (setS 8 (fzE (callE G_calls_between (consR (nmE 1) (consR (nmE 2) (nilR)))))) <| seqS (ifS (orB (notB (tstT (callE G_least_calls (consR (nmE 1) (consR (nmE 2) (consR (nmE 8) (nilR))))))) (orB (tstB (binE gNe (fzE (callE G_after_calls (consR (nmE 1) (consR (nmE 8) (nilR))))) (nmE 2))) (tstB (binE gNe (slE (nmE 8) none (some (kE (.int 1)))) (slE (nmE 4) none (some (kE (.int 1)))))))) (retS (kE (.bool false))) (nxS)) <| retS (orE (binE gEq (nmE 8) (lstE (nilL))) (binE gEq (fzE (callE G_calls_between (consR (fzE (callE G_after_calls (consR (nmE 1) (consR (fzE (slE (nmE 8) none (some (kE (.int 1))))) (nilR))))) (consR (nmE 2) (nilR))))) (slE (nmE 8) (some (kE (.int 1))) none)))
abbrev G__law_calls_right : List Ag → FR := runF 3 9 b__law_calls_right
theorem k__law_calls_right {P : Program} {w : World} {K : PySem.W.Frag} {mg : Str → Option Value} {base : Heap} {f : Addr} {fd : FuncData} (F : Fun K "_law_calls_right" "_law_calls_right" s__law_calls_right f fd) (N : Nm mg) (D_calls_between : Def P w K mg base "calls_between" 7 2 7 b_calls_between) (D_fewest_calls : Def P w K mg base "fewest_calls" 5 2 2 b_fewest_calls) (D_next_calls : Def P w K mg base "next_calls" 7 2 4 b_next_calls) (D__law_draw : Def P w K mg base "_law_draw" 1 2 4 b__law_draw) (D_is_calls : Def P w K mg base "is_calls" 5 2 2 b_is_calls) (D_least_calls : Def P w K mg base "least_calls" 5 3 3 b_least_calls) (D_after_calls : Def P w K mg base "after_calls" 5 2 3 b_after_calls) : FnG P w K mg base 8 f fd ["source", "row", "aim"] (spF K 3 9 b__law_calls_right) :=
  fg_of F sc__law_calls_right rfl rfl fun cdv A outer s H β E hr hgd tk po => sv_cons (sv_par rfl sc__law_calls_right.nd rfl rfl (by decide) rfl rfl (ar_cons (ev_callD (D_fewest_calls.mono (by decide)) hr hgd tk (by rfl) (by decide) (ar_cons (ev_nm 1 (pv 1)) (ar_cons (ev_nm 2 (pv 2)) (ar_nil)))) (ar_cons (ev_fz (ev_callD (D_next_calls.mono (by decide)) hr hgd tk (by rfl) (by decide) (ar_cons (ev_nm 1 (pv 1)) (ar_cons (ev_nm 2 (pv 2)) (ar_nil))))) (ar_nil))) (by rfl)) <| sv_cons (sv_for po rfl (iv_seq (ev_slH (ev_nm 4 (pv 4)) (ev_int))) (pg_name (i := 5) sc__law_calls_right.nd rfl (by first | exact Or.inl rfl | exact Or.inr rfl)) (tg_name 5) (sv_one (sv_if (tv_cmp (op_neX hr.units) (nomark _) o_ne (ev_callD (D_fewest_calls.mono (by decide)) hr hgd tk (by rfl) (by decide) (ar_cons (ev_fz (ev_callD (D_after_calls.mono (by decide)) hr hgd tk (by rfl) (by decide) (ar_cons (ev_nm 1 (pv 1)) (ar_cons (ev_fz (ev_lst (al_cons (ev_nm 5 (pv 5)) (al_nil)))) (ar_nil))))) (ar_cons (ev_nm 2 (pv 2)) (ar_nil)))) (ev_bin op_sub o_sub (ev_nm 3 (pv 3)) (ev_int))) (sv_one (sv_ret (ev_bl))) (sv_nil)))) <| sv_cons (sv_for po rfl (iv_rng1 (by rfl) N.b_range (ev_int)) (pg_name (i := 6) sc__law_calls_right.nd rfl (by first | exact Or.inl rfl | exact Or.inr rfl)) (tg_name 6) (sv_cons (sv_set (i := 5) sc__law_calls_right.nd rfl (by first | exact Or.inl rfl | exact Or.inr rfl) (ev_tup (al_cons (ev_str) (al_cons (ev_callD (D__law_draw.mono (by decide)) hr hgd tk (by rfl) (by decide) (ar_cons (ev_nm 0 (pv 0)) (ar_cons (ev_int) (ar_nil)))) (al_cons (ev_callD (D__law_draw.mono (by decide)) hr hgd tk (by rfl) (by decide) (ar_cons (ev_nm 0 (pv 0)) (ar_cons (ev_int) (ar_nil)))) (al_nil)))))) <| sv_one (sv_if ((tv_and (tv_truth (ev_callD (D_is_calls.mono (by decide)) hr hgd tk (by rfl) (by decide) (ar_cons (ev_nm 1 (pv 1)) (ar_cons (ev_fz (ev_lst (al_cons (ev_nm 5 (pv 5)) (al_nil)))) (ar_nil))))) (tv_and1 (tv_cmp (op_notInX (u65 hr)) (by rfl) o_notIn (ev_nm 5 (pv 5)) (ev_nm 4 (pv 4))))).pt) (sv_cons (sv_set (i := 7) sc__law_calls_right.nd rfl (by first | exact Or.inl rfl | exact Or.inr rfl) (ev_callD (D_fewest_calls.mono (by decide)) hr hgd tk (by rfl) (by decide) (ar_cons (ev_fz (ev_callD (D_after_calls.mono (by decide)) hr hgd tk (by rfl) (by decide) (ar_cons (ev_nm 1 (pv 1)) (ar_cons (ev_fz (ev_lst (al_cons (ev_nm 5 (pv 5)) (al_nil)))) (ar_nil))))) (ar_cons (ev_nm 2 (pv 2)) (ar_nil))))) <| sv_one (sv_if ((tv_and (tv_cmp op_notN (nomark _) o_isntN (ev_nm 7 (pv 7)) (ev_non)) (tv_and1 (tv_cmp op_lt (nomark _) o_cmp (ev_nm 7 (pv 7)) (ev_nm 3 (pv 3))))).pt) (sv_one (sv_ret (ev_bl))) (sv_nil))) (sv_nil)))) <| sv_cons (sv_set (i := 8) sc__law_calls_right.nd rfl (by first | exact Or.inl rfl | exact Or.inr rfl) (ev_fz (ev_callD (D_calls_between.mono (by decide)) hr hgd tk (by rfl) (by decide) (ar_cons (ev_nm 1 (pv 1)) (ar_cons (ev_nm 2 (pv 2)) (ar_nil)))))) <| sv_cons (sv_if ((tv_or (tv_not (tv_truth (ev_callD (D_least_calls.mono (by decide)) hr hgd tk (by rfl) (by decide) (ar_cons (ev_nm 1 (pv 1)) (ar_cons (ev_nm 2 (pv 2)) (ar_cons (ev_nm 8 (pv 8)) (ar_nil))))))) (tv_or (tv_cmp (op_neX hr.units) (nomark _) o_ne (ev_fz (ev_callD (D_after_calls.mono (by decide)) hr hgd tk (by rfl) (by decide) (ar_cons (ev_nm 1 (pv 1)) (ar_cons (ev_nm 8 (pv 8)) (ar_nil))))) (ev_nm 2 (pv 2))) (tv_or1 (tv_cmp (op_neX hr.units) (nomark _) o_ne (ev_slH (ev_nm 8 (pv 8)) (ev_int)) (ev_slH (ev_nm 4 (pv 4)) (ev_int)))))).pt) (sv_one (sv_ret (ev_bl))) (sv_nil)) <| sv_one (sv_ret (ev_or (ev_cmp (op_eqX hr.units) (nomark _) o_eq (ev_nm 8 (pv 8)) (ev_lst (al_nil))) (ev_or1 (ev_cmp (op_eqX hr.units) (nomark _) o_eq (ev_fz (ev_callD (D_calls_between.mono (by decide)) hr hgd tk (by rfl) (by decide) (ar_cons (ev_fz (ev_callD (D_after_calls.mono (by decide)) hr hgd tk (by rfl) (by decide) (ar_cons (ev_nm 1 (pv 1)) (ar_cons (ev_fz (ev_slH (ev_nm 8 (pv 8)) (ev_int))) (ar_nil))))) (ar_cons (ev_nm 2 (pv 2)) (ar_nil))))) (ev_slL (ev_nm 8 (pv 8)) (ev_int))))))
/-! law -/
abbrev s_law : Stmt := topS 51
theorem sc_law : FnScope ["script", "k", "source", "row", "mid", "aim", "ways", "one", "two", "many", "n"] ["script"] (defScope s_law) := ⟨rfl, rfl, rfl, by decide +kernel, rfl, by decide +kernel, by decide +kernel⟩
def b_law : Stm := seqS (forS (rng1 (binE gMax2 (kE (.int 1)) (binE gMin2 (kE (.int 2)) (unE gLen (nmE 0))))) (fun d r => some (put r 1 (.val d))) (seqS (setS 2 (callE G__law_open_source (consR (nmE 0) (consR (nmE 1) (nilR))))) <| seqS (unlS [3, 4] (callE G__law_pair (consR (nmE 2) (nilR)))) <| seqS (setS 5 (fzE (callE G__law_turned (consR (nmE 2) (consR (nmE 4) (consR (slE (callE G__law_shuffled (consR (nmE 2) (consR (lrgE (kE (.int 10))) (nilR)))) none (some (callE G__law_draw (consR (nmE 2) (consR (kE (.int 11)) (nilR)))))) (nilR))))))) <| seqS (setS 6 (lstE (consL (callE G_fewest_calls (consR (nmE 3) (consR (nmE 4) (nilR)))) (consL (callE G_fewest_calls (consR (nmE 4) (consR (nmE 5) (nilR)))) (consL (callE G_fewest_calls (consR (nmE 3) (consR (nmE 5) (nilR)))) (nilL)))))) <| seqS (ifS (andB (tstB (binE gNotIn (kE .none) (slE (nmE 6) none (some (kE (.int 2)))))) (orB (tstB (binE gIsN (binE gIx (nmE 6) (kE (.int 2))) (kE .none))) (tstB (binE gGt (binE gIx (nmE 6) (kE (.int 2))) (binE gAdd (binE gIx (nmE 6) (kE (.int 0))) (binE gIx (nmE 6) (kE (.int 1)))))))) (retS (kE (.bool false))) (nxS)) <| seqS (forS (seqI (tupE (consL (tupE (consL (nmE 3) (consL (nmE 4) (nilL)))) (consL (tupE (consL (nmE 4) (consL (nmE 5) (nilL)))) (consL (tupE (consL (nmE 3) (consL (nmE 5) (nilL)))) (nilL)))))) (tgTup [7, 8]) (seqS (setS 9 (callE G_fewest_calls (consR (nmE 7) (consR (nmE 8) (nilR))))) <| seqS (ifS (tstB (binE gNe (binE gEq (nmE 9) (kE (.int 0))) (binE gEq (nmE 7) (nmE 8)))) (retS (kE (.bool false))) (nxS)) <| ifS (andB (tstB (binE gIsntN (nmE 9) (kE .none))) (tstB (binE gLt (nmE 9) (unE gLen (lcE (rng1 (kE (.int 10))) (fun d r => some (put r 10 (.val d))) [10] (tstB (binE gNe (binE gIx (nmE 7) (nmE 10)) (binE gIx (nmE 8) (nmE 10)))) (nmE 10)))))) (retS (kE (.bool false))) (nxS))) <| seqS (ifS (notB (tstT (callE G__law_renamed_right (consR (nmE 2) (consR (nmE 3) (consR (nmE 5) (nilR))))))) (retS (kE (.bool false))) (nxS)) <| ifS (andB (tstB (binE gIsntN (binE gIx (nmE 6) (kE (.int 2))) (kE .none))) (notB (tstT (callE G__law_calls_right (consR (nmE 2) (consR (nmE 3) (consR (nmE 5) (nilR)))))))) (retS (kE (.bool false))) (nxS))) <| retS (andE (binE gEq (callE G_fewest_calls (consR (fzE (binE gAdd (lstE (consL (kE (.str "a")) (nilL))) (repE (lstE (consL (kE .none) (nilL))) (kE (.int 9))))) (consR (fzE (repE (lstE (consL (kE .none) (nilL))) (kE (.int 10)))) (nilR)))) (kE (.int 1))) (binE gIsN (callE G_fewest_calls (consR (fzE (repE (lstE (consL (kE .none) (nilL))) (kE (.int 10)))) (consR (fzE (binE gAdd (lstE (consL (kE (.str "a")) (nilL))) (repE (lstE (consL (kE .none) (nilL))) (kE (.int 9))))) (nilR)))) (kE .none)))
abbrev G_law : List Ag → FR := runF 1 11 b_law
theorem k_law {P : Program} {w : World} {K : PySem.W.Frag} {mg : Str → Option Value} {base : Heap} {f : Addr} {fd : FuncData} (F : Fun K "law" "law" s_law f fd) (N : Nm mg) (D__law_open_source : Def P w K mg base "_law_open_source" 1 2 3 b__law_open_source) (D__law_pair : Def P w K mg base "_law_pair" 3 1 6 b__law_pair) (D__law_turned : Def P w K mg base "_law_turned" 2 3 7 b__law_turned) (D_fewest_calls : Def P w K mg base "fewest_calls" 5 2 2 b_fewest_calls) (D__law_renamed_right : Def P w K mg base "_law_renamed_right" 8 3 13 b__law_renamed_right) (D__law_shuffled : Def P w K mg base "_law_shuffled" 2 2 4 b__law_shuffled) (D__law_calls_right : Def P w K mg base "_law_calls_right" 8 3 9 b__law_calls_right) (D__law_draw : Def P w K mg base "_law_draw" 1 2 4 b__law_draw) : FnG P w K mg base 9 f fd ["script"] (spF K 1 11 b_law) :=
  fg_of F sc_law rfl rfl fun cdv A outer s H β E hr hgd tk po => sv_cons (sv_for po rfl (iv_rng1 (by rfl) N.b_range (ev_b2 (call_max2 rfl) o_max2 (by rfl) N.b_max (by decide +kernel) (ev_int) (ev_b2 (call_min2 rfl) o_min2 (by rfl) N.b_min (by decide +kernel) (ev_int) (ev_b1 call_len o_len (by rfl) N.b_len (by decide +kernel) (ev_nm 0 (pv 0)))))) (pg_name (i := 1) sc_law.nd rfl (by first | exact Or.inl rfl | exact Or.inr rfl)) (tg_name 1) (sv_cons (sv_set (i := 2) sc_law.nd rfl (by first | exact Or.inl rfl | exact Or.inr rfl) (ev_callD (D__law_open_source.mono (by decide)) hr hgd tk (by rfl) (by decide) (ar_cons (ev_nm 0 (pv 0)) (ar_cons (ev_nm 1 (pv 1)) (ar_nil))))) <| sv_cons (sv_unl (is := [3, 4]) (ev_callD (D__law_pair.mono (by decide)) hr hgd tk (by rfl) (by decide) (ar_cons (ev_nm 2 (pv 2)) (ar_nil))) (pg_unl rfl (pgs_cons (pg_name (i := 3) sc_law.nd rfl (by first | exact Or.inl rfl | exact Or.inr rfl)) (pgs_cons (pg_name (i := 4) sc_law.nd rfl (by first | exact Or.inl rfl | exact Or.inr rfl)) (pgs_nil))))) <| sv_cons (sv_set (i := 5) sc_law.nd rfl (by first | exact Or.inl rfl | exact Or.inr rfl) (ev_fz (ev_callD (D__law_turned.mono (by decide)) hr hgd tk (by rfl) (by decide) (ar_cons (ev_nm 2 (pv 2)) (ar_cons (ev_nm 4 (pv 4)) (ar_cons (ev_slH (ev_callD (D__law_shuffled.mono (by decide)) hr hgd tk (by rfl) (by decide) (ar_cons (ev_nm 2 (pv 2)) (ar_cons (ev_lrg rfl (by rfl) N.b_list (by rfl) N.b_range (ev_int)) (ar_nil)))) (ev_callD (D__law_draw.mono (by decide)) hr hgd tk (by rfl) (by decide) (ar_cons (ev_nm 2 (pv 2)) (ar_cons (ev_int) (ar_nil))))) (ar_nil))))))) <| sv_cons (sv_set (i := 6) sc_law.nd rfl (by first | exact Or.inl rfl | exact Or.inr rfl) (ev_lst (al_cons (ev_callD (D_fewest_calls.mono (by decide)) hr hgd tk (by rfl) (by decide) (ar_cons (ev_nm 3 (pv 3)) (ar_cons (ev_nm 4 (pv 4)) (ar_nil)))) (al_cons (ev_callD (D_fewest_calls.mono (by decide)) hr hgd tk (by rfl) (by decide) (ar_cons (ev_nm 4 (pv 4)) (ar_cons (ev_nm 5 (pv 5)) (ar_nil)))) (al_cons (ev_callD (D_fewest_calls.mono (by decide)) hr hgd tk (by rfl) (by decide) (ar_cons (ev_nm 3 (pv 3)) (ar_cons (ev_nm 5 (pv 5)) (ar_nil)))) (al_nil)))))) <| sv_cons (sv_if ((tv_and (tv_cmp (op_notInX (u65 hr)) (by rfl) o_notIn (ev_non) (ev_slH (ev_nm 6 (pv 6)) (ev_int))) (tv_and1 ((tv_or (tv_cmp op_isN (nomark _) o_isN (ev_ix ix_seq (fun _ _ => rfl) o_ix (ev_nm 6 (pv 6)) (ev_int)) (ev_non)) (tv_or1 (tv_cmp op_gt (nomark _) o_cmp (ev_ix ix_seq (fun _ _ => rfl) o_ix (ev_nm 6 (pv 6)) (ev_int)) (ev_bin op_addX o_add (ev_ix ix_seq (fun _ _ => rfl) o_ix (ev_nm 6 (pv 6)) (ev_int)) (ev_ix ix_seq (fun _ _ => rfl) o_ix (ev_nm 6 (pv 6)) (ev_int)))))).pt))).pt) (sv_one (sv_ret (ev_bl))) (sv_nil)) <| sv_cons (sv_for po rfl (iv_seq (ev_tup (al_cons (ev_tup (al_cons (ev_nm 3 (pv 3)) (al_cons (ev_nm 4 (pv 4)) (al_nil)))) (al_cons (ev_tup (al_cons (ev_nm 4 (pv 4)) (al_cons (ev_nm 5 (pv 5)) (al_nil)))) (al_cons (ev_tup (al_cons (ev_nm 3 (pv 3)) (al_cons (ev_nm 5 (pv 5)) (al_nil)))) (al_nil)))))) (pg_tup rfl (pgs_cons (pg_name (i := 7) sc_law.nd rfl (by first | exact Or.inl rfl | exact Or.inr rfl)) (pgs_cons (pg_name (i := 8) sc_law.nd rfl (by first | exact Or.inl rfl | exact Or.inr rfl)) (pgs_nil)))) (tg_tup [7, 8]) (sv_cons (sv_set (i := 9) sc_law.nd rfl (by first | exact Or.inl rfl | exact Or.inr rfl) (ev_callD (D_fewest_calls.mono (by decide)) hr hgd tk (by rfl) (by decide) (ar_cons (ev_nm 7 (pv 7)) (ar_cons (ev_nm 8 (pv 8)) (ar_nil))))) <| sv_cons (sv_if (tv_cmp (op_neX hr.units) (nomark _) o_ne (ev_cmp (op_eqX hr.units) (nomark _) o_eq (ev_nm 9 (pv 9)) (ev_int)) (ev_cmp (op_eqX hr.units) (nomark _) o_eq (ev_nm 7 (pv 7)) (ev_nm 8 (pv 8)))) (sv_one (sv_ret (ev_bl))) (sv_nil)) <| sv_one (sv_if ((tv_and (tv_cmp op_notN (nomark _) o_isntN (ev_nm 9 (pv 9)) (ev_non)) (tv_and1 (tv_cmp op_lt (nomark _) o_cmp (ev_nm 9 (pv 9)) (ev_b1 call_len o_len (by rfl) N.b_len (by decide +kernel) (ev_lc (own := [("n", 10)]) (T := [10]) rfl rfl sc_law.nd (iv_rng1 (by rfl) N.b_range (ev_int)) (blkOk_by (own := [("n", 10)]) (N := ["script", "k", "source", "row", "mid", "aim", "ways", "one", "two", "many", "n"]) (sc := defScope s_law) (by decide +kernel)) (fun _ _ _ _ _ => pg_name (i := 10) sc_law.nd rfl (by first | exact Or.inl rfl | exact Or.inr rfl)) (fun _ _ _ _ _ => ts_one (tv_cmp (op_neX hr.units) (nomark _) o_ne (ev_ix ix_seq (fun _ _ => rfl) o_ix (ev_nm 7 (pv 7)) (ev_nm 10 (pv 10))) (ev_ix ix_seq (fun _ _ => rfl) o_ix (ev_nm 8 (pv 8)) (ev_nm 10 (pv 10))))) (fun _ _ _ _ _ => ev_nm 10 (pv 10)) (tg_name 10)))))).pt) (sv_one (sv_ret (ev_bl))) (sv_nil)))) <| sv_cons (sv_if (tv_not (tv_truth (ev_callD (D__law_renamed_right.mono (by decide)) hr hgd tk (by rfl) (by decide) (ar_cons (ev_nm 2 (pv 2)) (ar_cons (ev_nm 3 (pv 3)) (ar_cons (ev_nm 5 (pv 5)) (ar_nil))))))) (sv_one (sv_ret (ev_bl))) (sv_nil)) <| sv_one (sv_if ((tv_and (tv_cmp op_notN (nomark _) o_isntN (ev_ix ix_seq (fun _ _ => rfl) o_ix (ev_nm 6 (pv 6)) (ev_int)) (ev_non)) (tv_and1 (tv_not (tv_truth (ev_callD (D__law_calls_right.mono (by decide)) hr hgd tk (by rfl) (by decide) (ar_cons (ev_nm 2 (pv 2)) (ar_cons (ev_nm 3 (pv 3)) (ar_cons (ev_nm 5 (pv 5)) (ar_nil))))))))).pt) (sv_one (sv_ret (ev_bl))) (sv_nil)))) <| sv_one (sv_ret (ev_and (ev_cmp (op_eqX hr.units) (nomark _) o_eq (ev_callD (D_fewest_calls.mono (by decide)) hr hgd tk (by rfl) (by decide) (ar_cons (ev_fz (ev_bin op_addX o_add (ev_lst (al_cons (ev_str) (al_nil))) (ev_rep (ev_lst (al_cons (ev_non) (al_nil))) (ev_int)))) (ar_cons (ev_fz (ev_rep (ev_lst (al_cons (ev_non) (al_nil))) (ev_int))) (ar_nil)))) (ev_int)) (ev_and1 (ev_cmp op_isN (nomark _) o_isN (ev_callD (D_fewest_calls.mono (by decide)) hr hgd tk (by rfl) (by decide) (ar_cons (ev_fz (ev_rep (ev_lst (al_cons (ev_non) (al_nil))) (ev_int))) (ar_cons (ev_fz (ev_bin op_addX o_add (ev_lst (al_cons (ev_str) (al_nil))) (ev_rep (ev_lst (al_cons (ev_non) (al_nil))) (ev_int)))) (ar_nil)))) (ev_non)))))
end Lw
/-! Sy1.lean -/
set_option Elab.async false
set_option linter.all false
set_option maxRecDepth 100000
/-! runs of the evaluators, by plain data -/
namespace Mi
open PySem L2
theorem bnd_ok {A B : Type} {f : M A} {g : A → M B} {r r1 : En} {x : A} (h : f r = .ok x r1) : M.bnd f g r = g x r1 := by unfold M.bnd; rw [h]
theorem ofM_ok {A : Type} {f : M A} {g : A → En → Out} {r r1 : En} {x : A} (h : f r = .ok x r1) : ofM f g r = g x r1 := by unfold ofM; rw [h]
theorem lcN_eq {β : Type} {nth : En → Nat → Option (Option PyData)} {tg : PyData → En → Option En} {T : List Nat} {tt : M Bool} {f : M Rv} {W : En} (hW : wipeV W T = W) (xs : List β) (D : β → PyData) (hn : ∀ i : Nat, nth W i = some (xs[i]?.map D)) (c : β → Bool) (y : β → PyData)
    (ht : ∀ d ∈ xs, ∃ r2, tg (D d) W = some r2 ∧ ∃ r3, tt r2 = .ok (c d) r3 ∧ wipeV r3 T = W ∧ (c d = true → ∃ r4, M.bnd f frz r3 = .ok (y d) r4 ∧ wipeV r4 T = W)) :
    ∀ (m i : Nat) (acc : List PyData), xs.length ≤ i + m → acc.length + (xs.length - i) ≤ sizeLine → lcN nth tg T tt f m i acc W = .ok (acc ++ ((xs.drop i).filter c).map y) W := by
  intro m
  induction m with
  | zero =>
    intro i acc hm hz
    unfold lcN
    have e : xs[i]? = none := List.getElem?_eq_none_iff.mpr (by omega)
    rw [hn i, e, List.drop_eq_nil_of_le (by omega)]
    simp
  | succ m ih =>
    intro i acc hm hz
    unfold lcN
    rw [hn i]
    cases e : xs[i]? with
    | none =>
      have hi := List.getElem?_eq_none_iff.mp e
      rw [List.drop_eq_nil_of_le hi]
      simp
    | some d =>
      obtain ⟨hi, hd⟩ := List.getElem?_eq_some_iff.mp e
      obtain ⟨r2, h1, r3, h2, h3, h4⟩ := ht d (List.mem_of_getElem? e)
      have ed : xs.drop i = d :: xs.drop (i + 1) := by rw [← hd]; exact (List.drop_eq_getElem_cons hi)
      simp only [Option.map_some, hW, h1, h2]
      cases ec : c d with
      | false =>
        simp only [h3]
        rw [ih (i + 1) acc (by omega) (by omega), ed, List.filter_cons_of_neg (by simp [ec])]
      | true =>
        obtain ⟨r4, h5, h6⟩ := h4 ec
        simp only [h5, h6]
        rw [if_pos (by omega), ih (i + 1) (acc ++ [y d]) (by omega) (by simp; omega), ed, List.filter_cons_of_pos (by simp [ec])]
        simp
theorem lcE_eq {β : Type} {it : M Src} {s : Src} {tg : PyData → En → Option En} {T : List Nat} {tt : M Bool} {f : M Rv} {r r1 W : En} (hit : it r = .ok s r1) (hc : calm r1 T = true) (hw : wipeV r1 T = W) (hW : wipeV W T = W) (xs : List β) (D : β → PyData) (hn : ∀ i : Nat, s.nth W i = some (xs[i]?.map D)) (hf : xs.length ≤ s.fuel) (hz : xs.length ≤ sizeLine) (c : β → Bool) (y : β → PyData)
    (ht : ∀ d ∈ xs, ∃ r2, tg (D d) W = some r2 ∧ ∃ r3, tt r2 = .ok (c d) r3 ∧ wipeV r3 T = W ∧ (c d = true → ∃ r4, M.bnd f frz r3 = .ok (y d) r4 ∧ wipeV r4 T = W)) :
    lcE it tg T tt f r = .ok (.own (.lst ((xs.filter c).map y))) (restV r1 W T) := by
  refine (bnd_ok hit).trans ?_
  have e := lcN_eq hW xs D hn c y ht s.fuel 0 [] (by omega) (by simpa using hz)
  simp only [hc, if_true, hw, e]
  simp
/-! a list that a name holds: frozen, or the caller's -/
def cell (b : Bool) (ds : List PyData) : Sl := if b then .bor 0 else .val (.list ds)
def oss (b : Bool) (ds : List PyData) : List Bo := if b then [.live (.lst ds)] else []
def loc (b : Bool) (ds : List PyData) : Rv := if b then .at (.obj 0) else .val (.list ds)
def agB (b : Bool) (ds : List PyData) : Ag := if b then .ref (.lst ds) else .val (.list ds)
@[simp] theorem nm_cell {b : Bool} {ds : List PyData} {vs : List (Option Sl)} {os : List Bo} : nmE 0 ⟨some (cell b ds) :: vs, os⟩ = .ok (loc b ds) ⟨some (cell b ds) :: vs, os⟩ := by cases b <;> rfl
@[simp] theorem peek_loc {b : Bool} {ds : List PyData} {vs : List (Option Sl)} : peek ⟨vs, oss b ds⟩ (loc b ds) = some (.list ds) := by cases b <;> rfl
@[simp] theorem entry_cell {b : Bool} {ds : List PyData} {as : List PyData} {n : Nat} : entry n (agB b ds :: as.map .val) = ⟨some (cell b ds) :: (as.map fun d => some (.val d)) ++ List.replicate (n - (as.length + 1)) none, oss b ds⟩ := by
  have h : ∀ (as : List PyData) (k : Nat), entVs (as.map .val) k = as.map fun d => some (.val d) := fun as => by
    induction as with
    | nil => intro k; rfl
    | cons a as ih => intro k; simp [entVs, ih k]
  have h2 : ∀ as : List PyData, entOs (as.map .val) = [] := fun as => by
    induction as with
    | nil => rfl
    | cons a as ih => simpa [entOs] using ih
  cases b <;> simp [entry, agB, cell, oss, entVs, entOs, h, h2]
/-! comprehensions over range(n), and over the items of a list -/
theorem rng_run {e : M Rv} {n : Nat} {r : En} (he : e r = .ok (.val (.int n)) r) (hn : n ≤ 16777216) : rng1 e r = .ok ⟨rngNth 0 n, n⟩ r := by
  refine (bnd_ok he).trans ?_
  show (if -(2 ^ 62) ≤ (n : Int) ∧ (n : Int) < 2 ^ 62 then (Res.ok (⟨rngNth 0 (n : Int).toNat, (n : Int).toNat⟩ : Src) r : Res Src) else .no) = _
  rw [if_pos ⟨by omega, by omega⟩, Int.toNat_natCast]
theorem lcE_rng {e : M Rv} {tg : PyData → En → Option En} {T : List Nat} {tt : M Bool} {f : M Rv} {n : Nat} {r W : En} (he : e r = .ok (.val (.int n)) r) (hn : n ≤ 16777216) (hc : calm r T = true) (hw : wipeV r T = W) (hW : wipeV W T = W) (hr : restV r W T = r) (p : Nat → Bool) (q : Nat → PyData)
    (ht : ∀ i : Nat, i < n → ∃ r2, tg (.int i) W = some r2 ∧ ∃ r3, tt r2 = .ok (p i) r3 ∧ wipeV r3 T = W ∧ (p i = true → ∃ r4, M.bnd f frz r3 = .ok (q i) r4 ∧ wipeV r4 T = W)) :
    lcE (rng1 e) tg T tt f r = .ok (.own (.lst (((List.range n).filter p).map q))) r := by
  have h := lcE_eq (tg := tg) (tt := tt) (f := f) (rng_run he hn) hc hw hW (List.range n) (fun (i : Nat) => PyData.int (i : Int)) (fun i => by
    show rngNth 0 n W i = _
    unfold rngNth
    by_cases h : i < n
    · rw [if_pos h]; simp [h]
    · rw [if_neg h]; simp [h]) (by simp) (by simp [sizeLine]; omega) p q (fun i hi => ht i (List.mem_range.mp hi))
  rw [h, hr]
theorem seq_run {e : M Rv} {x : Rv} {ds : List PyData} {r r1 r2 : En} {y : Rv} (he : e r = .ok x r1) (hh : hold x r1 = .ok y r2) (hp : peek r2 y = some (.list ds)) : seqI e r = .ok ⟨lstNth y, ds.length⟩ r2 := by
  refine (bnd_ok he).trans ((bnd_ok hh).trans ?_)
  simp only [hp]
theorem lcE_seq {β : Type} {e : M Rv} {tg : PyData → En → Option En} {T : List Nat} {tt : M Bool} {f : M Rv} (xs : List β) (D : β → PyData) {x y : Rv} {r r1 r2 W : En} (he : e r = .ok x r1) (hh : hold x r1 = .ok y r2) (hp : peek r2 y = some (.list (xs.map D))) (hpW : peek W y = some (.list (xs.map D))) (hz : xs.length ≤ sizeLine)
    (hc : calm r2 T = true) (hw : wipeV r2 T = W) (hW : wipeV W T = W) (hr : restV r2 W T = r2) (c : β → Bool) (q : β → PyData)
    (ht : ∀ d ∈ xs, ∃ r2, tg (D d) W = some r2 ∧ ∃ r3, tt r2 = .ok (c d) r3 ∧ wipeV r3 T = W ∧ (c d = true → ∃ r4, M.bnd f frz r3 = .ok (q d) r4 ∧ wipeV r4 T = W)) :
    lcE (seqI e) tg T tt f r = .ok (.own (.lst ((xs.filter c).map q))) r2 := by
  have h := lcE_eq (tg := tg) (tt := tt) (f := f) (seq_run he hh hp) hc hw hW xs D (fun i => by
    show lstNth y W i = _
    unfold lstNth
    rw [hpW]
    simp) (by simp) hz c q ht
  rw [h, hr]
theorem zip_run {e h : M Rv} {x x1 y y1 : Rv} {ds es : List PyData} {r : En} (h1 : e r = .ok x r) (h2 : hold x r = .ok x1 r) (h3 : h r = .ok y r) (h4 : hold y r = .ok y1 r) (p1 : peek r x1 = some (.list ds)) (p2 : peek r y1 = some (.list es)) : zipI e h r = .ok ⟨zipNth x1 y1, min ds.length es.length⟩ r := by
  refine (bnd_ok h1).trans ((bnd_ok h2).trans ((bnd_ok h3).trans ((bnd_ok h4).trans ?_)))
  simp only [p1, p2]
theorem lcE_zip {β γ : Type} {e h : M Rv} {tg : PyData → En → Option En} {T : List Nat} {tt : M Bool} {f : M Rv} (xs : List β) (ys : List γ) (D : β → PyData) (E : γ → PyData) {x x1 y y1 : Rv} {r W : En} (h1 : e r = .ok x r) (h2 : hold x r = .ok x1 r) (h3 : h r = .ok y r) (h4 : hold y r = .ok y1 r)
    (p1 : peek r x1 = some (.list (xs.map D))) (p2 : peek r y1 = some (.list (ys.map E))) (q1 : peek W x1 = some (.list (xs.map D))) (q2 : peek W y1 = some (.list (ys.map E))) (hz : xs.length ≤ sizeLine)
    (hc : calm r T = true) (hw : wipeV r T = W) (hW : wipeV W T = W) (hr : restV r W T = r) (c : β × γ → Bool) (q : β × γ → PyData)
    (ht : ∀ d ∈ xs.zip ys, ∃ r2, tg (.tuple [D d.1, E d.2]) W = some r2 ∧ ∃ r3, tt r2 = .ok (c d) r3 ∧ wipeV r3 T = W ∧ (c d = true → ∃ r4, M.bnd f frz r3 = .ok (q d) r4 ∧ wipeV r4 T = W)) :
    lcE (zipI e h) tg T tt f r = .ok (.own (.lst (((xs.zip ys).filter c).map q))) r := by
  have h := lcE_eq (tg := tg) (tt := tt) (f := f) (zip_run h1 h2 h3 h4 p1 p2) hc hw hW (xs.zip ys) (fun d => .tuple [D d.1, E d.2]) (fun i => by
    show zipNth x1 y1 W i = _
    unfold zipNth
    rw [q1, q2]
    simp only [List.getElem?_map, List.getElem?_zip_eq_some, List.zip]
    cases e1 : xs[i]? with
    | none => simp [List.getElem?_zipWith, e1]
    | some a => cases e2 : ys[i]? with
      | none => simp [List.getElem?_zipWith, e1, e2]
      | some b => simp [List.getElem?_zipWith, e1, e2]) (by simp) (by simp; omega) c q ht
  rw [h, hr]
/-! ends of tables -/
abbrev EndS := Option Str
def eD : EndS → PyData
  | none => .none
  | some x => .str x
def tD (t : List EndS) : List PyData := t.map eD
@[simp] theorem tD_len {t : List EndS} : (tD t).length = t.length := by simp [tD]
theorem tD_get {t : List EndS} {i : Nat} {e : EndS} (h : t[i]? = some e) : (tD t)[i]? = some (eD e) := by unfold tD; rw [List.getElem?_map, h]; rfl
theorem eD_flat (a b : EndS) : flatEq (eD a) (eD b) = true := by cases a <;> cases b <;> rfl
theorem eD_eqv (a b : EndS) : PyData.eqv (eD a) (eD b) = decide (a = b) := by
  cases a with
  | none => cases b with
    | none => simp [eD, PyData.eqv]
    | some y => simp [eD, PyData.eqv]
  | some x => cases b with
    | none => simp [eD, PyData.eqv]
    | some y => simp only [eD, PyData.eqv]; rw [Bool.eq_iff_iff]; simp
@[simp] theorem ne_eD (a b : EndS) : gNe (eD a) (eD b) = some (vB (!decide (a = b))) := by unfold gNe eqOk; rw [eD_flat, eD_eqv]; rfl
@[simp] theorem eq_eD (a b : EndS) : gEq (eD a) (eD b) = some (vB (decide (a = b))) := by unfold gEq eqOk; rw [eD_flat, eD_eqv]; rfl
theorem ix_tD {t : List EndS} {i : Nat} {e : EndS} (h : t[i]? = some e) : gIx (.list (tD t)) (.int (i : Int)) = some (.val (eD e)) := by
  unfold gIx
  simp only [L2.atI_nat (tD_get h)]
  rfl
/-- the end at a number -/
def at' (t : List EndS) (n : Nat) : EndS := (t[n]?).getD none
theorem ix_at {t : List EndS} (ht : t.length = 10) {i : Nat} (hi : i < 10) : gIx (.list (tD t)) (.int (i : Int)) = some (.val (eD (at' t i))) := by
  have : t[i]? = some t[i] := List.getElem?_eq_getElem (by omega)
  rw [ix_tD this]
  unfold at'
  rw [this]
  rfl
def ints' (ns : List Nat) : List PyData := ns.map fun (i : Nat) => PyData.int (i : Int)
theorem ix_ints {ns : List Nat} {i n : Nat} (h : ns[i]? = some n) : gIx (.list (ints' ns)) (.int (i : Int)) = some (.val (.int (n : Int))) := by
  unfold gIx
  have : (ints' ns)[i]? = some (.int (n : Int)) := by unfold ints'; rw [List.getElem?_map, h]; rfl
  simp only [L2.atI_nat this]
  rfl
theorem eq_int (i j : Int) : gEq (.int i) (.int j) = some (vB (decide (i = j))) := by
  unfold gEq eqOk
  have : PyData.eqv (.int i) (.int j) = decide (i = j) := by simp only [PyData.eqv]; rw [Bool.eq_iff_iff]; simp
  rw [this]
  rfl
theorem ne_int (i j : Int) : gNe (.int i) (.int j) = some (vB (!decide (i = j))) := by
  unfold gNe eqOk
  have : PyData.eqv (.int i) (.int j) = decide (i = j) := by simp only [PyData.eqv]; rw [Bool.eq_iff_iff]; simp
  rw [this]
  rfl
/-! pure expressions -/
def Pv (f : M Rv) (r : En) (d : PyData) : Prop := ∃ x, f r = .ok x r ∧ peek r x = some d
theorem Pv.of {f : M Rv} {r : En} {d : PyData} {x : Rv} (h : f r = .ok x r) (h2 : peek r x = some d) : Pv f r d := ⟨x, h, h2⟩
theorem Pv.nm {i : Nat} {r : En} {d : PyData} (h : r.vs[i]? = some (some (.val d))) : Pv (nmE i) r d := ⟨.val d, by unfold nmE; rw [h], rfl⟩
theorem Pv.k {r : En} {d : PyData} : Pv (kE d) r d := ⟨.val d, rfl, rfl⟩
theorem bin_eq {g : PyData → PyData → Option Rv} {f h : M Rv} {r : En} {a b : PyData} {z : Rv} (h1 : Pv f r a) (h2 : Pv h r b) (e : g a b = some z) : binE g f h r = .ok z r := by
  obtain ⟨x, e1, p1⟩ := h1
  obtain ⟨y, e2, p2⟩ := h2
  refine (bnd_ok e1).trans ((bnd_ok e2).trans ?_)
  unfold op2
  rw [p1, p2]
  simp only [e]
theorem un_eq {g : PyData → Option Rv} {f : M Rv} {r : En} {a : PyData} {z : Rv} (h1 : Pv f r a) (e : g a = some z) : unE g f r = .ok z r := by
  obtain ⟨x, e1, p1⟩ := h1
  refine (bnd_ok e1).trans ?_
  unfold op1
  rw [p1]
  simp only [e]
theorem Pv.bin {g : PyData → PyData → Option Rv} {f h : M Rv} {r : En} {a b d : PyData} {z : Rv} (h1 : Pv f r a) (h2 : Pv h r b) (e : g a b = some z) (p : peek r z = some d) : Pv (binE g f h) r d := ⟨z, bin_eq h1 h2 e, p⟩
theorem Pv.un {g : PyData → Option Rv} {f : M Rv} {r : En} {a d : PyData} {z : Rv} (h1 : Pv f r a) (e : g a = some z) (p : peek r z = some d) : Pv (unE g f) r d := ⟨z, un_eq h1 e, p⟩
def Pt (t : M Bool) (r : En) (b : Bool) : Prop := t r = .ok b r
theorem Pt.tst {f : M Rv} {r : En} {b : Bool} (h : Pv f r (.bool b)) : Pt (tstB f) r b := by
  obtain ⟨x, e1, p1⟩ := h
  refine (bnd_ok e1).trans ?_
  unfold Mi.tst
  rw [p1]
  rfl
theorem Pt.and {f g : M Bool} {r : En} {a b : Bool} (h1 : Pt f r a) (h2 : a = true → Pt g r b) : Pt (andB f g) r (a && b) := by
  refine (bnd_ok h1).trans ?_
  cases a with
  | false => rfl
  | true => exact h2 rfl
theorem Pt.or {f g : M Bool} {r : En} {a b : Bool} (h1 : Pt f r a) (h2 : a = false → Pt g r b) : Pt (orB f g) r (a || b) := by
  refine (bnd_ok h1).trans ?_
  cases a with
  | true => rfl
  | false => exact h2 rfl
theorem Pt.not {f : M Bool} {r : En} {a : Bool} (h1 : Pt f r a) : Pt (notB f) r (!a) := bnd_ok h1
theorem ret_ok {f : M Rv} {r r1 : En} {x : Rv} (h : f r = .ok x r1) : retS f r = .rt x r1 := ofM_ok h
theorem seq_ok' {f g : Stm} {r r1 : En} (h : f r = .nx r1) : seqS f g r = g r1 := by unfold seqS; rw [h]
theorem if_ok {t : M Bool} {f g : Stm} {r : En} {b : Bool} (h : Pt t r b) : ifS t f g r = if b = true then f r else g r := by
  refine (ofM_ok h).trans ?_
  cases b <;> rfl
theorem nm_frz {i : Nat} {r : En} {d : PyData} (h : r.vs[i]? = some (some (.val d))) : M.bnd (nmE i) frz r = .ok d r := bnd_ok (show nmE i r = .ok (.val d) r by unfold nmE; rw [h])
theorem own_frz {f : M Rv} {r r1 : En} {ds : List PyData} (h : f r = .ok (.own (.lst ds)) r1) : M.bnd f frz r = .ok (.list ds) r1 := bnd_ok h
theorem val_frz {f : M Rv} {r r1 : En} {d : PyData} (h : f r = .ok (.val d) r1) : M.bnd f frz r = .ok d r1 := bnd_ok h
/-! calls that change nothing -/
theorem set_self {β : Type} : ∀ {l : List β} {i : Nat} {x : β}, l[i]? = some x → l.set i x = l
  | [], i, x, h => by simp at h
  | a :: l, 0, x, h => by simp at h; subst h; rfl
  | a :: l, i + 1, x, h => by simp at h; simp [set_self h]
theorem setLo_same {r : En} {l : Lo} {o : Ob} (h : look r l = some (.live o)) : setLo r l (.live o) = r := by
  cases l with
  | slot i => show ({ r with vs := r.vs.set i (some (.own o)) } : En) = r; rw [set_self (look_slot h)]
  | obj k => show ({ r with os := r.os.set k (.live o) } : En) = r; rw [set_self h]
theorem agsOf_vals {r : En} : ∀ es : List PyData, agsOf r (es.map .val) = some (es.map .val, [])
  | [] => rfl
  | e :: es => by
    show (match agOf r (.val e), agsOf r (es.map .val) with
      | some (a, some l), some (as, ls) => some (a :: as, l :: ls)
      | some (a, none), some (as, ls) => some (a :: as, ls)
      | _, _ => none) = _
    rw [agsOf_vals es]
    rfl
/-- an expression that gives a list, frozen or held -/
def Pa (f : M Rv) (r : En) (ds : List PyData) : Prop := ∃ x, f r = .ok x r ∧ (x = .val (.list ds) ∨ ∃ l, x = .at l ∧ look r l = some (.live (.lst ds)))
theorem callB {G : List Ag → FR} {f : M Rv} {g : M (List Rv)} {r : En} {ds es : List PyData} {res : Rv} (h1 : Pa f r ds) (h2 : g r = .ok (es.map .val) r) (hG : ∀ b, G (agB b ds :: es.map .val) = .ret res (oss b ds)) : callE G (consR f g) r = .ok res r := by
  obtain ⟨x, e1, hx⟩ := h1
  refine (bnd_ok (show consR f g r = .ok (x :: es.map .val) r from (bnd_ok e1).trans (bnd_ok h2))).trans ?_
  unfold callF
  rcases hx with rfl | ⟨l, rfl, hl⟩
  · have e : agsOf r (.val (.list ds) :: es.map .val) = some (agB false ds :: es.map .val, []) := agsOf_vals (.list ds :: es)
    rw [e]
    simp only [noDup, if_true, hG false]
    rfl
  · have e : agsOf r (.at l :: es.map .val) = some (agB true ds :: es.map .val, [l]) := by
      show (match agOf r (.at l), agsOf r (es.map .val) with
        | some (a, some l), some (as, ls) => some (a :: as, l :: ls)
        | some (a, none), some (as, ls) => some (a :: as, ls)
        | _, _ => none) = _
      rw [agsOf_vals es]
      have e2 : agOf r (.at l) = some (.ref (.lst ds), some l) := by unfold agOf; simp only [hl]
      rw [e2]
      rfl
    rw [e]
    simp only [noDup, List.contains_nil, Bool.not_false, Bool.and_self, if_true, hG true]
    have e3 : back [l] (oss true ds) r = r := by
      show setLo r l (.live (.lst ds)) = r
      exact setLo_same hl
    rw [e3]
    rfl
theorem callV {G : List Ag → FR} {g : M (List Rv)} {r : En} {es : List PyData} {res : Rv} (h2 : g r = .ok (es.map .val) r) (hG : G (es.map .val) = .ret res []) : callE G g r = .ok res r := by
  refine (bnd_ok h2).trans ?_
  unfold callF
  rw [agsOf_vals es]
  simp only [noDup, if_true, hG]
  rfl
theorem callO {G : List Ag → FR} {f : M Rv} {g : M (List Rv)} {r : En} {o : Ob} {l : Lo} {es : List PyData} {res : Rv} (h1 : f r = .ok (.at l) r) (hl : look r l = some (.live o)) (h2 : g r = .ok (es.map .val) r) (hG : G (.ref o :: es.map .val) = .ret res [.live o]) : callE G (consR f g) r = .ok res r := by
  refine (bnd_ok (show consR f g r = .ok (.at l :: es.map .val) r from (bnd_ok h1).trans (bnd_ok h2))).trans ?_
  unfold callF
  have e : agsOf r (.at l :: es.map .val) = some (.ref o :: es.map .val, [l]) := by
    show (match agOf r (.at l), agsOf r (es.map .val) with
      | some (a, some l), some (as, ls) => some (a :: as, l :: ls)
      | some (a, none), some (as, ls) => some (a :: as, ls)
      | _, _ => none) = _
    rw [agsOf_vals es]
    have e2 : agOf r (.at l) = some (.ref o, some l) := by unfold agOf; simp only [hl]
    rw [e2]
  rw [e]
  simp only [noDup, List.contains_nil, Bool.not_false, Bool.and_self, if_true, hG]
  have e3 : back [l] [.live o] r = r := by
    show setLo r l (.live o) = r
    exact setLo_same hl
  rw [e3]
  rfl
theorem pa_cell {b : Bool} {ds : List PyData} {vs : List (Option Sl)} : Pa (nmE 0) ⟨some (cell b ds) :: vs, oss b ds⟩ ds := ⟨loc b ds, nm_cell, by cases b; exact .inl rfl; exact .inr ⟨_, rfl, rfl⟩⟩
theorem pa_own {i : Nat} {r : En} {ds : List PyData} (h : r.vs[i]? = some (some (.own (.lst ds)))) : Pa (nmE i) r ds := ⟨.at (.slot i), by unfold nmE; rw [h], .inr ⟨_, rfl, by unfold look; simp only [h]⟩⟩
theorem pa_val {i : Nat} {r : En} {ds : List PyData} (h : r.vs[i]? = some (some (.val (.list ds)))) : Pa (nmE i) r ds := ⟨.val (.list ds), by unfold nmE; rw [h], .inl rfl⟩
theorem Pa.pv {f : M Rv} {r : En} {ds : List PyData} (h : Pa f r ds) : Pv f r (.list ds) := by
  obtain ⟨x, e, hx⟩ := h
  refine ⟨x, e, ?_⟩
  rcases hx with rfl | ⟨l, rfl, hl⟩
  · rfl
  · unfold peek content; simp only [hl]; rfl
@[simp] theorem hold_loc {b : Bool} {ds : List PyData} {r : En} : hold (loc b ds) r = .ok (loc b ds) r := by cases b <;> rfl
theorem met_eq {g : PyData → List PyData → Option Rv} {f : M Rv} {a : M (List PyData)} {r : En} {ds as : List PyData} {z : Rv} (h1 : Pv f r (.list ds)) (h2 : a r = .ok as r) (e : g (.list ds) as = some z) : metE g f a r = .ok z r := by
  obtain ⟨x, e1, p1⟩ := h1
  have e3 : isLst x r = .ok x r := by unfold isLst; rw [p1]
  refine (bnd_ok e1).trans ((bnd_ok e3).trans ((bnd_ok h2).trans ?_))
  simp only [p1, e]
theorem Pt.of {t : M Bool} {r : En} {b : Bool} (h : t r = .ok b r) : Pt t r b := h
theorem or_eq {f g : M Rv} {r : En} {a b : Bool} (h1 : Pv f r (.bool a)) (h2 : a = false → g r = .ok (.val (.bool b)) r) : orE f g r = .ok (.val (.bool (a || b))) r := by
  refine (bnd_ok (Pt.tst h1)).trans ?_
  cases a with
  | true => rfl
  | false => exact h2 rfl
theorem and_eq {f g : M Rv} {r : En} {a b : Bool} (h1 : Pv f r (.bool a)) (h2 : a = true → g r = .ok (.val (.bool b)) r) : andE f g r = .ok (.val (.bool (a && b))) r := by
  refine (bnd_ok (Pt.tst h1)).trans ?_
  cases a with
  | false => rfl
  | true => exact h2 rfl
theorem set_own {i : Nat} {f : M Rv} {r r1 : En} {o : Ob} (h : f r = .ok (.own o) r1) : setS i f r = .nx (Mi.put r1 i (.own o)) := ofM_ok h
theorem set_val {i : Nat} {f : M Rv} {r r1 : En} {d : PyData} (h : f r = .ok (.val d) r1) : setS i f r = .nx (Mi.put r1 i (.val d)) := ofM_ok h
theorem any_bools (bs : List Bool) : gAny (.list (bs.map .bool)) = some (vB (bs.any id)) := by
  have e : ∀ bs : List Bool, boolsOf (bs.map .bool) = some bs := fun bs => by
    induction bs with
    | nil => rfl
    | cons b bs ih => simp [boolsOf, ih]
  unfold gAny
  simp only [e bs]
  rfl
theorem all_bools (bs : List Bool) : gAll (.list (bs.map .bool)) = some (vB (bs.all id)) := by
  have e : ∀ bs : List Bool, boolsOf (bs.map .bool) = some bs := fun bs => by
    induction bs with
    | nil => rfl
    | cons b bs ih => simp [boolsOf, ih]
  unfold gAll
  simp only [e bs]
  rfl
theorem cnt_tD (t : List EndS) (e : EndS) : gCnt (.list (tD t)) [eD e] = some (vI (t.count e : Nat)) := by
  have h1 : (tD t).all flatD = true := by
    unfold tD
    induction t with
    | nil => rfl
    | cons a t ih => simp only [List.map_cons, List.all_cons, ih, Bool.and_true]; cases a <;> rfl
  have h2 : flatD (eD e) = true := by cases e <;> rfl
  have h3 : (tD t).countP (fun z => PyData.eqv z (eD e)) = t.count e := by
    unfold tD
    rw [List.countP_map]
    unfold List.count
    congr 1
    funext a
    simp only [Function.comp, eD_eqv]
    rw [Bool.eq_iff_iff]
    simp
  unfold gCnt
  simp only [h1, h2, Bool.and_self, if_true, h3]
theorem isN_eD (e : EndS) : gIsN (eD e) .none = some (vB (decide (e = none))) := by cases e <;> rfl
theorem isntN_eD (e : EndS) : gIsntN (eD e) .none = some (vB (!decide (e = none))) := by cases e <;> rfl
theorem lst_eq {f : M (List PyData)} {r r1 : En} {ds : List PyData} (h : f r = .ok ds r1) (hz : ds.length ≤ sizeLine) : lstE f r = .ok (.own (.lst ds)) r1 := by
  refine (bnd_ok h).trans ?_
  simp only [hz, if_true]
theorem tup_eq {f : M (List PyData)} {r r1 : En} {ds : List PyData} (h : f r = .ok ds r1) (hz : ds.length ≤ sizeLine) : tupE f r = .ok (.val (.tuple ds)) r1 := by
  refine (bnd_ok h).trans ?_
  simp only [hz, if_true]
theorem ite_eq {t : M Bool} {f g : M Rv} {r : En} {b : Bool} (h : Pt t r b) : iteE t f g r = if b = true then f r else g r := by
  refine (bnd_ok h).trans ?_
  cases b <;> rfl
theorem if_go {t : M Bool} {f g : Stm} {r r1 : En} {b : Bool} (h : t r = .ok b r1) : ifS t f g r = if b = true then f r1 else g r1 := by
  refine (ofM_ok h).trans ?_
  cases b <;> rfl
theorem tst_go {f : M Rv} {r r1 : En} {x : Rv} {b : Bool} (h : f r = .ok x r1) (p : peek r1 x = some (.bool b)) : tstB f r = .ok b r1 := by
  refine (bnd_ok h).trans ?_
  unfold Mi.tst
  rw [p]
  rfl
theorem Pt.tstT {f : M Rv} {r : En} {b : Bool} (h : Pv f r (.bool b)) : Pt (Mi.tstT f) r b := by
  obtain ⟨x, e1, p1⟩ := h
  refine (bnd_ok e1).trans ?_
  unfold Mi.tst
  rw [p1]
  rfl
theorem Pv.own' {f : M Rv} {r : En} {ds : List PyData} (h : f r = .ok (.own (.lst ds)) r) : Pv f r (.list ds) := ⟨_, h, rfl⟩
theorem Pv.val {f : M Rv} {r : En} {d : PyData} (h : f r = .ok (.val d) r) : Pv f r d := ⟨_, h, rfl⟩
/-- if t: return ..; rest -/
theorem sif {t : M Bool} {f rest : Stm} {r r1 r2 : En} {b : Bool} {x : Rv} {o : Out} (h : t r = .ok b r1) (hf : f r1 = .rt x r2) (hg : rest r1 = o) : seqS (ifS t f nxS) rest r = if b = true then .rt x r2 else o := by
  have e := if_go (f := f) (g := nxS) h
  cases b with
  | true =>
    simp only [if_true] at e ⊢
    unfold seqS
    rw [e, hf]
  | false =>
    simp only [Bool.false_eq_true, if_false] at e ⊢
    unfold seqS
    rw [e]
    exact hg
theorem sto_eq {f g : M Rv} {j n : Nat} {r r1 : En} {d : PyData} {ds : List PyData} (h1 : f r = .ok (.val d) r1) (h2 : r1.vs[j]? = some (some (.own (.lst ds)))) (h3 : Pv g r1 (.int (n : Int))) (h4 : n < ds.length) : stoS f j g r = .nx (setLo r1 (.slot j) (.live (.lst (ds.set n d)))) := by
  obtain ⟨x, e3, p3⟩ := h3
  have e2 : nmE j r1 = .ok (.at (.slot j)) r1 := by unfold nmE; rw [h2]
  refine (ofM_ok h1).trans ((ofM_ok (show frz (.val d) r1 = .ok d r1 from rfl)).trans ((ofM_ok e2).trans ((ofM_ok e3).trans ?_)))
  have e4 : look r1 (.slot j) = some (.live (.lst ds)) := by unfold look; simp only [h2]
  have e5 : L2.ixN ds.length (n : Int) = some n := by unfold L2.ixN; simp [h4]
  unfold stoF
  simp only [e4, p3, e5]
theorem eq_str (x y : Str) : gEq (.str x) (.str y) = some (vB (decide (x = y))) := by
  have := eq_eD (some x) (some y)
  simpa [eD] using this
/-- a list that a name holds: its own, frozen, or the caller's -/
def cell3 (k : Option Bool) (ds : List PyData) : Sl := match k with
  | none => .own (.lst ds)
  | some b => cell b ds
def oss3 (k : Option Bool) (ds : List PyData) : List Bo := match k with
  | none => []
  | some b => oss b ds
def ag3 (k : Option Bool) (ds : List PyData) : Ag := match k with
  | none => .own (.lst ds)
  | some b => agB b ds
theorem pa_cell3 {k : Option Bool} {ds : List PyData} {vs : List (Option Sl)} : Pa (nmE 0) ⟨some (cell3 k ds) :: vs, oss3 k ds⟩ ds := by
  cases k with
  | none => exact ⟨.at (.slot 0), rfl, .inr ⟨_, rfl, rfl⟩⟩
  | some b => cases b; exact ⟨.val (.list ds), rfl, .inl rfl⟩; exact ⟨.at (.obj 0), rfl, .inr ⟨_, rfl, rfl⟩⟩
theorem entry_cell3 {k : Option Bool} {ds : List PyData} {as : List PyData} {n : Nat} : entry n (ag3 k ds :: as.map .val) = ⟨some (cell3 k ds) :: (as.map fun d => some (.val d)) ++ List.replicate (n - (as.length + 1)) none, oss3 k ds⟩ := by
  cases k with
  | some b => exact entry_cell
  | none =>
    have h := entry_cell (b := false) (ds := ds) (as := as) (n := n)
    have h1 : ∀ (as : List PyData) (k : Nat), entVs (as.map .val) k = as.map fun d => some (.val d) := fun as => by
      induction as with
      | nil => intro k; rfl
      | cons a as ih => intro k; simp [entVs, ih k]
    have h2 : ∀ as : List PyData, entOs (as.map .val) = [] := fun as => by
      induction as with
      | nil => rfl
      | cons a as ih => simpa [entOs] using ih
    simp [entry, ag3, cell3, oss3, entVs, entOs, h1, h2]
/-- tables of plain names -/
structure TabOk (t : List EndS) : Prop where
  len : t.length = 10
  str : ∀ x : Str, some x ∈ t → PyData.strOk x = true
theorem shaped_eD {e : EndS} (h : ∀ x : Str, e = some x → PyData.strOk x = true) : SeqAt.shaped (eD e) = true := by
  cases e with
  | none => rfl
  | some x =>
    have := h x rfl
    unfold SeqAt.shaped eD
    simp only [PyData.canLay0, PyData.depth, this]
    rfl
theorem shaped_tD {t : List EndS} (h : ∀ x : Str, some x ∈ t → PyData.strOk x = true) : SeqAt.shaped (.list (tD t)) = true := by
  have h1 : PyData.canLayAll0 (tD t) = true := by
    unfold tD
    induction t with
    | nil => rfl
    | cons e t ih =>
      have h2 := ih fun x hx => h x (List.mem_cons_of_mem _ hx)
      have h3 : PyData.canLay0 (eD e) = true := by
        cases e with
        | none => rfl
        | some x => simp only [eD, PyData.canLay0]; exact h x List.mem_cons_self
      simp only [List.map_cons, PyData.canLayAll0, h2, h3, Bool.and_self]
  have h2 : PyData.depthAll (tD t) = 0 := by
    clear h h1
    unfold tD
    induction t with
    | nil => rfl
    | cons e t ih => cases e <;> simp only [List.map_cons, PyData.depthAll, eD, PyData.depth, ih, Nat.max_self]
  unfold SeqAt.shaped
  simp only [PyData.canLay0, PyData.depth, h1, h2]
  rfl
theorem notIn_tD {t : List EndS} {e : EndS} (ht : ∀ x : Str, some x ∈ t → PyData.strOk x = true) (he : ∀ x : Str, e = some x → PyData.strOk x = true) : gNotIn (eD e) (.list (tD t)) = some (vB (!decide (e ∈ t))) := by
  have h1 : ((tD t).any fun z => PyData.eqv z (eD e)) = decide (e ∈ t) := by
    unfold tD
    rw [List.any_map, Bool.eq_iff_iff]
    simp only [List.any_eq_true, Function.comp, eD_eqv, decide_eq_true_eq]
    exact ⟨fun ⟨x, hx, h⟩ => h ▸ hx, fun h => ⟨e, h, rfl⟩⟩
  have h2 : gInB (eD e) (.list (tD t)) = if (SeqAt.shaped (eD e) && SeqAt.shaped (.list (tD t))) = true then some ((tD t).any fun z => PyData.eqv z (eD e)) else none := by
    unfold gInB
    split
    · rename_i h; cases h
    · rename_i h; cases h; rfl
    · rename_i h; cases h
    · simp_all
  unfold gNotIn
  rw [h2, shaped_eD he, shaped_tD ht, h1]
  rfl
theorem un_go {g : PyData → Option Rv} {f : M Rv} {r r1 : En} {a : PyData} {x z : Rv} (h1 : f r = .ok x r1) (p1 : peek r1 x = some a) (e : g a = some z) : unE g f r = .ok z r1 := by
  refine (bnd_ok h1).trans ?_
  unfold op1
  rw [p1]
  simp only [e]
theorem bin_go {g : PyData → PyData → Option Rv} {f h : M Rv} {r r1 r2 : En} {a b : PyData} {x y z : Rv} (h1 : f r = .ok x r1) (h2 : h r1 = .ok y r2) (p1 : peek r2 x = some a) (p2 : peek r2 y = some b) (e : g a b = some z) : binE g f h r = .ok z r2 := by
  refine (bnd_ok h1).trans ((bnd_ok h2).trans ?_)
  unfold op2
  rw [p1, p2]
  simp only [e]
theorem ft {β : Type} (l : List β) : l.filter (fun _ => true) = l := List.filter_eq_self.mpr fun _ _ => rfl
theorem forN_inv {β : Type} {nth : En → Nat → Option (Option PyData)} {tg : PyData → En → Option En} {bd : Stm} (xs : List β) (D : β → PyData) (I : Nat → En → Prop) (hn : ∀ i r, I i r → nth r i = some (xs[i]?.map D))
    (step : ∀ (i : Nat) (r : En) (x : β), I i r → xs[i]? = some x → ∃ r1 r2, tg (D x) r = some r1 ∧ bd r1 = .nx r2 ∧ I (i + 1) r2) : ∀ (m i : Nat) (r : En), I i r → i ≤ xs.length → xs.length ≤ i + m → ∃ r', forN nth tg bd m i r = .nx r' ∧ I xs.length r' := by
  intro m
  induction m with
  | zero =>
    intro i r h h1 h2
    have e : i = xs.length := by omega
    subst e
    unfold forN
    rw [hn _ r h, List.getElem?_eq_none_iff.mpr (Nat.le_refl _)]
    exact ⟨r, rfl, h⟩
  | succ m ih =>
    intro i r h h1 h2
    unfold forN
    rw [hn _ r h]
    cases e : xs[i]? with
    | none =>
      have := List.getElem?_eq_none_iff.mp e
      have e2 : i = xs.length := by omega
      subst e2
      exact ⟨r, rfl, h⟩
    | some x =>
      obtain ⟨r1, r2, e1, e2, h3⟩ := step i r x h e
      have := (List.getElem?_eq_some_iff.mp e).1
      obtain ⟨r', e3, h4⟩ := ih (i + 1) r2 h3 (by omega) (by omega)
      refine ⟨r', ?_, h4⟩
      simp only [Option.map_some, e1, e2]
      exact e3
theorem for_seq {β : Type} {e : M Rv} {tg : PyData → En → Option En} {bd : Stm} (xs : List β) (D : β → PyData) {x y : Rv} {r r1 r2 : En} (he : e r = .ok x r1) (hh : hold x r1 = .ok y r2) (hp : peek r2 y = some (.list (xs.map D))) (I : Nat → En → Prop) (hI : I 0 r2) (hn : ∀ i r, I i r → peek r y = some (.list (xs.map D)))
    (step : ∀ (i : Nat) (r : En) (x : β), I i r → xs[i]? = some x → ∃ r1 r2, tg (D x) r = some r1 ∧ bd r1 = .nx r2 ∧ I (i + 1) r2) : ∃ r', forS (seqI e) tg bd r = .nx r' ∧ I xs.length r' := by
  obtain ⟨r', e1, h⟩ := forN_inv (nth := lstNth y) xs D I (fun i r h => by unfold lstNth; rw [hn i r h]; simp) step xs.length 0 r2 hI (Nat.zero_le _) (by omega)
  refine ⟨r', (ofM_ok (seq_run he hh hp)).trans ?_, h⟩
  simp only [List.length_map]
  exact e1
theorem for_rng {e : M Rv} {tg : PyData → En → Option En} {bd : Stm} {n : Nat} {r r1 : En} (he : e r = .ok (.val (.int n)) r1) (hn : n ≤ 16777216) (I : Nat → En → Prop) (hI : I 0 r1)
    (step : ∀ (i : Nat) (r : En), I i r → i < n → ∃ r1 r2, tg (.int (i : Int)) r = some r1 ∧ bd r1 = .nx r2 ∧ I (i + 1) r2) : ∃ r', forS (rng1 e) tg bd r = .nx r' ∧ I n r' := by
  obtain ⟨r', e1, h⟩ := forN_inv (nth := rngNth 0 n) (List.range n) (fun (i : Nat) => PyData.int (i : Int)) I (fun i r h => by
    unfold rngNth
    by_cases h : i < n
    · rw [if_pos h]; simp [h]
    · rw [if_neg h]; simp [h]) (fun i r x h hx => by
      have hi : i < n := by have := (List.getElem?_eq_some_iff.mp hx).1; simpa using this
      have : x = i := by have := (List.getElem?_eq_some_iff.mp hx).2; simpa using this.symm
      subst this
      exact step x r h hi) n 0 r1 hI (Nat.zero_le _) (by simp)
  rw [List.length_range] at h
  refine ⟨r', (ofM_ok (?_ : rng1 e r = .ok ⟨rngNth 0 n, n⟩ r1)).trans e1, h⟩
  refine (bnd_ok he).trans ?_
  show (if -(2 ^ 62) ≤ (n : Int) ∧ (n : Int) < 2 ^ 62 then (Res.ok (⟨rngNth 0 (n : Int).toNat, (n : Int).toNat⟩ : Src) r1 : Res Src) else .no) = _
  rw [if_pos ⟨by omega, by omega⟩, Int.toNat_natCast]
theorem run_eq {np n : Nat} {bd : Stm} {as : List Ag} {r : En} {o : Out} (h : as.length = np) (e : entry n as = r) (q : bd r = o) : runF np n bd as = finish o := by unfold runF; rw [if_pos h, e, q]
end Mi

/-! Sy2.lean -/
set_option Elab.async false
set_option linter.all false
set_option maxRecDepth 100000
namespace Lw
open PySem L2 Mi
theorem nmc {b : Bool} {ds : List PyData} {vs : List (Option Sl)} : Pv (nmE 0) ⟨some (cell b ds) :: vs, oss b ds⟩ (.list ds) := ⟨_, nm_cell, peek_loc⟩
def changedL (t g : List EndS) : List Nat := (List.range 10).filter fun i => !decide (at' t i = at' g i)
theorem run_changed (b : Bool) {t g : List EndS} (ht : t.length = 10) (hg : g.length = 10) : G_changed_numbers [agB b (tD t), .val (.list (tD g))] = .ret (.own (.lst (ints' (changedL t g)))) (oss b (tD t)) := by
  have e : entry 3 [agB b (tD t), .val (.list (tD g))] = ⟨[some (cell b (tD t)), some (.val (.list (tD g))), none], oss b (tD t)⟩ := entry_cell (as := [.list (tD g)])
  refine (run_eq rfl e (ret_ok (lcE_rng (n := 10) rfl (by decide) rfl rfl rfl rfl (fun i => !decide (at' t i = at' g i)) (fun (i : Nat) => .int (i : Int)) fun i hi => ?_))).trans ?_
  · exact ⟨_, rfl, _, Pt.tst (Pv.bin (Pv.bin nmc (Pv.nm rfl) (ix_at ht hi) rfl) (Pv.bin (Pv.nm rfl) (Pv.nm rfl) (ix_at hg hi) rfl) (ne_eD _ _) rfl), rfl, fun _ => ⟨_, nm_frz rfl, rfl⟩⟩
  · rfl
/-! has_unchanged_spare -/
def keptL (t g : List EndS) : List EndS := ((t.zip g).filter fun p => decide (p.1 = p.2)).map (·.1)
def spareB (t g : List EndS) : Bool := (keptL t g).any fun e => decide (e = none) || decide (1 < (keptL t g).count e)
theorem lst1 {f : M Rv} {r : En} {d : PyData} (h : M.bnd f frz r = .ok d r) : consL f nilL r = .ok [d] r := by
  unfold M.bnd at h
  cases e : f r with
  | no => rw [e] at h; cases h
  | ex z r1 => rw [e] at h; cases h
  | ok x r1 =>
    rw [e] at h
    exact (bnd_ok e).trans ((bnd_ok (show frz x r1 = .ok d r from h)).trans rfl)
theorem run_spare (b : Bool) {t g : List EndS} (ht : t.length = 10) (hg : g.length = 10) : G_has_unchanged_spare [agB b (tD t), .val (.list (tD g))] = .ret (.val (.bool (spareB t g))) (oss b (tD t)) := by
  have e : entry 5 [agB b (tD t), .val (.list (tD g))] = ⟨[some (cell b (tD t)), some (.val (.list (tD g))), none, none, none], oss b (tD t)⟩ := entry_cell (as := [.list (tD g)])
  let r1 : En := ⟨[some (cell b (tD t)), some (.val (.list (tD g))), some (.own (.lst (tD (keptL t g)))), none, none], oss b (tD t)⟩
  let r2 : En := ⟨[some (cell b (tD t)), some (.val (.list (tD g))), some (.val (.list (tD (keptL t g)))), none, none], oss b (tD t)⟩
  let r0 : En := ⟨[some (cell b (tD t)), some (.val (.list (tD g))), none, none, none], oss b (tD t)⟩
  have s1 : setS 2 (lcE (zipI (nmE 0) (nmE 1)) (tgTup [3, 4]) [3, 4] (tstB (binE gEq (nmE 3) (nmE 4))) (nmE 3)) r0 = .nx r1 := by
    refine (set_own (lcE_zip (e := nmE 0) (h := nmE 1) (r := r0) (W := r0) (T := [3, 4]) (x := loc b (tD t)) (y := .val (.list (tD g))) (y1 := .val (.list (tD g))) t g eD eD nm_cell hold_loc rfl rfl peek_loc rfl peek_loc rfl (by rw [ht]; decide) rfl rfl rfl rfl (fun p => decide (p.1 = p.2)) (fun p => eD p.1) fun p hp => ?_)).trans ?_
    · exact ⟨_, rfl, _, Pt.tst (Pv.bin (Pv.nm rfl) (Pv.nm rfl) (eq_eD p.1 p.2) rfl), rfl, fun _ => ⟨_, nm_frz rfl, rfl⟩⟩
    · have : List.map (fun p => eD p.1) (List.filter (fun p => decide (p.1 = p.2)) (t.zip g)) = tD (keptL t g) := by unfold tD keptL; rw [List.map_map]; rfl
      rw [this]
      rfl
  have hk : (keptL t g).length ≤ sizeLine := by
    have : (keptL t g).length ≤ t.length := by
      unfold keptL
      rw [List.length_map]
      refine Nat.le_trans (List.length_filter_le _ _) ?_
      rw [List.length_zip]; omega
    rw [ht] at this
    exact Nat.le_trans this (by decide)
  have s2 : lcE (seqI (nmE 2)) (fun d r => some (put r 3 (.val d))) [3] yesB (orE (binE gIsN (nmE 3) (kE .none)) (binE gGt (metE gCnt (nmE 2) (consL (nmE 3) nilL)) (kE (.int 1)))) r1 = .ok (.own (.lst (((keptL t g).map fun e => decide (e = none) || decide (1 < (keptL t g).count e)).map .bool))) r2 := by
    refine (lcE_seq (T := [3]) (keptL t g) eD (x := .at (.slot 2)) (y := .val (.list (tD (keptL t g)))) (r1 := r1) (r2 := r2) (W := r2) rfl rfl rfl rfl hk rfl rfl rfl rfl (fun _ => true) (fun e => .bool (decide (e = none) || decide (1 < (keptL t g).count e))) fun e he => ?_).trans ?_
    · refine ⟨_, rfl, _, rfl, rfl, fun _ => ⟨_, val_frz (or_eq (Pv.bin (Pv.nm rfl) Pv.k (isN_eD e) rfl) fun _ => ?_), rfl⟩⟩
      refine bin_eq (Pv.of (met_eq (Pv.nm rfl) (lst1 (nm_frz rfl)) (cnt_tD _ e)) rfl) Pv.k ?_
      show some (vB (decide ((1 : Int) < ((keptL t g).count e : Nat)))) = _
      simp [vB]
      omega
    · rw [ft, List.map_map]; rfl
  refine (run_eq rfl e ((seq_ok' s1).trans (ret_ok (un_go s2 rfl (any_bools _))))).trans ?_
  unfold spareB
  show FR.ret (vB _) _ = _
  rw [List.any_map]
  rfl
end Lw

/-! Sy3.lean -/
set_option Elab.async false
set_option linter.all false
set_option maxRecDepth 100000
namespace Lw
open PySem L2 Mi
def holdersL (t : List EndS) (e : EndS) : List Nat := (List.range 10).filter fun m => decide (at' t m = e)
def wantL (t g : List EndS) : List EndS := (changedL t g).map (at' g)
def linkC (t g : List EndS) (n : Nat) : Bool := !decide (at' g n = none) && (decide ((wantL t g).count (at' g n) = 1) && decide ((holdersL t (at' g n)).length = 1))
def linksL (t g : List EndS) (ns : List Nat) : List (Nat × Nat) := (ns.filter (linkC t g)).map fun n => (n, (holdersL t (at' g n)).headD 0)
def linkD (l : List (Nat × Nat)) : List (Key × PyData) := l.map fun p => (.inl (p.1 : Int), .int (p.2 : Int))
theorem changed_lt {t g : List EndS} {n : Nat} (h : n ∈ changedL t g) : n < 10 := List.mem_range.mp (List.mem_filter.mp h).1
theorem changed_nodup (t g : List EndS) : (changedL t g).Nodup := List.Nodup.sublist List.filter_sublist List.nodup_range
theorem links_snoc {t g : List EndS} (ns : List Nat) (n : Nat) : linksL t g (ns ++ [n]) = linksL t g ns ++ (if linkC t g n = true then [(n, (holdersL t (at' g n)).headD 0)] else []) := by
  unfold linksL
  rw [List.filter_append, List.map_append]
  congr 1
  cases h : linkC t g n <;> simp [h]
theorem put_link {l : List (Nat × Nat)} {n v : Nat} (h : ∀ p ∈ l, p.1 ≠ n) : putD (linkD l) (.inl (n : Int)) (.int (v : Int)) = linkD (l ++ [(n, v)]) := by
  unfold putD
  have : (linkD l).any (fun kv => decide (kv.1 = (Sum.inl (n : Int) : Key))) = false := by
    rw [List.any_eq_false]
    intro kv hk
    obtain ⟨p, hp, rfl⟩ := List.mem_map.mp hk
    have := h p hp
    simp
    omega
  rw [this]
  simp [linkD]
theorem len_ints {ns : List Nat} : gLen (.list (ints' ns)) = some (vI (ns.length : Int)) := by unfold gLen ints'; simp
def linkEnv (b : Bool) (t g : List EndS) (l : List (Nat × Nat)) (s3 s6 s7 : Option Sl) : En :=
  ⟨[some (cell b (tD t)), some (.val (.list (tD g))), some (.val (.list (ints' (changedL t g)))), s3, some (.own (.lst (tD (wantL t g)))), some (.own (.dct (linkD l))), s6, s7, none], oss b (tD t)⟩
theorem link_step (b : Bool) {t g : List EndS} (ht : t.length = 10) (hg : g.length = 10) {n : Nat} (hn : n < 10) (l : List (Nat × Nat)) (hl : ∀ p ∈ l, p.1 ≠ n) (hz : l.length < sizeLine) (s6 s7 : Option Sl) :
    (seqS (setS 6 (binE gIx (nmE 1) (nmE 3))) <| seqS (setS 7 (lcE (rng1 (kE (.int 10))) (fun d r => some (put r 8 (.val d))) [8] (tstB (binE gEq (binE gIx (nmE 0) (nmE 8)) (nmE 6))) (nmE 8))) <| ifS (andB (tstB (binE gIsntN (nmE 6) (kE .none))) (andB (tstB (binE gEq (metE gCnt (nmE 4) (consL (nmE 6) (nilL))) (kE (.int 1)))) (tstB (binE gEq (unE gLen (nmE 7)) (kE (.int 1)))))) (dstS (binE gIx (nmE 7) (kE (.int 0))) 5 (nmE 3)) (nxS))
      (linkEnv b t g l (some (.val (.int (n : Int)))) s6 s7) =
    .nx (linkEnv b t g (l ++ if linkC t g n = true then [(n, (holdersL t (at' g n)).headD 0)] else []) (some (.val (.int (n : Int)))) (some (.val (eD (at' g n)))) (some (.own (.lst (ints' (holdersL t (at' g n))))))) := by
  have s1 : setS 6 (binE gIx (nmE 1) (nmE 3)) (linkEnv b t g l (some (.val (.int (n : Int)))) s6 s7) = .nx (linkEnv b t g l (some (.val (.int (n : Int)))) (some (.val (eD (at' g n)))) s7) := set_val (bin_eq (Pv.nm rfl) (Pv.nm rfl) (ix_at hg hn))
  let r2 := linkEnv b t g l (some (.val (.int (n : Int)))) (some (.val (eD (at' g n)))) s7
  let r3 := linkEnv b t g l (some (.val (.int (n : Int)))) (some (.val (eD (at' g n)))) (some (.own (.lst (ints' (holdersL t (at' g n))))))
  have s2 : setS 7 (lcE (rng1 (kE (.int 10))) (fun d r => some (put r 8 (.val d))) [8] (tstB (binE gEq (binE gIx (nmE 0) (nmE 8)) (nmE 6))) (nmE 8)) r2 = .nx r3 := by
    refine (set_own (lcE_rng (n := 10) (r := r2) (W := r2) rfl (by decide) rfl rfl rfl rfl (fun m => decide (at' t m = at' g n)) (fun (i : Nat) => .int (i : Int)) fun i hi => ?_)).trans rfl
    exact ⟨_, rfl, _, Pt.tst (Pv.bin (Pv.bin nmc (Pv.nm rfl) (ix_at ht hi) rfl) (Pv.nm rfl) (eq_eD _ _) rfl), rfl, fun _ => ⟨_, nm_frz rfl, rfl⟩⟩
  have s3 : Pt (andB (tstB (binE gIsntN (nmE 6) (kE .none))) (andB (tstB (binE gEq (metE gCnt (nmE 4) (consL (nmE 6) (nilL))) (kE (.int 1)))) (tstB (binE gEq (unE gLen (nmE 7)) (kE (.int 1)))))) r3 (linkC t g n) := by
    refine Pt.and (Pt.tst (Pv.bin (Pv.nm rfl) Pv.k (isntN_eD _) rfl)) fun _ => Pt.and (Pt.tst (Pv.bin (Pv.of (met_eq (pa_own rfl).pv (lst1 (nm_frz rfl)) (cnt_tD _ _)) rfl) Pv.k (eq_int _ _) ?_)) fun _ => Pt.tst (Pv.bin (Pv.un (pa_own rfl).pv len_ints rfl) Pv.k (eq_int _ _) ?_)
    · show some (PyData.bool (decide ((((wantL t g).count (at' g n) : Nat) : Int) = 1))) = _
      congr 2
      rw [Bool.eq_iff_iff]; simp; omega
    · show some (PyData.bool (decide ((((holdersL t (at' g n)).length : Nat) : Int) = 1))) = _
      congr 2
      rw [Bool.eq_iff_iff]; simp; omega
  refine (seq_ok' s1).trans ((seq_ok' s2).trans ((if_ok s3).trans ?_))
  cases h : linkC t g n with
  | false =>
    simp only [Bool.false_eq_true, if_false, List.append_nil]
    rfl
  | true =>
    simp only [if_true]
    have hh : (holdersL t (at' g n)).length = 1 := by
      unfold linkC at h
      simp at h
      exact h.2.2
    obtain ⟨v, hv⟩ : ∃ v, holdersL t (at' g n) = [v] := List.length_eq_one_iff.mp hh
    have e1 : binE gIx (nmE 7) (kE (.int 0)) r3 = .ok (.val (.int (v : Int))) r3 := bin_eq (pa_own rfl).pv Pv.k (ix_ints (i := 0) (by rw [hv]; rfl))
    refine (ofM_ok e1).trans ((ofM_ok (show frz (.val (.int (v : Int))) r3 = .ok (.int (v : Int)) r3 from rfl)).trans ((ofM_ok (show nmE 5 r3 = .ok (.at (.slot 5)) r3 from rfl)).trans ((ofM_ok (show nmE 3 r3 = .ok (.val (.int (n : Int))) r3 from rfl)).trans ?_)))
    have e2 : dstF (.int (v : Int)) (.at (.slot 5)) (.val (.int (n : Int))) r3 = if (linkD l).length < sizeLine then .nx (setLo r3 (.slot 5) (.live (.dct (putD (linkD l) (.inl (n : Int)) (.int (v : Int)))))) else .no := rfl
    have hd : (holdersL t (at' g n)).headD 0 = v := by rw [hv]; rfl
    rw [e2, if_pos (by unfold linkD; simpa using hz), put_link hl, hd]
    rfl
theorem changed_len (t g : List EndS) : (changedL t g).length ≤ 10 := by
  unfold changedL
  exact Nat.le_trans (List.length_filter_le _ _) (by simp)
theorem links_len (t g : List EndS) (ns : List Nat) : (linksL t g ns).length ≤ ns.length := by
  unfold linksL
  rw [List.length_map]
  exact List.length_filter_le _ _
theorem run_links (b : Bool) {t g : List EndS} (ht : t.length = 10) (hg : g.length = 10) : G_ring_links [agB b (tD t), .val (.list (tD g))] = .ret (.own (.dct (linkD (linksL t g (changedL t g))))) (oss b (tD t)) := by
  have e : entry 9 [agB b (tD t), .val (.list (tD g))] = ⟨[some (cell b (tD t)), some (.val (.list (tD g))), none, none, none, none, none, none, none], oss b (tD t)⟩ := entry_cell (as := [.list (tD g)])
  let r0 : En := ⟨[some (cell b (tD t)), some (.val (.list (tD g))), none, none, none, none, none, none, none], oss b (tD t)⟩
  let r1 : En := ⟨[some (cell b (tD t)), some (.val (.list (tD g))), some (.own (.lst (ints' (changedL t g)))), none, none, none, none, none, none], oss b (tD t)⟩
  let r1' : En := ⟨[some (cell b (tD t)), some (.val (.list (tD g))), some (.val (.list (ints' (changedL t g)))), none, none, none, none, none, none], oss b (tD t)⟩
  let r2 : En := ⟨[some (cell b (tD t)), some (.val (.list (tD g))), some (.val (.list (ints' (changedL t g)))), none, some (.own (.lst (tD (wantL t g)))), none, none, none, none], oss b (tD t)⟩
  have s1 : setS 2 (callE G_changed_numbers (consR (nmE 0) (consR (nmE 1) (nilR)))) r0 = .nx r1 := (set_own (callB (r := r0) (g := consR (nmE 1) nilR) (es := [.list (tD g)]) pa_cell rfl fun b => run_changed b ht hg)).trans rfl
  have s2 : setS 4 (lcE (seqI (nmE 2)) (fun d r => some (put r 3 (.val d))) [3] (yesB) (binE gIx (nmE 1) (nmE 3))) r1 = .nx r2 := by
    refine (set_own ((lcE_seq (T := [3]) (changedL t g) (fun (i : Nat) => PyData.int (i : Int)) (x := .at (.slot 2)) (y := .val (.list (ints' (changedL t g)))) (r1 := r1) (r2 := r1') (W := r1') rfl rfl rfl rfl (Nat.le_trans (changed_len t g) (by decide)) rfl rfl rfl rfl (fun _ => true) (fun n => eD (at' g n)) fun n hn => ?_).trans ?_)).trans (rfl : Out.nx (put r1' 4 (.own (.lst (tD (wantL t g))))) = _)
    · exact ⟨_, rfl, _, rfl, rfl, fun _ => ⟨_, val_frz (bin_eq (Pv.nm rfl) (Pv.nm rfl) (ix_at hg (changed_lt hn))), rfl⟩⟩
    · rw [ft]
      unfold wantL tD
      rw [List.map_map]
      rfl
  have s3 : setS 5 dnewE r2 = .nx (linkEnv b t g [] none none none) := rfl
  obtain ⟨r', s4, q⟩ := for_seq (e := nmE 2) (tg := fun d r => some (put r 3 (.val d))) (bd := (seqS (setS 6 (binE gIx (nmE 1) (nmE 3))) <| seqS (setS 7 (lcE (rng1 (kE (.int 10))) (fun d r => some (put r 8 (.val d))) [8] (tstB (binE gEq (binE gIx (nmE 0) (nmE 8)) (nmE 6))) (nmE 8))) <| ifS (andB (tstB (binE gIsntN (nmE 6) (kE .none))) (andB (tstB (binE gEq (metE gCnt (nmE 4) (consL (nmE 6) (nilL))) (kE (.int 1)))) (tstB (binE gEq (unE gLen (nmE 7)) (kE (.int 1)))))) (dstS (binE gIx (nmE 7) (kE (.int 0))) 5 (nmE 3)) (nxS)))
    (changedL t g) (fun (i : Nat) => PyData.int (i : Int)) (x := .val (.list (ints' (changedL t g)))) (y := .val (.list (ints' (changedL t g)))) (r := linkEnv b t g [] none none none) (r1 := linkEnv b t g [] none none none) (r2 := linkEnv b t g [] none none none) rfl rfl rfl
    (fun i r => ∃ s3 s6 s7, r = linkEnv b t g (linksL t g ((changedL t g).take i)) s3 s6 s7) ⟨none, none, none, rfl⟩ (fun i r _ => rfl) (fun i r n ⟨s3, s6, s7, er⟩ hx => by
      subst er
      have hn := changed_lt (List.mem_of_getElem? hx)
      refine ⟨_, _, rfl, link_step b ht hg hn (linksL t g ((changedL t g).take i)) (fun p hp z => ?_) ?_ s6 s7, some (.val (.int (n : Int))), some (.val (eD (at' g n))), some (.own (.lst (ints' (holdersL t (at' g n))))), ?_⟩
      · unfold linksL at hp
        obtain ⟨m, hm, rfl⟩ := List.mem_map.mp hp
        have hm := (List.mem_filter.mp hm).1
        have z : m = n := z
        subst z
        have nd := changed_nodup t g
        have hi := (List.getElem?_eq_some_iff.mp hx)
        obtain ⟨hi, he⟩ := hi
        obtain ⟨j, hj, hjm⟩ := List.mem_iff_getElem.mp hm
        have hj' : j < i := by rw [List.length_take] at hj; omega
        rw [List.getElem_take] at hjm
        exact absurd (hjm.trans he.symm) ((List.pairwise_iff_getElem.mp nd) j i (by omega) hi hj')
      · have := links_len t g ((changedL t g).take i)
        have h2 := changed_len t g
        rw [List.length_take] at this
        exact Nat.lt_of_le_of_lt this (Nat.lt_of_le_of_lt (Nat.min_le_right _ _) (Nat.lt_of_le_of_lt h2 (by decide)))
      · rw [List.take_add_one, hx]
        rw [show (some n).toList = [n] from rfl, links_snoc])
  obtain ⟨s3', s6', s7', rfl⟩ := q
  rw [List.take_length] at s4
  refine (run_eq rfl e ((seq_ok' s1).trans ((seq_ok' s2).trans ((seq_ok' s3).trans ((seq_ok' s4).trans (ret_ok (show nmE 5 _ = .ok (.at (.slot 5)) _ from rfl))))))).trans ?_
  rfl
end Lw

/-! Sy4.lean -/
set_option Elab.async false
set_option linter.all false
set_option maxRecDepth 100000
namespace Lw
open PySem L2 Mi
/-- the number that a link leads to -/
def suc (l : List (Nat × Nat)) (n : Nat) : Option Nat := (l.find? fun p => decide (p.1 = n)).map (·.2)
def numD : Option Nat → PyData
  | none => .none
  | some n => .int (n : Int)
theorem val_link (l : List (Nat × Nat)) (n : Nat) : (valD (linkD l) (.inl (n : Int))).getD .none = numD (suc l n) := by
  unfold valD suc linkD
  induction l with
  | nil => rfl
  | cons p l ih =>
    by_cases h : p.1 = n
    · simp [List.find?_cons, h, numD]
    · have h2 : ¬ ((p.1 : Int) = (n : Int)) := by omega
      simp only [List.map_cons, List.find?_cons, h, decide_false, Sum.inl.injEq, h2]
      exact ih
def walkF (s : Nat → Option Nat) (a : Nat) : Nat → List Nat → Option Nat → List Nat × Option Nat
  | 0, ring, num => (ring, num)
  | m + 1, ring, none => (ring, none)
  | m + 1, ring, some n => if n = a then (ring, some n) else walkF s a m (ring ++ [n]) (s n)
def rfEnv (l : List (Nat × Nat)) (a : Nat) (ring : List Nat) (num : Option Nat) : En :=
  ⟨[some (.bor 0), some (.val (.int (a : Int))), some (.own (.lst (ints' ring))), some (.val (numD num))], [.live (.fdc (linkD l))]⟩
theorem get_eq {l : List (Nat × Nat)} {r : En} {i n : Nat} (h0 : r.vs[0]? = some (some (.bor 0))) (ho : r.os = [.live (.fdc (linkD l))]) (hi : r.vs[i]? = some (some (.val (.int (n : Int))))) : dgE (nmE 0) (nmE i) r = .ok (.val (numD (suc l n))) r := by
  have e0 : nmE 0 r = .ok (.at (.obj 0)) r := by unfold nmE; rw [h0]
  have e1 : dctOf r (.at (.obj 0)) = some (linkD l) := by unfold dctOf look; rw [ho]; rfl
  have e2 : nmE i r = .ok (.val (.int (n : Int))) r := by unfold nmE; rw [hi]
  refine (bnd_ok e0).trans ?_
  simp only [e1]
  refine (bnd_ok e2).trans ?_
  have e3 : (peek r (.val (.int (n : Int)))).bind keyOf = some (.inl (n : Int)) := rfl
  simp only [e1, e3, val_link]
theorem ring_cond (l : List (Nat × Nat)) (a : Nat) (ring : List Nat) (num : Option Nat) :
    Pt (andB (tstB (binE gIsntN (nmE 3) (kE .none))) (tstB (binE gNe (nmE 3) (nmE 1)))) (rfEnv l a ring num) (num.isSome && !decide (num = some a)) := by
  cases num with
  | none => exact Pt.and (a := false) (Pt.tst (Pv.bin (Pv.nm rfl) Pv.k (rfl : gIsntN .none .none = some (vB false)) rfl)) nofun
  | some n =>
    refine Pt.and (a := true) (Pt.tst (Pv.bin (Pv.nm rfl) Pv.k (rfl : gIsntN (.int (n : Int)) .none = some (vB true)) rfl)) fun _ => Pt.tst (Pv.bin (Pv.nm rfl) (Pv.nm rfl) (ne_int _ _) ?_)
    show some (PyData.bool (!decide ((n : Int) = (a : Int)))) = _
    congr 2
    simp
    omega
theorem ring_body (l : List (Nat × Nat)) (a : Nat) (ring : List Nat) (n : Nat) (hz : ring.length < sizeLine) :
    (seqS (dropS (mutE 2 uApp (consL (nmE 3) (nilL)))) <| setS 3 (dgE (nmE 0) (nmE 3))) (rfEnv l a ring (some n)) = .nx (rfEnv l a (ring ++ [n]) (suc l n)) := by
  have e1 : mutE 2 uApp (consL (nmE 3) (nilL)) (rfEnv l a ring (some n)) = .ok (.val .none) (rfEnv l a (ring ++ [n]) (some n)) := by
    refine (bnd_ok (show nmE 2 (rfEnv l a ring (some n)) = .ok (.at (.slot 2)) _ from rfl)).trans ((bnd_ok (show isLst (.at (.slot 2)) (rfEnv l a ring (some n)) = .ok (.at (.slot 2)) _ from rfl)).trans ((bnd_ok (lst1 (r := rfEnv l a ring (some n)) (nm_frz (i := 3) rfl))).trans ?_))
    show (match (if (ints' ring).length < sizeLine then some (ints' ring ++ [PyData.int (n : Int)], PyData.none) else none) with
      | some (ds', e) => (Res.ok (.val e) (setLo (rfEnv l a ring (some n)) (.slot 2) (.live (.lst ds'))) : Res Rv)
      | none => .no) = _
    rw [if_pos (by unfold ints'; simpa using hz)]
    have : ints' ring ++ [PyData.int (n : Int)] = ints' (ring ++ [n]) := by simp [ints']
    rw [this]
    rfl
  refine (seq_ok' (ofM_ok e1)).trans ((set_val (get_eq (n := n) rfl rfl rfl)).trans rfl)
theorem ring_loop (l : List (Nat × Nat)) (a : Nat) : ∀ (m M : Nat) (ring : List Nat) (num : Option Nat), m < M → ring.length + m < sizeLine → ((walkF (suc l) a m ring num).2 = none ∨ (walkF (suc l) a m ring num).2 = some a) →
    whlN (andB (tstB (binE gIsntN (nmE 3) (kE .none))) (tstB (binE gNe (nmE 3) (nmE 1)))) (seqS (dropS (mutE 2 uApp (consL (nmE 3) (nilL)))) <| setS 3 (dgE (nmE 0) (nmE 3))) M (rfEnv l a ring num) = .nx (rfEnv l a (walkF (suc l) a m ring num).1 (walkF (suc l) a m ring num).2)
  | m, 0, _, _, h, _, _ => absurd h (Nat.not_lt_zero _)
  | m, M + 1, ring, none, _, _, _ => by
    have e : walkF (suc l) a m ring none = (ring, none) := by cases m <;> rfl
    rw [e]
    unfold whlN
    rw [ring_cond l a ring none]
    rfl
  | 0, M + 1, ring, some n, _, _, d => by
    have d : (some n : Option Nat) = none ∨ some n = some a := d
    have e : n = a := d.elim nofun fun z => by cases z; rfl
    subst e
    unfold whlN
    rw [ring_cond l n ring (some n)]
    simp
    rfl
  | m + 1, M + 1, ring, some n, h, hz, d => by
    by_cases e : n = a
    · subst e
      have e : walkF (suc l) n (m + 1) ring (some n) = (ring, some n) := by unfold walkF; rw [if_pos rfl]
      rw [e]
      unfold whlN
      rw [ring_cond l n ring (some n)]
      simp
    · have e2 : walkF (suc l) a (m + 1) ring (some n) = walkF (suc l) a m (ring ++ [n]) (suc l n) := by rw [walkF, if_neg e]
      rw [e2] at d ⊢
      unfold whlN
      rw [ring_cond l a ring (some n)]
      have e3 : ((some n).isSome && !decide (some n = some a)) = true := by simp [e]
      rw [e3]
      simp only [ring_body l a ring n (by omega)]
      exact ring_loop l a m M (ring ++ [n]) (suc l n) (by omega) (by simp; omega) d
def ringL (l : List (Nat × Nat)) (m a : Nat) : List Nat := match (walkF (suc l) a m [a] (suc l a)).2 with
  | none => []
  | some _ => (walkF (suc l) a m [a] (suc l a)).1
def tupI (ns : List Nat) : PyData := .tuple (ints' ns)
theorem run_ring (l : List (Nat × Nat)) (a m : Nat) (hm : m < 1000) (d : (walkF (suc l) a m [a] (suc l a)).2 = none ∨ (walkF (suc l) a m [a] (suc l a)).2 = some a) :
    G_ring_from [.ref (.fdc (linkD l)), .val (.int (a : Int))] = .ret (.val (tupI (ringL l m a))) [.live (.fdc (linkD l))] := by
  let r0 : En := ⟨[some (.bor 0), some (.val (.int (a : Int))), none, none], [.live (.fdc (linkD l))]⟩
  let r1 : En := ⟨[some (.bor 0), some (.val (.int (a : Int))), some (.own (.lst (ints' [a]))), none], [.live (.fdc (linkD l))]⟩
  have s1 : setS 2 (lstE (consL (nmE 1) nilL)) r0 = .nx r1 := (set_own (lst_eq (lst1 (r := r0) (nm_frz (i := 1) rfl)) (by simp [sizeLine]))).trans rfl
  have s2 : setS 3 (dgE (nmE 0) (nmE 1)) r1 = .nx (rfEnv l a [a] (suc l a)) := (set_val (get_eq (n := a) rfl rfl rfl)).trans rfl
  have s3 := ring_loop l a m 1000 [a] (suc l a) hm (by simp [sizeLine]; omega) d
  have s4 : ∀ (ring : List Nat) (num : Option Nat), iteE (tstB (binE gIsN (nmE 3) (kE .none))) (tupE (nilL)) (unE gTuple (nmE 2)) (rfEnv l a ring num) = .ok (.val (tupI (match num with | none => [] | some _ => ring))) (rfEnv l a ring num) := fun ring num => by
    cases num with
    | none => exact (ite_eq (b := true) (Pt.tst (Pv.bin (Pv.nm rfl) Pv.k (rfl : gIsN .none .none = some (vB true)) rfl))).trans (tup_eq (ds := []) rfl (Nat.zero_le _))
    | some n => exact (ite_eq (b := false) (Pt.tst (Pv.bin (Pv.nm rfl) Pv.k (rfl : gIsN (.int (n : Int)) .none = some (vB false)) rfl))).trans (un_eq (pa_own rfl).pv rfl)
  refine (run_eq rfl rfl ((seq_ok' s1).trans ((seq_ok' s2).trans ((seq_ok' s3).trans (ret_ok (s4 _ _)))))).trans ?_
  show FR.ret (Rv.val (tupI _)) _ = FR.ret (Rv.val (tupI (ringL l m a))) _
  unfold ringL
  cases (walkF (suc l) a m [a] (suc l a)).2 <;> rfl
end Lw

/-! Sy5.lean -/
set_option Elab.async false
set_option linter.all false
set_option maxRecDepth 100000
namespace Lw
open PySem L2 Mi
theorem shaped_tup (ns : List Nat) : SeqAt.shaped (tupI ns) = true := by
  have h1 : PyData.canLayAll0 (ints' ns) = true := by
    unfold ints'
    induction ns with
    | nil => rfl
    | cons n ns ih => simp only [List.map_cons, PyData.canLayAll0, PyData.canLay0, ih, Bool.and_self]
  have h2 : PyData.depthAll (ints' ns) = 0 := by
    clear h1
    unfold ints'
    induction ns with
    | nil => rfl
    | cons n ns ih => simp only [List.map_cons, PyData.depthAll, PyData.depth, ih, Nat.max_self]
  unfold SeqAt.shaped tupI
  simp only [PyData.canLay0, PyData.depth, h1, h2]
  rfl
theorem ne_unit (ns : List Nat) : gNe (tupI ns) (.tuple []) = some (vB (!ns.isEmpty)) := by
  have h : SeqAt.shaped (.tuple []) = true := shaped_tup []
  have e : PyData.eqv (tupI ns) (.tuple []) = ns.isEmpty := by
    cases ns with
    | nil => simp [tupI, ints', PyData.eqv, PyData.eqvAll]
    | cons n ns => simp [tupI, ints', PyData.eqv, PyData.eqvAll]
  unfold gNe eqOk
  rw [shaped_tup, h, e]
  simp
theorem ix_tup0 (n : Nat) (ns : List Nat) : gIx (tupI (n :: ns)) (.int 0) = some (.val (.int (n : Int))) := by
  show (atI (ints' (n :: ns)) 0).map Rv.val = _
  rw [show atI (ints' (n :: ns)) (0 : Int) = some (.int (n : Int)) from L2.atI_nat (j := 0) rfl]
  rfl
theorem ints_of (ns : List Nat) : intsOf (ints' ns) = some (ns.map fun (i : Nat) => (i : Int)) := by
  unfold ints'
  induction ns with
  | nil => rfl
  | cons n ns ih => simp [intsOf, ih]
theorem min_tup (n : Nat) (ns : List Nat) : gMinX (tupI (n :: ns)) = some (vI (PySem.W.minOf (n : Int) (ns.map fun (i : Nat) => (i : Int)))) := by
  show ((intsOf (ints' (n :: ns))).bind fun ns => match ns with
    | [] => none
    | n :: ns => some (vI (PySem.W.minOf n ns))) = _
  rw [ints_of]
  rfl
theorem min_list (n : Nat) (ns : List Nat) : (gMinX (.list (ints' (n :: ns)))) = (leastI (ints' (n :: ns) |> fun _ => ((n :: ns).map fun (i : Nat) => (i : Int)))).map vI := by
  show ((intsOf (ints' (n :: ns))).bind fun ns => (leastI ns).map vI) = _
  rw [ints_of]
  rfl
theorem minOf_le (n : Int) : ∀ ns : List Int, PySem.W.minOf n ns ≤ n ∧ ∀ y ∈ ns, PySem.W.minOf n ns ≤ y := by
  intro ns
  induction ns generalizing n with
  | nil => exact ⟨Int.le_refl _, nofun⟩
  | cons y ns ih =>
    have e : PySem.W.minOf n (y :: ns) = PySem.W.minOf (if decide (y < n) = true then y else n) ns := rfl
    rw [e]
    obtain ⟨h1, h2⟩ := ih (if decide (y < n) = true then y else n)
    have h3 : (if decide (y < n) = true then y else n) ≤ n ∧ (if decide (y < n) = true then y else n) ≤ y := by
      by_cases h : y < n
      · simp [h]; omega
      · simp [h]; omega
    refine ⟨Int.le_trans h1 h3.1, fun z hz => ?_⟩
    rcases List.mem_cons.mp hz with rfl | hz
    · exact Int.le_trans h1 h3.2
    · exact h2 z hz
theorem minOf_same (n : Int) : ∀ ns : List Int, (∀ y ∈ ns, n ≤ y) → PySem.W.minOf n ns = n := by
  intro ns
  induction ns with
  | nil => intro _; rfl
  | cons y ns ih =>
    intro h
    have e : PySem.W.minOf n (y :: ns) = PySem.W.minOf (if decide (y < n) = true then y else n) ns := rfl
    have hy := h y List.mem_cons_self
    rw [e, if_neg (by simp; omega)]
    exact ih fun z hz => h z (List.mem_cons_of_mem _ hz)
theorem minOf_head (n : Nat) (ns : List Nat) : decide ((n : Int) = PySem.W.minOf (n : Int) (ns.map fun (i : Nat) => (i : Int))) = ns.all fun y => decide (n ≤ y) := by
  rw [Bool.eq_iff_iff]
  simp only [decide_eq_true_eq, List.all_eq_true]
  constructor
  · intro h y hy
    have := (minOf_le (n : Int) (ns.map fun (i : Nat) => (i : Int))).2 (y : Int) (List.mem_map.mpr ⟨y, hy, rfl⟩)
    omega
  · intro h
    refine (minOf_same (n : Int) _ fun y hy => ?_).symm
    obtain ⟨z, hz, rfl⟩ := List.mem_map.mp hy
    have := h z hz
    omega
def goodR : List Nat → Bool
  | [] => false
  | n :: ns => ns.all fun y => decide (n ≤ y)
theorem good_test {r : En} {ring : List Nat} (h : r.vs[5]? = some (some (.val (tupI ring)))) :
    Pt (andB (tstB (binE gNe (nmE 5) (tupE (nilL)))) (tstB (binE gEq (binE gIx (nmE 5) (kE (.int 0))) (unE gMinX (nmE 5))))) r (goodR ring) := by
  have e0 : Pv (tupE nilL) r (.tuple []) := Pv.of (tup_eq (ds := []) rfl (Nat.zero_le _)) rfl
  cases ring with
  | nil => exact Pt.and (a := false) (b := false) (Pt.tst (Pv.bin (Pv.nm h) e0 (ne_unit []) rfl)) nofun
  | cons n ns =>
    refine Pt.and (a := true) (Pt.tst (Pv.bin (Pv.nm h) e0 (ne_unit (n :: ns)) rfl)) fun _ => Pt.tst (Pv.bin (Pv.bin (Pv.nm h) Pv.k (ix_tup0 n ns) rfl) (Pv.un (Pv.nm h) (min_tup n ns) rfl) (eq_int _ _) ?_)
    rw [minOf_head]
    rfl
def findL (l : List (Nat × Nat)) (m : Nat) : List (List Nat) := (l.map fun p => ringL l m p.1).filter goodR
theorem keys_run {e : M Rv} {r : En} {lo : Lo} {kvs : List (Key × PyData)} (h1 : e r = .ok (.at lo) r) (h2 : look r lo = some (.live (.fdc kvs))) : keysI e r = .ok ⟨fun _ i => some ((kvs.map fun kv => keyD kv.1)[i]?), kvs.length⟩ r := by
  refine (bnd_ok h1).trans ?_
  have : fdcOf r (.at lo) = some kvs := by unfold fdcOf; simp only [h2]
  simp only [this]
/-- every key's walk comes back or ends -/
def Done (l : List (Nat × Nat)) (m : Nat) : Prop := ∀ p ∈ l, (walkF (suc l) p.1 m [p.1] (suc l p.1)).2 = none ∨ (walkF (suc l) p.1 m [p.1] (suc l p.1)).2 = some p.1
theorem run_find (b : Bool) {t g : List EndS} (ht : t.length = 10) (hg : g.length = 10) (m : Nat) (hm : m < 1000) (d : Done (linksL t g (changedL t g)) m) :
    G_find_rings [agB b (tD t), .val (.list (tD g))] = .ret (.own (.lst ((findL (linksL t g (changedL t g)) m).map tupI))) (oss b (tD t)) := by
  have e : entry 6 [agB b (tD t), .val (.list (tD g))] = ⟨[some (cell b (tD t)), some (.val (.list (tD g))), none, none, none, none], oss b (tD t)⟩ := entry_cell (as := [.list (tD g)])
  generalize hl : linksL t g (changedL t g) = l at d
  have hz : l.length ≤ sizeLine := by
    rw [← hl]
    exact Nat.le_trans (links_len t g _) (Nat.le_trans (changed_len t g) (by decide))
  let r0 : En := ⟨[some (cell b (tD t)), some (.val (.list (tD g))), none, none, none, none], oss b (tD t)⟩
  let r1 : En := ⟨[some (cell b (tD t)), some (.val (.list (tD g))), some (.own (.dct (linkD l))), none, none, none], oss b (tD t)⟩
  let q1 : En := ⟨[some (cell b (tD t)), some (.val (.list (tD g))), some (.own (.fdc (linkD l))), none, none, none], oss b (tD t)⟩
  let rings := l.map fun p => ringL l m p.1
  let r2 : En := ⟨[some (cell b (tD t)), some (.val (.list (tD g))), some (.own (.dct (linkD l))), some (.own (.lst (rings.map tupI))), none, none], oss b (tD t)⟩
  let r3 : En := ⟨[some (cell b (tD t)), some (.val (.list (tD g))), some (.own (.dct (linkD l))), some (.val (.list (rings.map tupI))), none, none], oss b (tD t)⟩
  have s1 : setS 2 (callE G_ring_links (consR (nmE 0) (consR (nmE 1) (nilR)))) r0 = .nx r1 := (set_own (callB (r := r0) (g := consR (nmE 1) nilR) (es := [.list (tD g)]) pa_cell rfl fun b => by rw [← hl]; exact run_links b ht hg)).trans rfl
  have s2 : lcE (keysI (nmE 2)) (fun d r => some (put r 4 (.val d))) [4] (yesB) (callE G_ring_from (consR (nmE 2) (consR (nmE 4) (nilR)))) q1 = .ok (.own (.lst (rings.map tupI))) q1 := by
    refine (lcE_eq (T := [4]) (W := q1) (r1 := q1) (keys_run (lo := .slot 2) (kvs := linkD l) rfl rfl) rfl rfl rfl l (fun p => .int (p.1 : Int)) (fun i => ?_) (by simp [linkD]) hz (fun _ => true) (fun p => tupI (ringL l m p.1)) fun p hp => ?_).trans ?_
    · show some (((linkD l).map fun kv => keyD kv.1)[i]?) = _
      unfold linkD
      rw [List.map_map, List.getElem?_map]
      rfl
    · refine ⟨_, rfl, _, rfl, rfl, fun _ => ⟨_, val_frz (callO (l := .slot 2) (g := consR (nmE 4) nilR) (es := [.int (p.1 : Int)]) rfl rfl rfl (run_ring l p.1 m hm (d p hp))), rfl⟩⟩
    · rw [ft]
      simp only [rings, List.map_map]
      rfl
  have s3 : setS 3 (lockE 2 (lcE (keysI (nmE 2)) (fun d r => some (put r 4 (.val d))) [4] (yesB) (callE G_ring_from (consR (nmE 2) (consR (nmE 4) (nilR)))))) r1 = .nx r2 := by
    refine (set_own (r1 := r1) (o := .lst (rings.map tupI)) ?_).trans rfl
    show (match (lcE (keysI (nmE 2)) (fun d r => some (put r 4 (.val d))) [4] (yesB) (callE G_ring_from (consR (nmE 2) (consR (nmE 4) (nilR))))) q1 with
      | .ok x r1 => (match look r1 (.slot 2) with
        | some (.live (.fdc kvs)) => (.ok x (setLo r1 (.slot 2) (.live (.dct kvs))) : Res Rv)
        | _ => .no)
      | _ => .no) = _
    rw [s2]
    rfl
  have s4 : lcE (seqI (nmE 3)) (fun d r => some (put r 5 (.val d))) [5] (andB (tstB (binE gNe (nmE 5) (tupE (nilL)))) (tstB (binE gEq (binE gIx (nmE 5) (kE (.int 0))) (unE gMinX (nmE 5))))) (nmE 5) r2 = .ok (.own (.lst ((findL l m).map tupI))) r3 := by
    refine (lcE_seq (T := [5]) rings tupI (x := .at (.slot 3)) (y := .val (.list (rings.map tupI))) (r1 := r2) (r2 := r3) (W := r3) rfl rfl rfl rfl (by simpa [rings] using hz) rfl rfl rfl rfl goodR tupI fun ring hr => ?_)
    exact ⟨_, rfl, _, good_test rfl, rfl, fun _ => ⟨_, nm_frz rfl, rfl⟩⟩
  exact (run_eq rfl e ((seq_ok' s1).trans ((seq_ok' s3).trans (ret_ok s4)))).trans rfl
end Lw

/-! Sy6.lean -/
set_option Elab.async false
set_option linter.all false
set_option maxRecDepth 100000
namespace Lw
open PySem L2 Mi
def missB (t g : List EndS) : Bool := g.any fun e => !decide (e = none) && !decide (e ∈ t)
def countN (t g : List EndS) (m : Nat) : Option Nat :=
  if missB t g = true then none else
  if (findL (linksL t g (changedL t g)) m).length = 0 then some (changedL t g).length else
  if ((findL (linksL t g (changedL t g)) m).map List.length).sum < (changedL t g).length then some ((changedL t g).length + (findL (linksL t g (changedL t g)) m).length) else
  if spareB t g = true then some ((changedL t g).length + (findL (linksL t g (changedL t g)) m).length + 1) else none
theorem sum_ints (ns : List Nat) : gSum (.list (ints' ns)) = some (vI ((ns.sum : Nat) : Int)) := by
  have : (ns.map fun (i : Nat) => (i : Int)).sum = ((ns.sum : Nat) : Int) := by
    induction ns with
    | nil => rfl
    | cons n ns ih => simp [ih]
  show (intsOf (ints' ns)).map (fun ns => vI ns.sum) = _
  rw [ints_of]
  simp [this]
theorem lt_nat (i j : Nat) : gLt (.int (i : Int)) (.int (j : Int)) = some (vB (decide (i < j))) := by
  show some (vB (decide ((i : Int) < (j : Int)))) = _
  congr 2
  rw [Bool.eq_iff_iff]; simp
theorem eq_nat (i j : Nat) : gEq (.int (i : Int)) (.int (j : Int)) = some (vB (decide (i = j))) := by
  rw [eq_int]
  congr 2
  rw [Bool.eq_iff_iff]; simp; omega
theorem add_nat (i j : Nat) : gAdd (.int (i : Int)) (.int (j : Int)) = some (vI ((i + j : Nat) : Int)) := by
  show some (vI ((i : Int) + (j : Int))) = _
  rw [Int.natCast_add]
theorem len_tups (rs : List (List Nat)) : gLen (.list (rs.map tupI)) = some (vI ((rs.length : Nat) : Int)) := by
  show some (vI (((rs.map tupI).length : Nat) : Int)) = _
  rw [List.length_map]
theorem find_len (l : List (Nat × Nat)) (m : Nat) : (findL l m).length ≤ l.length := by
  unfold findL
  refine Nat.le_trans (List.length_filter_le _ _) ?_
  rw [List.length_map]
  exact Nat.le_refl _
theorem run_count (k : Option Bool) {t g : List EndS} (ht : TabOk t) (hg : TabOk g) (m : Nat) (hm : m < 1000) (d : Done (linksL t g (changedL t g)) m) :
    G_count_calls [ag3 k (tD t), .val (.list (tD g))] = .ret (.val (numD (countN t g m))) (oss3 k (tD t)) := by
  have e : entry 6 [ag3 k (tD t), .val (.list (tD g))] = ⟨[some (cell3 k (tD t)), some (.val (.list (tD g))), none, none, none, none], oss3 k (tD t)⟩ := entry_cell3 (as := [.list (tD g)])
  generalize hr : findL (linksL t g (changedL t g)) m = rs
  have hz : rs.length ≤ sizeLine := by
    rw [← hr]
    exact Nat.le_trans (find_len _ _) (Nat.le_trans (links_len t g _) (Nat.le_trans (changed_len t g) (by decide)))
  generalize hc : changedL t g = cs
  let r0 : En := ⟨[some (cell3 k (tD t)), some (.val (.list (tD g))), none, none, none, none], oss3 k (tD t)⟩
  let r1 : En := ⟨[some (cell3 k (tD t)), some (.val (.list (tD g))), some (.val (.int ((cs.length : Nat) : Int))), none, none, none], oss3 k (tD t)⟩
  let r2 : En := ⟨[some (cell3 k (tD t)), some (.val (.list (tD g))), some (.val (.int ((cs.length : Nat) : Int))), some (.own (.lst (rs.map tupI))), none, none], oss3 k (tD t)⟩
  let r3 : En := ⟨[some (cell3 k (tD t)), some (.val (.list (tD g))), some (.val (.int ((cs.length : Nat) : Int))), some (.val (.list (rs.map tupI))), none, none], oss3 k (tD t)⟩
  have h0 : lcE (seqI (nmE 1)) (fun d r => some (put r 4 (.val d))) [4] (yesB) (andE (binE gIsntN (nmE 4) (kE .none)) (binE gNotIn (nmE 4) (nmE 0))) r0 = .ok (.own (.lst ((g.map fun e => !decide (e = none) && !decide (e ∈ t)).map .bool))) r0 := by
    refine (lcE_seq (T := [4]) g eD (x := .val (.list (tD g))) (y := .val (.list (tD g))) (r1 := r0) (r2 := r0) (W := r0) rfl rfl rfl rfl (by rw [hg.len]; decide) rfl rfl rfl rfl (fun _ => true) (fun e => .bool (!decide (e = none) && !decide (e ∈ t))) fun e he => ?_).trans ?_
    · exact ⟨_, rfl, _, rfl, rfl, fun _ => ⟨_, val_frz (and_eq (Pv.bin (Pv.nm rfl) Pv.k (isntN_eD e) rfl) fun _ => bin_eq (Pv.nm rfl) pa_cell3.pv (notIn_tD ht.str fun x hx => hg.str x (hx ▸ he))), rfl⟩⟩
    · rw [ft, List.map_map]; rfl
  have t0 : Pt (tstT (unE gAny (lcE (seqI (nmE 1)) (fun d r => some (put r 4 (.val d))) [4] (yesB) (andE (binE gIsntN (nmE 4) (kE .none)) (binE gNotIn (nmE 4) (nmE 0)))))) r0 (missB t g) := by
    refine Pt.tstT (Pv.un (Pv.of h0 rfl) (any_bools _) ?_)
    unfold missB
    rw [List.any_map]
    rfl
  have s1 : setS 2 (unE gLen (callE G_changed_numbers (consR (nmE 0) (consR (nmE 1) (nilR))))) r0 = .nx r1 := (set_val (un_eq (Pv.own' (callB (r := r0) (g := consR (nmE 1) nilR) (es := [.list (tD g)]) pa_cell3 rfl fun b => run_changed b ht.len hg.len)) len_ints)).trans (by rw [hc]; rfl)
  have s2 : setS 3 (callE G_find_rings (consR (nmE 0) (consR (nmE 1) (nilR)))) r1 = .nx r2 := (set_own (callB (r := r1) (g := consR (nmE 1) nilR) (es := [.list (tD g)]) pa_cell3 rfl fun b => run_find b ht.len hg.len m hm d)).trans (by rw [hr]; rfl)
  have t1 : Pt (tstB (binE gEq (unE gLen (nmE 3)) (kE (.int 0)))) r2 (decide (rs.length = 0)) := Pt.tst (Pv.bin (Pv.un (pa_own rfl).pv (len_tups rs) rfl) Pv.k (eq_nat rs.length 0) rfl)
  have h2 : lcE (seqI (nmE 3)) (fun d r => some (put r 5 (.val d))) [5] (yesB) (unE gLen (nmE 5)) r2 = .ok (.own (.lst (ints' (rs.map List.length)))) r3 := by
    refine (lcE_seq (T := [5]) rs tupI (x := .at (.slot 3)) (y := .val (.list (rs.map tupI))) (r1 := r2) (r2 := r3) (W := r3) rfl rfl rfl rfl hz rfl rfl rfl rfl (fun _ => true) (fun ring => .int ((ring.length : Nat) : Int)) fun ring hring => ?_).trans ?_
    · exact ⟨_, rfl, _, rfl, rfl, fun _ => ⟨_, val_frz (un_eq (Pv.nm rfl) (show gLen (tupI ring) = some (vI ((ring.length : Nat) : Int)) by unfold gLen tupI ints'; simp)), rfl⟩⟩
    · rw [ft]; unfold ints'; rw [List.map_map]; rfl
  have t2 : tstB (binE gLt (unE gSum (lcE (seqI (nmE 3)) (fun d r => some (put r 5 (.val d))) [5] (yesB) (unE gLen (nmE 5)))) (nmE 2)) r2 = .ok (decide ((rs.map List.length).sum < cs.length)) r3 := tst_go (bin_go (un_go h2 rfl (sum_ints _)) rfl rfl rfl (lt_nat _ _)) rfl
  have v3 : retS (binE gAdd (nmE 2) (unE gLen (nmE 3))) r3 = .rt (.val (.int ((cs.length + rs.length : Nat) : Int))) r3 := ret_ok (bin_eq (Pv.nm rfl) (Pv.un (Pv.nm rfl) (len_tups rs) rfl) (add_nat _ _))
  have t3 : Pt (tstT (callE G_has_unchanged_spare (consR (nmE 0) (consR (nmE 1) (nilR))))) r3 (spareB t g) := Pt.tstT (Pv.val (callB (r := r3) (g := consR (nmE 1) nilR) (es := [.list (tD g)]) pa_cell3 rfl fun b => run_spare b ht.len hg.len))
  have v4 : retS (binE gAdd (binE gAdd (nmE 2) (unE gLen (nmE 3))) (kE (.int 1))) r3 = .rt (.val (.int ((cs.length + rs.length + 1 : Nat) : Int))) r3 := ret_ok (bin_eq (Pv.bin (Pv.nm rfl) (Pv.un (Pv.nm rfl) (len_tups rs) rfl) (add_nat _ _) rfl) Pv.k (add_nat _ 1))
  refine (run_eq (o := if missB t g = true then .rt (.val .none) r0 else if rs.length = 0 then .rt (.val (.int ((cs.length : Nat) : Int))) r2 else if (rs.map List.length).sum < cs.length then .rt (.val (.int ((cs.length + rs.length : Nat) : Int))) r3 else if spareB t g = true then .rt (.val (.int ((cs.length + rs.length + 1 : Nat) : Int))) r3 else .rt (.val .none) r3) rfl e ?_).trans ?_
  · refine (sif t0 (ret_ok (show kE PyData.none r0 = .ok (.val .none) r0 from rfl)) ((seq_ok' s1).trans ((seq_ok' s2).trans (sif t1 (ret_ok (show nmE 2 r2 = .ok (.val (.int ((cs.length : Nat) : Int))) r2 from rfl)) (sif t2 v3 (sif t3 v4 (ret_ok (show kE PyData.none r3 = .ok (.val .none) r3 from rfl)))))))).trans ?_
    simp only [decide_eq_true_eq]
  · unfold countN
    rw [hr, hc]
    split
    · rfl
    · split
      · rfl
      · split
        · rfl
        · split <;> rfl
end Lw

/-! Sy7.lean -/
set_option Elab.async false
set_option linter.all false
set_option maxRecDepth 100000
namespace Lw
open PySem L2 Mi
inductive CallT where
  | close (n : Nat)
  | copy (a b : Nat)
deriving DecidableEq
def cD : CallT → PyData
  | .close n => .tuple [.str "close", .int (n : Int)]
  | .copy a b => .tuple [.str "copy", .int (a : Int), .int (b : Int)]
def behind (t : List EndS) : CallT → List EndS
  | .close n => t.set n none
  | .copy a b => t.set b (at' t a)
def CallT.ok : CallT → Prop
  | .close n => n < 10
  | .copy a b => a < 10 ∧ b < 10
theorem tD_set {t : List EndS} {n : Nat} {e : EndS} : (tD t).set n (eD e) = tD (t.set n e) := by unfold tD; rw [List.map_set]
theorem tup0 {ds : List PyData} {d : PyData} : gIx (.tuple (d :: ds)) (.int 0) = some (.val d) := by
  show (atI (d :: ds) 0).map Rv.val = _
  rw [show atI (d :: ds) (0 : Int) = some d from L2.atI_nat (j := 0) rfl]
  rfl
theorem tup1 {ds : List PyData} {c d : PyData} : gIx (.tuple (c :: d :: ds)) (.int 1) = some (.val d) := by
  show (atI (c :: d :: ds) 1).map Rv.val = _
  rw [show atI (c :: d :: ds) (1 : Int) = some d from L2.atI_nat (j := 1) rfl]
  rfl
theorem tup2 {ds : List PyData} {b c d : PyData} : gIx (.tuple (b :: c :: d :: ds)) (.int 2) = some (.val d) := by
  show (atI (b :: c :: d :: ds) 2).map Rv.val = _
  rw [show atI (b :: c :: d :: ds) (2 : Int) = some d from L2.atI_nat (j := 2) rfl]
  rfl
theorem run_behind {t : List EndS} (ht : t.length = 10) {c : CallT} (hc : c.ok) : G_table_behind [.val (.list (tD t)), .val (cD c), .val (.tuple [])] = .ret (.own (.lst (tD (behind t c)))) [] := by
  have go : ∀ (w : Str) (r2 : En) (o : Out), r2.vs[4]? = some (some (.val (.str w))) → ∀ (x : Str) (A B : Stm), ifS (tstB (binE gEq (nmE 4) (kE (.str x)))) A B r2 = if w = x then A r2 else B r2 := fun w r2 o h x A B => by
    have := if_ok (f := A) (g := B) (Pt.tst (Pv.bin (Pv.nm h) Pv.k (eq_str w x) rfl))
    simpa using this
  have hl : (tD t).length = 10 := by simpa using ht
  cases c with
  | close n =>
    let r1 : En := ⟨[some (.val (.list (tD t))), some (.val (cD (.close n))), some (.val (.tuple [])), some (.own (.lst (tD t))), none], []⟩
    let r2 : En := ⟨[some (.val (.list (tD t))), some (.val (cD (.close n))), some (.val (.tuple [])), some (.own (.lst (tD t))), some (.val (.str "close"))], []⟩
    let r3 : En := ⟨[some (.val (.list (tD t))), some (.val (cD (.close n))), some (.val (.tuple [])), some (.own (.lst (tD (behind t (.close n))))), some (.val (.str "close"))], []⟩
    have s1 : setS 3 (unE gList (nmE 0)) ⟨[some (.val (.list (tD t))), some (.val (cD (.close n))), some (.val (.tuple [])), none, none], []⟩ = .nx r1 := (set_own (un_eq (Pv.nm rfl) rfl)).trans rfl
    have s2 : setS 4 (binE gIx (nmE 1) (kE (.int 0))) r1 = .nx r2 := (set_val (bin_eq (Pv.nm rfl) Pv.k tup0)).trans rfl
    have s3 : stoS (kE .none) 3 (binE gIx (nmE 1) (kE (.int 1))) r2 = .nx r3 := by
      refine (sto_eq (n := n) (ds := tD t) rfl rfl (Pv.bin (Pv.nm rfl) Pv.k tup1 rfl) (by rw [hl]; exact hc)).trans ?_
      rw [show PyData.none = eD none from rfl, tD_set]
      rfl
    refine (run_eq rfl rfl ((seq_ok' s1).trans ((seq_ok' s2).trans ((seq_ok' (r1 := r3) ?_).trans (ret_ok (show nmE 3 r3 = .ok (.at (.slot 3)) r3 from rfl)))))).trans rfl
    rw [go "close" r2 .no rfl, if_neg (by decide), go "close" r2 .no rfl, if_neg (by decide), go "close" r2 .no rfl, if_neg (by decide), go "close" r2 .no rfl, if_pos rfl]
    exact s3
  | copy a b =>
    let r1 : En := ⟨[some (.val (.list (tD t))), some (.val (cD (.copy a b))), some (.val (.tuple [])), some (.own (.lst (tD t))), none], []⟩
    let r2 : En := ⟨[some (.val (.list (tD t))), some (.val (cD (.copy a b))), some (.val (.tuple [])), some (.own (.lst (tD t))), some (.val (.str "copy"))], []⟩
    let r3 : En := ⟨[some (.val (.list (tD t))), some (.val (cD (.copy a b))), some (.val (.tuple [])), some (.own (.lst (tD (behind t (.copy a b))))), some (.val (.str "copy"))], []⟩
    have s1 : setS 3 (unE gList (nmE 0)) ⟨[some (.val (.list (tD t))), some (.val (cD (.copy a b))), some (.val (.tuple [])), none, none], []⟩ = .nx r1 := (set_own (un_eq (Pv.nm rfl) rfl)).trans rfl
    have s2 : setS 4 (binE gIx (nmE 1) (kE (.int 0))) r1 = .nx r2 := (set_val (bin_eq (Pv.nm rfl) Pv.k tup0)).trans rfl
    have s3 : stoS (binE gIx (nmE 3) (binE gIx (nmE 1) (kE (.int 1)))) 3 (binE gIx (nmE 1) (kE (.int 2))) r2 = .nx r3 := by
      refine (sto_eq (n := b) (ds := tD t) (bin_eq (pa_own rfl).pv (Pv.bin (Pv.nm rfl) Pv.k tup1 rfl) (ix_at ht hc.1)) rfl (Pv.bin (Pv.nm rfl) Pv.k tup2 rfl) (by rw [hl]; exact hc.2)).trans ?_
      rw [tD_set]
      rfl
    refine (run_eq rfl rfl ((seq_ok' s1).trans ((seq_ok' s2).trans ((seq_ok' (r1 := r3) ?_).trans (ret_ok (show nmE 3 r3 = .ok (.at (.slot 3)) r3 from rfl)))))).trans rfl
    rw [go "copy" r2 .no rfl, if_neg (by decide), go "copy" r2 .no rfl, if_neg (by decide), go "copy" r2 .no rfl, if_pos rfl]
    exact s3
end Lw

/-! Sy8.lean -/
set_option Elab.async false
set_option linter.all false
set_option maxRecDepth 100000
namespace Lw
open PySem L2 Mi
theorem ch_eq {g g' : PyData → PyData → Option Rv} {fa fb fc : M Rv} {r : En} {a b c : PyData} {c1 c2 : Bool} (h1 : Pv fa r a) (h2 : Pv fb r b) (e1 : g a b = some (.val (.bool c1))) (h3 : Pv fc r c) (e2 : g' b c = some (.val (.bool c2))) : chE g g' fa fb fc r = .ok (.val (.bool (c1 && c2))) r := by
  obtain ⟨x, q1, p1⟩ := h1
  obtain ⟨y, q2, p2⟩ := h2
  obtain ⟨z, q3, p3⟩ := h3
  have t : M.bnd (op2 g x y) (Mi.tst boolOf) r = .ok c1 r := by
    refine (bnd_ok (show op2 g x y r = .ok (.val (.bool c1)) r by unfold op2; rw [p1, p2]; simp only [e1])).trans ?_
    rfl
  refine (bnd_ok q1).trans ((bnd_ok q2).trans ((bnd_ok t).trans ?_))
  cases c1 with
  | false => rfl
  | true =>
    refine (bnd_ok q3).trans ?_
    unfold op2
    rw [p2, p3]
    simp only [e2, Bool.true_and]
def LetOk (c : Nat) : Bool := !decide ([c] < ("a" : Str).cps.toList) && !decide (("z" : Str).cps.toList < [c])
structure NameOk (x : Str) : Prop where
  lo : 1 ≤ x.cps.size
  hi : x.cps.size ≤ 8
  letters : ∀ c ∈ x.cps.toList, LetOk c = true
theorem run_is_list (ds : List PyData) : G_is_list [.val (.list ds)] = .ret (.val (.bool true)) [] := rfl
theorem sq_run {r : En} {z : Str} (h : r.vs[0]? = some (some (.val (.str z)))) : sqI (nmE 0) r = .ok ⟨strNth z, z.cps.toList.length⟩ r := by
  have e : nmE 0 r = .ok (.val (.str z)) r := by unfold nmE; rw [h]
  unfold sqI
  rw [e]
  rfl
theorem run_is_name {x : Str} (h : NameOk x) : G_is_name [.val (.str x)] = .ret (.val (.bool true)) [] := by
  let r0 : En := ⟨[some (.val (.str x)), none], []⟩
  have hlen : gLen (.str x) = some (vI ((x.cps.size : Nat) : Int)) := by
    have h2 : x.length ≤ sizeLine := Nat.le_trans (show x.length ≤ 8 from h.hi) (by decide)
    show (if x.length ≤ sizeLine then some (vI x.length) else none) = _
    rw [if_pos h2]
    rfl
  have t1 : Pt (notB (tstT (unE (gIsi "str") (nmE 0)))) r0 false := Pt.not (a := true) (Pt.tstT (Pv.un (Pv.nm rfl) rfl rfl))
  have t2 : Pt (notB (tstB (chE gLe gLe (kE (.int 1)) (unE gLen (nmE 0)) (kE (.int 8))))) r0 false := by
    refine Pt.not (a := true) (Pt.tst (Pv.val (ch_eq (c1 := true) (c2 := true) Pv.k (Pv.un (Pv.nm rfl) hlen rfl) ?_ Pv.k ?_)))
    · show some (Rv.val (PyData.bool (decide ((1 : Int) ≤ ((x.cps.size : Nat) : Int))))) = _
      have := h.lo
      rw [decide_eq_true (by omega)]
    · show some (Rv.val (PyData.bool (decide (((x.cps.size : Nat) : Int) ≤ 8)))) = _
      have := h.hi
      rw [decide_eq_true (by omega)]
  have t0 := Pt.or t1 fun _ => t2
  have l1 : lcE (sqI (nmE 0)) (fun d r => some (put r 1 (.val d))) [1] (yesB) (chE gLeS gLeS (kE (.str "a")) (nmE 1) (kE (.str "z"))) r0 = .ok (.own (.lst ((x.cps.toList.map fun _ => true).map .bool))) r0 := by
    refine (lcE_eq (T := [1]) (W := r0) (r1 := r0) (sq_run rfl) rfl rfl rfl x.cps.toList (fun c => .str ⟨#[c]⟩) (fun i => rfl) (Nat.le_refl _) (by
      have := h.hi
      rw [Array.length_toList]
      exact Nat.le_trans this (by decide)) (fun _ => true) (fun _ => .bool true) fun c hc => ?_).trans ?_
    · have hl := h.letters c hc
      unfold LetOk at hl
      obtain ⟨h1, h2⟩ := Bool.and_eq_true_iff.mp hl
      refine ⟨_, rfl, _, rfl, rfl, fun _ => ⟨_, val_frz (ch_eq (c1 := true) (c2 := true) Pv.k (Pv.nm rfl) ?_ Pv.k ?_), rfl⟩⟩
      · show some (Rv.val (PyData.bool (!decide ([c] < ("a" : Str).cps.toList)))) = _
        rw [h1]
      · show some (Rv.val (PyData.bool (!decide (("z" : Str).cps.toList < [c])))) = _
        rw [h2]
    · rw [ft, List.map_map]; rfl
  have ha : (x.cps.toList.map fun _ => true).all id = true := by simp
  refine (run_eq (r := r0) rfl rfl (sif t0 (ret_ok (show kE (.bool false) r0 = .ok (.val (.bool false)) r0 from rfl)) (ret_ok (un_go l1 rfl (all_bools _))))).trans ?_
  rw [ha]
  rfl
structure Tab (t : List EndS) : Prop extends TabOk t where
  nm : ∀ x : Str, some x ∈ t → NameOk x
theorem run_is_table {t : List EndS} (h : Tab t) : G_is_table [.val (.list (tD t))] = .ret (.val (.bool true)) [] := by
  let r0 : En := ⟨[some (.val (.list (tD t))), none], []⟩
  have t1 : Pt (notB (tstT (callE G_is_list (consR (nmE 0) (nilR))))) r0 false := Pt.not (a := true) (Pt.tstT (Pv.val (callV (g := consR (nmE 0) nilR) (r := r0) (es := [.list (tD t)]) rfl (run_is_list _))))
  have t2 : Pt (tstB (binE gNe (unE gLen (nmE 0)) (kE (.int 10)))) r0 false := by
    refine Pt.tst (Pv.bin (Pv.un (Pv.nm rfl) (rfl : gLen (.list (tD t)) = some (vI (((tD t).length : Nat) : Int))) rfl) Pv.k (ne_int _ _) ?_)
    rw [tD_len, h.len]
    rfl
  have t0 := Pt.or t1 fun _ => t2
  have l1 : lcE (seqI (nmE 0)) (fun d r => some (put r 1 (.val d))) [1] (yesB) (orE (binE gIsN (nmE 1) (kE .none)) (callE G_is_name (consR (nmE 1) (nilR)))) r0 = .ok (.own (.lst ((t.map fun _ => true).map .bool))) r0 := by
    refine (lcE_seq (T := [1]) t eD (x := .val (.list (tD t))) (y := .val (.list (tD t))) (r1 := r0) (r2 := r0) (W := r0) rfl rfl rfl rfl (by rw [h.len]; decide) rfl rfl rfl rfl (fun _ => true) (fun _ => .bool true) fun e he => ?_).trans ?_
    · refine ⟨_, rfl, _, rfl, rfl, fun _ => ⟨put r0 1 (.val (eD e)), val_frz (d := .bool true) ?_, rfl⟩⟩
      have := or_eq (f := binE gIsN (nmE 1) (kE .none)) (g := callE G_is_name (consR (nmE 1) nilR)) (r := put r0 1 (.val (eD e))) (a := decide (e = none)) (b := true) (Pv.bin (Pv.nm rfl) Pv.k (isN_eD e) rfl) fun q => by
        cases e with
        | none => cases q
        | some x => exact callV (es := [.str x]) rfl (run_is_name (h.nm x he))
      rwa [Bool.or_true] at this
    · rw [ft, List.map_map]; rfl
  have ha : (t.map fun _ => true).all id = true := by simp
  refine (run_eq (r := r0) rfl rfl (sif t0 (ret_ok (show kE (.bool false) r0 = .ok (.val (.bool false)) r0 from rfl)) (ret_ok (un_go l1 rfl (all_bools _))))).trans ?_
  rw [ha]
  rfl
theorem run_check {t : List EndS} (h : Tab t) : G_check_table [.val (.list (tD t))] = .ret (.val .none) [] := by
  let r0 : En := ⟨[some (.val (.list (tD t)))], []⟩
  have t1 : Pt (notB (tstT (callE G_is_table (consR (nmE 0) (nilR))))) r0 false := Pt.not (a := true) (Pt.tstT (Pv.val (callV (g := consR (nmE 0) nilR) (r := r0) (es := [.list (tD t)]) rfl (run_is_table h))))
  exact (run_eq (r := r0) rfl rfl (if_ok t1)).trans rfl
theorem run_fewest {t g : List EndS} (ht : Tab t) (hg : Tab g) (m : Nat) (hm : m < 1000) (d : Done (linksL t g (changedL t g)) m) : G_fewest_calls [.val (.list (tD t)), .val (.list (tD g))] = .ret (.val (numD (countN t g m))) [] := by
  let r0 : En := ⟨[some (.val (.list (tD t))), some (.val (.list (tD g)))], []⟩
  have s1 : dropS (callE G_check_table (consR (nmE 0) (nilR))) r0 = .nx r0 := ofM_ok (callV (g := consR (nmE 0) nilR) (r := r0) (es := [.list (tD t)]) rfl (run_check ht))
  have s2 : dropS (callE G_check_table (consR (nmE 1) (nilR))) r0 = .nx r0 := ofM_ok (callV (g := consR (nmE 1) nilR) (r := r0) (es := [.list (tD g)]) rfl (run_check hg))
  have s3 : callE G_count_calls (consR (nmE 0) (consR (nmE 1) (nilR))) r0 = .ok (.val (numD (countN t g m))) r0 := callV (g := consR (nmE 0) (consR (nmE 1) nilR)) (r := r0) (es := [.list (tD t), .list (tD g)]) rfl (run_count (some false) ht.toTabOk hg.toTabOk m hm d)
  exact (run_eq (r := r0) rfl rfl ((seq_ok' s1).trans ((seq_ok' s2).trans (ret_ok s3)))).trans rfl
theorem run_needed {t g : List EndS} (ht : Tab t) (hg : Tab g) (m : Nat) (hm : m < 1000) (d : Done (linksL t g (changedL t g)) m) {n : Nat} (hn : countN t g m = some n) : G_needed_calls [.val (.list (tD t)), .val (.list (tD g))] = .ret (.val (.int (n : Int))) [] := by
  let r0 : En := ⟨[some (.val (.list (tD t))), some (.val (.list (tD g))), none], []⟩
  let r1 : En := ⟨[some (.val (.list (tD t))), some (.val (.list (tD g))), some (.val (.int (n : Int)))], []⟩
  have s1 : setS 2 (callE G_fewest_calls (consR (nmE 0) (consR (nmE 1) (nilR)))) r0 = .nx r1 := (set_val (callV (g := consR (nmE 0) (consR (nmE 1) nilR)) (r := r0) (es := [.list (tD t), .list (tD g)]) rfl (by have := run_fewest ht hg m hm d; rw [hn] at this; exact this))).trans rfl
  have t1 : Pt (tstB (binE gIsN (nmE 2) (kE .none))) r1 false := Pt.tst (Pv.bin (Pv.nm rfl) Pv.k (rfl : gIsN (.int (n : Int)) .none = some (vB false)) rfl)
  exact (run_eq (r := r0) rfl rfl ((seq_ok' s1).trans ((seq_ok' (if_ok t1)).trans (ret_ok (show nmE 2 r1 = .ok (.val (.int (n : Int))) r1 from rfl))))).trans rfl
/-- all calls that a table allows, in the order of the program -/
def takenL (t : List EndS) : List Nat := (List.range 10).filter fun n => !decide (at' t n = none)
def callsL (t : List EndS) : List CallT := (takenL t).map CallT.close ++ (takenL t).flatMap fun n => (List.range 10).map fun m => CallT.copy n m
end Lw

/-! Sy9.lean -/
set_option Elab.async false
set_option linter.all false
set_option maxRecDepth 100000
namespace Mi
open PySem L2
theorem lc2N_eq {β : Type} {nth : En → Nat → Option (Option PyData)} {tg tg1 : PyData → En → Option En} {T T1 : List Nat} {tt tt1 : M Bool} {it1 : M Src} {f : M Rv} {W : En} (hW : wipeV W T = W) (xs : List β) (D : β → PyData) (hn : ∀ i : Nat, nth W i = some (xs[i]?.map D)) (ys : β → List PyData)
    (ht : ∀ d ∈ xs, ∃ r2, tg (D d) W = some r2 ∧ ∃ r3, tt r2 = .ok true r3 ∧ ∃ s1 r4, it1 r3 = .ok s1 r4 ∧ ∀ acc : List PyData, acc.length + (ys d).length ≤ sizeLine → ∃ r5, lcN s1.nth tg1 T1 tt1 f s1.fuel 0 acc (wipeV r4 T1) = .ok (acc ++ ys d) r5 ∧ wipeV r5 T = W) :
    ∀ (m i : Nat) (acc : List PyData), xs.length ≤ i + m → acc.length + ((xs.drop i).map ys).flatten.length ≤ sizeLine → lc2N nth tg T tt it1 tg1 T1 tt1 f m i acc W = .ok (acc ++ ((xs.drop i).map ys).flatten) W := by
  intro m
  induction m with
  | zero =>
    intro i acc hm hz
    unfold lc2N
    have e : xs[i]? = none := List.getElem?_eq_none_iff.mpr (by omega)
    rw [hn i, e, List.drop_eq_nil_of_le (by omega)]
    simp
  | succ m ih =>
    intro i acc hm hz
    unfold lc2N
    rw [hn i]
    cases e : xs[i]? with
    | none =>
      have hi := List.getElem?_eq_none_iff.mp e
      rw [List.drop_eq_nil_of_le hi]
      simp
    | some d =>
      obtain ⟨hi, hd⟩ := List.getElem?_eq_some_iff.mp e
      obtain ⟨r2, h1, r3, h2, s1, r4, h3, h4⟩ := ht d (List.mem_of_getElem? e)
      have ed : xs.drop i = d :: xs.drop (i + 1) := by rw [← hd]; exact (List.drop_eq_getElem_cons hi)
      rw [ed] at hz ⊢
      simp only [List.map_cons, List.flatten_cons, List.length_append] at hz ⊢
      obtain ⟨r5, h5, h6⟩ := h4 acc (by omega)
      simp only [Option.map_some, hW, h1, h2, h3, h5, h6]
      rw [ih (i + 1) (acc ++ ys d) (by omega) (by simp only [List.length_append]; omega), List.append_assoc]
theorem lc2E_eq {β : Type} {it it1 : M Src} {s : Src} {tg tg1 : PyData → En → Option En} {T T1 : List Nat} {tt tt1 : M Bool} {f : M Rv} {r r1 W : En} (hit : it r = .ok s r1) (hc : calm r1 T = true) (hw : wipeV r1 T = W) (hW : wipeV W T = W) (xs : List β) (D : β → PyData) (hn : ∀ i : Nat, s.nth W i = some (xs[i]?.map D)) (hf : xs.length ≤ s.fuel) (ys : β → List PyData) (hz : (xs.map ys).flatten.length ≤ sizeLine)
    (ht : ∀ d ∈ xs, ∃ r2, tg (D d) W = some r2 ∧ ∃ r3, tt r2 = .ok true r3 ∧ ∃ s1 r4, it1 r3 = .ok s1 r4 ∧ ∀ acc : List PyData, acc.length + (ys d).length ≤ sizeLine → ∃ r5, lcN s1.nth tg1 T1 tt1 f s1.fuel 0 acc (wipeV r4 T1) = .ok (acc ++ ys d) r5 ∧ wipeV r5 T = W) :
    lc2E it tg T tt it1 tg1 T1 tt1 f r = .ok (.own (.lst ((xs.map ys).flatten))) (restV r1 W T) := by
  refine (bnd_ok hit).trans ?_
  have e := lc2N_eq (tg1 := tg1) (T1 := T1) (tt1 := tt1) (f := f) hW xs D hn ys ht s.fuel 0 [] (by omega) (by simpa using hz)
  simp only [hc, if_true, hw, e]
  simp
end Mi
namespace Lw
open PySem L2 Mi
theorem taken_lt {t : List EndS} {n : Nat} (h : n ∈ takenL t) : n < 10 := List.mem_range.mp (List.mem_filter.mp h).1
theorem taken_len (t : List EndS) : (takenL t).length ≤ 10 := by
  unfold takenL
  exact Nat.le_trans (List.length_filter_le _ _) (by simp)
theorem lst2 {f g : M Rv} {r : En} {d e : PyData} (h : M.bnd f frz r = .ok d r) (h2 : M.bnd g frz r = .ok e r) : consL f (consL g nilL) r = .ok [d, e] r := by
  unfold M.bnd at h
  cases q : f r with
  | no => rw [q] at h; cases h
  | ex z r1 => rw [q] at h; cases h
  | ok x r1 =>
    rw [q] at h
    exact (bnd_ok q).trans ((bnd_ok (show frz x r1 = .ok d r from h)).trans ((bnd_ok (lst1 h2)).trans rfl))
theorem lst3 {f g k : M Rv} {r : En} {d e c : PyData} (h : M.bnd f frz r = .ok d r) (h2 : M.bnd g frz r = .ok e r) (h3 : M.bnd k frz r = .ok c r) : consL f (consL g (consL k nilL)) r = .ok [d, e, c] r := by
  unfold M.bnd at h
  cases q : f r with
  | no => rw [q] at h; cases h
  | ex z r1 => rw [q] at h; cases h
  | ok x r1 =>
    rw [q] at h
    exact (bnd_ok q).trans ((bnd_ok (show frz x r1 = .ok d r from h)).trans ((bnd_ok (lst2 h2 h3)).trans rfl))
theorem run_possible {t : List EndS} (ht : t.length = 10) : G_possible_calls [.val (.list (tD t))] = .ret (.own (.lst ((callsL t).map cD))) [] := by
  let r0 : En := ⟨[some (.val (.list (tD t))), none, none, none, none], []⟩
  let r1 : En := ⟨[some (.val (.list (tD t))), some (.own (.lst (ints' (takenL t)))), none, none, none], []⟩
  let r1' : En := ⟨[some (.val (.list (tD t))), some (.val (.list (ints' (takenL t)))), none, none, none], []⟩
  let cs := (takenL t).map fun n => cD (.close n)
  let r2 : En := ⟨[some (.val (.list (tD t))), some (.val (.list (ints' (takenL t)))), some (.own (.lst cs)), none, none], []⟩
  have s1 : setS 1 (lcE (rng1 (kE (.int 10))) (fun d r => some (put r 3 (.val d))) [3] (tstB (binE gIsntN (binE gIx (nmE 0) (nmE 3)) (kE .none))) (nmE 3)) r0 = .nx r1 := by
    refine (set_own (lcE_rng (n := 10) (r := r0) (W := r0) rfl (by decide) rfl rfl rfl rfl (fun n => !decide (at' t n = none)) (fun (i : Nat) => .int (i : Int)) fun i hi => ?_)).trans rfl
    exact ⟨_, rfl, _, Pt.tst (Pv.bin (Pv.bin (Pv.nm rfl) (Pv.nm rfl) (ix_at ht hi) rfl) Pv.k (isntN_eD _) rfl), rfl, fun _ => ⟨_, nm_frz rfl, rfl⟩⟩
  have s2 : setS 2 (lcE (seqI (nmE 1)) (fun d r => some (put r 3 (.val d))) [3] (yesB) (tupE (consL (kE (.str "close")) (consL (nmE 3) (nilL))))) r1 = .nx r2 := by
    refine (set_own ((lcE_seq (T := [3]) (takenL t) (fun (i : Nat) => PyData.int (i : Int)) (x := .at (.slot 1)) (y := .val (.list (ints' (takenL t)))) (r1 := r1) (r2 := r1') (W := r1') rfl rfl rfl rfl (Nat.le_trans (taken_len t) (by decide)) rfl rfl rfl rfl (fun _ => true) (fun n => cD (.close n)) fun n hn => ?_).trans ?_)).trans (rfl : Out.nx (put r1' 2 (.own (.lst cs))) = _)
    · refine ⟨_, rfl, _, rfl, rfl, fun _ => ⟨_, val_frz (tup_eq (lst2 (val_frz rfl) (nm_frz rfl)) (by simp [sizeLine])), rfl⟩⟩
    · rw [ft]
  let ps : Nat → List PyData := fun n => (List.range 10).map fun m => cD (.copy n m)
  have hps : ∀ ns : List Nat, ((ns.map ps).flatten).length = 10 * ns.length := fun ns => by
    induction ns with
    | nil => rfl
    | cons n ns ih => simp only [List.map_cons, List.flatten_cons, List.length_append, ih, ps, List.length_map, List.length_range, List.length_cons]; omega
  have s3 : lc2E (seqI (nmE 1)) (fun d r => some (put r 3 (.val d))) [3, 4] (yesB) (rng1 (kE (.int 10))) (fun d r => some (put r 4 (.val d))) [4] (yesB) (tupE (consL (kE (.str "copy")) (consL (nmE 3) (consL (nmE 4) (nilL))))) r2 = .ok (.own (.lst (((takenL t).map ps).flatten))) r2 := by
    refine (lc2E_eq (T := [3, 4]) (T1 := [4]) (W := r2) (seq_run (x := .val (.list (ints' (takenL t)))) (y := .val (.list (ints' (takenL t)))) (r1 := r2) (r2 := r2) rfl rfl rfl) rfl rfl rfl (takenL t) (fun (i : Nat) => PyData.int (i : Int)) (fun i => by
      show some ((ints' (takenL t))[i]?) = _
      unfold ints'
      rw [List.getElem?_map]) (by simp [ints']) ps (by rw [hps]; exact Nat.le_trans (Nat.mul_le_mul_left 10 (taken_len t)) (by decide)) fun n hn => ?_)
    refine ⟨_, rfl, _, rfl, _, _, rng_run (n := 10) rfl (by decide), fun acc hacc => ?_⟩
    let W1 : En := put r2 3 (.val (.int (n : Int)))
    refine ⟨W1, ?_, rfl⟩
    have := lcN_eq (nth := rngNth 0 10) (tg := fun d r => some (put r 4 (.val d))) (T := [4]) (tt := yesB) (f := tupE (consL (kE (.str "copy")) (consL (nmE 3) (consL (nmE 4) (nilL))))) (W := W1) rfl (List.range 10) (fun (i : Nat) => PyData.int (i : Int)) (fun i => by
      unfold rngNth
      by_cases h : i < 10
      · rw [if_pos h]; simp [h]
      · rw [if_neg h]; simp [h]) (fun _ => true) (fun m => cD (.copy n m)) (fun m hm => ⟨_, rfl, _, rfl, rfl, fun _ => ⟨_, val_frz (tup_eq (lst3 (val_frz rfl) (nm_frz rfl) (nm_frz rfl)) (by simp [sizeLine])), rfl⟩⟩) 10 0 acc (by simp) (by simp [ps] at hacc ⊢; omega)
    rw [List.drop_zero, ft] at this
    exact this
  have s4 : binE gAdd (nmE 2) (lc2E (seqI (nmE 1)) (fun d r => some (put r 3 (.val d))) [3, 4] (yesB) (rng1 (kE (.int 10))) (fun d r => some (put r 4 (.val d))) [4] (yesB) (tupE (consL (kE (.str "copy")) (consL (nmE 3) (consL (nmE 4) (nilL)))))) r2 = .ok (.own (.lst ((callsL t).map cD))) r2 := by
    refine bin_go (a := .list cs) (b := .list (((takenL t).map ps).flatten)) (show nmE 2 r2 = .ok (.at (.slot 2)) r2 from rfl) s3 rfl rfl ?_
    have hl : cs.length + ((takenL t).map ps).flatten.length ≤ sizeLine := by
      rw [hps]
      have := taken_len t
      simp only [cs, List.length_map]
      exact Nat.le_trans (show _ ≤ 200 by omega) (by decide)
    show (if cs.length + ((takenL t).map ps).flatten.length ≤ sizeLine then some (Rv.own (Ob.lst (cs ++ ((takenL t).map ps).flatten))) else none) = _
    rw [if_pos hl]
    congr 3
    unfold callsL
    rw [List.map_append, List.map_map, List.map_flatMap, List.flatMap_def]
    congr 2
  exact (run_eq (r := r0) rfl rfl ((seq_ok' s1).trans ((seq_ok' s2).trans (ret_ok s4)))).trans rfl
theorem behind_len {t : List EndS} {c : CallT} : (behind t c).length = t.length := by cases c <;> simp [behind]
theorem eq_none_int (j : Int) : gEq .none (.int j) = some (vB false) := by
  unfold gEq eqOk
  have : PyData.eqv .none (.int j) = false := by simp [PyData.eqv]
  rw [this]
  rfl
theorem mem_set {β : Type} {l : List β} {n : Nat} {x y : β} (h : y ∈ l.set n x) : y = x ∨ y ∈ l := by
  rcases List.mem_or_eq_of_mem_set h with h | h
  · exact .inr h
  · exact .inl h
theorem Tab.behind {t : List EndS} (h : Tab t) (c : CallT) : Tab (Lw.behind t c) := by
  have hm : ∀ x : Str, some x ∈ Lw.behind t c → some x ∈ t := fun x hx => by
    cases c with
    | close n =>
      rcases mem_set hx with e | e
      · cases e
      · exact e
    | copy a b =>
      rcases mem_set hx with e | e
      · unfold at' at e
        cases q : t[a]? with
        | none => rw [q] at e; cases e
        | some y => rw [q] at e; rw [e]; exact List.mem_of_getElem? q
      · exact e
  exact { len := by rw [behind_len]; exact h.len, str := fun x hx => h.str x (hm x hx), nm := fun x hx => h.nm x (hm x hx) }
/-- the call's number is one less -/
def wellB (t g : List EndS) (m n : Nat) (c : CallT) : Bool := decide (countN (behind t c) g m = some (n - 1)) && decide (1 ≤ n)
theorem run_well {t g : List EndS} (ht : Tab t) (hg : Tab g) (m : Nat) (hm : m < 1000) {c : CallT} (hc : c.ok) (d : Done (linksL (behind t c) g (changedL (behind t c) g)) m) (n : Nat) :
    G_begins_well [.val (.list (tD t)), .val (.list (tD g)), .val (cD c), .val (.int (n : Int))] = .ret (.val (.bool (wellB t g m n c))) [] := by
  let r0 : En := ⟨[some (.val (.list (tD t))), some (.val (.list (tD g))), some (.val (cD c)), some (.val (.int (n : Int)))], []⟩
  have s1 : callE G_table_behind (consR (nmE 0) (consR (nmE 2) (consR (tupE (nilL)) (nilR)))) r0 = .ok (.own (.lst (tD (behind t c)))) r0 := callV (r := r0) (g := consR (nmE 0) (consR (nmE 2) (consR (tupE (nilL)) (nilR)))) (es := [.list (tD t), cD c, .tuple []]) rfl (run_behind ht.len hc)
  have s2 : callE G_count_calls (consR (callE G_table_behind (consR (nmE 0) (consR (nmE 2) (consR (tupE (nilL)) (nilR))))) (consR (nmE 1) (nilR))) r0 = .ok (.val (numD (countN (behind t c) g m))) r0 := by
    refine (bnd_ok (show consR (callE G_table_behind (consR (nmE 0) (consR (nmE 2) (consR (tupE (nilL)) (nilR))))) (consR (nmE 1) (nilR)) r0 = .ok [.own (.lst (tD (behind t c))), .val (.list (tD g))] r0 from (bnd_ok s1).trans rfl)).trans ?_
    have hq := run_count none (ht.behind c).toTabOk hg.toTabOk m hm d
    show (match G_count_calls [.own (.lst (tD (behind t c))), .val (.list (tD g))] with
      | .ret x os => if os.length = 0 then (.ok x (back [] os r0) : Res Rv) else .no
      | .ex e os => if os.length = 0 then .ex e (back [] os r0) else .no
      | .no => .no) = _
    rw [show G_count_calls [.own (.lst (tD (behind t c))), .val (.list (tD g))] = _ from hq]
    rfl
  have s3 : binE gEq (callE G_count_calls (consR (callE G_table_behind (consR (nmE 0) (consR (nmE 2) (consR (tupE (nilL)) (nilR))))) (consR (nmE 1) (nilR)))) (binE gSubI (nmE 3) (kE (.int 1))) r0 = .ok (.val (.bool (wellB t g m n c))) r0 := by
    refine bin_eq (a := numD (countN (behind t c) g m)) (b := .int ((n : Int) - 1)) (Pv.of s2 rfl) (Pv.bin (Pv.nm rfl) Pv.k (rfl : gSubI (.int (n : Int)) (.int 1) = some (vI ((n : Int) - 1))) rfl) ?_
    unfold wellB
    cases countN (behind t c) g m with
    | none => simpa [numD, vB] using eq_none_int ((n : Int) - 1)
    | some k =>
      show gEq (.int (k : Int)) (.int ((n : Int) - 1)) = _
      rw [eq_int]
      show some (Rv.val (PyData.bool _)) = some (Rv.val (PyData.bool _))
      congr 3
      rw [Bool.eq_iff_iff]
      simp
      omega
  exact (run_eq (r := r0) rfl rfl (ret_ok s3)).trans rfl
theorem calls_ok {t : List EndS} {c : CallT} (h : c ∈ callsL t) : c.ok := by
  unfold callsL at h
  rcases List.mem_append.mp h with h | h
  · obtain ⟨n, hn, rfl⟩ := List.mem_map.mp h
    exact taken_lt hn
  · obtain ⟨n, hn, h⟩ := List.mem_flatMap.mp h
    obtain ⟨m, hm, rfl⟩ := List.mem_map.mp h
    exact ⟨taken_lt hn, List.mem_range.mp hm⟩
theorem calls_len (t : List EndS) : (callsL t).length ≤ 110 := by
  unfold callsL
  have h := taken_len t
  have : ∀ ns : List Nat, (ns.flatMap fun n => (List.range 10).map fun m => CallT.copy n m).length = 10 * ns.length := fun ns => by
    induction ns with
    | nil => rfl
    | cons n ns ih => simp only [List.flatMap_cons, List.length_append, ih, List.length_map, List.length_range, List.length_cons]; omega
  rw [List.length_append, List.length_map, this]
  omega
end Lw

/-! Sy9b.lean -/
set_option Elab.async false
set_option linter.all false
set_option maxRecDepth 100000
/-! the same for a table that the caller holds -/
namespace Lw
open PySem L2 Mi
theorem run_behindR {t : List EndS} (ht : t.length = 10) {c : CallT} (hc : c.ok) : G_table_behind [.ref (.lst (tD t)), .val (cD c), .val (.tuple [])] = .ret (.own (.lst (tD (behind t c)))) [.live (.lst (tD t))] := by
  have go : ∀ (w : Str) (r2 : En) (o : Out), r2.vs[4]? = some (some (.val (.str w))) → ∀ (x : Str) (A B : Stm), ifS (tstB (binE gEq (nmE 4) (kE (.str x)))) A B r2 = if w = x then A r2 else B r2 := fun w r2 o h x A B => by
    have := if_ok (f := A) (g := B) (Pt.tst (Pv.bin (Pv.nm h) Pv.k (eq_str w x) rfl))
    simpa using this
  have hl : (tD t).length = 10 := by simpa using ht
  cases c with
  | close n =>
    let r1 : En := ⟨[some (.bor 0), some (.val (cD (.close n))), some (.val (.tuple [])), some (.own (.lst (tD t))), none], [.live (.lst (tD t))]⟩
    let r2 : En := ⟨[some (.bor 0), some (.val (cD (.close n))), some (.val (.tuple [])), some (.own (.lst (tD t))), some (.val (.str "close"))], [.live (.lst (tD t))]⟩
    let r3 : En := ⟨[some (.bor 0), some (.val (cD (.close n))), some (.val (.tuple [])), some (.own (.lst (tD (behind t (.close n))))), some (.val (.str "close"))], [.live (.lst (tD t))]⟩
    have s1 : setS 3 (unE gList (nmE 0)) ⟨[some (.bor 0), some (.val (cD (.close n))), some (.val (.tuple [])), none, none], [.live (.lst (tD t))]⟩ = .nx r1 := (set_own (un_eq (f := nmE 0) (a := .list (tD t)) ⟨.at (.obj 0), rfl, rfl⟩ rfl)).trans rfl
    have s2 : setS 4 (binE gIx (nmE 1) (kE (.int 0))) r1 = .nx r2 := (set_val (bin_eq (Pv.nm rfl) Pv.k tup0)).trans rfl
    have s3 : stoS (kE .none) 3 (binE gIx (nmE 1) (kE (.int 1))) r2 = .nx r3 := by
      refine (sto_eq (n := n) (ds := tD t) rfl rfl (Pv.bin (Pv.nm rfl) Pv.k tup1 rfl) (by rw [hl]; exact hc)).trans ?_
      rw [show PyData.none = eD none from rfl, tD_set]
      rfl
    refine (run_eq rfl rfl ((seq_ok' s1).trans ((seq_ok' s2).trans ((seq_ok' (r1 := r3) ?_).trans (ret_ok (show nmE 3 r3 = .ok (.at (.slot 3)) r3 from rfl)))))).trans rfl
    rw [go "close" r2 .no rfl, if_neg (by decide), go "close" r2 .no rfl, if_neg (by decide), go "close" r2 .no rfl, if_neg (by decide), go "close" r2 .no rfl, if_pos rfl]
    exact s3
  | copy a b =>
    let r1 : En := ⟨[some (.bor 0), some (.val (cD (.copy a b))), some (.val (.tuple [])), some (.own (.lst (tD t))), none], [.live (.lst (tD t))]⟩
    let r2 : En := ⟨[some (.bor 0), some (.val (cD (.copy a b))), some (.val (.tuple [])), some (.own (.lst (tD t))), some (.val (.str "copy"))], [.live (.lst (tD t))]⟩
    let r3 : En := ⟨[some (.bor 0), some (.val (cD (.copy a b))), some (.val (.tuple [])), some (.own (.lst (tD (behind t (.copy a b))))), some (.val (.str "copy"))], [.live (.lst (tD t))]⟩
    have s1 : setS 3 (unE gList (nmE 0)) ⟨[some (.bor 0), some (.val (cD (.copy a b))), some (.val (.tuple [])), none, none], [.live (.lst (tD t))]⟩ = .nx r1 := (set_own (un_eq (f := nmE 0) (a := .list (tD t)) ⟨.at (.obj 0), rfl, rfl⟩ rfl)).trans rfl
    have s2 : setS 4 (binE gIx (nmE 1) (kE (.int 0))) r1 = .nx r2 := (set_val (bin_eq (Pv.nm rfl) Pv.k tup0)).trans rfl
    have s3 : stoS (binE gIx (nmE 3) (binE gIx (nmE 1) (kE (.int 1)))) 3 (binE gIx (nmE 1) (kE (.int 2))) r2 = .nx r3 := by
      refine (sto_eq (n := b) (ds := tD t) (bin_eq (pa_own rfl).pv (Pv.bin (Pv.nm rfl) Pv.k tup1 rfl) (ix_at ht hc.1)) rfl (Pv.bin (Pv.nm rfl) Pv.k tup2 rfl) (by rw [hl]; exact hc.2)).trans ?_
      rw [tD_set]
      rfl
    refine (run_eq rfl rfl ((seq_ok' s1).trans ((seq_ok' s2).trans ((seq_ok' (r1 := r3) ?_).trans (ret_ok (show nmE 3 r3 = .ok (.at (.slot 3)) r3 from rfl)))))).trans rfl
    rw [go "copy" r2 .no rfl, if_neg (by decide), go "copy" r2 .no rfl, if_neg (by decide), go "copy" r2 .no rfl, if_pos rfl]
    exact s3
theorem run_behindB (b : Bool) {t : List EndS} (ht : t.length = 10) {c : CallT} (hc : c.ok) : G_table_behind (agB b (tD t) :: [cD c, .tuple []].map .val) = .ret (.own (.lst (tD (behind t c)))) (oss b (tD t)) := by
  cases b
  · exact run_behind ht hc
  · exact run_behindR ht hc
theorem run_possibleR {t : List EndS} (ht : t.length = 10) : G_possible_calls [.ref (.lst (tD t))] = .ret (.own (.lst ((callsL t).map cD))) [.live (.lst (tD t))] := by
  let r0 : En := ⟨[some (.bor 0), none, none, none, none], [.live (.lst (tD t))]⟩
  let r1 : En := ⟨[some (.bor 0), some (.own (.lst (ints' (takenL t)))), none, none, none], [.live (.lst (tD t))]⟩
  let r1' : En := ⟨[some (.bor 0), some (.val (.list (ints' (takenL t)))), none, none, none], [.live (.lst (tD t))]⟩
  let cs := (takenL t).map fun n => cD (.close n)
  let r2 : En := ⟨[some (.bor 0), some (.val (.list (ints' (takenL t)))), some (.own (.lst cs)), none, none], [.live (.lst (tD t))]⟩
  have s1 : setS 1 (lcE (rng1 (kE (.int 10))) (fun d r => some (put r 3 (.val d))) [3] (tstB (binE gIsntN (binE gIx (nmE 0) (nmE 3)) (kE .none))) (nmE 3)) r0 = .nx r1 := by
    refine (set_own (lcE_rng (n := 10) (r := r0) (W := r0) rfl (by decide) rfl rfl rfl rfl (fun n => !decide (at' t n = none)) (fun (i : Nat) => .int (i : Int)) fun i hi => ?_)).trans rfl
    exact ⟨_, rfl, _, Pt.tst (Pv.bin (Pv.bin (f := nmE 0) (a := .list (tD t)) ⟨.at (.obj 0), rfl, rfl⟩ (Pv.nm rfl) (ix_at ht hi) rfl) Pv.k (isntN_eD _) rfl), rfl, fun _ => ⟨_, nm_frz rfl, rfl⟩⟩
  have s2 : setS 2 (lcE (seqI (nmE 1)) (fun d r => some (put r 3 (.val d))) [3] (yesB) (tupE (consL (kE (.str "close")) (consL (nmE 3) (nilL))))) r1 = .nx r2 := by
    refine (set_own ((lcE_seq (T := [3]) (takenL t) (fun (i : Nat) => PyData.int (i : Int)) (x := .at (.slot 1)) (y := .val (.list (ints' (takenL t)))) (r1 := r1) (r2 := r1') (W := r1') rfl rfl rfl rfl (Nat.le_trans (taken_len t) (by decide)) rfl rfl rfl rfl (fun _ => true) (fun n => cD (.close n)) fun n hn => ?_).trans ?_)).trans (rfl : Out.nx (put r1' 2 (.own (.lst cs))) = _)
    · refine ⟨_, rfl, _, rfl, rfl, fun _ => ⟨_, val_frz (tup_eq (lst2 (val_frz rfl) (nm_frz rfl)) (by simp [sizeLine])), rfl⟩⟩
    · rw [ft]
  let ps : Nat → List PyData := fun n => (List.range 10).map fun m => cD (.copy n m)
  have hps : ∀ ns : List Nat, ((ns.map ps).flatten).length = 10 * ns.length := fun ns => by
    induction ns with
    | nil => rfl
    | cons n ns ih => simp only [List.map_cons, List.flatten_cons, List.length_append, ih, ps, List.length_map, List.length_range, List.length_cons]; omega
  have s3 : lc2E (seqI (nmE 1)) (fun d r => some (put r 3 (.val d))) [3, 4] (yesB) (rng1 (kE (.int 10))) (fun d r => some (put r 4 (.val d))) [4] (yesB) (tupE (consL (kE (.str "copy")) (consL (nmE 3) (consL (nmE 4) (nilL))))) r2 = .ok (.own (.lst (((takenL t).map ps).flatten))) r2 := by
    refine (lc2E_eq (T := [3, 4]) (T1 := [4]) (W := r2) (seq_run (x := .val (.list (ints' (takenL t)))) (y := .val (.list (ints' (takenL t)))) (r1 := r2) (r2 := r2) rfl rfl rfl) rfl rfl rfl (takenL t) (fun (i : Nat) => PyData.int (i : Int)) (fun i => by
      show some ((ints' (takenL t))[i]?) = _
      unfold ints'
      rw [List.getElem?_map]) (by simp [ints']) ps (by rw [hps]; exact Nat.le_trans (Nat.mul_le_mul_left 10 (taken_len t)) (by decide)) fun n hn => ?_)
    refine ⟨_, rfl, _, rfl, _, _, rng_run (n := 10) rfl (by decide), fun acc hacc => ?_⟩
    let W1 : En := put r2 3 (.val (.int (n : Int)))
    refine ⟨W1, ?_, rfl⟩
    have := lcN_eq (nth := rngNth 0 10) (tg := fun d r => some (put r 4 (.val d))) (T := [4]) (tt := yesB) (f := tupE (consL (kE (.str "copy")) (consL (nmE 3) (consL (nmE 4) (nilL))))) (W := W1) rfl (List.range 10) (fun (i : Nat) => PyData.int (i : Int)) (fun i => by
      unfold rngNth
      by_cases h : i < 10
      · rw [if_pos h]; simp [h]
      · rw [if_neg h]; simp [h]) (fun _ => true) (fun m => cD (.copy n m)) (fun m hm => ⟨_, rfl, _, rfl, rfl, fun _ => ⟨_, val_frz (tup_eq (lst3 (val_frz rfl) (nm_frz rfl) (nm_frz rfl)) (by simp [sizeLine])), rfl⟩⟩) 10 0 acc (by simp) (by simp [ps] at hacc ⊢; omega)
    rw [List.drop_zero, ft] at this
    exact this
  have s4 : binE gAdd (nmE 2) (lc2E (seqI (nmE 1)) (fun d r => some (put r 3 (.val d))) [3, 4] (yesB) (rng1 (kE (.int 10))) (fun d r => some (put r 4 (.val d))) [4] (yesB) (tupE (consL (kE (.str "copy")) (consL (nmE 3) (consL (nmE 4) (nilL)))))) r2 = .ok (.own (.lst ((callsL t).map cD))) r2 := by
    refine bin_go (a := .list cs) (b := .list (((takenL t).map ps).flatten)) (show nmE 2 r2 = .ok (.at (.slot 2)) r2 from rfl) s3 rfl rfl ?_
    have hl : cs.length + ((takenL t).map ps).flatten.length ≤ sizeLine := by
      rw [hps]
      have := taken_len t
      simp only [cs, List.length_map]
      exact Nat.le_trans (show _ ≤ 200 by omega) (by decide)
    show (if cs.length + ((takenL t).map ps).flatten.length ≤ sizeLine then some (Rv.own (Ob.lst (cs ++ ((takenL t).map ps).flatten))) else none) = _
    rw [if_pos hl]
    congr 3
    unfold callsL
    rw [List.map_append, List.map_map, List.map_flatMap, List.flatMap_def]
    congr 2
  exact (run_eq (r := r0) rfl rfl ((seq_ok' s1).trans ((seq_ok' s2).trans (ret_ok s4)))).trans rfl
theorem run_possibleB (b : Bool) {t : List EndS} (ht : t.length = 10) : G_possible_calls (agB b (tD t) :: [].map .val) = .ret (.own (.lst ((callsL t).map cD))) (oss b (tD t)) := by
  cases b
  · exact run_possible ht
  · exact run_possibleR ht
theorem run_wellR {t g : List EndS} (ht : Tab t) (hg : Tab g) (m : Nat) (hm : m < 1000) {c : CallT} (hc : c.ok) (d : Done (linksL (behind t c) g (changedL (behind t c) g)) m) (n : Nat) :
    G_begins_well [.ref (.lst (tD t)), .val (.list (tD g)), .val (cD c), .val (.int (n : Int))] = .ret (.val (.bool (wellB t g m n c))) [.live (.lst (tD t))] := by
  let r0 : En := ⟨[some (.bor 0), some (.val (.list (tD g))), some (.val (cD c)), some (.val (.int (n : Int)))], [.live (.lst (tD t))]⟩
  have s1 : callE G_table_behind (consR (nmE 0) (consR (nmE 2) (consR (tupE (nilL)) (nilR)))) r0 = .ok (.own (.lst (tD (behind t c)))) r0 := callB (r := r0) (g := consR (nmE 2) (consR (tupE (nilL)) (nilR))) (es := [cD c, .tuple []]) ⟨.at (.obj 0), rfl, .inr ⟨_, rfl, rfl⟩⟩ rfl fun b => run_behindB b ht.len hc
  have s2 : callE G_count_calls (consR (callE G_table_behind (consR (nmE 0) (consR (nmE 2) (consR (tupE (nilL)) (nilR))))) (consR (nmE 1) (nilR))) r0 = .ok (.val (numD (countN (behind t c) g m))) r0 := by
    refine (bnd_ok (show consR (callE G_table_behind (consR (nmE 0) (consR (nmE 2) (consR (tupE (nilL)) (nilR))))) (consR (nmE 1) (nilR)) r0 = .ok [.own (.lst (tD (behind t c))), .val (.list (tD g))] r0 from (bnd_ok s1).trans rfl)).trans ?_
    have hq := run_count none (ht.behind c).toTabOk hg.toTabOk m hm d
    show (match G_count_calls [.own (.lst (tD (behind t c))), .val (.list (tD g))] with
      | .ret x os => if os.length = 0 then (.ok x (back [] os r0) : Res Rv) else .no
      | .ex e os => if os.length = 0 then .ex e (back [] os r0) else .no
      | .no => .no) = _
    rw [show G_count_calls [.own (.lst (tD (behind t c))), .val (.list (tD g))] = _ from hq]
    rfl
  have s3 : binE gEq (callE G_count_calls (consR (callE G_table_behind (consR (nmE 0) (consR (nmE 2) (consR (tupE (nilL)) (nilR))))) (consR (nmE 1) (nilR)))) (binE gSubI (nmE 3) (kE (.int 1))) r0 = .ok (.val (.bool (wellB t g m n c))) r0 := by
    refine bin_eq (a := numD (countN (behind t c) g m)) (b := .int ((n : Int) - 1)) (Pv.of s2 rfl) (Pv.bin (Pv.nm rfl) Pv.k (rfl : gSubI (.int (n : Int)) (.int 1) = some (vI ((n : Int) - 1))) rfl) ?_
    unfold wellB
    cases countN (behind t c) g m with
    | none => simpa [numD, vB] using eq_none_int ((n : Int) - 1)
    | some k =>
      show gEq (.int (k : Int)) (.int ((n : Int) - 1)) = _
      rw [eq_int]
      show some (Rv.val (PyData.bool _)) = some (Rv.val (PyData.bool _))
      congr 3
      rw [Bool.eq_iff_iff]
      simp
      omega
  exact (run_eq (r := r0) rfl rfl (ret_ok s3)).trans rfl
theorem run_wellB (b : Bool) {t g : List EndS} (ht : Tab t) (hg : Tab g) (m : Nat) (hm : m < 1000) {c : CallT} (hc : c.ok) (d : Done (linksL (behind t c) g (changedL (behind t c) g)) m) (n : Nat) :
    G_begins_well (agB b (tD t) :: [.list (tD g), cD c, .int (n : Int)].map .val) = .ret (.val (.bool (wellB t g m n c))) (oss b (tD t)) := by
  cases b
  · exact run_well ht hg m hm hc d n
  · exact run_wellR ht hg m hm hc d n
end Lw

/-! Ma1.lean -/
set_option Elab.async false
set_option linter.all false
set_option maxRecDepth 100000
/-! walks along links end -/
namespace Lw
open PySem L2 Mi
theorem nodup_len : ∀ (n : Nat) (l : List Nat), l.Nodup → (∀ x ∈ l, x < n) → l.length ≤ n
  | 0, l, _, h => by
    cases l with
    | nil => exact Nat.le_refl _
    | cons x l => exact absurd (h x List.mem_cons_self) (Nat.not_lt_zero _)
  | n + 1, l, nd, h => by
    have h1 := nodup_len n (l.erase n) (nd.erase n) fun x hx => by
      have h2 := h x (List.mem_of_mem_erase hx)
      have h3 := ((List.Nodup.mem_erase_iff nd).mp hx).1
      omega
    by_cases e : n ∈ l
    · rw [List.length_erase_of_mem e] at h1; omega
    · rw [List.erase_of_not_mem e] at h1; omega
structure WI (s : Nat → Option Nat) (a : Nat) (ring : List Nat) (num : Option Nat) : Prop where
  head : ring[0]? = some a
  ch : ∀ i x y, ring[i]? = some x → ring[i + 1]? = some y → s x = some y
  nd : ring.Nodup
  lt : ∀ x ∈ ring, x < 10
  last : ∀ z, ring[ring.length - 1]? = some z → s z = num
theorem WI.notin {s : Nat → Option Nat} {a n : Nat} {ring : List Nat} (inj : ∀ x y h, s x = some h → s y = some h → x = y) (w : WI s a ring (some n)) (hn : n ≠ a) : n ∉ ring := fun hm => by
  obtain ⟨j, hj, e⟩ := List.mem_iff_getElem.mp hm
  have ej : ring[j]? = some n := by rw [List.getElem?_eq_getElem hj, e]
  cases j with
  | zero => have := w.head; rw [ej] at this; cases this; exact hn rfl
  | succ i =>
    have ei : ring[i]? = some ring[i] := List.getElem?_eq_getElem (by omega)
    have h1 := w.ch i _ _ ei ej
    have el : ring[ring.length - 1]? = some ring[ring.length - 1] := List.getElem?_eq_getElem (by omega)
    have h2 := w.last _ el
    have h3 := inj _ _ _ h1 h2
    rcases Nat.lt_or_ge i (ring.length - 1) with hlt | hge
    · exact (List.pairwise_iff_getElem.mp w.nd) i (ring.length - 1) (by omega) (by omega) hlt h3
    · omega
theorem WI.next {s : Nat → Option Nat} {a n : Nat} {ring : List Nat} (inj : ∀ x y h, s x = some h → s y = some h → x = y) (lt : ∀ x h, s x = some h → h < 10) (w : WI s a ring (some n)) (hn : n ≠ a) : WI s a (ring ++ [n]) (s n) := by
  have h0 : 0 < ring.length := (List.getElem?_eq_some_iff.mp w.head).1
  have el : ring[ring.length - 1]? = some ring[ring.length - 1] := List.getElem?_eq_getElem (by omega)
  refine ⟨by rw [List.getElem?_append_left h0]; exact w.head, fun i x y h1 h2 => ?_, ?_, fun x hx => ?_, fun z hz => ?_⟩
  · by_cases hi : i + 1 < ring.length
    · rw [List.getElem?_append_left (by omega)] at h1
      rw [List.getElem?_append_left hi] at h2
      exact w.ch i x y h1 h2
    · have h3 := (List.getElem?_eq_some_iff.mp h2).1
      rw [List.length_append, List.length_singleton] at h3
      have e : i = ring.length - 1 := by omega
      subst e
      rw [List.getElem?_append_left (by omega)] at h1
      rw [List.getElem?_append_right (by omega)] at h2
      have e2 : ring.length - 1 + 1 - ring.length = 0 := by omega
      rw [e2] at h2
      cases h2
      exact w.last x h1
  · rw [List.nodup_append]
    refine ⟨w.nd, by simp, fun x hx y hy => ?_⟩
    simp at hy
    subst hy
    exact fun e => w.notin inj hn (e ▸ hx)
  · rcases List.mem_append.mp hx with h | h
    · exact w.lt x h
    · simp at h; subst h; exact lt _ _ (w.last _ el)
  · rw [List.length_append, List.length_singleton, Nat.add_sub_cancel, List.getElem?_append_right (Nat.le_refl _), Nat.sub_self] at hz
    cases hz
    rfl
theorem walk_done {s : Nat → Option Nat} {a : Nat} (inj : ∀ x y h, s x = some h → s y = some h → x = y) (lt : ∀ x h, s x = some h → h < 10) : ∀ (m : Nat) (ring : List Nat) (num : Option Nat), WI s a ring num → 10 < ring.length + m →
    (walkF s a m ring num).2 = none ∨ (walkF s a m ring num).2 = some a
  | 0, ring, num, w, h => by
    have := nodup_len 10 ring w.nd w.lt
    omega
  | m + 1, ring, none, w, h => .inl rfl
  | m + 1, ring, some n, w, h => by
    by_cases e : n = a
    · subst e
      rw [walkF, if_pos rfl]
      exact .inr rfl
    · rw [walkF, if_neg e]
      exact walk_done inj lt m _ _ (w.next inj lt e) (by simp; omega)
/-! the links of a table and a goal -/
theorem suc_find {l : List (Nat × Nat)} {n h : Nat} (e : suc l n = some h) : (n, h) ∈ l := by
  unfold suc at e
  obtain ⟨p, h1, h2⟩ := Option.map_eq_some_iff.mp e
  have h3 := List.find?_some h1
  simp at h3
  have := List.mem_of_find?_eq_some h1
  subst h2
  subst h3
  exact this
theorem link_mem {t g : List EndS} {ns : List Nat} {n h : Nat} (e : (n, h) ∈ linksL t g ns) : n ∈ ns ∧ linkC t g n = true ∧ holdersL t (at' g n) = [h] := by
  unfold linksL at e
  obtain ⟨m, hm, e2⟩ := List.mem_map.mp e
  obtain ⟨h1, h2⟩ := List.mem_filter.mp hm
  obtain ⟨rfl, e3⟩ := Prod.mk.inj e2
  refine ⟨h1, h2, ?_⟩
  have h3 : (holdersL t (at' g m)).length = 1 := by
    unfold linkC at h2
    simp at h2
    exact h2.2.2
  obtain ⟨v, hv⟩ := List.length_eq_one_iff.mp h3
  rw [hv] at e3 ⊢
  rw [← e3]
  rfl
theorem holders_mem {t : List EndS} {e : EndS} {h : Nat} : h ∈ holdersL t e ↔ h < 10 ∧ at' t h = e := by
  unfold holdersL
  simp
theorem want_one {t g : List EndS} {a b : Nat} (ha : a ∈ changedL t g) (hb : b ∈ changedL t g) (e : at' g a = at' g b) (h : (wantL t g).count (at' g a) = 1) : a = b := by
  have nd := changed_nodup t g
  unfold wantL at h
  revert ha hb h nd
  generalize changedL t g = cs
  intro ha hb h nd
  induction cs with
  | nil => cases ha
  | cons c cs ih =>
    rw [List.map_cons] at h
    have nd2 := List.nodup_cons.mp nd
    have zero : ∀ x ∈ cs, at' g x = at' g a → List.count (at' g a) (cs.map (at' g)) ≠ 0 := fun x hx ex q => by
      have := List.count_eq_zero.mp q
      exact this (List.mem_map.mpr ⟨x, hx, ex⟩)
    rcases List.mem_cons.mp ha with rfl | ha
    · rcases List.mem_cons.mp hb with rfl | hb
      · rfl
      · rw [List.count_cons_self] at h
        exact absurd (by omega) (zero b hb e.symm)
    · rcases List.mem_cons.mp hb with hb | hb
      · subst hb
        rw [← e, List.count_cons_self] at h
        exact absurd (by omega) (zero a ‹a ∈ cs› rfl)
      · refine ih ha hb ?_ nd2.2
        by_cases q : at' g c = at' g a
        · rw [q, List.count_cons_self] at h
          exact absurd (by omega) (zero a ha rfl)
        · rw [List.count_cons_of_ne (fun z => q z)] at h
          exact h
theorem suc_inj {t g : List EndS} {x y h : Nat} (h1 : suc (linksL t g (changedL t g)) x = some h) (h2 : suc (linksL t g (changedL t g)) y = some h) : x = y := by
  obtain ⟨a1, a2, a3⟩ := link_mem (suc_find h1)
  obtain ⟨b1, b2, b3⟩ := link_mem (suc_find h2)
  have e1 := (holders_mem.mp (by rw [a3]; exact List.mem_singleton_self h : h ∈ holdersL t (at' g x))).2
  have e2 := (holders_mem.mp (by rw [b3]; exact List.mem_singleton_self h : h ∈ holdersL t (at' g y))).2
  have h3 : (wantL t g).count (at' g x) = 1 := by
    unfold linkC at a2
    simp at a2
    exact a2.2.1
  exact want_one a1 b1 (e1.symm.trans e2) h3
theorem suc_lt {t g : List EndS} {x h : Nat} (h1 : suc (linksL t g (changedL t g)) x = some h) : h < 10 := by
  obtain ⟨_, _, a3⟩ := link_mem (suc_find h1)
  exact (holders_mem.mp (by rw [a3]; exact List.mem_singleton_self h : h ∈ holdersL t (at' g x))).1
theorem done_links (t g : List EndS) : Done (linksL t g (changedL t g)) 11 := fun p hp => by
  have ha := changed_lt (link_mem (n := p.1) (h := p.2) hp).1
  refine walk_done (fun x y h => suc_inj) (fun x h => suc_lt) 11 [p.1] _ ⟨rfl, fun i x y h1 h2 => ?_, by simp, fun x hx => ?_, fun z hz => ?_⟩ (by simp)
  · simp at h2
  · simp at hx; subst hx; exact ha
  · simp at hz; subst hz; rfl
end Lw

/-! Sy10.lean -/
set_option Elab.async false
set_option linter.all false
set_option maxRecDepth 100000
namespace Lw
open PySem L2 Mi
theorem shaped_ints (ns : List Nat) : SeqAt.shaped (.list (ints' ns)) = true := by
  have h1 : PyData.canLayAll0 (ints' ns) = true := by
    unfold ints'
    induction ns with
    | nil => rfl
    | cons n ns ih => simp only [List.map_cons, PyData.canLayAll0, PyData.canLay0, ih, Bool.and_self]
  have h2 : PyData.depthAll (ints' ns) = 0 := by
    clear h1
    unfold ints'
    induction ns with
    | nil => rfl
    | cons n ns ih => simp only [List.map_cons, PyData.depthAll, PyData.depth, ih, Nat.max_self]
  unfold SeqAt.shaped
  simp only [PyData.canLay0, PyData.depth, h1, h2]
  rfl
theorem eqv_int (i j : Nat) : PyData.eqv (.int (i : Int)) (.int (j : Int)) = decide (i = j) := by
  simp only [PyData.eqv]
  rw [Bool.eq_iff_iff]
  simp
  omega
theorem eqvAll_ints : ∀ ns ms : List Nat, PyData.eqvAll (ints' ns) (ints' ms) = decide (ns = ms)
  | [], [] => by simp [ints', PyData.eqvAll]
  | [], m :: ms => by simp [ints', PyData.eqvAll]
  | n :: ns, [] => by simp [ints', PyData.eqvAll]
  | n :: ns, m :: ms => by
    have ih := eqvAll_ints ns ms
    show PyData.eqvAll (.int (n : Int) :: ints' ns) (.int (m : Int) :: ints' ms) = _
    simp only [PyData.eqvAll, ih, eqv_int]
    rw [Bool.eq_iff_iff]
    simp
theorem ne_ints (ns ms : List Nat) : gNe (.list (ints' ns)) (.list (ints' ms)) = some (vB (!decide (ns = ms))) := by
  have e : PyData.eqv (.list (ints' ns)) (.list (ints' ms)) = decide (ns = ms) := by simp only [PyData.eqv, eqvAll_ints]
  unfold gNe eqOk
  rw [shaped_ints, shaped_ints, e]
  simp
theorem notIn_ints (n : Nat) (ns : List Nat) : gNotIn (.int (n : Int)) (.list (ints' ns)) = some (vB (!decide (n ∈ ns))) := by
  have h1 : ((ints' ns).any fun z => PyData.eqv z (.int (n : Int))) = decide (n ∈ ns) := by
    unfold ints'
    rw [List.any_map, Bool.eq_iff_iff]
    simp only [List.any_eq_true, Function.comp, eqv_int, decide_eq_true_eq]
    exact ⟨fun ⟨x, hx, h⟩ => h ▸ hx, fun h => ⟨n, h, rfl⟩⟩
  have h2 : gInB (.int (n : Int)) (.list (ints' ns)) = if (SeqAt.shaped (.int (n : Int)) && SeqAt.shaped (.list (ints' ns))) = true then some ((ints' ns).any fun z => PyData.eqv z (.int (n : Int))) else none := rfl
  unfold gNotIn
  rw [h2, shaped_ints, h1]
  rfl
theorem sif' {t : M Bool} {f rest : Stm} {r r1 r2 : En} {b : Bool} {x : Rv} {o : Out} (h : t r = .ok b r1) (hf : f r1 = .rt x r2) (hg : b = false → rest r1 = o) : seqS (ifS t f nxS) rest r = if b = true then .rt x r2 else o := by
  have e := if_go (f := f) (g := nxS) h
  cases b with
  | true =>
    simp only [if_true] at e ⊢
    unfold seqS
    rw [e, hf]
  | false =>
    simp only [Bool.false_eq_true, if_false] at e ⊢
    unfold seqS
    rw [e]
    exact hg rfl
/-! the law's source of a number -/
def srcB (t g : List EndS) (n : Nat) : Bool :=
  decide (at' g n = none) || (!decide (n ∈ changedL t g) || (!decide ((changedL t g).filter (fun m => decide (at' g m = at' g n)) = [n]) || (!decide ((holdersL t (at' g n)).length = 1) || !decide ((holdersL t (at' g n)).headD 0 ∈ changedL t g))))
def srcOf (t g : List EndS) (n : Nat) : Option Nat := if srcB t g n = true then none else some ((holdersL t (at' g n)).headD 0)
end Lw

/-! Sy11.lean -/
set_option Elab.async false
set_option linter.all false
set_option maxRecDepth 100000
namespace Lw
open PySem L2 Mi
theorem leastI_min (n : Int) : ∀ ns : List Int, ns.foldl (fun a b => if b < a then b else a) n = PySem.W.minOf n ns := by
  intro ns
  induction ns generalizing n with
  | nil => rfl
  | cons y ns ih =>
    have e : PySem.W.minOf n (y :: ns) = PySem.W.minOf (if decide (y < n) = true then y else n) ns := rfl
    rw [e, List.foldl_cons, ih]
    congr 1
    by_cases h : y < n <;> simp [h]
theorem min_walk (n : Nat) (ns : List Nat) : gMinX (.list (ints' (n :: ns))) = some (vI (PySem.W.minOf (n : Int) (ns.map fun (i : Nat) => (i : Int)))) := by
  show ((intsOf (ints' (n :: ns))).bind fun ns => (leastI ns).map vI) = _
  rw [ints_of]
  show some (vI _) = _
  rw [leastI_min]
/-! srcOf is a part of the links -/
theorem src_some {t g : List EndS} {n h : Nat} (e : srcOf t g n = some h) : n ∈ changedL t g ∧ at' g n ≠ none ∧ (changedL t g).filter (fun m => decide (at' g m = at' g n)) = [n] ∧ holdersL t (at' g n) = [h] ∧ h ∈ changedL t g := by
  unfold srcOf at e
  split at e
  · cases e
  · rename_i q
    unfold srcB at q
    simp at q
    obtain ⟨q1, q2, q3, q4, q5⟩ := q
    obtain ⟨v, hv⟩ := List.length_eq_one_iff.mp q4
    rw [hv] at e q5 ⊢
    cases e
    exact ⟨q2, q1, q3, rfl, q5⟩
theorem src_inj {t g : List EndS} {x y h : Nat} (h1 : srcOf t g x = some h) (h2 : srcOf t g y = some h) : x = y := by
  obtain ⟨a1, a2, a3, a4, a5⟩ := src_some h1
  obtain ⟨b1, b2, b3, b4, b5⟩ := src_some h2
  have e1 := (holders_mem.mp (by rw [a4]; exact List.mem_singleton_self h : h ∈ holdersL t (at' g x))).2
  have e2 := (holders_mem.mp (by rw [b4]; exact List.mem_singleton_self h : h ∈ holdersL t (at' g y))).2
  have : y ∈ (changedL t g).filter (fun m => decide (at' g m = at' g x)) := List.mem_filter.mpr ⟨b1, by simp; exact e2.symm.trans e1⟩
  rw [a3] at this
  exact (List.mem_singleton.mp this).symm
theorem src_lt {t g : List EndS} {x h : Nat} (h1 : srcOf t g x = some h) : h < 10 := changed_lt (src_some h1).2.2.2.2
/-! the law's walk from a number -/
def lwEnv (b : Bool) (t g : List EndS) (found : List (List Nat)) (a : Nat) (ring : List Nat) (num : Option Nat) : En :=
  ⟨[some (cell b (tD t)), some (.val (.list (tD g))), some (.own (.lst (found.map tupI))), some (.val (.int (a : Int))), some (.own (.lst (ints' ring))), some (.val (numD num))], oss b (tD t)⟩
theorem lw_cond (b : Bool) (t g : List EndS) (found : List (List Nat)) (a : Nat) (ring : List Nat) (num : Option Nat) :
    Pt (andB (tstB (binE gIsntN (nmE 5) (kE .none))) (tstB (binE gNotIn (nmE 5) (nmE 4)))) (lwEnv b t g found a ring num) (match num with | none => false | some n => !decide (n ∈ ring)) := by
  cases num with
  | none => exact Pt.and (a := false) (b := false) (Pt.tst (Pv.bin (Pv.nm rfl) Pv.k (rfl : gIsntN .none .none = some (vB false)) rfl)) nofun
  | some n => exact Pt.and (a := true) (Pt.tst (Pv.bin (Pv.nm rfl) Pv.k (rfl : gIsntN (.int (n : Int)) .none = some (vB true)) rfl)) fun _ => Pt.tst (Pv.bin (Pv.nm rfl) (pa_own rfl).pv (notIn_ints n ring) rfl)
end Lw

/-! Sy12.lean -/
set_option Elab.async false
set_option linter.all false
set_option maxRecDepth 100000
namespace Lw
open PySem L2 Mi
theorem par_eq {i j : Nat} {g : M (List Rv)} {r : En} {o : Ob} {d : PyData} (h : g r = .ok [.own o, .val d] r) : parS i j g r = .nx (put (put r i (.own o)) j (.val d)) := by
  unfold parS
  rw [h]
  rfl
theorem walk_head (s : Nat → Option Nat) (a : Nat) : ∀ (m : Nat) (b : Nat) (ring : List Nat) (num : Option Nat), ∃ ns, (walkF s a m (b :: ring) num).1 = b :: ns
  | 0, b, ring, num => ⟨ring, rfl⟩
  | m + 1, b, ring, none => ⟨ring, rfl⟩
  | m + 1, b, ring, some n => by
    by_cases e : n = a
    · rw [walkF, if_pos e]; exact ⟨ring, rfl⟩
    · rw [walkF, if_neg e]; exact walk_head s a m b (ring ++ [n]) (s n)
def lw (t g : List EndS) (n : Nat) : List Nat × Option Nat := walkF (srcOf t g) n 11 [n] (srcOf t g n)
def keepW (t g : List EndS) (n : Nat) : Bool := decide ((lw t g n).2 = some n) && goodR (lw t g n).1
def lawRings (t g : List EndS) (k : Nat) : List (List Nat) := ((List.range k).filter (keepW t g)).map fun n => (lw t g n).1
theorem lawRings_succ (t g : List EndS) (k : Nat) : lawRings t g (k + 1) = lawRings t g k ++ if keepW t g k = true then [(lw t g k).1] else [] := by
  unfold lawRings
  rw [List.range_succ, List.filter_append, List.map_append]
  congr 1
  cases h : keepW t g k <;> simp [h]
theorem lawRings_len (t g : List EndS) (k : Nat) : (lawRings t g k).length ≤ k := by
  unfold lawRings
  rw [List.length_map]
  exact Nat.le_trans (List.length_filter_le _ _) (by simp)
theorem eq_num (num : Option Nat) (n : Nat) : gEq (numD num) (.int (n : Int)) = some (vB (decide (num = some n))) := by
  cases num with
  | none => simpa [numD] using eq_none_int (n : Int)
  | some k =>
    have := eq_nat k n
    simpa [numD] using this
end Lw

/-! Sy13.lean -/
set_option Elab.async false
set_option linter.all false
set_option maxRecDepth 100000
namespace Lw
open PySem L2 Mi
theorem nil_eqv (ds : List PyData) : PyData.eqv (.list ds) (.list []) = ds.isEmpty := by
  cases ds with
  | nil => simp [PyData.eqv, PyData.eqvAll]
  | cons d ds => simp [PyData.eqv, PyData.eqvAll]
theorem ne_nil {ds : List PyData} (h : SeqAt.shaped (.list ds) = true) : gNe (.list ds) (.list []) = some (vB (!ds.isEmpty)) := by
  unfold gNe eqOk
  rw [h, nil_eqv, show SeqAt.shaped (.list []) = true from rfl]
  simp
theorem eq_nil {ds : List PyData} (h : SeqAt.shaped (.list ds) = true) : gEq (.list ds) (.list []) = some (vB ds.isEmpty) := by
  unfold gEq eqOk
  rw [h, nil_eqv, show SeqAt.shaped (.list []) = true from rfl]
  simp
theorem shaped_rings (rs : List (List Nat)) : SeqAt.shaped (.list (rs.map tupI)) = true := by
  have h1 : PyData.canLayAll0 (rs.map tupI) = true := by
    induction rs with
    | nil => rfl
    | cons r rs ih =>
      have := SeqAt.canLay_of_shaped (shaped_tup r)
      simp only [List.map_cons, PyData.canLayAll0, ih, this, Bool.and_self]
  have h2 : PyData.depthAll (rs.map tupI) ≤ 63 := by
    clear h1
    induction rs with
    | nil => exact Nat.zero_le _
    | cons r rs ih =>
      have : (tupI r).depth ≤ 1 := by
        have hd : PyData.depthAll (ints' r) = 0 := by
          unfold ints'
          induction r with
          | nil => rfl
          | cons n ns ih => simp only [List.map_cons, PyData.depthAll, PyData.depth, ih, Nat.max_self]
        unfold tupI
        simp only [PyData.depth, hd]
        exact Nat.le_refl _
      simp only [List.map_cons, PyData.depthAll]
      exact Nat.max_le.mpr ⟨by omega, ih⟩
  unfold SeqAt.shaped
  simp only [PyData.canLay0, PyData.depth, h1, Bool.true_and]
  exact decide_eq_true (by omega)
def missL (t g : List EndS) : List EndS := g.filter fun e => !decide (e = none) && !decide (e ∈ t)
def othersL (t g : List EndS) : List EndS := ((List.range 10).filter fun n => !decide (n ∈ changedL t g)).map (at' t)
def spareL (t g : List EndS) : List EndS := (othersL t g).filter fun e => decide (e = none) || decide (1 < (othersL t g).count e)
def lawN (t g : List EndS) : Option Nat :=
  if (!(missL t g).isEmpty) = true then none else
  if ((lawRings t g 10).isEmpty || decide (((lawRings t g 10).map List.length).sum < (changedL t g).length)) = true then some ((changedL t g).length + (lawRings t g 10).length) else
  if (spareL t g).isEmpty = true then none else some ((changedL t g).length + (lawRings t g 10).length + 1)
theorem isE {β γ : Type} (f : β → γ) (l : List β) : (l.map f).isEmpty = l.isEmpty := by cases l <;> rfl
theorem others_sub {t g : List EndS} (ht : t.length = 10) {e : EndS} (h : e ∈ othersL t g) : e ∈ t := by
  unfold othersL at h
  obtain ⟨n, hn, rfl⟩ := List.mem_map.mp h
  have := List.mem_range.mp (List.mem_filter.mp hn).1
  unfold at'
  rw [List.getElem?_eq_getElem (by omega)]
  exact List.getElem_mem _
theorem others_len (t g : List EndS) : (othersL t g).length ≤ 10 := by
  unfold othersL
  rw [List.length_map]
  exact Nat.le_trans (List.length_filter_le _ _) (by simp)
end Lw

/-! Ma2.lean -/
set_option Elab.async false
set_option linter.all false
set_option maxRecDepth 100000
/-! the program's number is the law's number -/
namespace Lw
open PySem L2 Mi
theorem suc_eq (t g : List EndS) (n : Nat) : ∀ cs : List Nat, suc (linksL t g cs) n = if n ∈ cs ∧ linkC t g n = true then some ((holdersL t (at' g n)).headD 0) else none
  | [] => by simp [suc, linksL]
  | c :: cs => by
    have ih := suc_eq t g n cs
    by_cases hc : linkC t g c = true
    · have e : linksL t g (c :: cs) = (c, (holdersL t (at' g c)).headD 0) :: linksL t g cs := by unfold linksL; rw [List.filter_cons_of_pos hc]; rfl
      rw [e]
      by_cases h : c = n
      · subst h
        simp [suc, hc]
      · have e2 : suc ((c, (holdersL t (at' g c)).headD 0) :: linksL t g cs) n = suc (linksL t g cs) n := by unfold suc; rw [List.find?_cons]; simp [h]
        rw [e2, ih]
        simp [Ne.symm h]
    · have e : linksL t g (c :: cs) = linksL t g cs := by unfold linksL; rw [List.filter_cons_of_neg hc]
      rw [e, ih]
      by_cases h : n = c
      · subst h; simp [hc]
      · simp [h]
theorem want_count {t g : List EndS} {n : Nat} (hn : n ∈ changedL t g) : (changedL t g).filter (fun m => decide (at' g m = at' g n)) = [n] ↔ (wantL t g).count (at' g n) = 1 := by
  have e : (wantL t g).count (at' g n) = ((changedL t g).filter (fun m => decide (at' g m = at' g n))).length := by
    unfold wantL List.count
    rw [List.countP_map, List.countP_eq_length_filter]
    congr 1
    refine List.filter_congr fun m _ => ?_
    show (at' g m == at' g n) = decide _
    rw [Bool.eq_iff_iff]
    simp
  rw [e]
  constructor
  · intro h; rw [h]; rfl
  · intro h
    obtain ⟨v, hv⟩ := List.length_eq_one_iff.mp h
    have : n ∈ (changedL t g).filter (fun m => decide (at' g m = at' g n)) := List.mem_filter.mpr ⟨hn, by simp⟩
    rw [hv] at this ⊢
    rw [List.mem_singleton.mp this]
theorem src_iff (t g : List EndS) (n h : Nat) : srcOf t g n = some h ↔ suc (linksL t g (changedL t g)) n = some h ∧ h ∈ changedL t g := by
  rw [suc_eq]
  constructor
  · intro e
    obtain ⟨a1, a2, a3, a4, a5⟩ := src_some e
    have : linkC t g n = true := by
      unfold linkC
      simp only [Bool.and_eq_true, Bool.not_eq_true', decide_eq_false_iff_not, decide_eq_true_eq]
      exact ⟨a2, (want_count a1).mp a3, by rw [a4]; rfl⟩
    rw [if_pos ⟨a1, this⟩, a4]
    exact ⟨rfl, a5⟩
  · rintro ⟨e, e2⟩
    by_cases q : n ∈ changedL t g ∧ linkC t g n = true
    · rw [if_pos q] at e
      cases e
      obtain ⟨q1, q2⟩ := q
      unfold linkC at q2
      simp only [Bool.and_eq_true, Bool.not_eq_true', decide_eq_false_iff_not, decide_eq_true_eq] at q2
      have : srcB t g n = false := by
        unfold srcB
        simp only [q2.1, q1, (want_count q1).mpr q2.2.1, q2.2.2, e2, decide_true, decide_false, Bool.not_true, Bool.or_self]
      unfold srcOf
      rw [this]
      rfl
    · rw [if_neg q] at e; cases e
theorem walk_up {s s' : Nat → Option Nat} (sub : ∀ x h, s' x = some h → s x = some h) (a : Nat) : ∀ (m : Nat) (ring : List Nat) (num : Option Nat), (walkF s' a m ring num).2 = some a → walkF s a m ring num = walkF s' a m ring num
  | 0, _, _, _ => rfl
  | m + 1, ring, none, h => by cases h
  | m + 1, ring, some n, h => by
    by_cases e : n = a
    · rw [walkF, if_pos e, walkF, if_pos e]
    · rw [walkF, if_neg e] at h ⊢
      rw [walkF, if_neg e]
      cases q : s' n with
      | none =>
        rw [q] at h
        cases m <;> cases h
      | some k =>
        rw [q] at h
        rw [sub n k q]
        exact walk_up sub a m _ _ h
theorem walk_down {s s' : Nat → Option Nat} {C : Nat → Prop} (key : ∀ x h, s x = some h → C x) (sub : ∀ x h, s x = some h → C h → s' x = some h) {a : Nat} (ha : C a) : ∀ (m : Nat) (ring : List Nat) (num : Option Nat), (walkF s a m ring num).2 = some a →
    (∀ n, num = some n → C n) ∧ walkF s' a m ring num = walkF s a m ring num
  | 0, ring, num, h => ⟨fun n e => by have h : num = some a := h; rw [h] at e; cases e; exact ha, rfl⟩
  | m + 1, ring, none, h => by cases h
  | m + 1, ring, some n, h => by
    by_cases e : n = a
    · subst e
      exact ⟨fun k q => by cases q; exact ha, by rw [walkF, if_pos rfl, walkF, if_pos rfl]⟩
    · rw [walkF, if_neg e] at h
      obtain ⟨h1, h2⟩ := walk_down key sub ha m _ _ h
      cases q : s n with
      | none =>
        rw [q] at h
        cases m <;> cases h
      | some k =>
        refine ⟨fun j z => by cases z; exact key n k q, ?_⟩
        rw [walkF, if_neg e, walkF, if_neg e, sub n k q (h1 k q), ← q]
        exact h2
theorem ring_same (t g : List EndS) (n : Nat) : (decide (n ∈ changedL t g) && (linkC t g n && goodR (ringL (linksL t g (changedL t g)) 11 n))) = keepW t g n ∧ (keepW t g n = true → ringL (linksL t g (changedL t g)) 11 n = (lw t g n).1) := by
  have sub : ∀ x h, srcOf t g x = some h → suc (linksL t g (changedL t g)) x = some h := fun x h e => ((src_iff t g x h).mp e).1
  have key : ∀ x h, suc (linksL t g (changedL t g)) x = some h → x ∈ changedL t g := fun x h e => (link_mem (suc_find e)).1
  have sub2 : ∀ x h, suc (linksL t g (changedL t g)) x = some h → h ∈ changedL t g → srcOf t g x = some h := fun x h e e2 => (src_iff t g x h).mpr ⟨e, e2⟩
  by_cases hk : n ∈ changedL t g ∧ linkC t g n = true
  · have e0 : suc (linksL t g (changedL t g)) n = some ((holdersL t (at' g n)).headD 0) := by rw [suc_eq, if_pos hk]
    by_cases hc : (walkF (suc (linksL t g (changedL t g))) n 11 [n] (suc (linksL t g (changedL t g)) n)).2 = some n
    · obtain ⟨h1, h2⟩ := walk_down (C := fun x => x ∈ changedL t g) key sub2 hk.1 11 [n] _ hc
      have e1 : srcOf t g n = suc (linksL t g (changedL t g)) n := by rw [e0]; exact sub2 _ _ e0 (h1 _ e0)
      have e2 : lw t g n = walkF (suc (linksL t g (changedL t g))) n 11 [n] (suc (linksL t g (changedL t g)) n) := by unfold lw; rw [e1, h2]
      have e3 : ringL (linksL t g (changedL t g)) 11 n = (lw t g n).1 := by unfold ringL; rw [hc, e2]
      refine ⟨?_, fun _ => e3⟩
      unfold keepW
      rw [e3, e2, hc]
      simp [hk.1, hk.2]
    · have e4 : (walkF (suc (linksL t g (changedL t g))) n 11 [n] (suc (linksL t g (changedL t g)) n)).2 = none := (done_links t g (n, (holdersL t (at' g n)).headD 0) (suc_find e0)).resolve_right hc
      have e5 : ringL (linksL t g (changedL t g)) 11 n = [] := by unfold ringL; rw [e4]
      have e6 : (lw t g n).2 ≠ some n := fun z => by
        unfold lw at z
        have up := walk_up sub n 11 [n] (srcOf t g n) z
        cases q : srcOf t g n with
        | none => rw [q] at z; cases z
        | some k =>
          rw [q] at up z
          rw [sub n k q] at hc
          exact hc (by rw [up]; exact z)
      have e7 : keepW t g n = false := by unfold keepW; simp [e6]
      rw [e5, e7]
      simp [goodR]
  · have e0 : suc (linksL t g (changedL t g)) n = none := by rw [suc_eq, if_neg hk]
    have e1 : srcOf t g n = none := by
      cases q : srcOf t g n with
      | none => rfl
      | some k => have := sub n k q; rw [e0] at this; cases this
    have e7 : keepW t g n = false := by unfold keepW lw; rw [e1]; simp [walkF]
    rw [e7]
    refine ⟨?_, nofun⟩
    rw [Bool.eq_false_iff]
    intro z
    simp only [Bool.and_eq_true, decide_eq_true_eq] at z
    exact hk ⟨z.1, z.2.1⟩
theorem links_map {β : Type} (t g : List EndS) (F : Nat → β) (cs : List Nat) : (linksL t g cs).map (fun p => F p.1) = (cs.filter (linkC t g)).map F := by
  unfold linksL
  rw [List.map_map]
  rfl
theorem rings_same (t g : List EndS) : findL (linksL t g (changedL t g)) 11 = lawRings t g 10 := by
  have e : findL (linksL t g (changedL t g)) 11 = (((changedL t g).filter (linkC t g)).map fun n => ringL (linksL t g (changedL t g)) 11 n).filter goodR := by
    unfold findL
    rw [links_map t g (fun n => ringL (linksL t g (changedL t g)) 11 n)]
  have hs := ring_same t g
  rw [e]
  generalize linksL t g (changedL t g) = l at hs
  rw [List.filter_map, List.filter_filter]
  have e2 : (changedL t g).filter (fun n => (goodR ∘ fun n => ringL l 11 n) n && linkC t g n) = (List.range 10).filter (keepW t g) := by
    have e3 : changedL t g = (List.range 10).filter fun n => decide (n ∈ changedL t g) := by
      conv => lhs; unfold changedL
      refine List.filter_congr fun n hn => ?_
      have := List.mem_range.mp hn
      rw [Bool.eq_iff_iff]
      unfold changedL
      simp [this]
    have e4 : (changedL t g).filter (fun n => (goodR ∘ fun n => ringL l 11 n) n && linkC t g n) = ((List.range 10).filter fun n => decide (n ∈ changedL t g)).filter (fun n => (goodR ∘ fun n => ringL l 11 n) n && linkC t g n) := by rw [← e3]
    rw [e4, List.filter_filter]
    refine List.filter_congr fun n hn => ?_
    rw [← (hs n).1]
    simp only [Function.comp]
    cases decide (n ∈ changedL t g) <;> cases linkC t g n <;> cases goodR (ringL l 11 n) <;> rfl
  rw [e2]
  unfold lawRings
  refine List.map_congr_left fun n hn => ?_
  exact (hs n).2 (List.mem_filter.mp hn).2
theorem kept_same {t g : List EndS} (ht : t.length = 10) (hg : g.length = 10) : keptL t g = othersL t g := by
  have et : ∀ u : List EndS, u.length = 10 → u = (List.range 10).map (at' u) := fun u hu => by
    refine List.ext_getElem (by simp [hu]) fun i h1 h2 => ?_
    simp [at', List.getElem?_eq_getElem h1]
  have ez : t.zip g = (List.range 10).map fun n => (at' t n, at' g n) := by
    refine List.ext_getElem (by simp [ht, hg]) fun i h1 h2 => ?_
    have i1 : i < t.length := by simp [ht, hg] at h1; omega
    have i2 : i < g.length := by simp [ht, hg] at h1; omega
    simp [at', List.getElem?_eq_getElem i1, List.getElem?_eq_getElem i2]
  unfold keptL othersL
  rw [ez, List.filter_map, List.map_map]
  have e3 : (List.range 10).filter ((fun p => decide (p.1 = p.2)) ∘ fun n => (at' t n, at' g n)) = (List.range 10).filter fun n => !decide (n ∈ changedL t g) := by
    refine List.filter_congr fun n hn => ?_
    have := List.mem_range.mp hn
    rw [Bool.eq_iff_iff]
    unfold changedL
    simp [this]
  rw [e3]
  rfl
/-- the law's number is the program's -/
theorem number_same {t g : List EndS} (ht : t.length = 10) (hg : g.length = 10) : countN t g 11 = lawN t g := by
  have e1 : missB t g = !(missL t g).isEmpty := by
    unfold missB missL
    rw [Bool.eq_iff_iff]
    simp
  have e2 : spareB t g = !(spareL t g).isEmpty := by
    unfold spareB spareL
    rw [kept_same ht hg, Bool.eq_iff_iff]
    simp [Decidable.or_iff_not_imp_left]
  unfold countN lawN
  rw [rings_same, e1, e2]
  generalize lawRings t g 10 = rs
  cases (missL t g).isEmpty with
  | false => rfl
  | true =>
    cases rs with
    | nil => simp
    | cons r rs =>
      have h0 : ((r :: rs).length = 0) = False := by simp
      simp only [Bool.not_true, Bool.false_eq_true, if_false, List.isEmpty_cons, Bool.false_or, decide_eq_true_eq, h0]
      by_cases h : ((r :: rs).map List.length).sum < (changedL t g).length
      · rw [if_pos h, if_pos h]
      · rw [if_neg h, if_neg h]
        cases (spareL t g).isEmpty <;> rfl
end Lw

/-! Ma3.lean -/
set_option Elab.async false
set_option linter.all false
/-! rings of links, counted: what one call does to the number -/
namespace Rg
inductive Path (R : Nat → Nat → Prop) : Nat → Nat → Prop
  | one {x y : Nat} : R x y → Path R x y
  | more {x y z : Nat} : Path R x y → R y z → Path R x z
theorem Path.trans {R : Nat → Nat → Prop} {x y z : Nat} (p : Path R x y) (q : Path R y z) : Path R x z := by
  induction q with
  | one h => exact .more p h
  | more _ h ih => exact .more ih h
theorem Path.head {R : Nat → Nat → Prop} {x z : Nat} (p : Path R x z) : ∃ y, R x y ∧ (y = z ∨ Path R y z) := by
  induction p with
  | one h => exact ⟨_, h, .inl rfl⟩
  | more p h ih =>
    obtain ⟨y, h1, h2⟩ := ih
    refine ⟨y, h1, .inr ?_⟩
    rcases h2 with rfl | h2
    · exact .one h
    · exact .more h2 h
theorem Path.last {R : Nat → Nat → Prop} {x z : Nat} (p : Path R x z) : ∃ y, R y z ∧ (x = y ∨ Path R x y) := by
  cases p with
  | one h => exact ⟨_, h, .inl rfl⟩
  | more p h => exact ⟨_, h, .inr p⟩
def Fn (R : Nat → Nat → Prop) : Prop := ∀ x y z, R x y → R x z → y = z
def Inj (R : Nat → Nat → Prop) : Prop := ∀ x y z, R x z → R y z → x = y
theorem back {R : Nat → Nat → Prop} (f : Fn R) {z y : Nat} (c : Path R z z) (p : Path R z y) : Path R y z := by
  have key : y = z ∨ Path R y z := by
    induction p with
    | one h =>
      obtain ⟨w, h1, h2⟩ := c.head
      have := f _ _ _ h h1
      subst this
      exact h2
    | more p h ih =>
      rcases ih with rfl | ih
      · obtain ⟨w, h1, h2⟩ := c.head
        have := f _ _ _ h h1
        subst this
        exact h2
      · obtain ⟨w, h1, h2⟩ := ih.head
        have := f _ _ _ h h1
        subst this
        exact h2
  rcases key with rfl | h
  · exact c
  · exact h
theorem on_of {R : Nat → Nat → Prop} (f : Fn R) {z y : Nat} (c : Path R z z) (p : Path R z y) : Path R y y := (back f c p).trans p
theorem pred_of {R : Nat → Nat → Prop} (i : Inj R) {z x : Nat} (c : Path R z z) (h : R x z) : Path R z x := by
  obtain ⟨y, h1, h2⟩ := c.last
  have := i _ _ _ h h1
  subst this
  rcases h2 with rfl | h2
  · exact c
  · exact h2
theorem sub {R S : Nat → Nat → Prop} (f1 : Fn R) (f2 : Fn S) {z : Nat} (c : Path R z z) (h : ∀ x y, Path R z x → R x y → S x y) (m : Nat) : Path R z m ↔ Path S z m := by
  constructor
  · intro p
    induction p with
    | one h0 => exact .one (h _ _ c h0)
    | more p h0 ih => exact .more ih (h _ _ p h0)
  · intro p
    have succ : ∀ y, Path R z y → ∃ w, R y w := fun y q => by
      obtain ⟨w, h1, _⟩ := (back f1 c q).head
      exact ⟨w, h1⟩
    induction p with
    | one h0 =>
      obtain ⟨w, h1⟩ := succ _ c
      have := f2 _ _ _ h0 (h _ _ c h1)
      subst this
      exact .one h1
    | more p h0 ih =>
      obtain ⟨w, h1⟩ := succ _ ih
      have := f2 _ _ _ h0 (h _ _ ih h1)
      subst this
      exact .more ih h1
def Least (R : Nat → Nat → Prop) (z : Nat) : Prop := Path R z z ∧ ∀ m, Path R z m → z ≤ m
theorem least_one {R : Nat → Nat → Prop} (f : Fn R) {z y a : Nat} (h1 : Least R z) (h2 : Least R y) (p : Path R z a) (q : Path R y a) : z = y := by
  have := h1.2 _ (p.trans (back f h2.1 q))
  have := h2.2 _ (q.trans (back f h1.1 p))
  omega
theorem ex_min (P : Nat → Prop) : ∀ n, P n → ∃ k, P k ∧ ∀ m, P m → k ≤ m := by
  intro n
  induction n using Nat.strongRecOn with
  | ind n ih =>
    intro h
    rcases Classical.em (∃ m, m < n ∧ P m) with ⟨m, h1, h2⟩ | q
    · exact ih m h1 h2
    · refine ⟨n, h, fun m hm => ?_⟩
      rcases Nat.lt_or_ge m n with l | l
      · exact absurd ⟨m, l, hm⟩ q
      · exact l
theorem ex_least {R : Nat → Nat → Prop} (f : Fn R) {z : Nat} (c : Path R z z) : ∃ k, Least R k ∧ Path R z k := by
  obtain ⟨k, h1, h2⟩ := ex_min (Path R z) z c
  exact ⟨k, ⟨on_of f c h1, fun m hm => h2 m (h1.trans hm)⟩, h1⟩
/-! counting -/
theorem cnt_le1 {p q : Nat → Bool} {z : Nat} : ∀ l : List Nat, l.Nodup → (∀ n ∈ l, n ≠ z → p n = true → q n = true) → l.countP p ≤ l.countP q + 1
  | [], _, _ => by simp
  | a :: l, nd, h => by
    have nd2 := List.nodup_cons.mp nd
    rw [List.countP_cons, List.countP_cons]
    by_cases e : a = z
    · subst e
      have := List.countP_mono_left (p := p) (q := q) (l := l) fun n hn hp => h n (List.mem_cons_of_mem _ hn) (fun e => nd2.1 (e ▸ hn)) hp
      split <;> split <;> omega
    · have ih := cnt_le1 l nd2.2 fun n hn => h n (List.mem_cons_of_mem _ hn)
      have := h a List.mem_cons_self e
      cases hp : p a <;> cases hq : q a <;> simp_all <;> omega
theorem cnt_lt {p q : Nat → Bool} {z : Nat} : ∀ l : List Nat, (∀ n ∈ l, p n = true → q n = true) → z ∈ l → q z = true → p z = false → l.countP p + 1 ≤ l.countP q
  | [], _, hz, _, _ => by cases hz
  | a :: l, h, hz, h1, h2 => by
    rw [List.countP_cons, List.countP_cons]
    have mono := List.countP_mono_left (p := p) (q := q) (l := l) fun n hn hp => h n (List.mem_cons_of_mem _ hn) hp
    rcases List.mem_cons.mp hz with rfl | hz
    · simp [h1, h2]; omega
    · have ih := cnt_lt l (fun n hn => h n (List.mem_cons_of_mem _ hn)) hz h1 h2
      have := h a List.mem_cons_self
      cases hp : p a <;> cases hq : q a <;> simp_all <;> omega
open Classical in
/-- how many numbers below ten -/
noncomputable def cnt (P : Nat → Prop) : Nat := (List.range 10).countP fun n => decide (P n)
open Classical in
theorem cnt_mono {P Q : Nat → Prop} (h : ∀ n, n < 10 → P n → Q n) : cnt P ≤ cnt Q := List.countP_mono_left fun n hn hp => by
  simp at hp ⊢
  exact h n (List.mem_range.mp hn) hp
open Classical in
theorem cnt_one {P Q : Nat → Prop} {z : Nat} (h : ∀ n, n < 10 → n ≠ z → P n → Q n) : cnt P ≤ cnt Q + 1 := cnt_le1 (z := z) _ List.nodup_range fun n hn hz hp => by
  simp at hp ⊢
  exact h n (List.mem_range.mp hn) hz hp
open Classical in
theorem cnt_less {P Q : Nat → Prop} {z : Nat} (h : ∀ n, n < 10 → P n → Q n) (hz : z < 10) (h1 : Q z) (h2 : ¬ P z) : cnt P + 1 ≤ cnt Q := cnt_lt (z := z) _ (fun n hn hp => by
  simp at hp ⊢
  exact h n (List.mem_range.mp hn) hp) (List.mem_range.mpr hz) (by simpa using h1) (by simpa using h2)
/-! tables and goals -/
variable {α : Type}
def Ch (T G : Nat → Option α) (n : Nat) : Prop := n < 10 ∧ T n ≠ G n
structure Lk (T G : Nat → Option α) (x y : Nat) : Prop where
  cx : Ch T G x
  cy : Ch T G y
  nn : G x ≠ none
  eq : T y = G x
  hold : ∀ m, m < 10 → T m = G x → m = y
  want : ∀ m, Ch T G m → G m = G x → m = x
theorem lk_fn (T G : Nat → Option α) : Fn (Lk T G) := fun x y z h1 h2 => (h1.hold z h2.cy.1 h2.eq).symm
theorem lk_inj (T G : Nat → Option α) : Inj (Lk T G) := fun x y z h1 h2 => h2.want x h1.cx (h1.eq.symm.trans h2.eq)
abbrev On (T G : Nat → Option α) (z : Nat) : Prop := Path (Lk T G) z z
theorem on_ch {T G : Nat → Option α} {z : Nat} (h : On T G z) : Ch T G z := by
  obtain ⟨y, h1, _⟩ := h.head
  exact h1.cx
def Miss (T G : Nat → Option α) : Prop := ∃ m, m < 10 ∧ G m ≠ none ∧ ∀ j, j < 10 → T j ≠ G m
def Spare (T G : Nat → Option α) : Prop := ∃ s, s < 10 ∧ T s = G s ∧ (T s = none ∨ ∃ u, u < 10 ∧ u ≠ s ∧ T u = G u ∧ T u = T s)
def Free (T G : Nat → Option α) : Prop := cnt (Least (Lk T G)) = 0 ∨ ∃ x, Ch T G x ∧ ¬ On T G x
open Classical in
noncomputable def num (T G : Nat → Option α) : Option Nat :=
  if Miss T G then none else
  if Free T G then some (cnt (Ch T G) + cnt (Least (Lk T G))) else
  if Spare T G then some (cnt (Ch T G) + cnt (Least (Lk T G)) + 1) else none
theorem num_some {T G : Nat → Option α} {n : Nat} (h : num T G = some n) : ¬ Miss T G ∧ ((Free T G ∧ n = cnt (Ch T G) + cnt (Least (Lk T G))) ∨ (¬ Free T G ∧ Spare T G ∧ n = cnt (Ch T G) + cnt (Least (Lk T G)) + 1)) := by
  unfold num at h
  split at h
  · cases h
  · split at h
    · cases h; exact ⟨‹_›, .inl ⟨‹_›, rfl⟩⟩
    · split at h
      · cases h; exact ⟨‹_›, .inr ⟨‹_›, ‹_›, rfl⟩⟩
      · cases h
theorem num_free {T G : Nat → Option α} (h1 : ¬ Miss T G) (h2 : Free T G) : num T G = some (cnt (Ch T G) + cnt (Least (Lk T G))) := by
  unfold num
  rw [if_neg h1, if_pos h2]
/-! a call changes one number -/
structure Mv (T U : Nat → Option α) (b : Nat) : Prop where
  lt : b < 10
  off : ∀ m, m ≠ b → U m = T m
  src : U b = none ∨ ∃ a, a < 10 ∧ U b = T a
theorem ch_off {T U G : Nat → Option α} {b n : Nat} (v : Mv T U b) (h : n ≠ b) : Ch T G n ↔ Ch U G n := by
  unfold Ch
  rw [v.off n h]
/-- links off the changed number stay, if nobody there has the new end -/
theorem lk_stay {T U G : Nat → Option α} {b x y : Nat} (v : Mv T U b) (h : Lk T G x y) (hx : x ≠ b) (hy : y ≠ b) (he : U b ≠ T y) : Lk U G x y where
  cx := (ch_off v hx).mp h.cx
  cy := (ch_off v hy).mp h.cy
  nn := h.nn
  eq := (v.off y hy).trans h.eq
  hold := fun m hm e => by
    by_cases q : m = b
    · subst q; exact absurd (e.trans h.eq.symm) he
    · exact h.hold m hm ((v.off m q).symm.trans e)
  want := fun m hm e => by
    by_cases q : m = b
    · subst q
      by_cases c : T m = G m
      · exact absurd (h.hold m v.lt (c.trans e)) (Ne.symm hy)
      · exact h.want m ⟨v.lt, c⟩ e
    · exact h.want m ((ch_off v q).mpr hm) e
/-- a ring without the changed number and without the new end stays -/
theorem least_stay {T U G : Nat → Option α} {b z : Nat} (v : Mv T U b) (hb : ¬ On T G b) (h : Least (Lk T G) z) (he : ∀ y, Path (Lk T G) z y → U b ≠ T y) : Least (Lk U G) z := by
  have nb : ∀ y, Path (Lk T G) z y → y ≠ b := fun y p e => hb (e ▸ on_of (lk_fn T G) h.1 p)
  have s := sub (lk_fn T G) (lk_fn U G) h.1 fun x y p l => lk_stay v l (nb x p) (nb y (.more p l)) (he y (.more p l))
  exact ⟨(s z).mp h.1, fun m hm => h.2 m ((s m).mpr hm)⟩
theorem on_pred {T G : Nat → Option α} {z : Nat} (h : On T G z) : ∃ p, Lk T G p z ∧ On T G p := by
  obtain ⟨p, h1, h2⟩ := h.last
  refine ⟨p, h1, ?_⟩
  have := pred_of (lk_inj T G) h h1
  exact on_of (lk_fn T G) h this
/-- the only holder of its end -/
theorem on_hold {T G : Nat → Option α} {z m : Nat} (h : On T G z) (hm : m < 10) (e : T m = T z) : m = z := by
  obtain ⟨p, h1, _⟩ := on_pred h
  exact h1.hold m hm (e.trans h1.eq)
theorem on_some {T G : Nat → Option α} {z : Nat} (h : On T G z) : T z ≠ none := by
  obtain ⟨p, h1, _⟩ := on_pred h
  rw [h1.eq]
  exact h1.nn
/-- at most one ring goes -/
theorem rings_one {T U G : Nat → Option α} {b : Nat} (v : Mv T U b) (hb : ¬ On T G b) : cnt (Least (Lk T G)) ≤ cnt (Least (Lk U G)) + 1 := by
  rcases v.src with e | ⟨a, ha, e⟩
  · exact Nat.le_trans (cnt_mono fun n _ h => least_stay v hb h fun y p => by rw [e]; exact (on_some (on_of (lk_fn T G) h.1 p)).symm) (Nat.le_succ _)
  · rcases Classical.em (∃ z, Least (Lk T G) z ∧ Path (Lk T G) z a) with ⟨z, hz, pz⟩ | q
    · refine cnt_one (z := z) fun n _ hn h => least_stay v hb h fun y p w => ?_
      have := on_hold (on_of (lk_fn T G) h.1 p) ha (e.symm.trans w)
      subst this
      exact hn (least_one (lk_fn T G) h hz p pz)
    · refine Nat.le_trans (cnt_mono fun n _ h => least_stay v hb h fun y p w => ?_) (Nat.le_succ _)
      have := on_hold (on_of (lk_fn T G) h.1 p) ha (e.symm.trans w)
      subst this
      exact q ⟨n, h, p⟩
theorem mv_same {T U : Nat → Option α} {b : Nat} (v : Mv T U b) (e : U b = T b) : U = T := by
  funext m
  by_cases h : m = b
  · subst h; exact e
  · exact v.off m h
theorem num_le {T G : Nat → Option α} {n : Nat} (h : num T G = some n) : cnt (Ch T G) + cnt (Least (Lk T G)) ≤ n ∧ n ≤ cnt (Ch T G) + cnt (Least (Lk T G)) + 1 := by
  rcases (num_some h).2 with ⟨_, e⟩ | ⟨_, _, e⟩ <;> omega
/-- no call lowers the number by more than one -/
theorem numA {T U G : Nat → Option α} {b n k : Nat} (v : Mv T U b) (h : num T G = some n) (h2 : num U G = some k) : n ≤ k + 1 := by
  by_cases same : U b = T b
  · have := mv_same v same
    subst this
    rw [h] at h2
    cases h2
    exact Nat.le_succ _
  have hk := num_le h2
  have hn := num_le h
  rcases Classical.em (On T G b) with ob | nb
  · obtain ⟨p, l, _⟩ := on_pred ob
    exfalso
    refine (num_some h2).1 ⟨p, l.cx.1, l.nn, fun j hj e => ?_⟩
    by_cases q : j = b
    · subst q; exact same (e.trans l.eq.symm)
    · exact q (l.hold j hj ((v.off j q).symm.trans e))
  · have r1 := rings_one (G := G) v nb
    by_cases cb : T b = G b
    · have d1 : cnt (Ch T G) + 1 ≤ cnt (Ch U G) := by
        refine cnt_less (z := b) (fun m hm c => ?_) v.lt ⟨v.lt, fun e => same (e.trans cb.symm)⟩ (fun c => c.2 cb)
        by_cases q : m = b
        · subst q; exact absurd cb c.2
        · exact (ch_off v q).mp c
      omega
    · have ne : n = cnt (Ch T G) + cnt (Least (Lk T G)) := by
        rcases (num_some h).2 with ⟨_, e⟩ | ⟨f, _⟩
        · exact e
        · exact absurd (.inr ⟨b, ⟨v.lt, cb⟩, nb⟩) f
      by_cases cu : U b = G b
      · have d1 : cnt (Ch T G) ≤ cnt (Ch U G) + 1 := cnt_one (z := b) fun m hm q c => (ch_off v q).mp c
        have r2 : cnt (Least (Lk T G)) ≤ cnt (Least (Lk U G)) := cnt_mono fun z _ hz => least_stay v nb hz fun y p w => by
          have oy := on_of (lk_fn T G) hz.1 p
          obtain ⟨x, l, ox⟩ := on_pred oy
          have := l.want b ⟨v.lt, cb⟩ (cu.symm.trans (w.trans l.eq))
          subst this
          exact nb ox
        omega
      · have d1 : cnt (Ch T G) ≤ cnt (Ch U G) := cnt_mono fun m hm c => by
          by_cases q : m = b
          · subst q; exact ⟨hm, cu⟩
          · exact (ch_off v q).mp c
        omega
end Rg

/-! Ma4.lean -/
set_option Elab.async false
set_option linter.all false
/-! some call lowers the number -/
namespace Rg
variable {α : Type}
theorem nodup_len : ∀ (n : Nat) (l : List Nat), l.Nodup → (∀ x ∈ l, x < n) → l.length ≤ n
  | 0, l, _, h => by
    cases l with
    | nil => exact Nat.le_refl _
    | cons x l => exact absurd (h x List.mem_cons_self) (Nat.not_lt_zero _)
  | n + 1, l, nd, h => by
    have h1 := nodup_len n (l.erase n) (nd.erase n) fun x hx => by
      have h2 := h x (List.mem_of_mem_erase hx)
      have h3 := ((List.Nodup.mem_erase_iff nd).mp hx).1
      omega
    by_cases e : n ∈ l
    · rw [List.length_erase_of_mem e] at h1; omega
    · rw [List.erase_of_not_mem e] at h1; omega
theorem pigeon (f : Nat → Nat) (h : ∀ i, f i < 10) : ∃ i j, i < j ∧ f i = f j := by
  apply Classical.byContradiction
  intro q
  have nd : ((List.range 11).map f).Nodup := by
    rw [List.Nodup, List.pairwise_map]
    refine List.Pairwise.imp (fun {a b} l e => q ⟨a, b, l, e⟩) (List.pairwise_lt_range (n := 11))
  have := nodup_len 10 _ nd fun x hx => by
    obtain ⟨i, _, rfl⟩ := List.mem_map.mp hx
    exact h i
  simp at this
open Classical in
theorem nodup_sub {β : Type} : ∀ (l1 l2 : List β), l1.Nodup → (∀ x ∈ l1, x ∈ l2) → l1.length ≤ l2.length
  | [], l2, _, _ => Nat.zero_le _
  | x :: l1, l2, nd, h => by
    have nd2 := List.nodup_cons.mp nd
    have hx := h x List.mem_cons_self
    have ih := nodup_sub l1 (l2.erase x) nd2.2 fun y hy => by
      have : y ≠ x := fun e => nd2.1 (e ▸ hy)
      exact (List.mem_erase_of_ne this).mpr (h y (List.mem_cons_of_mem _ hy))
    rw [List.length_erase_of_mem hx] at ih
    have := List.length_pos_of_mem hx
    simp
    omega
open Classical in
/-- as many things, all of the others among them: no two of them are one -/
theorem nodup_cover {β : Type} : ∀ (l1 l2 : List β), l1.Nodup → (∀ x ∈ l1, x ∈ l2) → l2.length ≤ l1.length → l2.Nodup
  | [], l2, _, _, h => by
    cases l2 with
    | nil => exact List.nodup_nil
    | cons x l => simp at h
  | x :: l1, l2, nd, h, hl => by
    have nd2 := List.nodup_cons.mp nd
    have hx := h x List.mem_cons_self
    have p := List.perm_cons_erase hx
    have ih := nodup_cover l1 (l2.erase x) nd2.2 (fun y hy => by
      have : y ≠ x := fun e => nd2.1 (e ▸ hy)
      exact (List.mem_erase_of_ne this).mpr (h y (List.mem_cons_of_mem _ hy))) (by
      rw [List.length_erase_of_mem hx]
      simp at hl
      omega)
    have hn : x ∉ l2.erase x := fun m => by
      have sub : ∀ y ∈ x :: l1, y ∈ l2.erase x := fun y hy => by
        rcases List.mem_cons.mp hy with rfl | hy
        · exact m
        · have : y ≠ x := fun e => nd2.1 (e ▸ hy)
          exact (List.mem_erase_of_ne this).mpr (h y (List.mem_cons_of_mem _ hy))
      have lens : (x :: l1).length ≤ (l2.erase x).length := nodup_sub _ _ nd sub
      rw [List.length_erase_of_mem hx] at lens
      have := List.length_pos_of_mem hx
      simp at hl lens
      omega
    exact (p.nodup_iff).mpr (List.nodup_cons.mpr ⟨hn, ih⟩)
def Keep (T G : Nat → Option α) (b : Nat) : Prop := T b = none ∨ (∀ m, m < 10 → G m ≠ T b) ∨ ∃ j, j < 10 ∧ j ≠ b ∧ T j = T b
def Qb (T G : Nat → Option α) (b : Nat) (x y : Nat) : Prop := Lk T G x y ∧ x ≠ b ∧ y ≠ b
structure Bad1 (T G : Nat → Option α) (b x y : Nat) : Prop where
  nn : T b ≠ none
  cx : Ch T G x
  cy : Ch T G y
  xb : x ≠ b
  yb : y ≠ b
  xy : x ≠ y
  hy : T y = T b
  wx : G x = T b
  hold : ∀ m, m < 10 → m ≠ b → T m = T b → m = y
  want : ∀ m, Ch T G m → m ≠ b → G m = T b → m = x
  path : Path (Qb T G b) y x
def Bad (T G : Nat → Option α) (b : Nat) : Prop := ∃ x y, Bad1 T G b x y
/-- a move to an end that another number has, or to none -/
structure Mw (T U : Nat → Option α) (b : Nat) : Prop extends Mv T U b where
  alt : U b = none ∨ ∃ a, a < 10 ∧ a ≠ b ∧ U b = T a
theorem Mw.into {T U G : Nat → Option α} {b x : Nat} (v : Mw T U b) (h : Lk U G x b) : False := by
  rcases v.alt with e | ⟨a, ha, hab, e⟩
  · exact h.nn (h.eq.symm.trans e)
  · exact hab (h.hold a ha ((v.off a hab).trans (e.symm.trans h.eq)))
theorem Mw.ring {T U G : Nat → Option α} {b x : Nat} (v : Mw T U b) (h : On U G x) : x ≠ b := fun e => by
  subst e
  obtain ⟨p, l, _⟩ := on_pred h
  exact v.into l
theorem Mw.link {T U G : Nat → Option α} {b x y : Nat} (v : Mw T U b) (o : On U G x) (h : Lk U G x y) (g : G x ≠ T b) : Lk T G x y := by
  have hx := v.ring o
  have hy : y ≠ b := fun e => v.into (e ▸ h)
  refine ⟨(ch_off v.toMv hx).mpr h.cx, (ch_off v.toMv hy).mpr h.cy, h.nn, (v.off y hy).symm.trans h.eq, fun m hm e => ?_, fun m hm e => ?_⟩
  · by_cases q : m = b
    · subst q; exact absurd e.symm g
    · exact h.hold m hm ((v.off m q).trans e)
  · by_cases q : m = b
    · subst q
      by_cases c : U m = G m
      · exact absurd (h.hold m v.lt (c.trans e)) (Ne.symm hy)
      · exact h.want m ⟨v.lt, c⟩ e
    · exact h.want m ((ch_off v.toMv q).mp hm) e
theorem Mw.bad {T U G : Nat → Option α} {b x y : Nat} (v : Mw T U b) (o : On U G x) (h : Lk U G x y) (g : G x = T b) : Bad1 T G b x y := by
  have hx := v.ring o
  have oy : On U G y := on_of (lk_fn U G) o (.one h)
  have hy := v.ring oy
  have cx := (ch_off v.toMv hx).mpr h.cx
  have cy := (ch_off v.toMv hy).mpr h.cy
  have ty : T y = T b := (v.off y hy).symm.trans (h.eq.trans g)
  have xy : x ≠ y := fun e => by
    subst e
    exact h.cx.2 h.eq
  refine ⟨g ▸ h.nn, cx, cy, hx, hy, xy, ty, g, fun m hm q e => h.hold m hm ((v.off m q).trans (e.trans g.symm)), fun m hm q e => h.want m ((ch_off v.toMv q).mp hm) (e.trans g.symm), ?_⟩
  have key : ∀ w, Path (Lk U G) y w → Path (Qb T G b) y x ∨ Path (Qb T G b) y w := fun w p => by
    have step : ∀ u w, On U G u → u ≠ x → Lk U G u w → Qb T G b u w := fun u w ou ux l => by
      refine ⟨v.link ou l fun e => ux (h.want u l.cx (e.trans g.symm)), v.ring ou, fun e => v.into (e ▸ l)⟩
    induction p with
    | one l => exact .inr (.one (step _ _ oy (Ne.symm xy) l))
    | more p l ih =>
      rename_i u w2
      rcases ih with ih | ih
      · exact .inl ih
      · by_cases ux : u = x
        · subst ux; exact .inl ih
        · exact .inr (.more ih (step _ _ (on_of (lk_fn U G) oy p) ux l))
  have := key x (back (lk_fn U G) o (.one h))
  rcases this with q | q <;> exact q
theorem Mw.least {T U G : Nat → Option α} {b z : Nat} (v : Mw T U b) (nb : ¬ Bad T G b) (h : Least (Lk U G) z) : Least (Lk T G) z := by
  have s := sub (lk_fn U G) (lk_fn T G) h.1 fun x y p l => by
    have o := on_of (lk_fn U G) h.1 p
    exact v.link o l fun g => nb ⟨x, y, v.bad o l g⟩
  exact ⟨(s z).mp h.1, fun m hm => h.2 m ((s m).mpr hm)⟩
theorem keep_miss {T U G : Nat → Option α} {b : Nat} (v : Mv T U b) (k : Keep T G b) (h : ¬ Miss T G) : ¬ Miss U G := by
  rintro ⟨m, hm, nn, q⟩
  refine h ⟨m, hm, nn, fun j hj e => ?_⟩
  by_cases jb : j = b
  · subst jb
    rcases k with k | k | ⟨i, hi, ib, ei⟩
    · exact nn (e.symm.trans k)
    · exact k m hm e.symm
    · exact q i hi ((v.off i ib).trans (ei.trans e))
  · exact q j hj ((v.off j jb).trans e)
theorem wanter_off {T G : Nat → Option α} {b w : Nat} (nb : ¬ On T G b) (hb : b < 10) (e : G w = T b) : ¬ On T G w := fun o => by
  obtain ⟨y, l, _⟩ := o.head
  have := l.hold b hb e.symm
  subst this
  exact nb (on_of (lk_fn T G) o (.one l))
/-- some changed number off all rings can be given up -/
theorem fit {T G : Nat → Option α} (h : ∃ b, Ch T G b ∧ ¬ On T G b) : ∃ b, Ch T G b ∧ ¬ On T G b ∧ Keep T G b ∧ ¬ Bad T G b := by
  apply Classical.byContradiction
  intro no
  have bad : ∀ b, Ch T G b → ¬ On T G b → Keep T G b → Bad T G b := fun b h1 h2 h3 => Classical.byContradiction fun q => no ⟨b, h1, h2, h3, q⟩
  have f1 : ∀ b, Ch T G b → ¬ On T G b → T b ≠ none := fun b h1 h2 e => by
    obtain ⟨x, y, q⟩ := bad b h1 h2 (.inl e)
    exact q.nn e
  have f2 : ∀ b, Ch T G b → ¬ On T G b → ∃ m, m < 10 ∧ G m = T b := fun b h1 h2 => Classical.byContradiction fun n => by
    have n2 : ∀ m, m < 10 → G m ≠ T b := fun m hm e => n ⟨m, hm, e⟩
    obtain ⟨x, y, q⟩ := bad b h1 h2 (.inr (.inl n2))
    exact n2 x q.cx.1 q.wx
  have f3 : ∀ b, Ch T G b → ¬ On T G b → ∀ c, c < 10 → T c = T b → Ch T G c := fun b h1 h2 c hc e => Classical.byContradiction fun n => by
    have cb : c ≠ b := fun e => n (e ▸ h1)
    obtain ⟨x, y, q⟩ := bad b h1 h2 (.inr (.inr ⟨c, hc, cb, e⟩))
    exact n ((q.hold c hc cb e) ▸ q.cy)
  have inj : ∀ b m, Ch T G b → ¬ On T G b → Ch T G m → ¬ On T G m → T b = T m → b = m := fun b m h1 h2 h3 h4 e => Classical.byContradiction fun ne => by
    obtain ⟨x, y, q⟩ := bad b h1 h2 (.inr (.inr ⟨m, h3.1, Ne.symm ne, e.symm⟩))
    obtain ⟨x2, y2, q2⟩ := bad m h3 h4 (.inr (.inr ⟨b, h1.1, ne, e⟩))
    have ey := q.hold m h3.1 (Ne.symm ne) e.symm
    have ey2 := q2.hold b h1.1 ne e
    subst ey ey2
    have x2b : x2 ≠ b := fun z => by
      subst z
      exact q2.cx.2 (e.trans q2.wx.symm)
    have ex := q.want x2 q2.cx x2b (q2.wx.trans e.symm)
    subst ex
    have key : ∀ u, Path (Qb T G b) m u → Path (Qb T G m) b u → False := fun u p => by
      induction p with
      | one l =>
        intro p2
        obtain ⟨u2, l2, _⟩ := p2.last
        exact l2.2.1 (lk_inj T G _ _ _ l2.1 l.1)
      | more p l ih =>
        intro p2
        obtain ⟨u2, l2, h⟩ := p2.last
        have := lk_inj T G _ _ _ l2.1 l.1
        subst this
        rcases h with h | h
        · exact l.2.1 h.symm
        · exact ih h
    exact key _ q.path q2.path
  have f4 : ∀ b, Ch T G b → ¬ On T G b → ∀ w, w < 10 → G w = T b → Ch T G w ∧ ¬ On T G w := fun b h1 h2 w hw e => by
    refine ⟨⟨hw, fun z => ?_⟩, wanter_off h2 h1.1 e⟩
    exact (f3 b h1 h2 w hw (z.trans e)).2 z
  have uni : ∀ p q, Ch T G p → ¬ On T G p → Ch T G q → ¬ On T G q → G p = G q → p = q := by
    let S := (List.range 10).filter fun n => @decide (Ch T G n ∧ ¬ On T G n) (Classical.propDecidable _)
    have hS : ∀ n, n ∈ S ↔ Ch T G n ∧ ¬ On T G n := fun n => by
      show n ∈ (List.range 10).filter _ ↔ _
      rw [List.mem_filter]
      simp
      exact fun h _ => h.1
    have ndS : S.Nodup := List.Nodup.sublist List.filter_sublist List.nodup_range
    have nd1 : (S.map T).Nodup := by
      rw [List.Nodup, List.pairwise_map]
      refine List.Pairwise.imp_of_mem (fun {a b} ha hb l e => ?_) ndS
      exact l (inj a b ((hS a).mp ha).1 ((hS a).mp ha).2 ((hS b).mp hb).1 ((hS b).mp hb).2 e)
    have nd2 : (S.map G).Nodup := nodup_cover (S.map T) (S.map G) nd1 (fun v hv => by
      obtain ⟨b, hb, rfl⟩ := List.mem_map.mp hv
      have hb := (hS b).mp hb
      obtain ⟨m, hm, e⟩ := f2 b hb.1 hb.2
      exact List.mem_map.mpr ⟨m, (hS m).mpr (f4 b hb.1 hb.2 m hm e), e⟩) (by simp)
    intro p q p1 p2 q1 q2 e
    have ip := (hS p).mpr ⟨p1, p2⟩
    have iq := (hS q).mpr ⟨q1, q2⟩
    obtain ⟨i, hi, ei⟩ := List.mem_iff_getElem.mp ip
    obtain ⟨j, hj, ej⟩ := List.mem_iff_getElem.mp iq
    have li : i < (S.map G).length := by simpa using hi
    have lj : j < (S.map G).length := by simpa using hj
    have ge : (S.map G)[i] = (S.map G)[j] := by simp only [List.getElem_map, ei, ej, e]
    have : i = j := by
      have pw := List.pairwise_iff_getElem.mp nd2
      rcases Nat.lt_trichotomy i j with l | l | l
      · exact absurd ge (pw i j li lj l)
      · exact l
      · exact absurd ge.symm (pw j i lj li l)
    subst this
    exact ei.symm.trans ej
  have lk : ∀ b, Ch T G b → ¬ On T G b → ∀ w, w < 10 → G w = T b → Lk T G w b := fun b h1 h2 w hw e => by
    have fw := f4 b h1 h2 w hw e
    refine ⟨fw.1, h1, e ▸ f1 b h1 h2, e.symm, fun m hm z => ?_, fun m hm z => ?_⟩
    · have cm := f3 b h1 h2 m hm (z.trans e)
      refine inj m b cm (fun o => ?_) h1 h2 (z.trans e)
      have := on_hold o h1.1 (e.symm.trans z.symm)
      subst this
      exact h2 o
    · exact uni m w hm (f4 b h1 h2 m hm.1 (z.trans e)).2 fw.1 fw.2 z
  obtain ⟨b0, c0, o0⟩ := h
  have step : ∀ b : { b : Nat // Ch T G b ∧ ¬ On T G b }, ∃ w : { b : Nat // Ch T G b ∧ ¬ On T G b }, Lk T G w.1 b.1 := fun ⟨b, h1, h2⟩ => by
    obtain ⟨w, hw, e⟩ := f2 b h1 h2
    exact ⟨⟨w, f4 b h1 h2 w hw e⟩, lk b h1 h2 w hw e⟩
  obtain ⟨w, hw⟩ := Classical.axiomOfChoice step
  let f : Nat → { b : Nat // Ch T G b ∧ ¬ On T G b } := fun i => Nat.rec ⟨b0, c0, o0⟩ (fun _ b => w b) i
  have fs : ∀ i, Lk T G (f (i + 1)).1 (f i).1 := fun i => hw (f i)
  obtain ⟨i, j, hij, e⟩ := pigeon (fun i => (f i).1) fun i => (f i).2.1.1
  have path : ∀ k, Path (Lk T G) (f (i + k + 1)).1 (f i).1 := fun k => by
    induction k with
    | zero => exact .one (fs i)
    | succ k ih => exact Path.trans (.one (fs (i + k + 1))) ih
  have p := path (j - i - 1)
  rw [show i + (j - i - 1) + 1 = j by omega] at p
  have e2 : (f i).1 = (f j).1 := e
  rw [← e2] at p
  exact (f i).2.2 p
def upd (T : Nat → Option α) (b : Nat) (v : Option α) : Nat → Option α := fun m => if m = b then v else T m
theorem upd_b (T : Nat → Option α) (b : Nat) (v : Option α) : upd T b v b = v := if_pos rfl
theorem upd_o (T : Nat → Option α) {b m : Nat} (v : Option α) (h : m ≠ b) : upd T b v m = T m := if_neg h
/-- one end of a ring is put at a spare number -/
theorem move2 {T G : Nat → Option α} {a b : Nat} (ha : Least (Lk T G) a) (hb : b < 10) (nb : ¬ On T G b) (k : Keep T G b) (bad : ¬ Bad T G b) (ms : ¬ Miss T G) :
    ∃ j, num (upd T b (T a)) G = some j ∧ ∃ d, j + 1 ≤ d + cnt (Least (Lk T G)) ∧ d ≤ cnt (Ch T G) + 1 ∧ (Ch T G b → d ≤ cnt (Ch T G)) := by
  have ca := on_ch ha.1
  have ab : a ≠ b := fun e => nb (e ▸ ha.1)
  have v : Mw T (upd T b (T a)) b := { lt := hb, off := fun m h => upd_o T _ h, src := .inr ⟨a, ca.1, upd_b T b _⟩, alt := .inr ⟨a, ca.1, ab, upd_b T b _⟩ }
  have gb : T a ≠ G b := fun e => by
    by_cases c : T b = G b
    · exact ab (on_hold ha.1 hb (c.trans e.symm)).symm
    · obtain ⟨p, l, o⟩ := on_pred ha.1
      have := l.want b ⟨hb, c⟩ (e.symm.trans l.eq)
      subst this
      exact nb o
  have cb : Ch (upd T b (T a)) G b := ⟨hb, by rw [upd_b]; exact gb⟩
  have ob : ¬ On (upd T b (T a)) G b := fun o => v.ring o rfl
  have r1 : cnt (Least (Lk (upd T b (T a)) G)) + 1 ≤ cnt (Least (Lk T G)) := by
    refine cnt_less (z := a) (fun n _ h => v.least bad h) ca.1 ha fun h => ?_
    obtain ⟨p, l, _⟩ := on_pred h.1
    exact ab (l.hold b hb (by rw [upd_b, ← l.eq, upd_o _ _ ab])).symm
  refine ⟨_, num_free (keep_miss v.toMv k ms) (.inr ⟨b, cb, ob⟩), cnt (Ch (upd T b (T a)) G), by omega, cnt_one (z := b) fun m hm q c => (ch_off v.toMv q).mpr c, fun h => cnt_mono fun m hm c => ?_⟩
  by_cases q : m = b
  · subst q; exact h
  · exact (ch_off v.toMv q).mpr c
theorem least_pos {T G : Nat → Option α} {a : Nat} (h : Least (Lk T G) a) : 1 ≤ cnt (Least (Lk T G)) := by
  have : cnt (fun _ => False) + 1 ≤ cnt (Least (Lk T G)) := cnt_less (z := a) (fun _ _ h => h.elim) (on_ch h.1).1 h id
  omega
/-- some call lowers the number -/
theorem numB {T G : Nat → Option α} {n x : Nat} (h : num T G = some n) (hx : Ch T G x) :
    (∃ b, b < 10 ∧ T b ≠ none ∧ ∃ k, num (upd T b none) G = some k ∧ k < n) ∨ (∃ a b, a < 10 ∧ b < 10 ∧ T a ≠ none ∧ ∃ k, num (upd T b (T a)) G = some k ∧ k < n) := by
  obtain ⟨ms, hn⟩ := num_some h
  by_cases S : ∃ b, Ch T G b ∧ ¬ On T G b
  · have en : n = cnt (Ch T G) + cnt (Least (Lk T G)) := by
      rcases hn with ⟨_, e⟩ | ⟨f, _⟩
      · exact e
      · exact absurd (.inr S) f
    obtain ⟨b, cb, ob, k, bad⟩ := fit S
    by_cases L : ∃ a, Least (Lk T G) a
    · obtain ⟨a, ha⟩ := L
      obtain ⟨j, e, d, h1, _, h3⟩ := move2 ha cb.1 ob k bad ms
      have := h3 cb
      exact .inr ⟨a, b, (on_ch ha.1).1, cb.1, on_some ha.1, j, e, by omega⟩
    · have key : ∀ (v : Mw T (upd T b (G b)) b), ∃ k, num (upd T b (G b)) G = some k ∧ k < n := fun v => by
        have z : cnt (Least (Lk (upd T b (G b)) G)) = 0 := by
          refine List.countP_eq_zero.mpr fun m _ hm => ?_
          have hm : Least (Lk (upd T b (G b)) G) m := @of_decide_eq_true _ (Classical.propDecidable _) hm
          exact L ⟨m, v.least bad hm⟩
        have d : cnt (Ch (upd T b (G b)) G) + 1 ≤ cnt (Ch T G) := by
          refine cnt_less (z := b) (fun m hm c => ?_) cb.1 cb (fun c => c.2 (upd_b T b _))
          by_cases q : m = b
          · subst q; exact absurd (upd_b T m _) c.2
          · exact (ch_off v.toMv q).mpr c
        exact ⟨_, num_free (keep_miss v.toMv k ms) (.inl z), by omega⟩
      by_cases g : G b = none
      · rw [g] at key
        refine .inl ⟨b, cb.1, fun e => cb.2 (e.trans g.symm), key { lt := cb.1, off := fun m h => upd_o T _ h, src := .inl (upd_b T b _), alt := .inl (upd_b T b _) }⟩
      · have : ∃ a, a < 10 ∧ T a = G b := Classical.byContradiction fun q => ms ⟨b, cb.1, g, fun j hj e => q ⟨j, hj, e⟩⟩
        obtain ⟨a, ha, e⟩ := this
        have ab : a ≠ b := fun z => by subst z; exact cb.2 e
        rw [← e] at key
        exact .inr ⟨a, b, ha, cb.1, fun z => g (e.symm.trans z), key { lt := cb.1, off := fun m h => upd_o T _ h, src := .inr ⟨a, ha, upd_b T b _⟩, alt := .inr ⟨a, ha, ab, upd_b T b _⟩ }⟩
  · have all : ∀ b, Ch T G b → On T G b := fun b hb => Classical.byContradiction fun q => S ⟨b, hb, q⟩
    obtain ⟨a, ha, _⟩ := ex_least (lk_fn T G) (all x hx)
    have pos := least_pos ha
    rcases hn with ⟨f, _⟩ | ⟨_, ⟨s, hs, cs, sp⟩, en⟩
    · rcases f with f | f
      · omega
      · exact absurd f S
    · have ns : ¬ On T G s := fun o => (on_ch o).2 cs
      have k : Keep T G s := by
        rcases sp with e | ⟨u, hu, us, _, e⟩
        · exact .inl e
        · exact .inr (.inr ⟨u, hu, us, e⟩)
      have bad : ¬ Bad T G s := by
        rintro ⟨p, y, q⟩
        rcases sp with e | ⟨u, hu, us, gu, e⟩
        · exact q.nn e
        · have := q.hold u hu us e
          subst this
          exact q.cy.2 gu
      obtain ⟨j, e, d, h1, h2, _⟩ := move2 ha hs ns k bad ms
      exact .inr ⟨a, s, (on_ch ha.1).1, hs, on_some ha.1, j, e, by omega⟩
end Rg

/-! Ma5.lean -/
set_option Elab.async false
set_option linter.all false
set_option maxRecDepth 100000
/-! the law's number is the number of Ma3 -/
namespace Lw
open PySem L2 Mi Rg
theorem ch_iff {t g : List EndS} {n : Nat} : n ∈ changedL t g ↔ Ch (at' t) (at' g) n := by
  unfold changedL Ch
  simp
theorem one_filter {l : List Nat} {p : Nat → Bool} {n : Nat} (nd : l.Nodup) (hn : n ∈ l) (hp : p n = true) (h : ∀ m ∈ l, p m = true → m = n) : l.filter p = [n] := by
  induction l with
  | nil => cases hn
  | cons a l ih =>
    have nd2 := List.nodup_cons.mp nd
    by_cases e : a = n
    · subst e
      rw [List.filter_cons_of_pos hp]
      congr 1
      refine List.filter_eq_nil_iff.mpr fun m hm q => ?_
      have := h m (List.mem_cons_of_mem _ hm) q
      subst this
      exact nd2.1 hm
    · have : ¬ p a = true := fun q => e (h a List.mem_cons_self q)
      rw [List.filter_cons_of_neg this]
      refine ih nd2.2 ?_ fun m hm => h m (List.mem_cons_of_mem _ hm)
      rcases List.mem_cons.mp hn with q | q
      · exact absurd q.symm e
      · exact q
theorem src_lk {t g : List EndS} {x y : Nat} : srcOf t g x = some y ↔ Lk (at' t) (at' g) x y := by
  constructor
  · intro e
    obtain ⟨h1, h2, h3, h4, h5⟩ := src_some e
    have hy : y ∈ holdersL t (at' g x) := by rw [h4]; exact List.mem_singleton_self y
    refine ⟨ch_iff.mp h1, ch_iff.mp h5, h2, (holders_mem.mp hy).2, fun m hm q => ?_, fun m hm q => ?_⟩
    · have : m ∈ holdersL t (at' g x) := holders_mem.mpr ⟨hm, q⟩
      rw [h4] at this
      exact List.mem_singleton.mp this
    · have : m ∈ (changedL t g).filter (fun m => decide (at' g m = at' g x)) := List.mem_filter.mpr ⟨ch_iff.mpr hm, by simpa using q⟩
      rw [h3] at this
      exact List.mem_singleton.mp this
  · intro l
    have e1 : (changedL t g).filter (fun m => decide (at' g m = at' g x)) = [x] := one_filter (changed_nodup t g) (ch_iff.mpr l.cx) (by simp) fun m hm q => l.want m (ch_iff.mp hm) (by simpa using q)
    have e2 : holdersL t (at' g x) = [y] := one_filter List.nodup_range (List.mem_range.mpr l.cy.1) (by simpa using l.eq) fun m hm q => l.hold m (List.mem_range.mp hm) (by simpa using q)
    have e3 : srcB t g x = false := by
      unfold srcB
      rw [e1, e2]
      simp [l.nn, ch_iff.mpr l.cx, ch_iff.mpr l.cy]
    unfold srcOf
    rw [e3, e2]
    rfl
theorem walk_wi {s : Nat → Option Nat} {a : Nat} (inj : ∀ x y h, s x = some h → s y = some h → x = y) (lt : ∀ x h, s x = some h → h < 10) : ∀ (m : Nat) (ring : List Nat) (num : Option Nat), WI s a ring num → 10 < ring.length + m →
    WI s a (walkF s a m ring num).1 (walkF s a m ring num).2 ∧ ((walkF s a m ring num).2 = none ∨ (walkF s a m ring num).2 = some a)
  | 0, ring, num, w, h => by
    have := nodup_len 10 ring w.nd w.lt
    omega
  | m + 1, ring, none, w, h => ⟨w, .inl rfl⟩
  | m + 1, ring, some n, w, h => by
    by_cases e : n = a
    · subst e
      rw [walkF, if_pos rfl]
      exact ⟨w, .inr rfl⟩
    · rw [walkF, if_neg e]
      exact walk_wi inj lt m _ _ (w.next inj lt e) (by simp; omega)
theorem wi_reach {R : Nat → Nat → Prop} {s : Nat → Option Nat} {a : Nat} {ring : List Nat} {num : Option Nat} (hs : ∀ x y, s x = some y ↔ R x y) (w : WI s a ring num) : ∀ (i x : Nat), ring[i]? = some x → x = a ∨ Path R a x
  | 0, x, h => by rw [w.head] at h; cases h; exact .inl rfl
  | i + 1, x, h => by
    have hl := (List.getElem?_eq_some_iff.mp h).1
    have e : ring[i]? = some ring[i] := List.getElem?_eq_getElem (by omega)
    have l := (hs _ _).mp (w.ch i _ _ e h)
    rcases wi_reach hs w i _ e with q | q
    · rw [q] at l; exact .inr (.one l)
    · exact .inr (.more q l)
theorem wi_last {s : Nat → Option Nat} {a : Nat} {ring : List Nat} {num : Option Nat} (w : WI s a ring num) : ∃ z, ring[ring.length - 1]? = some z ∧ s z = num := by
  have h0 : 0 < ring.length := (List.getElem?_eq_some_iff.mp w.head).1
  have el : ring[ring.length - 1]? = some ring[ring.length - 1] := List.getElem?_eq_getElem (by omega)
  exact ⟨_, el, w.last _ el⟩
theorem wi_ring {R : Nat → Nat → Prop} {s : Nat → Option Nat} {a : Nat} {ring : List Nat} (hs : ∀ x y, s x = some y ↔ R x y) (w : WI s a ring (some a)) : Path R a a ∧ ∀ x, x ∈ ring ↔ Path R a x := by
  obtain ⟨z, h1, h2⟩ := wi_last w
  have l := (hs _ _).mp h2
  have c : Path R a a := by
    rcases wi_reach hs w _ _ h1 with q | q
    · rw [q] at l; exact .one l
    · exact .more q l
  refine ⟨c, fun x => ⟨fun hx => ?_, fun p => ?_⟩⟩
  · obtain ⟨i, hi, e⟩ := List.mem_iff_getElem.mp hx
    have : ring[i]? = some x := by rw [List.getElem?_eq_getElem hi, e]
    rcases wi_reach hs w i x this with q | q
    · rw [q]; exact c
    · exact q
  · have ha : a ∈ ring := List.mem_of_getElem? w.head
    have step : ∀ x y, x ∈ ring → R x y → y ∈ ring := fun x y hx l => by
      obtain ⟨i, hi, e⟩ := List.mem_iff_getElem.mp hx
      have ex : ring[i]? = some x := by rw [List.getElem?_eq_getElem hi, e]
      by_cases hl : i + 1 < ring.length
      · have ey : ring[i + 1]? = some ring[i + 1] := List.getElem?_eq_getElem hl
        have h3 := w.ch i _ _ ex ey
        rw [(hs _ _).mpr l] at h3
        cases h3
        exact List.getElem_mem _
      · have : i = ring.length - 1 := by omega
        subst this
        have h3 := w.last _ ex
        rw [(hs _ _).mpr l] at h3
        cases h3
        exact ha
    induction p with
    | one l => exact step _ _ ha l
    | more _ l ih => exact step _ _ ih l
theorem wi_none {R : Nat → Nat → Prop} {s : Nat → Option Nat} {a : Nat} {ring : List Nat} (f : Fn R) (hs : ∀ x y, s x = some y ↔ R x y) (w : WI s a ring none) : ¬ Path R a a := fun c => by
  obtain ⟨z, h1, h2⟩ := wi_last w
  have hz : Path R a z := by
    rcases wi_reach hs w _ _ h1 with q | q
    · rw [q]; exact c
    · exact q
  obtain ⟨y, l, _⟩ := (Rg.back f c hz).head
  rw [(hs _ _).mpr l] at h2
  cases h2
theorem lw_spec (t g : List EndS) {n : Nat} (hn : n < 10) : ((lw t g n).2 = some n ∧ WI (srcOf t g) n (lw t g n).1 (some n) ∧ On (at' t) (at' g) n ∧ ∀ x, x ∈ (lw t g n).1 ↔ Path (Lk (at' t) (at' g)) n x) ∨ ((lw t g n).2 = none ∧ ¬ On (at' t) (at' g) n) := by
  have w0 : WI (srcOf t g) n [n] (srcOf t g n) := ⟨rfl, fun i x y h1 h2 => by simp at h2, by simp, fun x hx => by simp at hx; subst hx; exact hn, fun z hz => by simp at hz; subst hz; rfl⟩
  obtain ⟨w, h⟩ := walk_wi (fun x y h => src_inj) (fun x h => src_lt) 11 [n] (srcOf t g n) w0 (by simp)
  have w : WI (srcOf t g) n (lw t g n).1 (lw t g n).2 := w
  have h : (lw t g n).2 = none ∨ (lw t g n).2 = some n := h
  rcases h with h | h
  · rw [h] at w
    exact .inr ⟨h, wi_none (lk_fn _ _) (fun x y => src_lk) w⟩
  · rw [h] at w
    have q := wi_ring (R := Lk (at' t) (at' g)) (fun x y => src_lk) w
    exact .inl ⟨h, w, q.1, q.2⟩
theorem good_iff {ring : List Nat} {n : Nat} (h : ring[0]? = some n) : goodR ring = true ↔ ∀ y ∈ ring, n ≤ y := by
  cases ring with
  | nil => cases h
  | cons a l =>
    cases h
    show (l.all fun y => decide (n ≤ y)) = true ↔ _
    rw [List.all_eq_true]
    constructor
    · intro q y hy
      rcases List.mem_cons.mp hy with rfl | hy
      · exact Nat.le_refl _
      · simpa using q y hy
    · intro q y hy
      simpa using q y (List.mem_cons_of_mem _ hy)
theorem keep_iff (t g : List EndS) {n : Nat} (hn : n < 10) : keepW t g n = true ↔ Least (Lk (at' t) (at' g)) n := by
  unfold keepW
  rcases lw_spec t g hn with ⟨h1, w, o, m⟩ | ⟨h1, o⟩
  · rw [h1, Bool.and_eq_true, good_iff w.head]
    constructor
    · rintro ⟨_, q⟩
      exact ⟨o, fun y p => q y ((m y).mpr p)⟩
    · intro l
      exact ⟨by simp, fun y hy => l.2 y ((m y).mp hy)⟩
  · rw [h1]
    constructor
    · intro q; simp at q
    · intro l; exact absurd l.1 o
open Classical in
theorem rings_cnt (t g : List EndS) : (lawRings t g 10).length = cnt (Least (Lk (at' t) (at' g))) := by
  unfold lawRings cnt
  rw [List.length_map, ← List.countP_eq_length_filter]
  refine List.countP_congr fun n hn => ?_
  have := keep_iff t g (List.mem_range.mp hn)
  simpa using this
open Classical in
theorem changed_cnt (t g : List EndS) : (changedL t g).length = cnt (Ch (at' t) (at' g)) := by
  unfold changedL cnt
  rw [← List.countP_eq_length_filter]
  refine List.countP_congr fun n hn => ?_
  unfold Ch
  simp [List.mem_range.mp hn]
theorem flat_mem (t g : List EndS) (x : Nat) : x ∈ (lawRings t g 10).flatten ↔ On (at' t) (at' g) x := by
  unfold lawRings
  rw [List.mem_flatten]
  constructor
  · rintro ⟨l, hl, hx⟩
    obtain ⟨n, hn, rfl⟩ := List.mem_map.mp hl
    obtain ⟨h1, h2⟩ := List.mem_filter.mp hn
    have lt := List.mem_range.mp h1
    rcases lw_spec t g lt with ⟨_, w, o, m⟩ | ⟨_, o⟩
    · exact on_of (lk_fn _ _) o ((m x).mp hx)
    · exact absurd ((keep_iff t g lt).mp h2).1 o
  · intro o
    obtain ⟨k, hk, p⟩ := ex_least (lk_fn _ _) o
    have lt := (on_ch hk.1).1
    refine ⟨_, List.mem_map.mpr ⟨k, List.mem_filter.mpr ⟨List.mem_range.mpr lt, (keep_iff t g lt).mpr hk⟩, rfl⟩, ?_⟩
    rcases lw_spec t g lt with ⟨_, w, o2, m⟩ | ⟨_, o2⟩
    · exact (m x).mpr (Rg.back (lk_fn _ _) o p)
    · exact absurd hk.1 o2
theorem flat_nodup (t g : List EndS) : (lawRings t g 10).flatten.Nodup := by
  unfold List.Nodup
  rw [List.pairwise_flatten]
  have key : ∀ l ∈ lawRings t g 10, ∃ n, Least (Lk (at' t) (at' g)) n ∧ l = (lw t g n).1 ∧ l.Nodup ∧ ∀ x, x ∈ l ↔ Path (Lk (at' t) (at' g)) n x := fun l hl => by
    unfold lawRings at hl
    obtain ⟨n, hn, rfl⟩ := List.mem_map.mp hl
    obtain ⟨h1, h2⟩ := List.mem_filter.mp hn
    have lt := List.mem_range.mp h1
    have hk := (keep_iff t g lt).mp h2
    rcases lw_spec t g lt with ⟨_, w, o, m⟩ | ⟨_, o⟩
    · exact ⟨n, hk, rfl, w.nd, m⟩
    · exact absurd hk.1 o
  refine ⟨fun l hl => (key l hl).elim fun n q => q.2.2.1, ?_⟩
  unfold lawRings
  rw [List.pairwise_map]
  refine List.Pairwise.imp_of_mem (fun {a b} ha hb ab x hx y hy e => ?_) (List.Nodup.sublist List.filter_sublist List.nodup_range)
  subst e
  have q : ∀ n, n ∈ (List.range 10).filter (keepW t g) → x ∈ (lw t g n).1 → Least (Lk (at' t) (at' g)) n ∧ Path (Lk (at' t) (at' g)) n x := fun n hn hx => by
    obtain ⟨h1, h2⟩ := List.mem_filter.mp hn
    have lt := List.mem_range.mp h1
    have hk := (keep_iff t g lt).mp h2
    rcases lw_spec t g lt with ⟨_, w, o, m⟩ | ⟨_, o⟩
    · exact ⟨hk, (m x).mp hx⟩
    · exact absurd hk.1 o
  obtain ⟨a1, a2⟩ := q a ha hx
  obtain ⟨b1, b2⟩ := q b hb hy
  exact ab (least_one (lk_fn _ _) a1 b1 a2 b2)
theorem free_iff (t g : List EndS) : ((lawRings t g 10).isEmpty || decide (((lawRings t g 10).map List.length).sum < (changedL t g).length)) = true ↔ Free (at' t) (at' g) := by
  rw [Bool.or_eq_true, decide_eq_true_eq, ← List.length_flatten]
  unfold Free
  have e1 : (lawRings t g 10).isEmpty = true ↔ cnt (Least (Lk (at' t) (at' g))) = 0 := by
    rw [← rings_cnt, List.isEmpty_iff, List.length_eq_zero_iff]
  rw [e1]
  refine or_congr Iff.rfl ⟨fun h => ?_, ?_⟩
  · refine Classical.byContradiction fun q => ?_
    have := nodup_sub _ _ (changed_nodup t g) fun x hx => (flat_mem t g x).mpr (Classical.byContradiction fun o => q ⟨x, ch_iff.mp hx, o⟩)
    omega
  · rintro ⟨x, hx, o⟩
    have hx := ch_iff.mpr hx
    have := nodup_sub _ ((changedL t g).erase x) (flat_nodup t g) fun y hy => by
      have oy := (flat_mem t g y).mp hy
      have : y ≠ x := fun e => o (e ▸ oy)
      exact (List.mem_erase_of_ne this).mpr (ch_iff.mpr (on_ch oy))
    rw [List.length_erase_of_mem hx] at this
    have := List.length_pos_of_mem hx
    omega
theorem mem_at {t : List EndS} (ht : t.length = 10) {e : EndS} : e ∈ t ↔ ∃ n, n < 10 ∧ at' t n = e := by
  rw [List.mem_iff_getElem]
  constructor
  · rintro ⟨i, hi, h⟩
    exact ⟨i, by omega, by unfold at'; rw [List.getElem?_eq_getElem hi, h]; rfl⟩
  · rintro ⟨n, hn, h⟩
    unfold at' at h
    rw [List.getElem?_eq_getElem (by omega)] at h
    exact ⟨n, by omega, h⟩
theorem miss_iff {t g : List EndS} (ht : t.length = 10) (hg : g.length = 10) : (!(missL t g).isEmpty) = true ↔ Miss (at' t) (at' g) := by
  unfold missL Miss
  rw [Bool.not_eq_true', ← Bool.not_eq_true, List.isEmpty_iff, List.filter_eq_nil_iff]
  constructor
  · intro h
    refine Classical.byContradiction fun q => h fun e he w => ?_
    obtain ⟨m, hm, rfl⟩ := (mem_at hg).mp he
    simp at w
    refine q ⟨m, hm, w.1, fun j hj z => w.2 ((mem_at ht).mpr ⟨j, hj, z⟩)⟩
  · rintro ⟨m, hm, nn, q⟩ h
    refine h (at' g m) ((mem_at hg).mpr ⟨m, hm, rfl⟩) ?_
    simp
    refine ⟨nn, fun w => ?_⟩
    obtain ⟨j, hj, e⟩ := (mem_at ht).mp w
    exact q j hj e
theorem spare_iff (t g : List EndS) : (spareL t g).isEmpty = true ↔ ¬ Spare (at' t) (at' g) := by
  have hs : ∀ n, n ∈ ((List.range 10).filter fun n => !decide (n ∈ changedL t g)) ↔ n < 10 ∧ at' t n = at' g n := fun n => by
    simp [ch_iff, Ch]
    intro h q
    omega
  have nd : ((List.range 10).filter fun n => !decide (n ∈ changedL t g)).Nodup := List.Nodup.sublist List.filter_sublist List.nodup_range
  unfold spareL othersL Spare
  rw [List.isEmpty_iff, List.filter_eq_nil_iff]
  generalize ((List.range 10).filter fun n => !decide (n ∈ changedL t g)) = l at hs nd
  have cnt2 : ∀ s ∈ l, 1 < (l.map (at' t)).count (at' t s) ↔ ∃ u, u ∈ l ∧ u ≠ s ∧ at' t u = at' t s := fun s hsl => by
    have e : (l.map (at' t)).count (at' t s) = (l.filter fun m => decide (at' t m = at' t s)).length := by
      unfold List.count
      rw [List.countP_map, List.countP_eq_length_filter]
      congr 1
      refine List.filter_congr fun m _ => ?_
      show (at' t m == at' t s) = decide _
      rw [Bool.eq_iff_iff]
      simp
    rw [e]
    constructor
    · intro h
      refine Classical.byContradiction fun q => ?_
      have := nodup_sub (l.filter fun m => decide (at' t m = at' t s)) [s] (List.Nodup.sublist List.filter_sublist nd) fun u hu => by
        obtain ⟨h1, h2⟩ := List.mem_filter.mp hu
        refine List.mem_singleton.mpr (Classical.byContradiction fun n => q ⟨u, h1, n, by simpa using h2⟩)
      simp at this
      omega
    · rintro ⟨u, hu, us, eu⟩
      have := nodup_sub [s, u] (l.filter fun m => decide (at' t m = at' t s)) (by simp [Ne.symm us]) fun w hw => by
        simp at hw
        rcases hw with rfl | rfl
        · exact List.mem_filter.mpr ⟨hsl, by simp⟩
        · exact List.mem_filter.mpr ⟨hu, by simpa using eu⟩
      exact this
  constructor
  · rintro h ⟨s, hs1, hs2, sp⟩
    have hsl := (hs s).mpr ⟨hs1, hs2⟩
    refine h (at' t s) (List.mem_map.mpr ⟨s, hsl, rfl⟩) ?_
    rw [Bool.or_eq_true, decide_eq_true_eq, decide_eq_true_eq]
    rcases sp with e | ⟨u, hu, us, gu, e⟩
    · exact .inl e
    · exact .inr ((cnt2 s hsl).mpr ⟨u, (hs u).mpr ⟨hu, gu⟩, us, e⟩)
  · intro h e he w
    obtain ⟨s, hsl, rfl⟩ := List.mem_map.mp he
    rw [Bool.or_eq_true, decide_eq_true_eq, decide_eq_true_eq] at w
    have q := (hs s).mp hsl
    refine h ⟨s, q.1, q.2, ?_⟩
    rcases w with w | w
    · exact .inl w
    · obtain ⟨u, hu, us, e⟩ := (cnt2 s hsl).mp w
      have qu := (hs u).mp hu
      exact .inr ⟨u, qu.1, us, qu.2, e⟩
theorem lawN_num {t g : List EndS} (ht : t.length = 10) (hg : g.length = 10) : lawN t g = num (at' t) (at' g) := by
  unfold lawN num
  rw [rings_cnt, changed_cnt]
  by_cases m : Miss (at' t) (at' g)
  · rw [if_pos ((miss_iff ht hg).mpr m), if_pos m]
  · rw [if_neg (fun q => m ((miss_iff ht hg).mp q)), if_neg m]
    by_cases f : Free (at' t) (at' g)
    · rw [if_pos (by rw [← changed_cnt]; exact (free_iff t g).mpr f), if_pos f]
    · rw [if_neg (by rw [← changed_cnt]; exact fun q => f ((free_iff t g).mp q)), if_neg f]
      by_cases s : Spare (at' t) (at' g)
      · rw [if_neg (fun q => (spare_iff t g).mp q s), if_pos s]
      · rw [if_pos ((spare_iff t g).mpr s), if_neg s]
/-! calls -/
theorem set_at {t : List EndS} (ht : t.length = 10) {b : Nat} (hb : b < 10) (e : EndS) : at' (t.set b e) = Rg.upd (at' t) b e := by
  funext m
  unfold at' Rg.upd
  rw [List.getElem?_set]
  by_cases h : b = m
  · subst h
    simp [ht, hb]
  · simp [h, Ne.symm h]
theorem calls_src {t : List EndS} (ht : t.length = 10) {c : CallT} (h : c ∈ callsL t) : ∃ b, Mv (at' t) (at' (behind t c)) b := by
  have tk : ∀ n, n ∈ takenL t → n < 10 := fun n hn => List.mem_range.mp (List.mem_filter.mp hn).1
  unfold callsL at h
  rcases List.mem_append.mp h with h | h
  · obtain ⟨n, hn, rfl⟩ := List.mem_map.mp h
    refine ⟨n, ?_⟩
    show Mv _ (at' (t.set n none)) n
    rw [set_at ht (tk n hn)]
    exact { lt := tk n hn, off := fun m q => upd_o _ _ q, src := .inl (upd_b _ _ _) }
  · obtain ⟨n, hn, h⟩ := List.mem_flatMap.mp h
    obtain ⟨m, hm, rfl⟩ := List.mem_map.mp h
    have hm := List.mem_range.mp hm
    refine ⟨m, ?_⟩
    show Mv _ (at' (t.set m (at' t n))) m
    rw [set_at ht hm]
    exact { lt := hm, off := fun m q => upd_o _ _ q, src := .inr ⟨n, tk n hn, upd_b _ _ _⟩ }
theorem behind_len' (t : List EndS) (c : CallT) : (behind t c).length = t.length := by
  cases c <;> exact List.length_set
/-- a call lowers the number by one at most -/
theorem due_one {t g : List EndS} (ht : t.length = 10) (hg : g.length = 10) {n k : Nat} (hn : lawN t g = some n) {c : CallT} (hc : c ∈ callsL t) (hk : lawN (behind t c) g = some k) : n ≤ k + 1 := by
  obtain ⟨b, v⟩ := calls_src ht hc
  rw [lawN_num ht hg] at hn
  rw [lawN_num ((behind_len' t c).trans ht) hg] at hk
  exact numA v hn hk
/-- some call lowers the number -/
theorem due_some {t g : List EndS} (ht : t.length = 10) (hg : g.length = 10) {n : Nat} (hn : lawN t g = some n) (h : t ≠ g) : ∃ c ∈ callsL t, ∃ k, lawN (behind t c) g = some k ∧ k < n := by
  have hx : ∃ x, Ch (at' t) (at' g) x := Classical.byContradiction fun q => h (List.ext_getElem (by omega) fun i h1 h2 => Classical.byContradiction fun w => q ⟨i, by omega, fun e => w (by
    unfold at' at e
    rw [List.getElem?_eq_getElem h1, List.getElem?_eq_getElem h2] at e
    exact e)⟩)
  obtain ⟨x, hx⟩ := hx
  rw [lawN_num ht hg] at hn
  have tk : ∀ n, n < 10 → at' t n ≠ none → n ∈ takenL t := fun n hn q => List.mem_filter.mpr ⟨List.mem_range.mpr hn, by simp [q]⟩
  rcases numB hn hx with ⟨b, hb, tb, k, hk, l⟩ | ⟨a, b, ha, hb, ta, k, hk, l⟩
  · refine ⟨.close b, ?_, k, ?_, l⟩
    · unfold callsL
      exact List.mem_append_left _ (List.mem_map.mpr ⟨b, tk b hb tb, rfl⟩)
    · rw [lawN_num ((behind_len' t _).trans ht) hg, show behind t (.close b) = t.set b none from rfl, set_at ht hb]
      exact hk
  · refine ⟨.copy a b, ?_, k, ?_, l⟩
    · unfold callsL
      exact List.mem_append_right _ (List.mem_flatMap.mpr ⟨a, tk a ha ta, List.mem_map.mpr ⟨b, List.mem_range.mpr hb, rfl⟩⟩)
    · rw [lawN_num ((behind_len' t _).trans ht) hg, show behind t (.copy a b) = t.set b (at' t a) from rfl, set_at ht hb]
      exact hk
/-- the number is 0 at the goal -/
theorem num_zero {t : List EndS} (ht : t.length = 10) : lawN t t = some 0 := by
  have c0 : changedL t t = [] := by unfold changedL; simp
  have m0 : missL t t = [] := by
    unfold missL
    rw [List.filter_eq_nil_iff]
    intro e he
    simp [he]
  have r0 : (lawRings t t 10).length = 0 := by
    rw [rings_cnt]
    refine List.countP_eq_zero.mpr fun n _ h => ?_
    have h : Least (Lk (at' t) (at' t)) n := @of_decide_eq_true _ (Classical.propDecidable _) h
    exact (on_ch h.1).2 rfl
  unfold lawN
  rw [m0, c0, List.length_eq_zero_iff.mp r0]
  rfl
end Lw

/-! Sy17.lean -/
set_option Elab.async false
set_option linter.all false
set_option maxRecDepth 100000
/-! draws -/
namespace Lw
open PySem L2 Mi
theorem lg {n k : Nat} (h : n < 2 ^ k) (hk : 0 < k) : n.log2 < k := by
  by_cases e : n = 0
  · subst e; simpa using hk
  · exact (Nat.log2_lt e).mpr h
theorem g_mul {i j a b : Nat} (hi : i < 2 ^ a) (hj : j < 2 ^ b) (ha : 0 < a) (hb : 0 < b) (h : a + b ≤ 1000000) : gMul (.int (i : Int)) (.int (j : Int)) = some (.val (.int ((i * j : Nat) : Int))) := by
  have h1 := lg hi ha
  have h2 := lg hj hb
  show (if (i : Int).natAbs.log2 + (j : Int).natAbs.log2 < 1000000 then some (vI ((i : Int) * (j : Int))) else none) = _
  rw [Int.natAbs_natCast, Int.natAbs_natCast, if_pos (by omega), Int.natCast_mul]
theorem pow_if {i j : Int} (h : CPowW i j) : gPow (.int i) (.int j) = some (vI (i ^ j.toNat)) := if_pos h
theorem g_cube {i a : Nat} (hi : i < 2 ^ a) (ha : 0 < a) (h : 3 * a ≤ 1000000) : gPow (.int (i : Int)) (.int 3) = some (.val (.int ((i ^ 3 : Nat) : Int))) := by
  have h1 := lg hi ha
  rw [pow_if (show CPowW (i : Int) 3 from ⟨by decide, by rw [Int.natAbs_natCast]; omega⟩), Int.natCast_pow]
  rfl
theorem g_mod {i j : Nat} (hj : 0 < j) : gMod (.int (i : Int)) (.int (j : Int)) = some (.val (.int ((i % j : Nat) : Int))) := by
  show (if (0 : Int) < (j : Int) then some (vI ((i : Int) % (j : Int))) else none) = _
  rw [if_pos (by omega)]
  rfl
theorem g_div {i j a : Nat} (hj : 0 < j) (h : j < 2 ^ a) (ha : 0 < a) (h9 : a ≤ 9000) : gDiv (.int (i : Int)) (.int (j : Int)) = some (.val (.int ((i / j : Nat) : Int))) := by
  have h1 := lg h ha
  show (if (0 : Int) < (j : Int) ∧ (j : Int).natAbs.log2 < 9000 then some (vI ((i : Int) / (j : Int))) else none) = _
  rw [Int.natAbs_natCast, if_pos ⟨by omega, by omega⟩]
  rfl
theorem ix_lst {ds : List PyData} {n : Nat} {e : PyData} (h : ds[n]? = some e) : gIx (.list ds) (.int (n : Int)) = some (.val e) := by
  show (atI ds (n : Int)).map Rv.val = _
  rw [L2.atI_nat h]
  rfl
/-- an object of another changed by place -/
theorem sto_obj {f g : M Rv} {j k n : Nat} {r r1 : En} {d : PyData} {ds : List PyData} (h1 : f r = .ok (.val d) r1) (h2 : r1.vs[j]? = some (some (.bor k))) (ho : r1.os[k]? = some (.live (.lst ds))) (h3 : Pv g r1 (.int (n : Int))) (h4 : n < ds.length) : stoS f j g r = .nx (setLo r1 (.obj k) (.live (.lst (ds.set n d)))) := by
  obtain ⟨x, e3, p3⟩ := h3
  have e2 : nmE j r1 = .ok (.at (.obj k)) r1 := by unfold nmE; rw [h2]
  refine (ofM_ok h1).trans ((ofM_ok (show frz (.val d) r1 = .ok d r1 from rfl)).trans ((ofM_ok e2).trans ((ofM_ok e3).trans ?_)))
  have e4 : look r1 (.obj k) = some (.live (.lst ds)) := ho
  have e5 : L2.ixN ds.length (n : Int) = some n := by unfold L2.ixN; simp [h4]
  unfold stoF
  simp only [e4, p3, e5]
/-- a list's item by place, the place drawn -/
theorem sto_go {f g : M Rv} {j n : Nat} {r r1 r2 : En} {d : PyData} {ds : List PyData} {x : Rv} (h1 : f r = .ok (.val d) r1) (h2 : r1.vs[j]? = some (some (.own (.lst ds)))) (h3 : g r1 = .ok x r2) (p3 : peek r2 x = some (.int (n : Int))) (h5 : r2.vs[j]? = some (some (.own (.lst ds)))) (h4 : n < ds.length) : stoS f j g r = .nx (setLo r2 (.slot j) (.live (.lst (ds.set n d)))) := by
  have e2 : nmE j r1 = .ok (.at (.slot j)) r1 := by unfold nmE; rw [h2]
  refine (ofM_ok h1).trans ((ofM_ok (show frz (.val d) r1 = .ok d r1 from rfl)).trans ((ofM_ok e2).trans ((ofM_ok h3).trans ?_)))
  have e4 : look r2 (.slot j) = some (.live (.lst ds)) := by unfold look; simp only [h5]
  have e5 : L2.ixN ds.length (n : Int) = some n := by unfold L2.ixN; simp [h4]
  unfold stoF
  simp only [e4, p3, e5]
/-- the source of draws: digits, a mixed number, a count that can still go on n times -/
def SrcOk (n : Nat) (ds : List PyData) : Prop := ∃ d m c : Nat, ds = [.int (d : Int), .int (m : Int), .int (c : Int)] ∧ m < 2 ^ 210 ∧ c + n ≤ 2 ^ 20
theorem SrcOk.le {n m : Nat} {ds : List PyData} (h : SrcOk n ds) (hm : m ≤ n) : SrcOk m ds := by
  obtain ⟨d, k, c, h1, h2, h3⟩ := h
  exact ⟨d, k, c, h1, h2, by omega⟩
theorem run_draw {n L : Nat} {ds : List PyData} (h : SrcOk (n + 1) ds) (h0 : 0 < L) (h1 : L ≤ 1000) :
    ∃ v ds', v < L ∧ SrcOk n ds' ∧ G__law_draw [.ref (.lst ds), .val (.int (L : Int))] = .ret (.val (.int ((v : Nat) : Int))) [.live (.lst ds')] := by
  obtain ⟨d, m, c, rfl, hm, hc⟩ := h
  have hL : L < 2 ^ 10 := by omega
  let r0 : En := ⟨[some (.bor 0), some (.val (.int (L : Int))), none, none], [.live (.lst [.int (d : Int), .int (m : Int), .int (c : Int)])]⟩
  have pv0 : ∀ (vs : List (Option Sl)) (ds : List PyData), Pv (nmE 0) ⟨some (.bor 0) :: vs, [.live (.lst ds)]⟩ (.list ds) := fun vs ds => ⟨_, rfl, rfl⟩
  have t0 : tstB (binE gGt (binE gIx (nmE 0) (kE (.int 0))) (kE (.int 0))) r0 = .ok (decide (0 < d)) r0 := by
    refine Pt.tst (Pv.bin (Pv.bin (pv0 _ _) Pv.k (ix_lst (n := 0) rfl) rfl) Pv.k (z := .val (.bool (decide (0 < d)))) ?_ rfl)
    show some (Rv.val (.bool (decide ((d : Int) > 0)))) = _
    congr 3
    rw [Bool.eq_iff_iff]
    simp
  by_cases hd : 0 < d
  · let r1 : En := ⟨[some (.bor 0), some (.val (.int (L : Int))), some (.val (.int ((d % L : Nat) : Int))), none], [.live (.lst [.int (d : Int), .int (m : Int), .int (c : Int)])]⟩
    let r2 : En := ⟨[some (.bor 0), some (.val (.int (L : Int))), some (.val (.int ((d % L : Nat) : Int))), none], [.live (.lst [.int ((d / L : Nat) : Int), .int (m : Int), .int (c : Int)])]⟩
    have s1 : setS 2 (binE gMod (binE gIx (nmE 0) (kE (.int 0))) (nmE 1)) r0 = .nx r1 := (set_val (bin_eq (Pv.bin (pv0 _ _) Pv.k (ix_lst (n := 0) rfl) rfl) (Pv.nm rfl) (g_mod h0))).trans rfl
    have s2 : stoS (binE gDiv (binE gIx (nmE 0) (kE (.int 0))) (nmE 1)) 0 (kE (.int 0)) r1 = .nx r2 := (sto_obj (n := 0) (bin_eq (Pv.bin (pv0 _ _) Pv.k (ix_lst (n := 0) rfl) rfl) (Pv.nm rfl) (g_div h0 hL (by decide) (by decide))) rfl rfl Pv.k (by simp)).trans rfl
    refine ⟨d % L, [.int ((d / L : Nat) : Int), .int (m : Int), .int (c : Int)], Nat.mod_lt _ h0, ⟨d / L, m, c, rfl, hm, by omega⟩, ?_⟩
    have body : ∀ rest : Stm, seqS (ifS (tstB (binE gGt (binE gIx (nmE 0) (kE (.int 0))) (kE (.int 0)))) (seqS (setS 2 (binE gMod (binE gIx (nmE 0) (kE (.int 0))) (nmE 1))) <| seqS (stoS (binE gDiv (binE gIx (nmE 0) (kE (.int 0))) (nmE 1)) 0 (kE (.int 0))) <| retS (nmE 2)) (nxS)) rest r0 = .rt (.val (.int ((d % L : Nat) : Int))) r2 := fun rest => by
      have e := if_go (f := (seqS (setS 2 (binE gMod (binE gIx (nmE 0) (kE (.int 0))) (nmE 1))) <| seqS (stoS (binE gDiv (binE gIx (nmE 0) (kE (.int 0))) (nmE 1)) 0 (kE (.int 0))) <| retS (nmE 2))) (g := nxS) t0
      rw [decide_eq_true hd, if_pos rfl] at e
      unfold seqS at e ⊢
      rw [e]
      have := (seq_ok' (g := seqS (stoS (binE gDiv (binE gIx (nmE 0) (kE (.int 0))) (nmE 1)) 0 (kE (.int 0))) <| retS (nmE 2)) s1).trans ((seq_ok' (g := retS (nmE 2)) s2).trans (ret_ok (show nmE 2 r2 = .ok (.val (.int ((d % L : Nat) : Int))) r2 from rfl)))
      unfold seqS at this
      rw [this]
    exact (run_eq (r := r0) rfl rfl (body _)).trans rfl
  · obtain ⟨c', hcc⟩ : ∃ c', c' = c + 1 := ⟨_, rfl⟩
    let S : List PyData := [.int (d : Int), .int (m : Int), .int (c' : Int)]
    let r1 : En := ⟨[some (.bor 0), some (.val (.int (L : Int))), none, none], [.live (.lst S)]⟩
    have hc' : c' ≤ 2 ^ 20 := by omega
    have c21 : c' < 2 ^ 21 := Nat.lt_of_le_of_lt hc' (by decide)
    have pc : ∀ vs : List (Option Sl), Pv (binE gIx (nmE 0) (kE (.int 2))) ⟨some (.bor 0) :: vs, [.live (.lst S)]⟩ (.int (c' : Int)) := fun vs => Pv.bin (pv0 _ _) Pv.k (ix_lst (n := 2) rfl) rfl
    have pm : ∀ vs : List (Option Sl), Pv (binE gIx (nmE 0) (kE (.int 1))) ⟨some (.bor 0) :: vs, [.live (.lst S)]⟩ (.int (m : Int)) := fun vs => Pv.bin (pv0 _ _) Pv.k (ix_lst (n := 1) rfl) rfl
    have s1 : stoS (binE gAdd (binE gIx (nmE 0) (kE (.int 2))) (kE (.int 1))) 0 (kE (.int 2)) r0 = .nx r1 := by
      have : stoS (binE gAdd (binE gIx (nmE 0) (kE (.int 2))) (kE (.int 1))) 0 (kE (.int 2)) r0 = .nx ⟨[some (.bor 0), some (.val (.int (L : Int))), none, none], [.live (.lst [.int (d : Int), .int (m : Int), .int ((c + 1 : Nat) : Int)])]⟩ := (sto_obj (n := 2) (bin_eq (Pv.bin (pv0 _ _) Pv.k (ix_lst (n := 2) rfl) rfl) Pv.k (add_nat c 1)) rfl rfl Pv.k (by simp)).trans rfl
      rw [← hcc] at this
      exact this
    have m1 : 40503 * c' ≤ 40503 * 2 ^ 20 := Nat.mul_le_mul_left _ hc'
    have m2 : 40503 * c' * c' ≤ 40503 * 2 ^ 20 * 2 ^ 20 := Nat.mul_le_mul m1 hc'
    obtain ⟨y1, hy1⟩ : ∃ y1, y1 = 40503 * c' * c' := ⟨_, rfl⟩
    have b1 : m + y1 + 11 < 2 ^ 212 := by
      have h1 : (2 : Nat) ^ 210 + 40503 * 2 ^ 20 * 2 ^ 20 + 11 < 2 ^ 212 := by decide
      rw [← hy1] at m2
      exact Nat.lt_of_le_of_lt (Nat.add_le_add_right (Nat.add_le_add (Nat.le_of_lt hm) m2) 11) h1
    have q1 : Pv (binE gMul (binE gMul (kE (.int 40503)) (binE gIx (nmE 0) (kE (.int 2)))) (binE gIx (nmE 0) (kE (.int 2)))) r1 (.int (y1 : Int)) := by
      rw [hy1]
      exact Pv.bin (Pv.bin (Pv.k (d := .int ((40503 : Nat) : Int))) (pc _) (g_mul (a := 16) (b := 21) (by decide) c21 (by decide) (by decide) (by decide)) rfl) (pc _) (g_mul (a := 40) (b := 21) (Nat.lt_of_le_of_lt m1 (by decide)) c21 (by decide) (by decide) (by decide)) rfl
    obtain ⟨z1, hz1⟩ : ∃ z1, z1 = m + y1 + 11 := ⟨_, rfl⟩
    have q2 : Pv (binE gAdd (binE gAdd (binE gIx (nmE 0) (kE (.int 1))) (binE gMul (binE gMul (kE (.int 40503)) (binE gIx (nmE 0) (kE (.int 2)))) (binE gIx (nmE 0) (kE (.int 2))))) (kE (.int 11))) r1 (.int (z1 : Int)) := by
      rw [hz1]
      exact Pv.bin (Pv.bin (pm _) q1 (add_nat _ _) rfl) (Pv.k (d := .int ((11 : Nat) : Int))) (add_nat _ _) rfl
    rw [← hz1] at b1
    obtain ⟨x1, hx1, v2⟩ : ∃ x1 : Nat, x1 < 2305843009213693951 ∧ binE gMod (binE gPow (binE gAdd (binE gAdd (binE gIx (nmE 0) (kE (.int 1))) (binE gMul (binE gMul (kE (.int 40503)) (binE gIx (nmE 0) (kE (.int 2)))) (binE gIx (nmE 0) (kE (.int 2))))) (kE (.int 11))) (kE (.int 3))) (kE (.int 2305843009213693951)) r1 = .ok (.val (.int ((x1 : Nat) : Int))) r1 :=
      ⟨z1 ^ 3 % 2305843009213693951, Nat.mod_lt _ (by decide), bin_eq (b := .int ((2305843009213693951 : Nat) : Int)) (Pv.bin q2 Pv.k (g_cube b1 (by decide) (by decide)) rfl) Pv.k (g_mod (by decide))⟩
    let r2 : En := ⟨[some (.bor 0), some (.val (.int (L : Int))), none, some (.val (.int (x1 : Int)))], [.live (.lst S)]⟩
    have s2 := (set_val (i := 3) v2).trans (rfl : Out.nx (put r1 3 (.val (.int (x1 : Int)))) = .nx r2)
    have m3 : 69621 * c' ≤ 69621 * 2 ^ 20 := Nat.mul_le_mul_left _ hc'
    obtain ⟨y2, hy2⟩ : ∃ y2, y2 = x1 + 69621 * c' := ⟨_, rfl⟩
    have b2 : y2 < 2 ^ 100 := by
      have h1 : (2305843009213693951 : Nat) + 69621 * 2 ^ 20 < 2 ^ 100 := by decide
      rw [hy2]
      exact Nat.lt_of_le_of_lt (Nat.add_le_add (Nat.le_of_lt hx1) m3) h1
    have q3 : Pv (binE gAdd (nmE 3) (binE gMul (kE (.int 69621)) (binE gIx (nmE 0) (kE (.int 2))))) r2 (.int (y2 : Int)) := by
      rw [hy2]
      exact Pv.bin (Pv.nm rfl) (Pv.bin (Pv.k (d := .int ((69621 : Nat) : Int))) (pc _) (g_mul (a := 17) (b := 21) (by decide) c21 (by decide) (by decide) (by decide)) rfl) (add_nat _ _) rfl
    obtain ⟨x2, v3⟩ : ∃ x2 : Nat, binE gMod (binE gPow (binE gAdd (nmE 3) (binE gMul (kE (.int 69621)) (binE gIx (nmE 0) (kE (.int 2))))) (kE (.int 3))) (kE (.int 2305843009213693921)) r2 = .ok (.val (.int ((x2 : Nat) : Int))) r2 :=
      ⟨y2 ^ 3 % 2305843009213693921, bin_eq (b := .int ((2305843009213693921 : Nat) : Int)) (Pv.bin q3 Pv.k (g_cube b2 (by decide) (by decide)) rfl) Pv.k (g_mod (by decide))⟩
    let r3 : En := ⟨[some (.bor 0), some (.val (.int (L : Int))), none, some (.val (.int (x2 : Int)))], [.live (.lst S)]⟩
    have s3 := (set_val (i := 3) v3).trans (rfl : Out.nx (put r2 3 (.val (.int (x2 : Int)))) = .nx r3)
    obtain ⟨x3, v4⟩ : ∃ x3 : Nat, Pv (binE gDiv (nmE 3) (kE (.int 65537))) r3 (.int ((x3 : Nat) : Int)) := ⟨x2 / 65537, Pv.bin (Pv.nm rfl) (Pv.k (d := .int ((65537 : Nat) : Int))) (g_div (a := 17) (by decide) (by decide) (by decide) (by decide)) rfl⟩
    have v5 : binE gMod (binE gDiv (nmE 3) (kE (.int 65537))) (nmE 1) r3 = .ok (.val (.int ((x3 % L : Nat) : Int))) r3 := bin_eq v4 (Pv.nm rfl) (g_mod h0)
    refine ⟨x3 % L, S, Nat.mod_lt _ h0, ⟨d, m, c', rfl, hm, by omega⟩, ?_⟩
    have t1 : tstB (binE gGt (binE gIx (nmE 0) (kE (.int 0))) (kE (.int 0))) r0 = .ok false r0 := by rw [t0, decide_eq_false hd]
    have skip : ∀ f : Stm, ifS (tstB (binE gGt (binE gIx (nmE 0) (kE (.int 0))) (kE (.int 0)))) f nxS r0 = .nx r0 := fun f => (if_go t1).trans rfl
    exact (run_eq (r := r0) rfl rfl ((seq_ok' (skip _)).trans ((seq_ok' s1).trans ((seq_ok' s2).trans ((seq_ok' s3).trans (ret_ok v5)))))).trans rfl
/-- a call whose first argument is changed by it -/
theorem callS {G : List Ag → FR} {i : Nat} {l : Lo} {g : M (List Rv)} {r : En} {ds ds' es : List PyData} {res : Rv} (h1 : nmE i r = .ok (.at l) r) (h2 : g r = .ok (es.map .val) r) (hl : look r l = some (.live (.lst ds))) (hG : G (.ref (.lst ds) :: es.map .val) = .ret res [.live (.lst ds')]) : callE G (consR (nmE i) g) r = .ok res (setLo r l (.live (.lst ds'))) := by
  refine (bnd_ok (show consR (nmE i) g r = .ok (.at l :: es.map .val) r from (bnd_ok h1).trans (bnd_ok h2))).trans ?_
  unfold callF
  have e : agsOf r (.at l :: es.map .val) = some (.ref (.lst ds) :: es.map .val, [l]) := by
    show (match agOf r (.at l), agsOf r (es.map .val) with
      | some (a, some l), some (as, ls) => some (a :: as, l :: ls)
      | some (a, none), some (as, ls) => some (a :: as, ls)
      | _, _ => none) = _
    rw [agsOf_vals es]
    have e2 : agOf r (.at l) = some (.ref (.lst ds), some l) := by unfold agOf; simp only [hl]
    rw [e2]
  rw [e]
  simp only [noDup, List.contains_nil, Bool.not_false, Bool.and_self, if_true, hG]
  rfl
/-- a draw, the source in the slot i -/
theorem draw_at {i L n : Nat} {l : Lo} {f : M Rv} {r : En} {src : List PyData} (h1 : nmE i r = .ok (.at l) r) (hl : look r l = some (.live (.lst src))) (hs : SrcOk (n + 1) src) (hf : f r = .ok (.val (.int (L : Int))) r) (h0 : 0 < L) (hL : L ≤ 1000) :
    ∃ v src', v < L ∧ SrcOk n src' ∧ callE G__law_draw (consR (nmE i) (consR f nilR)) r = .ok (.val (.int ((v : Nat) : Int))) (setLo r l (.live (.lst src'))) := by
  obtain ⟨v, src', hv, hs', e⟩ := run_draw hs h0 hL
  exact ⟨v, src', hv, hs', callS (es := [.int (L : Int)]) h1 ((bnd_ok hf).trans rfl) hl e⟩
/-! comprehensions whose turns change the rest -/
theorem lcN_inv {nth : En → Nat → Option (Option PyData)} {tg : PyData → En → Option En} {T : List Nat} {tt : M Bool} {f : M Rv} {n : Nat} {D : Nat → PyData} (I : Nat → List PyData → En → Prop)
    (hn : ∀ i acc r, I i acc r → i ≤ n → nth r i = some (if i < n then some (D i) else none))
    (step : ∀ i acc r, I i acc r → i < n → ∃ r2, tg (D i) (wipeV r T) = some r2 ∧ ∃ r3, tt r2 = .ok true r3 ∧ ∃ y r4, M.bnd f frz r3 = .ok y r4 ∧ I (i + 1) (acc ++ [y]) (wipeV r4 T)) :
    ∀ (m i : Nat) (acc : List PyData) (r : En), I i acc r → i ≤ n → n ≤ i + m → acc.length + (n - i) ≤ sizeLine → ∃ acc' r', lcN nth tg T tt f m i acc r = .ok acc' r' ∧ I n acc' r' := by
  intro m
  induction m with
  | zero =>
    intro i acc r h h1 h2 hz
    have e : i = n := by omega
    subst e
    unfold lcN
    rw [hn _ acc r h h1, if_neg (by omega)]
    exact ⟨acc, r, rfl, h⟩
  | succ m ih =>
    intro i acc r h h1 h2 hz
    unfold lcN
    rw [hn _ acc r h h1]
    by_cases hi : i < n
    · rw [if_pos hi]
      obtain ⟨r2, e1, r3, e2, y, r4, e3, h3⟩ := step i acc r h hi
      obtain ⟨acc', r', e4, h4⟩ := ih (i + 1) (acc ++ [y]) (wipeV r4 T) h3 (by omega) (by omega) (by simp; omega)
      refine ⟨acc', r', ?_, h4⟩
      simp only [e1, e2, e3]
      rw [if_pos (by omega)]
      exact e4
    · rw [if_neg hi]
      have e : i = n := by omega
      subst e
      exact ⟨acc, r, rfl, h⟩
end Lw

/-! Sy18.lean -/
set_option Elab.async false
set_option linter.all false
set_option maxRecDepth 100000
/-! shuffled things -/
namespace Lw
open PySem L2 Mi
theorem lcE_inv {it : M Src} {s : Src} {tg : PyData → En → Option En} {T : List Nat} {tt : M Bool} {f : M Rv} {r r1 : En} {n : Nat} {D : Nat → PyData} (I : Nat → List PyData → En → Prop) (hit : it r = .ok s r1) (hc : calm r1 T = true) (hf : n ≤ s.fuel) (hz : n ≤ sizeLine) (h0 : I 0 [] (wipeV r1 T))
    (hn : ∀ i acc r, I i acc r → i ≤ n → s.nth r i = some (if i < n then some (D i) else none))
    (step : ∀ i acc r, I i acc r → i < n → ∃ r2, tg (D i) (wipeV r T) = some r2 ∧ ∃ r3, tt r2 = .ok true r3 ∧ ∃ y r4, M.bnd f frz r3 = .ok y r4 ∧ I (i + 1) (acc ++ [y]) (wipeV r4 T)) :
    ∃ acc r', lcE it tg T tt f r = .ok (.own (.lst acc)) (restV r1 r' T) ∧ I n acc r' := by
  obtain ⟨acc, r', e, h⟩ := lcN_inv (nth := s.nth) (tg := tg) (T := T) (tt := tt) (f := f) I hn step s.fuel 0 [] (wipeV r1 T) h0 (Nat.zero_le _) (by omega) (by simpa using hz)
  refine ⟨acc, r', (bnd_ok hit).trans ?_, h⟩
  simp only [hc, if_true, e]
theorem mut_go {i : Nat} {up : List PyData → List PyData → Option (List PyData × PyData)} {g : M (List PyData)} {r r1 : En} {ds as ds' : List PyData} {e : PyData} (h : r.vs[i]? = some (some (.own (.lst ds)))) (h2 : g r = .ok as r1) (h3 : r1.vs[i]? = some (some (.own (.lst ds)))) (h4 : up ds as = some (ds', e)) : mutE i up g r = .ok (.val e) (setLo r1 (.slot i) (.live (.lst ds'))) := by
  have e1 : nmE i r = .ok (.at (.slot i)) r := by unfold nmE; rw [h]
  have e2 : isLst (.at (.slot i)) r = .ok (.at (.slot i)) r := by
    unfold isLst peek content look
    simp only [h]
    rfl
  refine (bnd_ok e1).trans ((bnd_ok e2).trans ((bnd_ok h2).trans ?_))
  have e4 : look r1 (.slot i) = some (.live (.lst ds)) := by unfold look; simp only [h3]
  unfold mutF
  simp only [e4, h4]
theorem pop_if {ds : List PyData} {i : Int} (h : -(2 ^ 63) ≤ i ∧ i < 2 ^ 63) : uPop ds [.int i] = (ixN ds.length i).bind fun k => ds[k]?.map fun e => (ds.eraseIdx k, e) := if_pos h
theorem pop_eq {ds : List PyData} {v : Nat} {e : PyData} (h : ds[v]? = some e) (hv : v < 2 ^ 63) : uPop ds [.int (v : Int)] = some (ds.eraseIdx v, e) := by
  have hl := (List.getElem?_eq_some_iff.mp h).1
  rw [pop_if (i := (v : Int)) ⟨by omega, by omega⟩]
  have e5 : L2.ixN ds.length (v : Int) = some v := by unfold L2.ixN; simp [hl]
  rw [e5]
  show (ds[v]?.map fun e => (ds.eraseIdx v, e)) = _
  rw [h]
  rfl
/-- a list that a call gets: frozen, or its own -/
def thg (b : Bool) (ds : List PyData) : Ag := if b then .own (.lst ds) else .val (.list ds)
def thc (b : Bool) (ds : List PyData) : Sl := if b then .own (.lst ds) else .val (.list ds)
def shEnv (b : Bool) (ds left src : List PyData) (s3 : Option Sl) : En := ⟨[some (.bor 0), some (thc b ds), some (.own (.lst left)), s3], [.live (.lst src)]⟩
theorem run_shuffled {n : Nat} {src ds : List PyData} (b : Bool) (hd : ds.length ≤ 1000) (hs : SrcOk (n + ds.length) src) :
    ∃ out src', out.length = ds.length ∧ (∀ x ∈ out, x ∈ ds) ∧ SrcOk n src' ∧ G__law_shuffled [.ref (.lst src), thg b ds] = .ret (.own (.lst out)) [.live (.lst src')] := by
  let r0 : En := ⟨[some (.bor 0), some (thc b ds), none, none], [.live (.lst src)]⟩
  have e0 : entry 4 [.ref (.lst src), thg b ds] = r0 := by cases b <;> rfl
  have p1 : Pv (nmE 1) r0 (.list ds) := by cases b; exact ⟨_, rfl, rfl⟩; exact ⟨_, rfl, rfl⟩
  have s1 : setS 2 (unE gListX (nmE 1)) r0 = .nx (shEnv b ds ds src none) := (set_own (un_eq p1 rfl)).trans rfl
  let I : Nat → List PyData → En → Prop := fun i acc r => ∃ left src, r = shEnv b ds left src none ∧ left.length + i = ds.length ∧ acc.length = i ∧ (∀ x ∈ left, x ∈ ds) ∧ (∀ x ∈ acc, x ∈ ds) ∧ SrcOk (n + left.length) src
  obtain ⟨acc, r', e, left, src', hr, h1, h2, h3, h4, h5⟩ := lcE_inv (tg := fun d r => some (put r 3 (.val d))) (T := [3]) (tt := yesB) (f := mutE 2 uPop (consL (callE G__law_draw (consR (nmE 0) (consR (unE gLen (nmE 2)) (nilR)))) (nilL))) (n := ds.length) (D := fun i => .int ((i : Nat) : Int)) I
    (rng_run (e := unE gLen (nmE 2)) (r := shEnv b ds ds src none) (n := ds.length) (un_eq (pa_own rfl).pv rfl) (Nat.le_trans hd (by decide))) rfl (Nat.le_refl _) (Nat.le_trans hd (by decide)) ⟨ds, src, rfl, rfl, rfl, fun x h => h, fun x h => (nomatch h), hs⟩
    (fun i acc r _ hi => by
      show rngNth 0 ds.length r i = _
      unfold rngNth
      by_cases h : i < ds.length
      · rw [if_pos h, if_pos h]; simp
      · rw [if_neg h, if_neg h]) (fun i acc r h hi => by
      obtain ⟨left, src1, rfl, a1, a2, a3, a4, a5⟩ := h
      have hl : 0 < left.length := by omega
      let r2 : En := shEnv b ds left src1 (some (.val (.int ((i : Nat) : Int))))
      have a5' : SrcOk ((n + (left.length - 1)) + 1) src1 := a5.le (by omega)
      obtain ⟨v, src2, hv, hs2, e2⟩ := draw_at (i := 0) (l := .obj 0) (L := left.length) (f := unE gLen (nmE 2)) (r := r2) (src := src1) rfl rfl a5' (un_eq (pa_own rfl).pv rfl) hl (by omega)
      have e2 : callE G__law_draw (consR (nmE 0) (consR (unE gLen (nmE 2)) (nilR))) r2 = .ok (.val (.int ((v : Nat) : Int))) (shEnv b ds left src2 (some (.val (.int ((i : Nat) : Int))))) := e2
      have ev : left[v]? = some left[v] := List.getElem?_eq_getElem hv
      have e3 := mut_go (i := 2) (up := uPop) (g := consL (callE G__law_draw (consR (nmE 0) (consR (unE gLen (nmE 2)) (nilR)))) (nilL)) (r := r2) (ds := left) (r1 := shEnv b ds left src2 (some (.val (.int ((i : Nat) : Int))))) rfl ((bnd_ok e2).trans rfl) rfl (pop_eq ev (by omega))
      refine ⟨r2, rfl, r2, rfl, left[v], shEnv b ds (left.eraseIdx v) src2 (some (.val (.int ((i : Nat) : Int)))), (bnd_ok e3).trans rfl, left.eraseIdx v, src2, rfl, ?_, ?_, ?_, ?_, ?_⟩
      · rw [List.length_eraseIdx_of_lt hv]; omega
      · simp [a2]
      · exact fun x hx => a3 x (List.mem_of_mem_eraseIdx hx)
      · intro x hx
        rcases List.mem_append.mp hx with hx | hx
        · exact a4 x hx
        · rw [List.mem_singleton.mp hx]; exact a3 _ (List.getElem_mem _)
      · rw [List.length_eraseIdx_of_lt hv]; exact hs2)
  subst hr
  refine ⟨acc, src', h2, h4, h5.le (by omega), ?_⟩
  exact (run_eq (r := r0) rfl e0 ((seq_ok' s1).trans (ret_ok e))).trans rfl
end Lw

/-! Sy19.lean -/
set_option Elab.async false
set_option linter.all false
set_option maxRecDepth 100000
/-! ends handed round -/
namespace Lw
open PySem L2 Mi
theorem callG {G : List Ag → FR} {g : M (List Rv)} {r r1 : En} {xs : List Rv} {as : List Ag} {ls : List Lo} {res : Rv} {os : List Bo} (h : g r = .ok xs r1) (ha : agsOf r1 xs = some (as, ls)) (hn : noDup ls = true) (hG : G as = .ret res os) (hl : os.length = ls.length) : callE G g r = .ok res (back ls os r1) := by
  refine (bnd_ok h).trans ?_
  unfold callF
  rw [ha]
  simp only [hn, if_true, hG, hl]
/-- a loop by what falls -/
theorem whl_inv {t : M Bool} {bd : Stm} (I : Nat → En → Prop) (step : ∀ k r, I k r → t r = .ok false r ∨ (t r = .ok true r ∧ ∃ r2 k', bd r = .nx r2 ∧ k' < k ∧ I k' r2)) : ∀ (m k : Nat) (r : En), I k r → k < m → ∃ r' k', whlN t bd m r = .nx r' ∧ I k' r'
  | 0, k, r, _, h => by omega
  | m + 1, k, r, h, hm => by
    unfold whlN
    rcases step k r h with e | ⟨e, r2, k', e2, hk, h2⟩
    · rw [e]; exact ⟨r, k, rfl, h⟩
    · rw [e]
      simp only [e2]
      exact whl_inv I step m k' r2 h2 (by omega)
theorem cut_ints (ns : List Nat) (a b : Nat) : cutD (ints' ns) (some (a : Int)) (some (b : Int)) = ints' ((ns.drop (min a ns.length)).take (min b ns.length - min a ns.length)) := by
  unfold cutD
  have e : (ints' ns).length = ns.length := by unfold ints'; simp
  rw [e, HT.sIx_nat, HT.sIx_nat]
  unfold ints'
  rw [List.map_take, List.map_drop]
theorem cut_to (ds : List PyData) (b : Nat) : cutD ds none (some (b : Int)) = ds.take b := by
  unfold cutD
  rw [HT.sIx_none, HT.sIx_nat, List.drop_zero, Nat.sub_zero]
  rcases Nat.le_total b ds.length with h | h
  · rw [Nat.min_eq_left h]
  · rw [Nat.min_eq_right h, List.take_of_length_le h, List.take_of_length_le (Nat.le_refl _)]
theorem opt_some {f : M Rv} {r r1 : En} {x : Rv} {i : Int} (h : f r = .ok x r1) (p : peek r1 x = some (.int i)) : optI (some f) r = .ok (some i) r1 := by
  unfold optI
  refine (bnd_ok h).trans ?_
  simp only [p]
/-- a slice of a list -/
theorem sl_go {f : M Rv} {lo hi : Option (M Rv)} {r r1 r2 r3 : En} {x : Rv} {a b : Option Int} {ds : List PyData} (h1 : f r = .ok x r1) (h2 : optI lo r1 = .ok a r2) (h3 : optI hi r2 = .ok b r3) (p : peek r3 x = some (.list ds)) : slE f lo hi r = .ok (.own (.lst (cutD ds a b))) r3 := by
  refine (bnd_ok h1).trans ((bnd_ok h2).trans ((bnd_ok h3).trans ?_))
  simp only [p]
  rfl
/-- the item ahead of a place, the last one ahead of the first -/
theorem ix_ahead {ns : List Nat} {p : Nat} (hp : p < ns.length) : ∃ x ∈ ns, gIx (.list (ints' ns)) (.int ((p : Int) - 1)) = some (.val (.int ((x : Nat) : Int))) := by
  cases p with
  | zero =>
    have hne : ns ≠ [] := by intro e; subst e; simp at hp
    refine ⟨ns.getLast hne, List.getLast_mem hne, ?_⟩
    have e : ints' ns = ints' ns.dropLast ++ [.int ((ns.getLast hne : Nat) : Int)] := by
      conv => lhs; rw [← List.dropLast_concat_getLast hne]
      unfold ints'
      rw [List.map_append]
      rfl
    show (atI (ints' ns) (-1)).map Rv.val = _
    rw [e, L2.atI_last]
    rfl
  | succ q =>
    have hq : q < ns.length := by omega
    refine ⟨ns[q], List.getElem_mem hq, ?_⟩
    have e : ((q + 1 : Nat) : Int) - 1 = (q : Int) := by omega
    rw [e]
    exact ix_ints (List.getElem?_eq_getElem hq)
def tuEnv (t found : List EndS) (ord : List Nat) (src : List PyData) (at_ : Nat) (s5 s6 : Option Sl) : En :=
  ⟨[some (.bor 0), some (.bor 1), some (.own (.lst (ints' ord))), some (.own (.lst (tD found))), some (.val (.int (at_ : Int))), s5, s6], [.live (.lst src), .live (.lst (tD t))]⟩
theorem at_mem {t : List EndS} (ht : t.length = 10) {n : Nat} (hn : n < 10) : at' t n ∈ t := (mem_at ht).mpr ⟨n, hn, rfl⟩
theorem set_mem' {t : List EndS} {n : Nat} {e x : EndS} (h : x ∈ t.set n e) : x = e ∨ x ∈ t := by
  rcases List.mem_or_eq_of_mem_set h with h | h
  · exact .inr h
  · exact .inl h
theorem turn_for {t : List EndS} (ht : t.length = 10) {ord grp : List Nat} (hg : ∀ x ∈ grp, x < 10) (hl : grp.length ≤ 10) {src : List PyData} {at_ : Nat} {found : List EndS} (hf : found.length = 10) (hm : ∀ e ∈ found, e ∈ t) (s6 : Option Sl) :
    ∃ found' s6', found'.length = 10 ∧ (∀ e ∈ found', e ∈ t) ∧ forS (rng1 (unE gLen (nmE 5))) (fun d r => some (put r 6 (.val d))) (stoS (binE gIx (nmE 1) (binE gIx (nmE 5) (binE gSubI (nmE 6) (kE (.int 1))))) 3 (binE gIx (nmE 5) (nmE 6))) (tuEnv t found ord src at_ (some (.own (.lst (ints' grp)))) s6) = .nx (tuEnv t found' ord src at_ (some (.own (.lst (ints' grp)))) s6') := by
  let I : Nat → En → Prop := fun i r => ∃ found' s6', r = tuEnv t found' ord src at_ (some (.own (.lst (ints' grp)))) s6' ∧ found'.length = 10 ∧ ∀ e ∈ found', e ∈ t
  have hlen : unE gLen (nmE 5) (tuEnv t found ord src at_ (some (.own (.lst (ints' grp)))) s6) = .ok (.val (.int ((grp.length : Nat) : Int))) (tuEnv t found ord src at_ (some (.own (.lst (ints' grp)))) s6) := un_eq (pa_own rfl).pv (len_ints (ns := grp))
  obtain ⟨r', e, found', s6', hr, h1, h2⟩ := for_rng (tg := fun d r => some (put r 6 (.val d))) (bd := stoS (binE gIx (nmE 1) (binE gIx (nmE 5) (binE gSubI (nmE 6) (kE (.int 1))))) 3 (binE gIx (nmE 5) (nmE 6))) hlen (Nat.le_trans hl (by decide)) I ⟨found, s6, rfl, hf, hm⟩ (fun i r h hi => by
    obtain ⟨f1, q6, rfl, a1, a2⟩ := h
    let r1 := tuEnv t f1 ord src at_ (some (.own (.lst (ints' grp)))) (some (.val (.int ((i : Nat) : Int))))
    obtain ⟨x, hx, ex⟩ := ix_ahead hi
    have hx10 := hg x hx
    have hi10 := hg grp[i] (List.getElem_mem hi)
    have p5 : Pv (nmE 5) r1 (.list (ints' grp)) := (pa_own rfl).pv
    have p1 : Pv (nmE 1) r1 (.list (tD t)) := ⟨.at (.obj 1), rfl, rfl⟩
    have v1 : binE gIx (nmE 1) (binE gIx (nmE 5) (binE gSubI (nmE 6) (kE (.int 1)))) r1 = .ok (.val (eD (at' t x))) r1 := bin_eq p1 (Pv.bin p5 (Pv.bin (Pv.nm rfl) Pv.k (rfl : gSubI (.int ((i : Nat) : Int)) (.int 1) = some (vI (((i : Nat) : Int) - 1))) rfl) ex rfl) (ix_at ht hx10)
    have v2 : Pv (binE gIx (nmE 5) (nmE 6)) r1 (.int ((grp[i] : Nat) : Int)) := Pv.bin p5 (Pv.nm rfl) (ix_ints (List.getElem?_eq_getElem hi)) rfl
    have s := sto_eq (f := binE gIx (nmE 1) (binE gIx (nmE 5) (binE gSubI (nmE 6) (kE (.int 1))))) (j := 3) (ds := tD f1) v1 rfl v2 (by rw [tD_len, a1]; exact hi10)
    rw [tD_set] at s
    refine ⟨r1, _, rfl, s, f1.set grp[i] (at' t x), some (.val (.int ((i : Nat) : Int))), rfl, by rw [List.length_set]; exact a1, fun e he => ?_⟩
    rcases set_mem' he with q | q
    · rw [q]; exact at_mem ht hx10
    · exact a2 e q)
  subst hr
  exact ⟨found', s6', h1, h2, e⟩
theorem run_turned {n : Nat} {src : List PyData} {t : List EndS} (ht : t.length = 10) {ord : List Nat} (ho : ∀ x ∈ ord, x < 10) (hl : ord.length ≤ 10) (hs : SrcOk (n + ord.length) src) :
    ∃ g src', g.length = 10 ∧ (∀ e ∈ g, e ∈ t) ∧ SrcOk n src' ∧ G__law_turned [.ref (.lst src), .ref (.lst (tD t)), .own (.lst (ints' ord))] = .ret (.own (.lst (tD g))) [.live (.lst src'), .live (.lst (tD t))] := by
  let r0 : En := ⟨[some (.bor 0), some (.bor 1), some (.own (.lst (ints' ord))), none, none, none, none], [.live (.lst src), .live (.lst (tD t))]⟩
  have e1 : unE gList (nmE 1) r0 = .ok (.own (.lst (tD t))) r0 := un_eq (a := .list (tD t)) ⟨.at (.obj 1), rfl, rfl⟩ rfl
  have s1 : parS 3 4 (consR (unE gList (nmE 1)) (consR (kE (.int 0)) (nilR))) r0 = .nx (tuEnv t t ord src 0 none none) := (par_eq (r := r0) (g := consR (unE gList (nmE 1)) (consR (kE (.int 0)) (nilR))) (o := .lst (tD t)) (d := .int 0) ((bnd_ok e1).trans rfl)).trans rfl
  let I : Nat → En → Prop := fun k r => ∃ found at_ src1 s5 s6, r = tuEnv t found ord src1 at_ s5 s6 ∧ found.length = 10 ∧ (∀ e ∈ found, e ∈ t) ∧ at_ + k = ord.length ∧ SrcOk (n + k) src1
  obtain ⟨r', k', e, found, at_, src1, s5, s6, hr, h1, h2, h3, h4⟩ := whl_inv (t := tstB (binE gLt (nmE 4) (unE gLen (nmE 2)))) (bd := seqS (setS 5 (slE (nmE 2) (some (nmE 4)) (some (binE gAdd (binE gAdd (nmE 4) (kE (.int 1))) (callE G__law_draw (consR (nmE 0) (consR (kE (.int 4)) (nilR)))))))) <| seqS (forS (rng1 (unE gLen (nmE 5))) (fun d r => some (put r 6 (.val d))) (stoS (binE gIx (nmE 1) (binE gIx (nmE 5) (binE gSubI (nmE 6) (kE (.int 1))))) 3 (binE gIx (nmE 5) (nmE 6)))) <| setS 4 (binE gAdd (nmE 4) (unE gLen (nmE 5)))) I (fun k r h => by
      obtain ⟨found, at_, src1, s5, s6, rfl, a1, a2, a3, a4⟩ := h
      let r := tuEnv t found ord src1 at_ s5 s6
      have tt : tstB (binE gLt (nmE 4) (unE gLen (nmE 2))) r = .ok (decide (at_ < ord.length)) r := Pt.tst (Pv.bin (Pv.nm rfl) (Pv.un (pa_own rfl).pv (len_ints (ns := ord)) rfl) (lt_nat _ _) rfl)
      by_cases c : at_ < ord.length
      · right
        rw [decide_eq_true c] at tt
        refine ⟨tt, ?_⟩
        obtain ⟨v, src2, hv, hs2, e2⟩ := draw_at (i := 0) (l := .obj 0) (L := 4) (n := n + (k - 1)) (f := kE (.int 4)) (r := r) (src := src1) rfl rfl (a4.le (by omega)) rfl (by decide) (by decide)
        let r2 := tuEnv t found ord src2 at_ s5 s6
        have e2 : callE G__law_draw (consR (nmE 0) (consR (kE (.int 4)) (nilR))) r = .ok (.val (.int ((v : Nat) : Int))) r2 := e2
        let grp := (ord.drop (min at_ ord.length)).take (min (at_ + 1 + v) ord.length - min at_ ord.length)
        have g1 : ∀ x ∈ grp, x < 10 := fun x hx => ho x (List.mem_of_mem_drop (List.mem_of_mem_take hx))
        have g2 : grp.length = min (at_ + 1 + v) ord.length - at_ := by
          show ((ord.drop (min at_ ord.length)).take _).length = _
          rw [List.length_take, List.length_drop]
          omega
        have hi : binE gAdd (binE gAdd (nmE 4) (kE (.int 1))) (callE G__law_draw (consR (nmE 0) (consR (kE (.int 4)) (nilR)))) r = .ok (.val (.int ((at_ + 1 + v : Nat) : Int))) r2 := bin_go (bin_eq (Pv.nm rfl) Pv.k (add_nat at_ 1)) e2 rfl rfl (add_nat (at_ + 1) v)
        have s1 : setS 5 (slE (nmE 2) (some (nmE 4)) (some (binE gAdd (binE gAdd (nmE 4) (kE (.int 1))) (callE G__law_draw (consR (nmE 0) (consR (kE (.int 4)) (nilR))))))) r = .nx (tuEnv t found ord src2 at_ (some (.own (.lst (ints' grp)))) s6) := by
          have l0 := sl_go (f := nmE 2) (r := r) (ds := ints' ord) (show nmE 2 r = .ok (.at (.slot 2)) r from rfl) (opt_some (f := nmE 4) (x := .val (.int (at_ : Int))) rfl rfl) (opt_some hi rfl) rfl
          rw [cut_ints] at l0
          exact (set_own l0).trans rfl
        obtain ⟨found2, q6, f1, f2, s2⟩ := turn_for (src := src2) (at_ := at_) (ord := ord) ht g1 (by rw [g2]; omega) a1 a2 s6
        have s3 : setS 4 (binE gAdd (nmE 4) (unE gLen (nmE 5))) (tuEnv t found2 ord src2 at_ (some (.own (.lst (ints' grp)))) q6) = .nx (tuEnv t found2 ord src2 (at_ + grp.length) (some (.own (.lst (ints' grp)))) q6) := (set_val (bin_eq (Pv.nm rfl) (Pv.un (pa_own rfl).pv (len_ints (ns := grp)) rfl) (add_nat _ _))).trans rfl
        refine ⟨_, k - grp.length, (seq_ok' s1).trans ((seq_ok' s2).trans s3), by omega, found2, at_ + grp.length, src2, _, q6, rfl, f1, f2, by omega, hs2.le (by omega)⟩
      · left
        rw [decide_eq_false c] at tt
        exact tt) 1000 ord.length (tuEnv t t ord src 0 none none) ⟨t, 0, src, none, none, rfl, ht, fun e h => h, by omega, hs⟩ (by omega)
  subst hr
  refine ⟨found, src1, h1, h2, h4.le (by omega), ?_⟩
  exact (run_eq (r := r0) rfl rfl ((seq_ok' s1).trans ((seq_ok' e).trans (ret_ok (show nmE 3 (tuEnv t found ord src1 at_ s5 s6) = .ok (.at (.slot 3)) _ from rfl))))).trans rfl
end Lw

/-! Sy20.lean -/
set_option Elab.async false
set_option linter.all false
set_option maxRecDepth 100000
/-! the drawn table and goal -/
namespace Lw
open PySem L2 Mi
def words1 : List Str := ["a", "b", "c", "d", "e", "f", "g", "h", "i", "abcdefgh"]
def words2 : List Str := ["a", "b", "c", "a", "b", "c", "a", "b", "c", "a", "b", "c"]
def allE : List EndS := none :: some "zz" :: words1.map some
structure TW (t : List EndS) : Prop where
  len : t.length = 10
  mem : ∀ e ∈ t, e ∈ allE
theorem TW.set {t : List EndS} (h : TW t) (n : Nat) {e : EndS} (he : e ∈ allE) : TW (t.set n e) where
  len := by rw [List.length_set]; exact h.len
  mem := fun x hx => by
    rcases set_mem' hx with q | q
    · rw [q]; exact he
    · exact h.mem x q
theorem name_ok : ∀ e ∈ allE, ∀ x : Str, e = some x → PyData.strOk x = true ∧ (1 ≤ x.cps.size ∧ x.cps.size ≤ 8 ∧ ∀ c ∈ x.cps.toList, LetOk c = true) := by
  intro e he x ex
  subst ex
  simp only [allE, words1, List.map_cons, List.map_nil, List.mem_cons, List.not_mem_nil, or_false, Option.some.injEq, reduceCtorEq, false_or] at he
  rcases he with rfl | rfl | rfl | rfl | rfl | rfl | rfl | rfl | rfl | rfl | rfl <;> exact ⟨by decide +kernel, by decide +kernel, by decide +kernel, by decide +kernel⟩
theorem TW.tab {t : List EndS} (h : TW t) : Tab t where
  len := h.len
  str := fun x hx => (name_ok _ (h.mem _ hx) x rfl).1
  nm := fun x hx => by
    have := (name_ok _ (h.mem _ hx) x rfl).2
    exact ⟨this.1, this.2.1, this.2.2⟩
theorem TW.behind {t : List EndS} (h : TW t) (c : CallT) : TW (Lw.behind t c) := by
  have hn : none ∈ allE := List.mem_cons_self
  cases c with
  | close n => exact h.set n hn
  | copy a b =>
    refine h.set b ?_
    unfold at'
    cases q : t[a]? with
    | none => exact hn
    | some y => exact h.mem _ (List.mem_of_getElem? q)
theorem str_list (ws : List Str) (hw : ∀ s ∈ ws, some s ∈ allE) : ∀ out : List PyData, (∀ x ∈ out, x ∈ ws.map PyData.str) → ∃ t : List EndS, out = tD t ∧ t.length = out.length ∧ ∀ e ∈ t, e ∈ allE
  | [], _ => ⟨[], rfl, rfl, fun e h => nomatch h⟩
  | x :: out, h => by
    obtain ⟨t, e1, e2, e3⟩ := str_list ws hw out fun y hy => h y (List.mem_cons_of_mem _ hy)
    obtain ⟨s, hs, e⟩ := List.mem_map.mp (h x List.mem_cons_self)
    refine ⟨some s :: t, by rw [e1, ← e]; rfl, by simp [e2], fun z hz => ?_⟩
    rcases List.mem_cons.mp hz with q | q
    · rw [q]; exact hw s hs
    · exact e3 z q
theorem int_list (ns : List Nat) : ∀ out : List PyData, (∀ x ∈ out, x ∈ ints' ns) → ∃ ord : List Nat, out = ints' ord ∧ ord.length = out.length ∧ ∀ e ∈ ord, e ∈ ns
  | [], _ => ⟨[], rfl, rfl, fun e h => nomatch h⟩
  | x :: out, h => by
    obtain ⟨t, e1, e2, e3⟩ := int_list ns out fun y hy => h y (List.mem_cons_of_mem _ hy)
    obtain ⟨s, hs, e⟩ := List.mem_map.mp (h x List.mem_cons_self)
    refine ⟨s :: t, by rw [e1, ← e]; rfl, by simp [e2], fun z hz => ?_⟩
    rcases List.mem_cons.mp hz with q | q
    · rw [q]; exact hs
    · exact e3 z q
theorem rep_eq {f g : M Rv} {r : En} {ds : List PyData} {k : Nat} (h1 : f r = .ok (.own (.lst ds)) r) (h2 : g r = .ok (.val (.int (k : Int))) r) (hk : k < 2 ^ 63) (hz : ds.length * k ≤ sizeLine) : repE f g r = .ok (.own (.lst (List.replicate k ds).flatten)) r := by
  refine (bnd_ok h1).trans ((bnd_ok h2).trans ?_)
  show (if (-(2 ^ 63) ≤ (k : Int) ∧ (k : Int) < 2 ^ 63) ∧ ds.length * (k : Int).toNat ≤ sizeLine then (Res.ok (Rv.own (.lst (List.replicate (k : Int).toNat ds).flatten)) r : Res Rv) else .no) = _
  rw [Int.toNat_natCast, if_pos ⟨⟨by omega, by omega⟩, hz⟩]
theorem cl_go {f : M Rv} {g : M (List PyData)} {r r1 r2 r3 : En} {x : Rv} {d : PyData} {ds : List PyData} (h : f r = .ok x r1) (p : frz x r1 = .ok d r2) (h2 : g r2 = .ok ds r3) : consL f g r = .ok (d :: ds) r3 := by
  refine (bnd_ok h).trans ((bnd_ok p).trans ((bnd_ok h2).trans ?_))
  rfl
theorem cr_go {f : M Rv} {g : M (List Rv)} {r r1 r2 : En} {x : Rv} {xs : List Rv} (h : f r = .ok x r1) (h2 : g r1 = .ok xs r2) : consR f g r = .ok (x :: xs) r2 := by
  refine (bnd_ok h).trans ((bnd_ok h2).trans ?_)
  rfl
def paEnv (s1 s2 s3 s4 s5 : Option Sl) (src : List PyData) : En := ⟨[some (.bor 0), s1, s2, s3, s4, s5], [.live (.lst src)]⟩
theorem pd {n : Nat} (L : Nat) (s1 s2 s3 s4 s5 : Option Sl) {src : List PyData} (hs : SrcOk (n + 1) src) (h0 : 0 < L) (hL : L ≤ 1000) : ∃ v src', v < L ∧ SrcOk n src' ∧ callE G__law_draw (consR (nmE 0) (consR (kE (.int (L : Int))) (nilR))) (paEnv s1 s2 s3 s4 s5 src) = .ok (.val (.int ((v : Nat) : Int))) (paEnv s1 s2 s3 s4 s5 src') := by
  obtain ⟨v, src', hv, hs', e⟩ := draw_at (i := 0) (l := .obj 0) (L := L) (f := kE (.int (L : Int))) (r := paEnv s1 s2 s3 s4 s5 src) rfl rfl hs rfl h0 hL
  exact ⟨v, src', hv, hs', e⟩
abbrev e_words : M Rv := lstE (consL (lstE (consL (kE (.str "a")) (consL (kE (.str "b")) (consL (kE (.str "c")) (consL (kE (.str "d")) (consL (kE (.str "e")) (consL (kE (.str "f")) (consL (kE (.str "g")) (consL (kE (.str "h")) (consL (kE (.str "i")) (consL (kE (.str "abcdefgh")) (nilL)))))))))))) (consL (repE (lstE (consL (kE (.str "a")) (consL (kE (.str "b")) (consL (kE (.str "c")) (nilL))))) (kE (.int 4))) (nilL)))
theorem words_run (r : En) : e_words r = .ok (.own (.lst [.list (words1.map .str), .list (words2.map .str)])) r := by
  have h1 : lstE (consL (kE (.str "a")) (consL (kE (.str "b")) (consL (kE (.str "c")) (consL (kE (.str "d")) (consL (kE (.str "e")) (consL (kE (.str "f")) (consL (kE (.str "g")) (consL (kE (.str "h")) (consL (kE (.str "i")) (consL (kE (.str "abcdefgh")) (nilL))))))))))) r = .ok (.own (.lst (words1.map .str))) r := lst_eq (ds := words1.map .str) rfl (by decide)
  have h2 : lstE (consL (kE (.str "a")) (consL (kE (.str "b")) (consL (kE (.str "c")) (nilL)))) r = .ok (.own (.lst [.str "a", .str "b", .str "c"])) r := lst_eq (ds := [.str "a", .str "b", .str "c"]) rfl (by decide)
  have h3 : repE (lstE (consL (kE (.str "a")) (consL (kE (.str "b")) (consL (kE (.str "c")) (nilL))))) (kE (.int 4)) r = .ok (.own (.lst (words2.map .str))) r := rep_eq (k := 4) h2 rfl (by decide) (by decide)
  exact lst_eq (lst2 (own_frz h1) (own_frz h3)) (by decide)
theorem pair1 {n : Nat} {src : List PyData} (hs : SrcOk (n + 1) src) : ∃ ws src', (ws = words1 ∨ ws = words2) ∧ SrcOk n src' ∧ setS 1 (binE gIx e_words (binE gDiv (callE G__law_draw (consR (nmE 0) (consR (kE (.int 3)) (nilR)))) (kE (.int 2)))) (paEnv none none none none none src) = .nx (paEnv (some (.val (.list (ws.map .str)))) none none none none src') := by
  obtain ⟨v, src', hv, hs', e⟩ := pd 3 none none none none none hs (by decide) (by decide)
  have e2 : binE gDiv (callE G__law_draw (consR (nmE 0) (consR (kE (.int 3)) (nilR)))) (kE (.int 2)) (paEnv none none none none none src) = .ok (.val (.int ((v / 2 : Nat) : Int))) (paEnv none none none none none src') := bin_go (b := .int ((2 : Nat) : Int)) e rfl rfl rfl (g_div (a := 2) (by decide) (by decide) (by decide) (by decide))
  have key : ∀ ws : List Str, ([.list (words1.map .str), .list (words2.map .str)] : List PyData)[v / 2]? = some (.list (ws.map .str)) → setS 1 (binE gIx e_words (binE gDiv (callE G__law_draw (consR (nmE 0) (consR (kE (.int 3)) (nilR)))) (kE (.int 2)))) (paEnv none none none none none src) = .nx (paEnv (some (.val (.list (ws.map .str)))) none none none none src') := fun ws h =>
    (set_val (bin_go (words_run _) e2 rfl rfl (ix_lst h))).trans rfl
  have c : v / 2 = 0 ∨ v / 2 = 1 := by omega
  rcases c with c | c
  · exact ⟨words1, src', .inl rfl, hs', key words1 (by rw [c]; rfl)⟩
  · exact ⟨words2, src', .inr rfl, hs', key words2 (by rw [c]; rfl)⟩
theorem words_all {ws : List Str} (h : ws = words1 ∨ ws = words2) : ∀ s ∈ ws, some s ∈ allE := by
  rcases h with rfl | rfl <;> decide +kernel
theorem words_len {ws : List Str} (h : ws = words1 ∨ ws = words2) : 10 ≤ ws.length ∧ ws.length ≤ 12 := by
  rcases h with rfl | rfl <;> decide +kernel
theorem pair2 {n : Nat} {ws : List Str} (hw : ws = words1 ∨ ws = words2) {src : List PyData} (hs : SrcOk (n + 12) src) : ∃ t src', TW t ∧ SrcOk n src' ∧ setS 2 (slE (callE G__law_shuffled (consR (nmE 0) (consR (nmE 1) (nilR)))) none (some (kE (.int 10)))) (paEnv (some (.val (.list (ws.map .str)))) none none none none src) = .nx (paEnv (some (.val (.list (ws.map .str)))) (some (.own (.lst (tD t)))) none none none src') := by
  have hl := words_len hw
  have el : (ws.map PyData.str).length = ws.length := by simp
  obtain ⟨out, src', h1, h2, h3, e⟩ := run_shuffled (n := n) false (ds := ws.map .str) (by omega) (hs.le (by omega))
  obtain ⟨t, e1, e2, e3⟩ := str_list ws (words_all hw) (out.take 10) fun x hx => h2 x (List.mem_of_mem_take hx)
  let r0 := paEnv (some (.val (.list (ws.map .str)))) none none none none src
  let r1 := paEnv (some (.val (.list (ws.map .str)))) none none none none src'
  have c1 : callE G__law_shuffled (consR (nmE 0) (consR (nmE 1) (nilR))) r0 = .ok (.own (.lst out)) r1 := callS (i := 0) (l := .obj 0) (es := [.list (ws.map .str)]) (g := consR (nmE 1) nilR) rfl rfl rfl e
  refine ⟨t, src', ⟨by rw [e2, List.length_take]; omega, e3⟩, h3, ?_⟩
  have l0 := sl_go (lo := none) (hi := some (kE (.int 10))) c1 (show optI none r1 = .ok none r1 from rfl) (opt_some (i := ((10 : Nat) : Int)) (x := .val (.int 10)) rfl rfl) rfl
  rw [cut_to, e1] at l0
  exact (set_own l0).trans rfl
theorem pair3 {n : Nat} (L : Nat) (hL : L ≤ 1000) (h0 : 0 < L) {t : List EndS} (ht : TW t) {src : List PyData} (s1 s3 : Option Sl) (hs : SrcOk (n + 1 + L) src) : ∃ t' src' s3', TW t' ∧ SrcOk n src' ∧ forS (rng1 (callE G__law_draw (consR (nmE 0) (consR (kE (.int (L : Int))) (nilR))))) (fun d r => some (put r 3 (.val d))) (stoS (kE .none) 2 (callE G__law_draw (consR (nmE 0) (consR (kE (.int 10)) (nilR))))) (paEnv s1 (some (.own (.lst (tD t)))) s3 none none src) = .nx (paEnv s1 (some (.own (.lst (tD t')))) s3' none none src') := by
  obtain ⟨v, src1, hv, hs1, e⟩ := pd (n := n + L) L s1 (some (.own (.lst (tD t)))) s3 none none (hs.le (by omega)) h0 hL
  let I : Nat → En → Prop := fun i r => ∃ t' src' s3', r = paEnv s1 (some (.own (.lst (tD t')))) s3' none none src' ∧ TW t' ∧ SrcOk (n + (v - i)) src'
  obtain ⟨r', e2, t', src', s3', hr, h1, h2⟩ := for_rng (tg := fun d r => some (put r 3 (.val d))) (bd := stoS (kE .none) 2 (callE G__law_draw (consR (nmE 0) (consR (kE (.int 10)) (nilR))))) e (by omega) I ⟨t, src1, s3, rfl, ht, hs1.le (by omega)⟩ (fun i r h hi => by
    obtain ⟨t2, src2, q3, rfl, a1, a2⟩ := h
    obtain ⟨w, src3, hw, hs3, e3⟩ := pd (n := n + (v - (i + 1))) 10 s1 (some (.own (.lst (tD t2)))) (some (.val (.int ((i : Nat) : Int)))) none none (a2.le (by omega)) (by decide) (by decide)
    have s := sto_go (f := kE .none) (j := 2) (g := callE G__law_draw (consR (nmE 0) (consR (kE (.int 10)) (nilR)))) (r := paEnv s1 (some (.own (.lst (tD t2)))) (some (.val (.int ((i : Nat) : Int)))) none none src2) (d := .none) (ds := tD t2) (n := w) rfl rfl e3 rfl rfl (by rw [tD_len, a1.len]; exact hw)
    have s : stoS (kE .none) 2 (callE G__law_draw (consR (nmE 0) (consR (kE (.int 10)) (nilR)))) (paEnv s1 (some (.own (.lst (tD t2)))) (some (.val (.int ((i : Nat) : Int)))) none none src2) = .nx (paEnv s1 (some (.own (.lst ((tD t2).set w (eD none))))) (some (.val (.int ((i : Nat) : Int)))) none none src3) := s
    rw [tD_set] at s
    exact ⟨_, _, rfl, s, t2.set w none, src3, _, rfl, a1.set w List.mem_cons_self, hs3⟩)
  subst hr
  exact ⟨t', src', s3', h1, h2.le (by omega), e2⟩
theorem range_ints : rgD 0 10 = ints' (List.range 10) := rfl
theorem pair4 {n : Nat} {s1 s3 s5 : Option Sl} {s2 : Option Sl} {src : List PyData} (hs : SrcOk (n + 10) src) : ∃ ord src', ord.length = 10 ∧ (∀ x ∈ ord, x < 10) ∧ SrcOk n src' ∧ setS 4 (callE G__law_shuffled (consR (nmE 0) (consR (lrgE (kE (.int 10))) (nilR)))) (paEnv s1 s2 s3 none s5 src) = .nx (paEnv s1 s2 s3 (some (.own (.lst (ints' ord)))) s5 src') := by
  obtain ⟨out, src', h1, h2, h3, e⟩ := run_shuffled (n := n) true (ds := rgD 0 10) (by decide) hs
  obtain ⟨ord, e1, e2, e3⟩ := int_list (List.range 10) out fun x hx => by rw [← range_ints]; exact h2 x hx
  subst e1
  refine ⟨ord, src', e2.trans h1, fun x hx => List.mem_range.mp (e3 x hx), h3, ?_⟩
  have c1 : callE G__law_shuffled (consR (nmE 0) (consR (lrgE (kE (.int 10))) (nilR))) (paEnv s1 s2 s3 none s5 src) = .ok (.own (.lst (ints' ord))) (paEnv s1 s2 s3 none s5 src') := callG (xs := [.at (.obj 0), .own (.lst (rgD 0 10))]) (r1 := paEnv s1 s2 s3 none s5 src) rfl (as := [.ref (.lst src), .own (.lst (rgD 0 10))]) (ls := [.obj 0]) rfl rfl e rfl
  exact (set_own c1).trans rfl
theorem pair5 {n : Nat} {s1 s3 : Option Sl} {t : List EndS} (ht : TW t) {ord : List Nat} (ho : ∀ x ∈ ord, x < 10) (hl : ord.length = 10) {src : List PyData} (hs : SrcOk (n + 12) src) : ∃ g src', TW g ∧ SrcOk n src' ∧ setS 5 (callE G__law_turned (consR (nmE 0) (consR (nmE 2) (consR (slE (nmE 4) none (some (binE gIx (lstE (consL (kE (.int 10)) (consL (callE G__law_draw (consR (nmE 0) (consR (kE (.int 11)) (nilR)))) (consL (kE (.int 0)) (nilL))))) (callE G__law_draw (consR (nmE 0) (consR (kE (.int 3)) (nilR))))))) (nilR))))) (paEnv s1 (some (.own (.lst (tD t)))) s3 (some (.own (.lst (ints' ord)))) none src) = .nx (paEnv s1 (some (.own (.lst (tD t)))) s3 (some (.own (.lst (ints' ord)))) (some (.own (.lst (tD g)))) src') := by
  let E := fun s => paEnv s1 (some (.own (.lst (tD t)))) s3 (some (.own (.lst (ints' ord)))) none s
  obtain ⟨v, src1, hv, hs1, e1⟩ := pd (n := n + 11) 11 s1 (some (.own (.lst (tD t)))) s3 (some (.own (.lst (ints' ord)))) none (hs.le (by omega)) (by decide) (by decide)
  obtain ⟨w, src2, hw, hs2, e2⟩ := pd (n := n + 10) 3 s1 (some (.own (.lst (tD t)))) s3 (some (.own (.lst (ints' ord)))) none (hs1.le (by omega)) (by decide) (by decide)
  have l1 : lstE (consL (kE (.int 10)) (consL (callE G__law_draw (consR (nmE 0) (consR (kE (.int 11)) (nilR)))) (consL (kE (.int 0)) (nilL)))) (E src) = .ok (.own (.lst (ints' [10, v, 0]))) (E src1) := lst_eq (ds := ints' [10, v, 0]) (cl_go (x := .val (.int 10)) (r1 := E src) rfl rfl (cl_go e1 rfl (cl_go (x := .val (.int 0)) (r1 := E src1) rfl rfl (rfl : nilL (E src1) = .ok [] (E src1))))) (by unfold ints'; simp [sizeLine])
  have hw3 : w < ([10, v, 0] : List Nat).length := hw
  have l2 : binE gIx (lstE (consL (kE (.int 10)) (consL (callE G__law_draw (consR (nmE 0) (consR (kE (.int 11)) (nilR)))) (consL (kE (.int 0)) (nilL))))) (callE G__law_draw (consR (nmE 0) (consR (kE (.int 3)) (nilR)))) (E src) = .ok (.val (.int ((([10, v, 0] : List Nat)[w] : Nat) : Int))) (E src2) := bin_go l1 e2 rfl rfl (ix_ints (List.getElem?_eq_getElem hw3))
  generalize ([10, v, 0] : List Nat)[w] = k at l2
  have l3 : slE (nmE 4) none (some (binE gIx (lstE (consL (kE (.int 10)) (consL (callE G__law_draw (consR (nmE 0) (consR (kE (.int 11)) (nilR)))) (consL (kE (.int 0)) (nilL))))) (callE G__law_draw (consR (nmE 0) (consR (kE (.int 3)) (nilR)))))) (E src) = .ok (.own (.lst (ints' (ord.take k)))) (E src2) := by
    have l0 := sl_go (f := nmE 4) (r := E src) (lo := none) (ds := ints' ord) (show nmE 4 (E src) = .ok (.at (.slot 4)) (E src) from rfl) (show optI none (E src) = .ok none (E src) from rfl) (opt_some l2 rfl) rfl
    rw [cut_to] at l0
    refine l0.trans ?_
    unfold ints'
    rw [List.map_take]
  have hk : (ord.take k).length ≤ 10 := by rw [List.length_take]; omega
  obtain ⟨g, src3, g1, g2, g3, e3⟩ := run_turned (n := n) ht.len (ord := ord.take k) (fun x hx => ho x (List.mem_of_mem_take hx)) hk (hs2.le (by omega))
  refine ⟨g, src3, ⟨g1, fun e he => ht.mem e (g2 e he)⟩, g3, ?_⟩
  have c1 : callE G__law_turned (consR (nmE 0) (consR (nmE 2) (consR (slE (nmE 4) none (some (binE gIx (lstE (consL (kE (.int 10)) (consL (callE G__law_draw (consR (nmE 0) (consR (kE (.int 11)) (nilR)))) (consL (kE (.int 0)) (nilL))))) (callE G__law_draw (consR (nmE 0) (consR (kE (.int 3)) (nilR))))))) (nilR)))) (E src) = .ok (.own (.lst (tD g))) (E src3) :=
    callG (xs := [.at (.obj 0), .at (.slot 2), .own (.lst (ints' (ord.take k)))]) (r1 := E src2) (cr_go (x := .at (.obj 0)) (r1 := E src) rfl (cr_go (x := .at (.slot 2)) (r1 := E src) rfl (cr_go l3 (rfl : nilR (E src2) = .ok [] (E src2))))) (as := [.ref (.lst src2), .ref (.lst (tD t)), .own (.lst (ints' (ord.take k)))]) (ls := [.obj 0, .slot 2]) rfl rfl e3 rfl
  exact (set_own c1).trans rfl
theorem pair6 {n : Nat} {s1 s4 : Option Sl} {t g : List EndS} (ht : TW t) (hg : TW g) {s3 : Option Sl} {src : List PyData} (hs : SrcOk (n + 19) src) : ∃ g' src' s3', TW g' ∧ SrcOk n src' ∧ forS (rng1 (callE G__law_draw (consR (nmE 0) (consR (kE (.int 6)) (nilR))))) (fun d r => some (put r 3 (.val d))) (stoS (binE gIx (lstE (consL (binE gIx (nmE 2) (callE G__law_draw (consR (nmE 0) (consR (kE (.int 10)) (nilR))))) (consL (kE .none) (nilL)))) (binE gDiv (callE G__law_draw (consR (nmE 0) (consR (kE (.int 4)) (nilR)))) (kE (.int 3)))) 5 (callE G__law_draw (consR (nmE 0) (consR (kE (.int 10)) (nilR))))) (paEnv s1 (some (.own (.lst (tD t)))) s3 s4 (some (.own (.lst (tD g)))) src) = .nx (paEnv s1 (some (.own (.lst (tD t)))) s3' s4 (some (.own (.lst (tD g')))) src') := by
  obtain ⟨v, src1, hv, hs1, e⟩ := pd (n := n + 18) 6 s1 (some (.own (.lst (tD t)))) s3 s4 (some (.own (.lst (tD g)))) (hs.le (by omega)) (by decide) (by decide)
  let I : Nat → En → Prop := fun i r => ∃ g' src' s3', r = paEnv s1 (some (.own (.lst (tD t)))) s3' s4 (some (.own (.lst (tD g')))) src' ∧ TW g' ∧ SrcOk (n + 3 * (v - i)) src'
  obtain ⟨r', e2, g', src', s3', hr, h1, h2⟩ := for_rng (tg := fun d r => some (put r 3 (.val d))) (bd := stoS (binE gIx (lstE (consL (binE gIx (nmE 2) (callE G__law_draw (consR (nmE 0) (consR (kE (.int 10)) (nilR))))) (consL (kE .none) (nilL)))) (binE gDiv (callE G__law_draw (consR (nmE 0) (consR (kE (.int 4)) (nilR)))) (kE (.int 3)))) 5 (callE G__law_draw (consR (nmE 0) (consR (kE (.int 10)) (nilR))))) e (by omega) I ⟨g, src1, s3, rfl, hg, hs1.le (by omega)⟩ (fun i r h hi => by
    obtain ⟨g2, src2, q3, rfl, a1, a2⟩ := h
    let q : Option Sl := some (.val (.int ((i : Nat) : Int)))
    let E := fun s => paEnv s1 (some (.own (.lst (tD t)))) q s4 (some (.own (.lst (tD g2)))) s
    obtain ⟨w1, src3, hw1, hs3, e3⟩ := pd (n := n + 3 * (v - (i + 1)) + 2) 10 s1 (some (.own (.lst (tD t)))) q s4 (some (.own (.lst (tD g2)))) (a2.le (by omega)) (by decide) (by decide)
    obtain ⟨w2, src4, hw2, hs4, e4⟩ := pd (n := n + 3 * (v - (i + 1)) + 1) 4 s1 (some (.own (.lst (tD t)))) q s4 (some (.own (.lst (tD g2)))) (hs3.le (by omega)) (by decide) (by decide)
    obtain ⟨w3, src5, hw3, hs5, e5⟩ := pd (n := n + 3 * (v - (i + 1))) 10 s1 (some (.own (.lst (tD t)))) q s4 (some (.own (.lst (tD g2)))) (hs4.le (by omega)) (by decide) (by decide)
    have b1 : binE gIx (nmE 2) (callE G__law_draw (consR (nmE 0) (consR (kE (.int 10)) (nilR)))) (E src2) = .ok (.val (eD (at' t w1))) (E src3) := bin_go (show nmE 2 (E src2) = .ok (.at (.slot 2)) (E src2) from rfl) e3 rfl rfl (ix_at ht.len hw1)
    have l1 : lstE (consL (binE gIx (nmE 2) (callE G__law_draw (consR (nmE 0) (consR (kE (.int 10)) (nilR))))) (consL (kE .none) (nilL))) (E src2) = .ok (.own (.lst (tD [at' t w1, none]))) (E src3) := lst_eq (ds := tD [at' t w1, none]) (cl_go b1 rfl (cl_go (x := .val .none) (r1 := E src3) rfl rfl (rfl : nilL (E src3) = .ok [] (E src3)))) (by rw [tD_len]; simp [sizeLine])
    have d1 : binE gDiv (callE G__law_draw (consR (nmE 0) (consR (kE (.int 4)) (nilR)))) (kE (.int 3)) (E src3) = .ok (.val (.int ((w2 / 3 : Nat) : Int))) (E src4) := bin_go (b := .int ((3 : Nat) : Int)) e4 rfl rfl rfl (g_div (a := 2) (by decide) (by decide) (by decide) (by decide))
    have hx : ∃ x, ([at' t w1, none] : List EndS)[w2 / 3]? = some x ∧ x ∈ allE := by
      have c : w2 / 3 = 0 ∨ w2 / 3 = 1 := by omega
      rcases c with c | c
      · exact ⟨at' t w1, by rw [c]; rfl, ht.mem _ (at_mem ht.len hw1)⟩
      · exact ⟨none, by rw [c]; rfl, List.mem_cons_self⟩
    obtain ⟨x, ex, hx⟩ := hx
    have f1 : binE gIx (lstE (consL (binE gIx (nmE 2) (callE G__law_draw (consR (nmE 0) (consR (kE (.int 10)) (nilR))))) (consL (kE .none) (nilL)))) (binE gDiv (callE G__law_draw (consR (nmE 0) (consR (kE (.int 4)) (nilR)))) (kE (.int 3))) (E src2) = .ok (.val (eD x)) (E src4) := bin_go l1 d1 rfl rfl (ix_tD ex)
    have s := sto_go (j := 5) (g := callE G__law_draw (consR (nmE 0) (consR (kE (.int 10)) (nilR)))) (ds := tD g2) (n := w3) f1 rfl e5 rfl rfl (by rw [tD_len, a1.len]; exact hw3)
    rw [tD_set] at s
    exact ⟨E src2, E src5 |> fun _ => paEnv s1 (some (.own (.lst (tD t)))) q s4 (some (.own (.lst (tD (g2.set w3 x))))) src5, rfl, s, g2.set w3 x, src5, q, rfl, a1.set w3 hx, hs5⟩)
  subst hr
  exact ⟨g', src', s3', h1, h2.le (by omega), e2⟩
theorem run_pair {n : Nat} {src : List PyData} (hs : SrcOk (n + 100) src) : ∃ t g src', TW t ∧ TW g ∧ SrcOk n src' ∧ G__law_pair [.ref (.lst src)] = .ret (.own (.lst [.list (tD t), .list (tD g)])) [.live (.lst src')] := by
  obtain ⟨ws, c1, hw, k1, e1⟩ := pair1 (n := n + 99) (hs.le (by omega))
  obtain ⟨t1, c2, ht1, k2, e2⟩ := pair2 (n := n + 87) hw (k1.le (by omega))
  obtain ⟨t, c3, q3, ht, k3, e3⟩ := pair3 (n := n + 82) 4 (by decide) (by decide) ht1 (some (.val (.list (ws.map .str)))) none (k2.le (by omega))
  obtain ⟨ord, c4, ho, ho2, k4, e4⟩ := pair4 (n := n + 72) (s1 := some (.val (.list (ws.map .str)))) (s2 := some (.own (.lst (tD t)))) (s3 := q3) (s5 := none) (k3.le (by omega))
  obtain ⟨g1, c5, hg1, k5, e5⟩ := pair5 (n := n + 60) (s1 := some (.val (.list (ws.map .str)))) (s3 := q3) ht ho2 ho (k4.le (by omega))
  obtain ⟨g2, c6, q6, hg2, k6, e6⟩ := pair6 (n := n + 41) (s1 := some (.val (.list (ws.map .str)))) (s3 := q3) (s4 := some (.own (.lst (ints' ord)))) ht hg1 (k5.le (by omega))
  let E := fun (g : List EndS) s => paEnv (some (.val (.list (ws.map .str)))) (some (.own (.lst (tD t)))) q6 (some (.own (.lst (ints' ord)))) (some (.own (.lst (tD g)))) s
  obtain ⟨v, c7, hv, k7, e7⟩ := pd (n := n + 40) 12 (some (.val (.list (ws.map .str)))) (some (.own (.lst (tD t)))) q6 (some (.own (.lst (ints' ord)))) (some (.own (.lst (tD g2)))) (k6.le (by omega)) (by decide) (by decide)
  have tt : tstB (binE gEq (callE G__law_draw (consR (nmE 0) (consR (kE (.int 12)) (nilR)))) (kE (.int 0))) (E g2 c6) = .ok (decide (((v : Nat) : Int) = 0)) (E g2 c7) := tst_go (bin_go e7 rfl rfl rfl (eq_int _ _)) rfl
  have last : ∃ g c, TW g ∧ SrcOk n c ∧ ifS (tstB (binE gEq (callE G__law_draw (consR (nmE 0) (consR (kE (.int 12)) (nilR)))) (kE (.int 0)))) (stoS (kE (.str "zz")) 5 (callE G__law_draw (consR (nmE 0) (consR (kE (.int 10)) (nilR))))) (nxS) (E g2 c6) = .nx (E g c) := by
    by_cases c : ((v : Nat) : Int) = 0
    · rw [decide_eq_true c] at tt
      obtain ⟨w, c8, hw8, k8, e8⟩ := pd (n := n + 39) 10 (some (.val (.list (ws.map .str)))) (some (.own (.lst (tD t)))) q6 (some (.own (.lst (ints' ord)))) (some (.own (.lst (tD g2)))) (k7.le (by omega)) (by decide) (by decide)
      have s := sto_go (f := kE (.str "zz")) (j := 5) (g := callE G__law_draw (consR (nmE 0) (consR (kE (.int 10)) (nilR)))) (r := E g2 c7) (d := eD (some "zz")) (ds := tD g2) (n := w) rfl rfl e8 rfl rfl (by rw [tD_len, hg2.len]; exact hw8)
      rw [tD_set] at s
      exact ⟨g2.set w (some "zz"), c8, hg2.set w (by decide), k8.le (by omega), (if_go tt).trans s⟩
    · rw [decide_eq_false c] at tt
      exact ⟨g2, c7, hg2, k7.le (by omega), (if_go tt).trans rfl⟩
  obtain ⟨g, c9, hg, k9, e9⟩ := last
  refine ⟨t, g, c9, ht, hg, k9, ?_⟩
  have e10 : retS (lstE (consL (nmE 2) (consL (nmE 5) (nilL)))) (E g c9) = .rt (.own (.lst [.list (tD t), .list (tD g)])) (paEnv (some (.val (.list (ws.map .str)))) (some (.val (.list (tD t)))) q6 (some (.own (.lst (ints' ord)))) (some (.val (.list (tD g)))) c9) := ret_ok (lst_eq (ds := [.list (tD t), .list (tD g)]) rfl (by simp [sizeLine]))
  exact (run_eq (r := paEnv none none none none none src) rfl rfl ((seq_ok' e1).trans ((seq_ok' e2).trans ((seq_ok' e3).trans ((seq_ok' e4).trans ((seq_ok' e5).trans ((seq_ok' e6).trans ((seq_ok' e9).trans e10)))))))).trans rfl
end Lw

/-! Sy21a.lean -/
set_option Elab.async false
set_option linter.all false
set_option maxRecDepth 100000
/-! texts of data; one turn of the law -/
namespace Lw
open PySem L2 Mi
/-- small data -/
structure Sm (D W : Nat) (d : PyData) : Prop where
  lay : PyData.canLay0 d = true
  dep : PyData.depth d ≤ D
  wt : PyData.weight d ≤ W
  i13 : PyData.intsShort 13 d = true
  shw : PyData.showable d = true
theorem Sm.all {D W : Nat} : ∀ xs : List PyData, (∀ x ∈ xs, Sm D W x) → PyData.canLayAll0 xs = true ∧ PyData.depthAll xs ≤ D ∧ PyData.weightAll xs ≤ (W + 1) * xs.length ∧ PyData.intsShortAll 13 xs = true ∧ PyData.showableAll xs = true
  | [], _ => ⟨rfl, Nat.zero_le _, Nat.zero_le _, rfl, rfl⟩
  | x :: xs, h => by
    obtain ⟨a, b, c, d, e⟩ := Sm.all xs fun y hy => h y (List.mem_cons_of_mem _ hy)
    have hx := h x List.mem_cons_self
    refine ⟨?_, ?_, ?_, ?_, ?_⟩
    · simp only [PyData.canLayAll0, hx.lay, a, Bool.and_self]
    · simp only [PyData.depthAll]; exact Nat.max_le.mpr ⟨hx.dep, b⟩
    · have := hx.wt
      simp only [PyData.weightAll, List.length_cons, Nat.mul_succ]
      omega
    · simp only [PyData.intsShortAll, hx.i13, d, Bool.and_self]
    · simp only [PyData.showableAll, hx.shw, e, Bool.and_self]
theorem Sm.list {D W : Nat} {xs : List PyData} (h : ∀ x ∈ xs, Sm D W x) : Sm (D + 1) ((W + 1) * xs.length) (.list xs) := by
  obtain ⟨a, b, c, d, e⟩ := Sm.all xs h
  exact ⟨by simp only [PyData.canLay0, a], by simp only [PyData.depth]; omega, by simp only [PyData.weight]; exact c, by simp only [PyData.intsShort, d], by simp only [PyData.showable, e]⟩
theorem Sm.tup {D W : Nat} {xs : List PyData} (h : ∀ x ∈ xs, Sm D W x) : Sm (D + 1) ((W + 1) * xs.length) (.tuple xs) := by
  obtain ⟨a, b, c, d, e⟩ := Sm.all xs h
  exact ⟨by simp only [PyData.canLay0, a], by simp only [PyData.depth]; omega, by simp only [PyData.weight]; exact c, by simp only [PyData.intsShort, d], by simp only [PyData.showable, e]⟩
theorem Sm.le {D W D' W' : Nat} {d : PyData} (h : Sm D W d) (h1 : D ≤ D') (h2 : W ≤ W') : Sm D' W' d := ⟨h.lay, Nat.le_trans h.dep h1, Nat.le_trans h.wt h2, h.i13, h.shw⟩
theorem Sm.repr {D W : Nat} {d : PyData} (h : Sm D W d) (h1 : D < 60) (h2 : W ≤ 2 ^ 20) : gRepr d = some (.val (.str d.shown)) := by
  have hd := h.dep
  have hw := h.wt
  have l : PyData.layable0 d = true := by
    unfold PyData.layable0
    rw [h.lay, decide_eq_true (by omega), decide_eq_true (by omega)]
    rfl
  have := PyProof.Rows.shown_le13 l h.i13
  unfold gRepr
  rw [h.shw, decide_eq_true (show d.shown.length ≤ sizeLine from Nat.le_trans this (by decide)), decide_eq_true (by omega)]
  rfl
theorem Sm.shaped {D W : Nat} {d : PyData} (h : Sm D W d) (h1 : D ≤ 60) : SeqAt.shaped d = true := by
  have hd := h.dep
  unfold SeqAt.shaped
  rw [h.lay, decide_eq_true (by omega)]
  rfl
theorem sm_dig {n : Nat} (hn : n < 10) : Sm 0 20 (.int (n : Int)) := by
  have : ∀ n : Fin 10, PyData.weight (.int ((n : Nat) : Int)) ≤ 20 ∧ PyData.intsShort 13 (.int ((n : Nat) : Int)) = true ∧ PyData.showable (.int ((n : Nat) : Int)) = true := by decide +kernel
  obtain ⟨a, b, c⟩ := this ⟨n, hn⟩
  exact ⟨by simp only [PyData.canLay0], by simp only [PyData.depth]; exact Nat.le_refl _, a, b, c⟩
theorem sm_str {x : Str} (h : PyData.strOk x = true) (hz : x.cps.size ≤ 20) : Sm 0 20 (.str x) :=
  ⟨by simp only [PyData.canLay0, h], by simp only [PyData.depth]; exact Nat.le_refl _, by simp only [PyData.weight]; exact hz, by simp only [PyData.intsShort], by simp only [PyData.showable]⟩
theorem sm_end {e : EndS} (h : e ∈ allE) : Sm 0 20 (eD e) := by
  cases e with
  | none => exact ⟨rfl, Nat.le_refl _, Nat.zero_le _, rfl, rfl⟩
  | some x =>
    have := name_ok _ h x rfl
    exact sm_str this.1 (by omega)
theorem sm_call {c : CallT} (h : c.ok) : Sm 1 63 (cD c) := by
  cases c with
  | close n =>
    refine (Sm.tup (D := 0) (W := 20) (xs := [.str "close", .int (n : Int)]) fun x hx => ?_).le (Nat.le_refl _) (by simp)
    rcases List.mem_cons.mp hx with rfl | hx
    · exact sm_str (by decide +kernel) (by decide +kernel)
    · rw [List.mem_singleton.mp hx]; exact sm_dig h
  | copy a b =>
    refine (Sm.tup (D := 0) (W := 20) (xs := [.str "copy", .int (a : Int), .int (b : Int)]) fun x hx => ?_).le (Nat.le_refl _) (by simp)
    rcases List.mem_cons.mp hx with rfl | hx
    · exact sm_str (by decide +kernel) (by decide +kernel)
    · rcases List.mem_cons.mp hx with rfl | hx
      · exact sm_dig h.1
      · rw [List.mem_singleton.mp hx]; exact sm_dig h.2
theorem sm_calls {L : List CallT} (h : ∀ c ∈ L, c.ok) (hl : L.length ≤ 110) : Sm 2 7040 (.list (L.map cD)) :=
  (Sm.list (xs := L.map cD) fun x hx => by obtain ⟨c, hc, rfl⟩ := List.mem_map.mp hx; exact sm_call (h c hc)).le (Nat.le_refl _) (by rw [List.length_map]; omega)
theorem sm_tab {t : List EndS} (h : TW t) : Sm 1 210 (.list (tD t)) :=
  (Sm.list (xs := tD t) fun x hx => by obtain ⟨e, he, rfl⟩ := List.mem_map.mp hx; exact sm_end (h.mem e he)).le (Nat.le_refl _) (by rw [tD_len, h.len]; omega)
theorem sm_pair {t g : List EndS} (ht : TW t) (hg : TW g) : Sm 2 1000 (.list [.list (tD t), .list (tD g)]) :=
  (Sm.list (xs := [.list (tD t), .list (tD g)]) (D := 1) (W := 210) fun x hx => by
    rcases List.mem_cons.mp hx with rfl | hx
    · exact sm_tab ht
    · rw [List.mem_singleton.mp hx]; exact sm_tab hg).le (Nat.le_refl _) (by simp)
/-! equal tables -/
theorem eqvAll_tD : ∀ t g : List EndS, PyData.eqvAll (tD t) (tD g) = decide (t = g)
  | [], [] => by simp [tD, PyData.eqvAll]
  | [], b :: g => by simp [tD, PyData.eqvAll]
  | a :: t, [] => by simp [tD, PyData.eqvAll]
  | a :: t, b :: g => by
    have ih := eqvAll_tD t g
    show PyData.eqvAll (eD a :: tD t) (eD b :: tD g) = _
    simp only [PyData.eqvAll, ih, eD_eqv]
    rw [Bool.eq_iff_iff]
    simp
theorem eq_tD {t g : List EndS} (ht : TW t) (hg : TW g) : gEq (.list (tD t)) (.list (tD g)) = some (vB (decide (t = g))) := by
  unfold gEq eqOk
  rw [(sm_tab ht).shaped (by decide), (sm_tab hg).shaped (by decide)]
  have : PyData.eqv (.list (tD t)) (.list (tD g)) = decide (t = g) := by simp only [PyData.eqv]; exact eqvAll_tD t g
  rw [this]
  simp
/-! two names at once -/
theorem par_go {i j : Nat} {g : M (List Rv)} {r r1 : En} {o : Ob} {d : PyData} (h : g r = .ok [.own o, .val d] r1) : parS i j g r = .nx (put (put r1 i (.own o)) j (.val d)) := by
  unfold parS
  rw [h]
  rfl
theorem ne_same (x : Str) : gNe (.str x) (.str x) = some (vB false) := by
  have := ne_eD (some x) (some x)
  simpa [eD] using this
theorem ne_bool (a b : Bool) : gNe (.bool a) (.bool b) = some (vB (a != b)) := by
  have e : PyData.eqv (.bool a) (.bool b) = (a == b) := by simp only [PyData.eqv]
  unfold gNe eqOk
  rw [show flatEq (.bool a) (.bool b) = true from rfl, e]
  rfl
end Lw

/-! Sy22a.lean -/
set_option Elab.async false
set_option linter.all false
set_option maxRecDepth 100000
/-! the law's source; the example at its end -/
namespace Lw
open PySem L2 Mi
theorem big_mod : (0 : Int) < 10 ^ (60 : Int).toNat + 7 ∧ (10 : Int) ^ (60 : Int).toNat + 7 < 2 ^ 200 := by decide +kernel
theorem mod_pos {i j : Int} (h : 0 < j) : gMod (.int i) (.int j) = some (vI (i % j)) := if_pos h
theorem pow_18 : gPow (.int 10) (.int 18) = some (vI (10 ^ (18 : Int).toNat)) := pow_if (by decide +kernel)
theorem pow_60 : gPow (.int 10) (.int 60) = some (vI (10 ^ (60 : Int).toNat)) := pow_if (by decide +kernel)
theorem run_open (ns : List Int) (k : Nat) : ∃ src, SrcOk (2 ^ 20) src ∧ G__law_open_source [.val (pyInts ns), .val (.int ((k : Nat) : Int))] = .ret (.own (.lst src)) [] := by
  let E : Option Sl → En := fun s => ⟨[some (.val (pyInts ns)), some (.val (.int ((k : Nat) : Int))), s], []⟩
  have s1 : setS 2 (kE (.int 0)) (E none) = .nx (E (some (.val (.int 0)))) := (set_val (d := .int 0) (r1 := E none) rfl).trans rfl
  have ln : gLen (pyInts ns) = some (vI ((ns.length : Nat) : Int)) := by
    show some (vI (((ns.map PyData.int).length : Nat) : Int)) = _
    rw [List.length_map]
  have t1 : tstB (binE gLt (nmE 1) (unE gLen (nmE 0))) (E (some (.val (.int 0)))) = .ok (decide (k < ns.length)) (E (some (.val (.int 0)))) := Pt.tst (Pv.bin (Pv.nm rfl) (Pv.un (Pv.nm rfl) ln rfl) (lt_nat _ _) rfl)
  have s2 : ∃ cell : Int, ifS (tstB (binE gLt (nmE 1) (unE gLen (nmE 0)))) (setS 2 (binE gIx (nmE 0) (nmE 1))) (nxS) (E (some (.val (.int 0)))) = .nx (E (some (.val (.int cell)))) := by
    by_cases h : k < ns.length
    · rw [decide_eq_true h] at t1
      have g : (ns.map PyData.int)[k]? = some (.int ns[k]) := by rw [List.getElem?_map, List.getElem?_eq_getElem h]; rfl
      exact ⟨ns[k], (if_go t1).trans ((set_val (bin_eq (Pv.nm rfl) (Pv.nm rfl) (ix_lst g))).trans rfl)⟩
    · rw [decide_eq_false h] at t1
      exact ⟨0, (if_go t1).trans rfl⟩
  obtain ⟨cell, s2⟩ := s2
  let r := E (some (.val (.int cell)))
  have v1 : ∃ d : Nat, binE gMax2 (kE (.int 0)) (binE gSubI (nmE 2) (binE gPow (kE (.int 10)) (kE (.int 18)))) r = .ok (.val (.int (d : Int))) r := by
    refine ⟨(cell - 10 ^ (18 : Int).toNat).toNat, bin_eq Pv.k (Pv.bin (Pv.nm rfl) (Pv.bin Pv.k Pv.k pow_18 rfl) (rfl : gSubI (.int cell) (.int (10 ^ (18 : Int).toNat)) = some (vI (cell - 10 ^ (18 : Int).toNat))) rfl) ?_⟩
    generalize cell - 10 ^ (18 : Int).toNat = j
    show some (vI (if j > 0 then j else 0)) = _
    congr 2
    split <;> omega
  have v2 : ∃ q : Nat, q < 2 ^ 200 ∧ Pv (binE gMod (nmE 2) (binE gAdd (binE gPow (kE (.int 10)) (kE (.int 60))) (kE (.int 7)))) r (.int (q : Int)) := by
    have b := big_mod
    have p : Pv (binE gAdd (binE gPow (kE (.int 10)) (kE (.int 60))) (kE (.int 7))) r (.int (10 ^ (60 : Int).toNat + 7)) := Pv.bin (Pv.bin Pv.k Pv.k pow_60 rfl) Pv.k (rfl : gAdd (.int (10 ^ (60 : Int).toNat)) (.int 7) = some (vI (10 ^ (60 : Int).toNat + 7))) rfl
    generalize (10 : Int) ^ (60 : Int).toNat + 7 = M at b p
    have h0 := Int.emod_nonneg cell (show M ≠ 0 by omega)
    have h1 := Int.emod_lt_of_pos cell b.1
    have e : cell % M = ((cell % M).toNat : Int) := (Int.toNat_of_nonneg h0).symm
    refine ⟨(cell % M).toNat, by omega, Pv.bin (Pv.nm rfl) p (z := vI (cell % M)) (mod_pos b.1) ?_⟩
    rw [← e]
    rfl
  obtain ⟨d, v1⟩ := v1
  obtain ⟨q, hq, v2⟩ := v2
  have v3 : binE gAdd (binE gMul (binE gMod (nmE 2) (binE gAdd (binE gPow (kE (.int 10)) (kE (.int 60))) (kE (.int 7)))) (kE (.int 64))) (binE gMod (nmE 1) (kE (.int 64))) r = .ok (.val (.int ((q * 64 + k % 64 : Nat) : Int))) r := bin_eq (Pv.bin v2 (Pv.k (d := .int ((64 : Nat) : Int))) (g_mul (a := 200) (b := 7) hq (by decide) (by decide) (by decide) (by decide)) rfl) (Pv.bin (Pv.nm rfl) (Pv.k (d := .int ((64 : Nat) : Int))) (g_mod (by decide)) rfl) (add_nat _ _)
  have l : lstE (consL (binE gMax2 (kE (.int 0)) (binE gSubI (nmE 2) (binE gPow (kE (.int 10)) (kE (.int 18))))) (consL (binE gAdd (binE gMul (binE gMod (nmE 2) (binE gAdd (binE gPow (kE (.int 10)) (kE (.int 60))) (kE (.int 7)))) (kE (.int 64))) (binE gMod (nmE 1) (kE (.int 64)))) (consL (kE (.int 0)) (nilL)))) r = .ok (.own (.lst [.int (d : Int), .int ((q * 64 + k % 64 : Nat) : Int), .int ((0 : Nat) : Int)])) r :=
    lst_eq (cl_go v1 rfl (cl_go v3 rfl (cl_go (x := .val (.int 0)) (r1 := r) rfl rfl (rfl : nilL r = .ok [] r)))) (by simp [sizeLine])
  refine ⟨[.int (d : Int), .int ((q * 64 + k % 64 : Nat) : Int), .int ((0 : Nat) : Int)], ⟨d, _, 0, rfl, ?_, Nat.le_of_eq (Nat.zero_add _)⟩, ?_⟩
  · have h1 : q * 64 ≤ 2 ^ 200 * 64 := Nat.mul_le_mul_right _ (Nat.le_of_lt hq)
    have h2 : k % 64 < 64 := Nat.mod_lt _ (by decide)
    have h3 : (2 : Nat) ^ 200 * 64 + 64 < 2 ^ 210 := by decide
    exact Nat.lt_trans (Nat.add_lt_add_of_le_of_lt h1 h2) h3
  · exact (run_eq (r := E none) rfl rfl ((seq_ok' s1).trans ((seq_ok' s2).trans (ret_ok l)))).trans rfl
/-! data compared -/
mutual
def dq : PyData → PyData → Bool
  | .none, .none => true
  | .bool a, .bool b => decide (a = b)
  | .int a, .int b => decide (a = b)
  | .str a, .str b => decide (a = b)
  | .list a, .list b => dqs a b
  | .tuple a, .tuple b => dqs a b
  | _, _ => false
def dqs : List PyData → List PyData → Bool
  | [], [] => true
  | a :: as, b :: bs => dq a b && dqs as bs
  | _, _ => false
end
mutual
theorem dq_eq : ∀ a b : PyData, dq a b = true → a = b
  | .none, .none, _ => rfl
  | .bool a, .bool b, h => by simp only [dq, decide_eq_true_eq] at h; rw [h]
  | .int a, .int b, h => by simp only [dq, decide_eq_true_eq] at h; rw [h]
  | .str a, .str b, h => by simp only [dq, decide_eq_true_eq] at h; rw [h]
  | .list a, .list b, h => by simp only [dq] at h; rw [dqs_eq a b h]
  | .tuple a, .tuple b, h => by simp only [dq] at h; rw [dqs_eq a b h]
  | .none, .bool _, h | .none, .int _, h | .none, .str _, h | .none, .list _, h | .none, .tuple _, h | .none, .dict _, h => by simp [dq] at h
  | .bool _, .none, h | .bool _, .int _, h | .bool _, .str _, h | .bool _, .list _, h | .bool _, .tuple _, h | .bool _, .dict _, h => by simp [dq] at h
  | .int _, .none, h | .int _, .bool _, h | .int _, .str _, h | .int _, .list _, h | .int _, .tuple _, h | .int _, .dict _, h => by simp [dq] at h
  | .str _, .none, h | .str _, .bool _, h | .str _, .int _, h | .str _, .list _, h | .str _, .tuple _, h | .str _, .dict _, h => by simp [dq] at h
  | .list _, .none, h | .list _, .bool _, h | .list _, .int _, h | .list _, .str _, h | .list _, .tuple _, h | .list _, .dict _, h => by simp [dq] at h
  | .tuple _, .none, h | .tuple _, .bool _, h | .tuple _, .int _, h | .tuple _, .str _, h | .tuple _, .list _, h | .tuple _, .dict _, h => by simp [dq] at h
  | .dict _, .none, h | .dict _, .bool _, h | .dict _, .int _, h | .dict _, .str _, h | .dict _, .list _, h | .dict _, .tuple _, h | .dict _, .dict _, h => by simp [dq] at h
theorem dqs_eq : ∀ a b : List PyData, dqs a b = true → a = b
  | [], [], _ => rfl
  | a :: as, b :: bs, h => by
    simp only [dqs, Bool.and_eq_true] at h
    rw [dq_eq a b h.1, dqs_eq as bs h.2]
  | [], b :: bs, h => by simp [dqs] at h
  | a :: as, [], h => by simp [dqs] at h
end
end Lw

/-! Ka1.lean -/
set_option Elab.async false
set_option linter.all false
set_option maxRecDepth 100000
/-! the least list of calls -/
namespace Lw
open PySem L2 Mi
theorem forN_find {β : Type} {nth : En → Nat → Option (Option PyData)} {tg : PyData → En → Option En} {bd : Stm} (xs : List β) (D : β → PyData) (p : β → Bool) (v : β → Rv) (I : En → Prop) (hn : ∀ i r, I r → nth r i = some (xs[i]?.map D))
    (step : ∀ (r : En) (x : β), I r → x ∈ xs → ∃ r1, tg (D x) r = some r1 ∧ if p x = true then ∃ r2, bd r1 = .rt (v x) r2 ∧ I r2 else ∃ r2, bd r1 = .nx r2 ∧ I r2) {c : β} :
    ∀ (m i : Nat) (r : En), I r → xs.length ≤ i + m → (xs.drop i).find? p = some c → ∃ r', forN nth tg bd m i r = .rt (v c) r' ∧ I r' := by
  intro m
  induction m with
  | zero =>
    intro i r h h1 h2
    rw [List.drop_eq_nil_of_le (by omega)] at h2
    cases h2
  | succ m ih =>
    intro i r h h1 h2
    unfold forN
    rw [hn i r h]
    cases e : xs[i]? with
    | none =>
      have := List.getElem?_eq_none_iff.mp e
      rw [List.drop_eq_nil_of_le (by omega)] at h2
      cases h2
    | some x =>
      obtain ⟨hi, hx⟩ := List.getElem?_eq_some_iff.mp e
      have ed : xs.drop i = x :: xs.drop (i + 1) := by rw [← hx]; exact (List.drop_eq_getElem_cons hi)
      rw [ed, List.find?_cons] at h2
      obtain ⟨r1, e1, h3⟩ := step r x h (List.mem_of_getElem? e)
      simp only [Option.map_some, e1]
      cases ep : p x with
      | true =>
        rw [ep] at h2 h3
        cases h2
        obtain ⟨r2, e2, h4⟩ := h3
        exact ⟨r2, by rw [e2], h4⟩
      | false =>
        rw [ep] at h2 h3
        obtain ⟨r2, e2, h4⟩ := h3
        simp only [e2]
        exact ih (i + 1) r2 h4 (by omega) h2
def lcEnv (b : Bool) (t g : List EndS) (n : Nat) (s3 : Option Sl) : En := ⟨[some (cell b (tD t)), some (.val (.list (tD g))), some (.val (.int (n : Int))), s3], oss b (tD t)⟩
theorem run_least (b : Bool) {t g : List EndS} (ht : Tab t) (hg : Tab g) {n : Nat} {c : CallT} (hc : (callsL t).find? (wellB t g 11 n) = some c) : G_least_call (agB b (tD t) :: [.list (tD g), .int (n : Int)].map .val) = .ret (.val (cD c)) (oss b (tD t)) := by
  have e : entry 4 (agB b (tD t) :: [.list (tD g), .int (n : Int)].map .val) = lcEnv b t g n none := entry_cell (as := [.list (tD g), .int (n : Int)])
  have c1 : callE G_possible_calls (consR (nmE 0) (nilR)) (lcEnv b t g n none) = .ok (.own (.lst ((callsL t).map cD))) (lcEnv b t g n none) := callB (es := []) pa_cell rfl fun b => run_possibleB b ht.len
  have s1 : seqI (callE G_possible_calls (consR (nmE 0) (nilR))) (lcEnv b t g n none) = .ok ⟨lstNth (.val (.list ((callsL t).map cD))), ((callsL t).map cD).length⟩ (lcEnv b t g n none) := seq_run (y := .val (.list ((callsL t).map cD))) c1 rfl rfl
  let I : En → Prop := fun r => ∃ s3, r = lcEnv b t g n s3
  obtain ⟨r', e1, s3, hr⟩ := forN_find (nth := lstNth (.val (.list ((callsL t).map cD)))) (tg := fun d r => some (put r 3 (.val d))) (bd := ifS (tstT (callE G_begins_well (consR (nmE 0) (consR (nmE 1) (consR (nmE 3) (consR (nmE 2) (nilR))))))) (retS (nmE 3)) (nxS)) (callsL t) cD (wellB t g 11 n) (fun c => .val (cD c)) I (fun i r _ => by
      show some (((callsL t).map cD)[i]?) = _
      rw [List.getElem?_map]) (fun r x h hx => by
      obtain ⟨s, rfl⟩ := h
      let r1 := lcEnv b t g n (some (.val (cD x)))
      have tt : Pt (tstT (callE G_begins_well (consR (nmE 0) (consR (nmE 1) (consR (nmE 3) (consR (nmE 2) (nilR))))))) r1 (wellB t g 11 n x) := Pt.tstT (Pv.val (callB (r := r1) (g := consR (nmE 1) (consR (nmE 3) (consR (nmE 2) nilR))) (es := [.list (tD g), cD x, .int (n : Int)]) pa_cell rfl fun b => run_wellB b ht hg 11 (by decide) (calls_ok hx) (done_links (behind t x) g) n))
      refine ⟨r1, rfl, ?_⟩
      have ei := if_ok (f := retS (nmE 3)) (g := nxS) tt
      cases hw : wellB t g 11 n x with
      | true =>
        rw [hw] at ei
        rw [if_pos rfl]
        exact ⟨r1, ei.trans (ret_ok (show nmE 3 r1 = .ok (.val (cD x)) r1 from rfl)), _, rfl⟩
      | false =>
        rw [hw] at ei
        rw [if_neg (by decide)]
        exact ⟨r1, ei.trans rfl, _, rfl⟩) ((callsL t).map cD).length 0 (lcEnv b t g n none) ⟨_, rfl⟩ (by simp) hc
  subst hr
  have body : ∀ rest : Stm, seqS (forS (seqI (callE G_possible_calls (consR (nmE 0) (nilR)))) (fun d r => some (put r 3 (.val d))) (ifS (tstT (callE G_begins_well (consR (nmE 0) (consR (nmE 1) (consR (nmE 3) (consR (nmE 2) (nilR))))))) (retS (nmE 3)) (nxS))) rest (lcEnv b t g n none) = .rt (.val (cD c)) (lcEnv b t g n s3) := fun rest => by
    have e2 : forS (seqI (callE G_possible_calls (consR (nmE 0) (nilR)))) (fun d r => some (put r 3 (.val d))) (ifS (tstT (callE G_begins_well (consR (nmE 0) (consR (nmE 1) (consR (nmE 3) (consR (nmE 2) (nilR))))))) (retS (nmE 3)) (nxS)) (lcEnv b t g n none) = .rt (.val (cD c)) (lcEnv b t g n s3) := (ofM_ok s1).trans e1
    unfold seqS
    rw [e2]
  exact (run_eq (r := lcEnv b t g n none) (by simp) e (body _)).trans rfl
/-! playing -/
def playL : List EndS → List CallT → List EndS
  | t, [] => t
  | t, c :: cs => playL (behind t c) cs
def PossL : List EndS → List CallT → Prop
  | _, [] => True
  | t, c :: cs => c ∈ callsL t ∧ PossL (behind t c) cs
theorem play_snoc : ∀ (t : List EndS) (cs : List CallT) (c : CallT), playL t (cs ++ [c]) = behind (playL t cs) c
  | _, [], _ => rfl
  | t, d :: cs, c => play_snoc (behind t d) cs c
theorem poss_snoc : ∀ (t : List EndS) (cs : List CallT) (c : CallT), PossL t cs → c ∈ callsL (playL t cs) → PossL t (cs ++ [c])
  | _, [], _, _, h => ⟨h, trivial⟩
  | t, d :: cs, c, h, h2 => ⟨h.1, poss_snoc (behind t d) cs c h.2 h2⟩
theorem poss_at : ∀ (t : List EndS) (cs : List CallT) (i : Nat) (c : CallT), PossL t cs → cs[i]? = some c → c ∈ callsL (playL t (cs.take i)) ∧ playL t (cs.take (i + 1)) = behind (playL t (cs.take i)) c
  | _, [], _, _, _, h => by simp at h
  | t, d :: cs, 0, c, h, e => by
    simp at e
    subst e
    exact ⟨h.1, rfl⟩
  | t, d :: cs, i + 1, c, h, e => poss_at (behind t d) cs i c h.2 (by simpa using e)
theorem TW.play {t : List EndS} (h : TW t) : ∀ cs : List CallT, TW (playL t cs) := fun cs => by
  induction cs generalizing t with
  | nil => exact h
  | cons c cs ih => exact ih (h.behind c)
theorem poss_ok : ∀ (t : List EndS) (cs : List CallT), PossL t cs → ∀ c ∈ cs, c.ok
  | _, [], _, _, h => nomatch h
  | t, d :: cs, h, c, hc => by
    rcases List.mem_cons.mp hc with rfl | hc
    · exact calls_ok h.1
    · exact poss_ok (behind t d) cs h.2 c hc
theorem zero_eq {t g : List EndS} (ht : t.length = 10) (hg : g.length = 10) (h : lawN t g = some 0) : t = g := by
  refine Classical.byContradiction fun ne => ?_
  obtain ⟨c, _, k, _, l⟩ := due_some ht hg h ne
  omega
/-- a call of the program's choice -/
theorem find_some {t g : List EndS} (ht : t.length = 10) (hg : g.length = 10) {n : Nat} (hn : lawN t g = some (n + 1)) : ∃ c, (callsL t).find? (wellB t g 11 (n + 1)) = some c ∧ c ∈ callsL t ∧ lawN (behind t c) g = some n := by
  have ne : t ≠ g := fun e => by
    subst e
    rw [num_zero ht] at hn
    cases hn
  obtain ⟨c, hc, k, hk, l⟩ := due_some ht hg hn ne
  have h1 := due_one ht hg hn hc hk
  have hw : wellB t g 11 (n + 1) c = true := by
    unfold wellB
    rw [number_same ((behind_len' t c).trans ht) hg, hk]
    have : k = n := by omega
    subst this
    simp
  cases e : (callsL t).find? (wellB t g 11 (n + 1)) with
  | none => exact absurd hw (by simpa using List.find?_eq_none.mp e c hc)
  | some d =>
    have hd := List.find?_some e
    have hm := List.mem_of_find?_eq_some e
    refine ⟨d, rfl, hm, ?_⟩
    unfold wellB at hd
    rw [number_same ((behind_len' t d).trans ht) hg] at hd
    simpa using hd
/-! calls_between -/
def cbEnv (t g e : List EndS) (b : Bool) (many : Nat) (acc : List CallT) (s5 s6 : Option Sl) : En :=
  ⟨[some (.val (.list (tD t))), some (.val (.list (tD g))), some (.val (.int (many : Int))), some (.own (.lst (acc.map cD))), some (if b then .own (.lst (tD e)) else .val (.list (tD e))), s5, s6], []⟩
theorem rngD_run {f g h : M Rv} {n : Nat} {r : En} (h1 : f r = .ok (.val (.int (n : Int))) r) (h2 : g r = .ok (.val (.int 0)) r) (h3 : h r = .ok (.val (.int (-1))) r) (hn : n < 1000) : rngD f g h r = .ok ⟨rngDn (n : Int) n, n⟩ r := by
  refine (bnd_ok h1).trans ((bnd_ok h2).trans ((bnd_ok h3).trans ?_))
  show (if (-1 : Int) = -1 ∧ (-(2 ^ 62) ≤ (n : Int) ∧ (n : Int) < 2 ^ 62) ∧ -(2 ^ 62) ≤ (0 : Int) ∧ (0 : Int) < 2 ^ 62 then (Res.ok (⟨rngDn (n : Int) ((n : Int) - 0).toNat, ((n : Int) - 0).toNat⟩ : Src) r : Res Src) else .no) = _
  rw [if_pos ⟨rfl, ⟨by omega, by omega⟩, by decide, by decide⟩]
  have e : ((n : Int) - 0).toNat = n := by omega
  rw [e]
theorem neg1 (r : En) : unE gNeg (kE (.int 1)) r = .ok (.val (.int (-1))) r := un_eq Pv.k (show gNeg (.int 1) = some (.val (.int (-1))) from rfl)
theorem run_between {t g : List EndS} (ht : TW t) (hg : TW g) {many : Nat} (hn : lawN t g = some many) (hm : many < 100) : ∃ L : List CallT, L.length = many ∧ PossL t L ∧ playL t L = g ∧ G_calls_between [.val (.list (tD t)), .val (.list (tD g))] = .ret (.own (.lst (L.map cD))) [] := by
  have tt := ht.tab
  have tg := hg.tab
  have hn' : countN t g 11 = some many := by rw [number_same ht.len hg.len]; exact hn
  let r0 : En := ⟨[some (.val (.list (tD t))), some (.val (.list (tD g))), none, none, none, none, none], []⟩
  let r1 : En := ⟨[some (.val (.list (tD t))), some (.val (.list (tD g))), some (.val (.int (many : Int))), none, none, none, none], []⟩
  let r2 : En := ⟨[some (.val (.list (tD t))), some (.val (.list (tD g))), some (.val (.int (many : Int))), some (.own (.lst [])), none, none, none], []⟩
  have s1 : setS 2 (callE G_needed_calls (consR (nmE 0) (consR (nmE 1) (nilR)))) r0 = .nx r1 := (set_val (callV (g := consR (nmE 0) (consR (nmE 1) nilR)) (r := r0) (es := [.list (tD t), .list (tD g)]) rfl (run_needed tt tg 11 (by decide) (done_links t g) hn'))).trans rfl
  have s2 : setS 3 (lstE (nilL)) r1 = .nx r2 := (set_own (lst_eq (ds := []) rfl (Nat.zero_le _))).trans rfl
  have s3 : setS 4 (nmE 0) r2 = .nx (cbEnv t g t false many [] none none) := (set_val (d := .list (tD t)) (r1 := r2) rfl).trans rfl
  let I : Nat → En → Prop := fun i r => ∃ acc e b s5 s6, r = cbEnv t g e b many acc s5 s6 ∧ acc.length = i ∧ e = playL t acc ∧ PossL t acc ∧ lawN e g = some (many - i)
  obtain ⟨r', e4, acc, e, b, s5, s6, hr, h1, h2, h3, h4⟩ := forN_inv (nth := rngDn (many : Int) many) (tg := fun d r => some (put r 5 (.val d))) (bd := seqS (setS 6 (callE G_least_call (consR (nmE 4) (consR (nmE 1) (consR (nmE 5) (nilR)))))) <| seqS (dropS (mutE 3 uApp (consL (nmE 6) (nilL)))) <| setS 4 (callE G_table_behind (consR (nmE 4) (consR (nmE 6) (consR (tupE (nilL)) (nilR)))))) (List.range many) (fun i => .int ((many : Int) + ((i : Nat) : Int) * (-1))) I (fun i r _ => by
      show (if i < many then some (some (PyData.int ((many : Int) + ((i : Nat) : Int) * (-1)))) else some none) = _
      by_cases h : i < many
      · rw [if_pos h]; simp [h]
      · rw [if_neg h]; simp [h]) (fun i r x h hx => by
      obtain ⟨hi, ex⟩ := List.getElem?_eq_some_iff.mp hx
      have hi : i < many := by simpa using hi
      have ex : x = i := by simpa using ex.symm
      subst ex
      obtain ⟨acc, e, b, s5, s6, rfl, a1, a2, a3, a4⟩ := h
      have he : TW e := a2 ▸ ht.play acc
      have el : (many : Int) + ((x : Nat) : Int) * (-1) = ((many - x - 1 + 1 : Nat) : Int) := by omega
      have a4' : lawN e g = some (many - x - 1 + 1) := by rw [a4]; congr 1; omega
      obtain ⟨c, f1, f2, f3⟩ := find_some he.len hg.len a4'
      let q : Option Sl := some (.val (.int ((many - x - 1 + 1 : Nat) : Int)))
      let R1 := cbEnv t g e b many acc q s6
      have p4 : ∀ (acc : List CallT) (s6 : Option Sl), Pa (nmE 4) (cbEnv t g e b many acc q s6) (tD e) := fun acc s6 => by cases b; exact pa_val rfl; exact pa_own rfl
      have c1 : callE G_least_call (consR (nmE 4) (consR (nmE 1) (consR (nmE 5) (nilR)))) R1 = .ok (.val (cD c)) R1 := callB (r := R1) (g := consR (nmE 1) (consR (nmE 5) nilR)) (es := [.list (tD g), .int ((many - x - 1 + 1 : Nat) : Int)]) (p4 acc s6) rfl fun b => run_least b he.tab tg f1
      have z1 : setS 6 (callE G_least_call (consR (nmE 4) (consR (nmE 1) (consR (nmE 5) (nilR))))) R1 = .nx (cbEnv t g e b many acc q (some (.val (cD c)))) := (set_val c1).trans rfl
      have hz : (acc.map cD).length < sizeLine := by
        rw [List.length_map]
        exact Nat.lt_of_lt_of_le (show acc.length < 1000 by omega) (by decide)
      have z2 : dropS (mutE 3 uApp (consL (nmE 6) (nilL))) (cbEnv t g e b many acc q (some (.val (cD c)))) = .nx (cbEnv t g e b many (acc ++ [c]) q (some (.val (cD c)))) := by
        have m := mut_go (i := 3) (up := uApp) (g := consL (nmE 6) (nilL)) (r := cbEnv t g e b many acc q (some (.val (cD c)))) (r1 := cbEnv t g e b many acc q (some (.val (cD c)))) (ds := acc.map cD) (as := [cD c]) (ds' := (acc ++ [c]).map cD) (e := .none) rfl (lst1 (nm_frz rfl)) rfl (by
          show (if (acc.map cD).length < sizeLine then some (acc.map cD ++ [cD c], PyData.none) else none) = _
          rw [if_pos hz, List.map_append]
          rfl)
        exact (ofM_ok m).trans rfl
      have c3 : callE G_table_behind (consR (nmE 4) (consR (nmE 6) (consR (tupE (nilL)) (nilR)))) (cbEnv t g e b many (acc ++ [c]) q (some (.val (cD c)))) = .ok (.own (.lst (tD (behind e c)))) (cbEnv t g e b many (acc ++ [c]) q (some (.val (cD c)))) := callB (g := consR (nmE 6) (consR (tupE nilL) nilR)) (es := [cD c, .tuple []]) (p4 _ _) rfl fun b => run_behindB b he.len (calls_ok f2)
      have z3 : setS 4 (callE G_table_behind (consR (nmE 4) (consR (nmE 6) (consR (tupE (nilL)) (nilR))))) (cbEnv t g e b many (acc ++ [c]) q (some (.val (cD c)))) = .nx (cbEnv t g (behind e c) true many (acc ++ [c]) q (some (.val (cD c)))) := (set_own c3).trans rfl
      refine ⟨R1, _, ?_, (seq_ok' z1).trans ((seq_ok' z2).trans z3), acc ++ [c], behind e c, true, q, _, rfl, by simp [a1], ?_, ?_, ?_⟩
      · rw [el]; rfl
      · rw [play_snoc, a2]
      · exact poss_snoc t acc c a3 (a2 ▸ f2)
      · rw [f3]; rfl) many 0 (cbEnv t g t false many [] none none) ⟨[], t, false, none, none, rfl, rfl, rfl, trivial, by rw [hn]; rfl⟩ (Nat.zero_le _) (by simp)
  rw [List.length_range] at h1 h4
  subst hr
  rw [Nat.sub_self] at h4
  have he : TW e := h2 ▸ ht.play acc
  have eg := zero_eq he.len hg.len h4
  refine ⟨acc, h1, h3, h2.symm.trans eg, ?_⟩
  have q0 : rngD (nmE 2) (kE (.int 0)) (unE gNeg (kE (.int 1))) (cbEnv t g t false many [] none none) = .ok ⟨rngDn (many : Int) many, many⟩ (cbEnv t g t false many [] none none) := by
    refine rngD_run (n := many) ?_ ?_ (neg1 _) (by omega)
    · rfl
    · rfl
  have e5 : forS (rngD (nmE 2) (kE (.int 0)) (unE gNeg (kE (.int 1)))) (fun d r => some (put r 5 (.val d))) (seqS (setS 6 (callE G_least_call (consR (nmE 4) (consR (nmE 1) (consR (nmE 5) (nilR)))))) <| seqS (dropS (mutE 3 uApp (consL (nmE 6) (nilL)))) <| setS 4 (callE G_table_behind (consR (nmE 4) (consR (nmE 6) (consR (tupE (nilL)) (nilR)))))) (cbEnv t g t false many [] none none) = .nx (cbEnv t g e b many acc s5 s6) := by
    refine (ofM_ok q0).trans ?_
    exact e4
  exact (run_eq (r := r0) rfl rfl ((seq_ok' s1).trans ((seq_ok' s2).trans ((seq_ok' s3).trans ((seq_ok' e5).trans (ret_ok (show nmE 3 (cbEnv t g e b many acc s5 s6) = .ok (.at (.slot 3)) _ from rfl))))))).trans rfl
/-! no calls -/
theorem callX {G : List Ag → FR} {g : M (List Rv)} {r : En} {es : List PyData} {e : Exc} (h2 : g r = .ok (es.map .val) r) (hG : G (es.map .val) = .ex e []) : callE G g r = .ex e r := by
  refine (bnd_ok h2).trans ?_
  unfold callF
  rw [agsOf_vals es]
  simp only [noDup, if_true, hG]
  rfl
theorem ofM_ex {β : Type} {f : M β} {g : β → En → Out} {r r1 : En} {e : Exc} (h : f r = .ex e r1) : ofM f g r = .ex e r1 := by
  unfold ofM
  rw [h]
theorem seq_ex {f g : Stm} {r r1 : En} {e : Exc} (h : f r = .ex e r1) : seqS f g r = .ex e r1 := by
  unfold seqS
  rw [h]
theorem run_neededX {t g : List EndS} (ht : Tab t) (hg : Tab g) (hn : lawN t g = none) : G_needed_calls [.val (.list (tD t)), .val (.list (tD g))] = .ex ⟨"NoCalls", []⟩ [] := by
  let r0 : En := ⟨[some (.val (.list (tD t))), some (.val (.list (tD g))), none], []⟩
  let r1 : En := ⟨[some (.val (.list (tD t))), some (.val (.list (tD g))), some (.val .none)], []⟩
  have s1 : setS 2 (callE G_fewest_calls (consR (nmE 0) (consR (nmE 1) (nilR)))) r0 = .nx r1 := (set_val (callV (g := consR (nmE 0) (consR (nmE 1) nilR)) (r := r0) (es := [.list (tD t), .list (tD g)]) rfl (by have := run_fewest ht hg 11 (by decide) (done_links t g); rw [number_same ht.len hg.len, hn] at this; exact this))).trans rfl
  have t1 : Pt (tstB (binE gIsN (nmE 2) (kE .none))) r1 true := Pt.tst (Pv.bin (Pv.nm rfl) Pv.k (rfl : gIsN .none .none = some (vB true)) rfl)
  have s2 : ifS (tstB (binE gIsN (nmE 2) (kE .none))) (raiS "NoCalls") nxS r1 = .ex ⟨"NoCalls", []⟩ r1 := (if_ok t1).trans rfl
  exact (run_eq (r := r0) rfl rfl ((seq_ok' s1).trans (seq_ex s2))).trans rfl
theorem run_betweenX {t g : List EndS} (ht : Tab t) (hg : Tab g) (hn : lawN t g = none) : G_calls_between [.val (.list (tD t)), .val (.list (tD g))] = .ex ⟨"NoCalls", []⟩ [] := by
  let r0 : En := ⟨[some (.val (.list (tD t))), some (.val (.list (tD g))), none, none, none, none, none], []⟩
  have s1 : setS 2 (callE G_needed_calls (consR (nmE 0) (consR (nmE 1) (nilR)))) r0 = .ex ⟨"NoCalls", []⟩ r0 := ofM_ex (callX (es := [.list (tD t), .list (tD g)]) rfl (run_neededX ht hg hn))
  exact (run_eq (r := r0) rfl rfl (seq_ex s1)).trans rfl
end Lw

/-! Ma6.lean -/
set_option Elab.async false
set_option linter.all false
/-! the number is the distance by calls -/
namespace Rg
variable {α : Type}
theorem none_stays {T U G : Nat → Option α} {b : Nat} (v : Mv T U b) (h : num T G = none) : num U G = none := by
  have miss_none : Miss U G → num U G = none := fun m => by unfold num; rw [if_pos m]
  by_cases m : Miss T G
  · obtain ⟨x, hx, gx, q⟩ := m
    refine miss_none ⟨x, hx, gx, fun j hj e => ?_⟩
    by_cases jb : j = b
    · subst jb
      rcases v.src with u | ⟨a, ha, u⟩
      · exact gx (e.symm.trans u)
      · exact q a ha (u.symm.trans e)
    · exact q j hj ((v.off j jb).symm.trans e)
  · have nf : ¬ Free T G := fun f => by rw [num_free m f] at h; cases h
    have ns : ¬ Spare T G := fun s => by unfold num at h; rw [if_neg m, if_neg nf, if_pos s] at h; cases h
    by_cases same : U b = T b
    · rw [mv_same v same]; exact h
    · have on : ∀ x, Ch T G x → On T G x := fun x hx => Classical.byContradiction fun q => nf (.inr ⟨x, hx, q⟩)
      refine miss_none ?_
      by_cases cb : T b = G b
      · refine ⟨b, v.lt, fun e => ns ⟨b, v.lt, cb, .inl (cb.trans e)⟩, fun j hj e => ?_⟩
        by_cases jb : j = b
        · subst jb; exact same (e.trans cb.symm)
        · have e' : T j = T b := ((v.off j jb).symm.trans e).trans cb.symm
          by_cases cj : T j = G j
          · exact ns ⟨b, v.lt, cb, .inr ⟨j, hj, jb, cj, e'⟩⟩
          · exact jb (on_hold (on j ⟨hj, cj⟩) v.lt e'.symm).symm
      · obtain ⟨p, hp, _⟩ := on_pred (on b ⟨v.lt, cb⟩)
        refine ⟨p, hp.cx.1, hp.nn, fun j hj e => ?_⟩
        by_cases jb : j = b
        · subst jb; exact same (e.trans hp.eq.symm)
        · exact jb (hp.hold j hj ((v.off j jb).symm.trans e))
end Rg
namespace Lw
open Mi Rg
theorem law_none {t g : List EndS} (ht : t.length = 10) (hg : g.length = 10) (h : lawN t g = none) {c : CallT} (hc : c ∈ callsL t) : lawN (behind t c) g = none := by
  obtain ⟨b, v⟩ := calls_src ht hc
  rw [lawN_num ((behind_len' t c).trans ht) hg]
  rw [lawN_num ht hg] at h
  exact none_stays v h
theorem law_call {t g : List EndS} (ht : t.length = 10) (hg : g.length = 10) {c : CallT} (hc : c ∈ callsL t) {k : Nat} (hk : lawN (behind t c) g = some k) : ∃ n, lawN t g = some n ∧ n ≤ k + 1 := by
  cases e : lawN t g with
  | none => rw [law_none ht hg e hc] at hk; cases hk
  | some n => exact ⟨n, rfl, due_one ht hg e hc hk⟩
/-- calls that lead there: the number is at most as great -/
theorem law_path : ∀ (L : List CallT) (t g : List EndS) (k : Nat), t.length = 10 → g.length = 10 → PossL t L → lawN (playL t L) g = some k → ∃ n, lawN t g = some n ∧ n ≤ L.length + k
  | [], t, g, k, _, _, _, h => ⟨k, h, by simp⟩
  | c :: L, t, g, k, ht, hg, hp, h => by
    obtain ⟨m, hm, l⟩ := law_path L (behind t c) g k ((behind_len' t c).trans ht) hg hp.2 h
    obtain ⟨n, hn, l2⟩ := law_call ht hg hp.1 hm
    exact ⟨n, hn, by simp only [List.length_cons]; omega⟩
theorem law_there : ∀ (n : Nat) (t g : List EndS), t.length = 10 → g.length = 10 → lawN t g = some n → ∃ L, L.length = n ∧ PossL t L ∧ playL t L = g
  | 0, t, g, ht, hg, h => ⟨[], rfl, trivial, zero_eq ht hg h⟩
  | n + 1, t, g, ht, hg, h => by
    obtain ⟨c, _, hc, h2⟩ := find_some ht hg h
    obtain ⟨L, l, p, e⟩ := law_there n (behind t c) g ((behind_len' t c).trans ht) hg h2
    exact ⟨c :: L, by simp [l], ⟨hc, p⟩, e⟩
/-- by a table between -/
theorem law_tri {t m g : List EndS} (ht : t.length = 10) (hm : m.length = 10) (hg : g.length = 10) {a b : Nat} (h1 : lawN t m = some a) (h2 : lawN m g = some b) : ∃ n, lawN t g = some n ∧ n ≤ a + b := by
  obtain ⟨L, l, p, e⟩ := law_there a t m ht hm h1
  obtain ⟨n, hn, q⟩ := law_path L t g b ht hg p (by rw [e]; exact h2)
  exact ⟨n, hn, by omega⟩
/-! numbers exchanged, ends renamed -/
structure Ren (t t' : List EndS) (π : Nat → Nat) (ρ : EndS → EndS) : Prop where
  eq : ∀ i, i < 10 → at' t' (π i) = ρ (at' t i)
def mvC (π : Nat → Nat) : CallT → CallT
  | .close n => .close (π n)
  | .copy n m => .copy (π n) (π m)
structure RenOk (π κ : Nat → Nat) (ρ : EndS → EndS) : Prop where
  lt : ∀ i, i < 10 → π i < 10
  kl : ∀ i, i < 10 → κ i < 10
  kp : ∀ i, i < 10 → κ (π i) = i
  pk : ∀ i, i < 10 → π (κ i) = i
  non : ρ none = none
theorem mem_taken {t : List EndS} {n : Nat} : n ∈ takenL t ↔ n < 10 ∧ at' t n ≠ none := by unfold takenL; simp
theorem mem_close {t : List EndS} {n : Nat} : CallT.close n ∈ callsL t ↔ n < 10 ∧ at' t n ≠ none := by
  unfold callsL
  simp [mem_taken]
theorem mem_copy {t : List EndS} {n m : Nat} : CallT.copy n m ∈ callsL t ↔ (n < 10 ∧ at' t n ≠ none) ∧ m < 10 := by
  unfold callsL
  simp [mem_taken]
end Lw

/-! Ma7.lean -/
set_option Elab.async false
set_option linter.all false
/-! numbers exchanged, ends renamed: the number is the same -/
namespace Lw
open Mi Rg
variable {π κ : Nat → Nat} {ρ ς : EndS → EndS} {t t' g g' : List EndS}
theorem RenOk.inj (O : RenOk π κ ρ) {i j : Nat} (hi : i < 10) (hj : j < 10) (e : π i = π j) : i = j := by
  rw [← O.kp i hi, ← O.kp j hj, e]
theorem Ren.behind (O : RenOk π κ ρ) (h : Ren t t' π ρ) (ht : t.length = 10) (ht' : t'.length = 10) {c : CallT} (hc : c ∈ callsL t) : Ren (Lw.behind t c) (Lw.behind t' (mvC π c)) π ρ := by
  have key : ∀ (b : Nat) (e e' : EndS), b < 10 → e' = ρ e → Ren (t.set b e) (t'.set (π b) e') π ρ := fun b e e' hb q => ⟨fun i hi => by
    rw [set_at ht hb, set_at ht' (O.lt b hb)]
    by_cases ib : i = b
    · subst ib; rw [upd_b, upd_b]; exact q
    · rw [upd_o _ _ ib, upd_o _ _ fun z => ib (O.inj hi hb z)]; exact h.eq i hi⟩
  cases c with
  | close n => exact key n none none (mem_close.mp hc).1 O.non.symm
  | copy a b => exact key b _ _ (mem_copy.mp hc).2 (h.eq a (mem_copy.mp hc).1.1)
theorem Ren.call (O : RenOk π κ ρ) (nn : ∀ e, ρ e = none → e = none) (h : Ren t t' π ρ) {c : CallT} (hc : c ∈ callsL t) : mvC π c ∈ callsL t' := by
  have key : ∀ n, n < 10 ∧ at' t n ≠ none → π n < 10 ∧ at' t' (π n) ≠ none := fun n q => ⟨O.lt n q.1, by rw [h.eq n q.1]; exact fun z => q.2 (nn _ z)⟩
  cases c with
  | close n => exact mem_close.mpr (key n (mem_close.mp hc))
  | copy a b => exact mem_copy.mpr ⟨key a (mem_copy.mp hc).1, O.lt b (mem_copy.mp hc).2⟩
theorem Ren.path (O : RenOk π κ ρ) (nn : ∀ e, ρ e = none → e = none) : ∀ (L : List CallT) (t t' : List EndS), t.length = 10 → t'.length = 10 → Ren t t' π ρ → PossL t L → PossL t' (L.map (mvC π)) ∧ Ren (playL t L) (playL t' (L.map (mvC π))) π ρ
  | [], _, _, _, _, h, _ => ⟨trivial, h⟩
  | c :: L, t, t', ht, ht', h, p => by
    obtain ⟨a, b⟩ := Ren.path O nn L _ _ ((behind_len' t c).trans ht) ((behind_len' t' (mvC π c)).trans ht') (h.behind O ht ht' p.1) p.2
    exact ⟨⟨h.call O nn p.1, a⟩, b⟩
theorem play_len : ∀ (L : List CallT) (t : List EndS), (playL t L).length = t.length
  | [], _ => rfl
  | c :: L, t => (play_len L (Lw.behind t c)).trans (behind_len' t c)
theorem at_ext {a b : List EndS} (ha : a.length = 10) (hb : b.length = 10) (h : ∀ i, i < 10 → at' a i = at' b i) : a = b :=
  List.ext_getElem (by omega) fun i h1 h2 => by
    have := h i (by omega)
    unfold at' at this
    rw [List.getElem?_eq_getElem h1, List.getElem?_eq_getElem h2] at this
    exact this
theorem Ren.uniq (O : RenOk π κ ρ) {u : List EndS} (hu : u.length = 10) (hg' : g'.length = 10) (h1 : Ren g u π ρ) (h2 : Ren g g' π ρ) : u = g' :=
  at_ext hu hg' fun i hi => by
    have e1 := h1.eq (κ i) (O.kl i hi)
    have e2 := h2.eq (κ i) (O.kl i hi)
    rw [O.pk i hi] at e1 e2
    exact e1.trans e2.symm
theorem ren_le (O : RenOk π κ ρ) (nn : ∀ e, ρ e = none → e = none) (ht : t.length = 10) (ht' : t'.length = 10) (hg : g.length = 10) (hg' : g'.length = 10) (h1 : Ren t t' π ρ) (h2 : Ren g g' π ρ) {n : Nat} (hn : lawN t g = some n) : ∃ k, lawN t' g' = some k ∧ k ≤ n := by
  obtain ⟨L, l, p, e⟩ := law_there n t g ht hg hn
  obtain ⟨p', r'⟩ := Ren.path O nn L t t' ht ht' h1 p
  rw [e] at r'
  have := Ren.uniq O ((play_len _ t').trans ht') hg' r' h2
  obtain ⟨k, hk, l2⟩ := law_path _ t' g' 0 ht' hg' p' (by rw [this]; exact num_zero hg')
  exact ⟨k, hk, by simp [l] at l2; omega⟩
/-- both ways -/
structure Both (π κ : Nat → Nat) (ρ ς : EndS → EndS) : Prop where
  f : RenOk π κ ρ
  b : RenOk κ π ς
  nf : ∀ e, ρ e = none → e = none
  nb : ∀ e, ς e = none → e = none
theorem ren_eq (B : Both π κ ρ ς) (ht : t.length = 10) (ht' : t'.length = 10) (hg : g.length = 10) (hg' : g'.length = 10) (h1 : Ren t t' π ρ) (h2 : Ren g g' π ρ) (h3 : Ren t' t κ ς) (h4 : Ren g' g κ ς) : lawN t' g' = lawN t g := by
  cases e : lawN t g with
  | some n =>
    obtain ⟨k, hk, l⟩ := ren_le B.f B.nf ht ht' hg hg' h1 h2 e
    obtain ⟨m, hm, l2⟩ := ren_le B.b B.nb ht' ht hg' hg h3 h4 hk
    rw [e] at hm
    cases hm
    rw [hk]; congr 1; omega
  | none =>
    cases e' : lawN t' g' with
    | none => rfl
    | some k =>
      obtain ⟨m, hm, _⟩ := ren_le B.b B.nb ht' ht hg' hg h3 h4 e'
      rw [e] at hm; cases hm
/-! the next calls -/
def nextB (t g : List EndS) (c : CallT) : Prop := c ∈ callsL t ∧ ∃ n, lawN t g = some (n + 1) ∧ lawN (Lw.behind t c) g = some n
theorem ren_next (B : Both π κ ρ ς) (ht : t.length = 10) (ht' : t'.length = 10) (hg : g.length = 10) (hg' : g'.length = 10) (h1 : Ren t t' π ρ) (h2 : Ren g g' π ρ) (h3 : Ren t' t κ ς) (h4 : Ren g' g κ ς) {c : CallT} (h : nextB t g c) : nextB t' g' (mvC π c) := by
  obtain ⟨hc, n, ha, hb⟩ := h
  refine ⟨h1.call B.f B.nf hc, n, (ren_eq B ht ht' hg hg' h1 h2 h3 h4).trans ha, ?_⟩
  have q1 := h1.behind B.f ht ht' hc
  have back : mvC κ (mvC π c) = c := by
    cases c with
    | close n => show CallT.close _ = _; rw [B.f.kp n (mem_close.mp hc).1]
    | copy a b => show CallT.copy _ _ = _; rw [B.f.kp a (mem_copy.mp hc).1.1, B.f.kp b (mem_copy.mp hc).2]
  have q3 := h3.behind B.b ht' ht (h1.call B.f B.nf hc)
  rw [back] at q3
  exact (ren_eq B ((behind_len' t c).trans ht) ((behind_len' t' _).trans ht') hg hg' q1 h2 q3 h4).trans hb
end Lw

/-! Ma8.lean -/
set_option Elab.async false
set_option linter.all false
/-! numbers exchanged, ends renamed: the rings are the same -/
namespace Lw
open Mi Rg
variable {π κ : Nat → Nat} {ρ ς : EndS → EndS} {t t' g g' : List EndS}
theorem ren_back (O : RenOk π κ ρ) (h : Ren t t' π ρ) (h' : Ren t' t κ ς) {i : Nat} (hi : i < 10) : ς (ρ (at' t i)) = at' t i := by
  have := h'.eq (π i) (O.lt i hi)
  rw [O.kp i hi, h.eq i hi] at this
  exact this.symm
structure Rn (π κ : Nat → Nat) (ρ ς : EndS → EndS) (t t' g g' : List EndS) : Prop where
  B : Both π κ ρ ς
  ht : t.length = 10
  ht' : t'.length = 10
  hg : g.length = 10
  hg' : g'.length = 10
  h1 : Ren t t' π ρ
  h2 : Ren g g' π ρ
  h3 : Ren t' t κ ς
  h4 : Ren g' g κ ς
theorem Rn.symm (R : Rn π κ ρ ς t t' g g') : Rn κ π ς ρ t' t g' g := ⟨⟨R.B.b, R.B.f, R.B.nb, R.B.nf⟩, R.ht', R.ht, R.hg', R.hg, R.h3, R.h4, R.h1, R.h2⟩
theorem Rn.tg (R : Rn π κ ρ ς t t' g g') {i j : Nat} (hi : i < 10) (hj : j < 10) (e : ρ (at' t i) = ρ (at' g j)) : at' t i = at' g j := by
  rw [← ren_back R.B.f R.h1 R.h3 hi, ← ren_back R.B.f R.h2 R.h4 hj, e]
theorem Rn.gg (R : Rn π κ ρ ς t t' g g') {i j : Nat} (hi : i < 10) (hj : j < 10) (e : ρ (at' g i) = ρ (at' g j)) : at' g i = at' g j := by
  rw [← ren_back R.B.f R.h2 R.h4 hi, ← ren_back R.B.f R.h2 R.h4 hj, e]
theorem Rn.ch (R : Rn π κ ρ ς t t' g g') {x : Nat} (h : Ch (at' t) (at' g) x) : Ch (at' t') (at' g') (π x) :=
  ⟨R.B.f.lt x h.1, by rw [R.h1.eq x h.1, R.h2.eq x h.1]; exact fun e => h.2 (R.tg h.1 h.1 e)⟩
theorem Rn.lk (R : Rn π κ ρ ς t t' g g') {x y : Nat} (h : Lk (at' t) (at' g) x y) : Lk (at' t') (at' g') (π x) (π y) where
  cx := R.ch h.cx
  cy := R.ch h.cy
  nn := by rw [R.h2.eq x h.cx.1]; exact fun e => h.nn (R.B.nf _ e)
  eq := by rw [R.h1.eq y h.cy.1, R.h2.eq x h.cx.1, h.eq]
  hold := fun m hm e => by
    have hk := R.B.f.kl m hm
    rw [← R.B.f.pk m hm, R.h1.eq _ hk, R.h2.eq x h.cx.1] at e
    rw [← h.hold _ hk (R.tg hk h.cx.1 e), R.B.f.pk m hm]
  want := fun m hm e => by
    have hk := R.B.f.kl m hm.1
    have c := R.symm.ch hm
    rw [← R.B.f.pk m hm.1, R.h2.eq _ hk, R.h2.eq x h.cx.1] at e
    rw [← h.want _ c (R.gg hk h.cx.1 e), R.B.f.pk m hm.1]
theorem Rn.path (R : Rn π κ ρ ς t t' g g') {x y : Nat} (h : Path (Lk (at' t) (at' g)) x y) : Path (Lk (at' t') (at' g')) (π x) (π y) := by
  induction h with
  | one h => exact .one (R.lk h)
  | more _ h ih => exact .more ih (R.lk h)
theorem path_lt {x y : Nat} (h : Path (Lk (at' t) (at' g)) x y) : x < 10 ∧ y < 10 := by
  induction h with
  | one h => exact ⟨h.cx.1, h.cy.1⟩
  | more _ h ih => exact ⟨ih.1, h.cy.1⟩
/-- a ring as the list of its numbers, ascending -/
def can (r : List Nat) : List Nat := (List.range 10).filter fun x => decide (x ∈ r)
theorem can_eq {r s : List Nat} (h : ∀ x, x < 10 → (x ∈ r ↔ x ∈ s)) : can r = can s :=
  List.filter_congr fun x hx => by have := h x (List.mem_range.mp hx); simp [this]
theorem can_mem {r s : List Nat} (h : can r = can s) {x : Nat} (hx : x < 10) : x ∈ r ↔ x ∈ s := by
  have : x ∈ can r ↔ x ∈ can s := by rw [h]
  simpa [can, hx] using this
theorem map_nodup {β γ : Type} {l : List β} {f : β → γ} (nd : l.Nodup) (h : ∀ a b, a ∈ l → b ∈ l → f a = f b → a = b) : (l.map f).Nodup :=
  List.pairwise_map.mpr (List.Pairwise.imp_of_mem (fun {a b} ha hb (q : a ≠ b) e => q (h a b ha hb e)) nd)
theorem mem_ring {n x : Nat} (hn : n < 10) (h : Least (Lk (at' t) (at' g)) n) : x ∈ (lw t g n).1 ↔ Path (Lk (at' t) (at' g)) n x := by
  rcases lw_spec t g hn with ⟨_, _, _, m⟩ | ⟨_, o⟩
  · exact m x
  · exact absurd h.1 o
theorem mem_keep {n : Nat} : n ∈ (List.range 10).filter (keepW t g) ↔ n < 10 ∧ Least (Lk (at' t) (at' g)) n := by
  rw [List.mem_filter, List.mem_range]
  exact ⟨fun h => ⟨h.1, (keep_iff t g h.1).mp h.2⟩, fun h => ⟨h.1, (keep_iff t g h.1).mpr h.2⟩⟩
theorem rings_map {γ : Type} (F : List Nat → γ) : (lawRings t g 10).map F = ((List.range 10).filter (keepW t g)).map fun n => F (lw t g n).1 := by
  unfold lawRings
  rw [List.map_map]
  rfl
theorem mem_map_ren (O : RenOk π κ ρ) {r : List Nat} (hr : ∀ y ∈ r, y < 10) {x : Nat} (hx : x < 10) : x ∈ r.map π ↔ κ x ∈ r := by
  constructor
  · intro h
    obtain ⟨y, hy, rfl⟩ := List.mem_map.mp h
    rw [O.kp y (hr y hy)]; exact hy
  · intro h
    exact List.mem_map.mpr ⟨κ x, h, O.pk x hx⟩
theorem rings_ren (R : Rn π κ ρ ς t t' g g') : ((lawRings t g 10).map fun r => can (r.map π)).Perm ((lawRings t' g' 10).map can) := by
  have f := lk_fn (at' t) (at' g)
  have f' := lk_fn (at' t') (at' g')
  have O := R.B.f
  rw [rings_map, rings_map]
  have inring : ∀ n, n < 10 → Least (Lk (at' t) (at' g)) n → ∀ y ∈ (lw t g n).1, y < 10 := fun n hn l y hy => (path_lt ((mem_ring hn l).mp hy)).2
  have m1 : ∀ n x, n < 10 → Least (Lk (at' t) (at' g)) n → x < 10 → (x ∈ (lw t g n).1.map π ↔ Path (Lk (at' t) (at' g)) n (κ x)) := fun n x hn l hx => by
    rw [mem_map_ren O (inring n hn l) hx, mem_ring hn l]
  have m2 : ∀ n x, n < 10 → x < 10 → (Path (Lk (at' t) (at' g)) n (κ x) ↔ Path (Lk (at' t') (at' g')) (π n) x) := fun n x hn hx => by
    constructor
    · intro p
      have := R.path p
      rwa [O.pk x hx] at this
    · intro p
      have := R.symm.path p
      rwa [O.kp n hn] at this
  have nd : ∀ (t g : List EndS), ((List.range 10).filter (keepW t g)).Nodup := fun t g => List.Pairwise.filter _ List.nodup_range
  refine (List.perm_ext_iff_of_nodup (map_nodup (nd t g) fun a b ha hb e => ?_) (map_nodup (nd t' g') fun a b ha hb e => ?_)).mpr fun s => ?_
  · obtain ⟨ha, la⟩ := mem_keep.mp ha
    obtain ⟨hb, lb⟩ := mem_keep.mp hb
    have q := (can_mem e (O.lt a ha)).mp ((m1 a (π a) ha la (O.lt a ha)).mpr (by rw [O.kp a ha]; exact la.1))
    have q := (m1 b (π a) hb lb (O.lt a ha)).mp q
    rw [O.kp a ha] at q
    exact least_one f la lb la.1 q
  · obtain ⟨ha, la⟩ := mem_keep.mp ha
    obtain ⟨hb, lb⟩ := mem_keep.mp hb
    have q := (can_mem e ha).mp ((mem_ring ha la).mpr la.1)
    exact least_one f' la lb la.1 ((mem_ring hb lb).mp q)
  · rw [List.mem_map, List.mem_map]
    constructor
    · rintro ⟨n, hn, rfl⟩
      obtain ⟨hn, l⟩ := mem_keep.mp hn
      obtain ⟨k, lk, pk⟩ := ex_least f' (R.path l.1)
      have hk := (path_lt pk).2
      refine ⟨k, mem_keep.mpr ⟨hk, lk⟩, can_eq fun x hx => ?_⟩
      rw [mem_ring hk lk, m1 n x hn l hx, m2 n x hn hx]
      exact ⟨fun p => pk.trans p, fun p => (back f' (R.path l.1) pk).trans p⟩
    · rintro ⟨k, hk, rfl⟩
      obtain ⟨hk, lk⟩ := mem_keep.mp hk
      obtain ⟨n, l, p⟩ := ex_least f (R.symm.path lk.1)
      have hn := (path_lt p).2
      refine ⟨n, mem_keep.mpr ⟨hn, l⟩, can_eq fun x hx => ?_⟩
      rw [mem_ring hk lk, m1 n x hn l hx]
      have p' := R.path p
      rw [O.pk k hk] at p'
      rw [m2 n x hn hx]
      exact ⟨fun q => p'.trans q, fun q => (back f' lk.1 p').trans q⟩
end Lw

/-! Kb0.lean -/
set_option Elab.async false
set_option linter.all false
set_option maxRecDepth 100000
/-! calls judged and played -/
namespace Lw
open PySem L2 Mi
theorem ten {n : Nat} (h : n < 10) : n = 0 ∨ n = 1 ∨ n = 2 ∨ n = 3 ∨ n = 4 ∨ n = 5 ∨ n = 6 ∨ n = 7 ∨ n = 8 ∨ n = 9 := by omega
theorem run_is_call {c : CallT} (h : c.ok) : G_is_call [.val (cD c)] = .ret (.val (.bool true)) [] := by
  cases c with
  | close n =>
    rcases ten h with rfl | rfl | rfl | rfl | rfl | rfl | rfl | rfl | rfl | rfl <;> rfl
  | copy n m =>
    rcases ten h.1 with rfl | rfl | rfl | rfl | rfl | rfl | rfl | rfl | rfl | rfl <;>
    rcases ten h.2 with rfl | rfl | rfl | rfl | rfl | rfl | rfl | rfl | rfl | rfl <;> rfl
end Lw

/-! Kb1.lean -/
set_option Elab.async false
set_option linter.all false
set_option maxRecDepth 100000
/-! calls judged and played -/
namespace Lw
open PySem L2 Mi
theorem run_is_call_list {ds : List PyData} (h : ds.length ≤ 100) : G_is_call_list [.val (.list ds)] = .ret (.val (.bool true)) [] := by
  let r0 : En := ⟨[some (.val (.list ds))], []⟩
  have e1 : callE G_is_list (consR (nmE 0) (nilR)) r0 = .ok (.val (.bool true)) r0 := callV (g := consR (nmE 0) nilR) (r := r0) (es := [.list ds]) rfl (run_is_list ds)
  have e2 : binE gLe (unE gLen (nmE 0)) (kE (.int 100)) r0 = .ok (.val (.bool true)) r0 := bin_eq (Pv.un (f := nmE 0) (a := .list ds) (Pv.nm rfl) rfl rfl) Pv.k (by
    show some (vB (decide ((ds.length : Int) ≤ 100))) = _
    rw [show decide ((ds.length : Int) ≤ 100) = true from decide_eq_true (by omega)])
  exact (run_eq (r := r0) rfl rfl (ret_ok (and_eq (a := true) (b := true) (Pv.val e1) fun _ => e2))).trans rfl
def srcC : CallT → Nat
  | .close n => n
  | .copy n _ => n
theorem ix1 (c : CallT) : gIx (cD c) (.int 1) = some (.val (.int (srcC c : Int))) := by cases c <;> exact tup1
def wcEnv (t : List EndS) (L : List CallT) (e : List EndS) (b : Bool) (s3 s4 : Option Sl) : En :=
  ⟨[some (.val (.list (tD t))), some (.val (.list (L.map cD))), some (if b then .own (.lst (tD e)) else .val (.list (tD e))), s3, s4], []⟩
theorem wc_pa {t e : List EndS} {L : List CallT} {b : Bool} {s3 s4 : Option Sl} : Pa (nmE 2) (wcEnv t L e b s3 s4) (tD e) := by cases b; exact pa_val rfl; exact pa_own rfl
abbrev wcT : M Bool := orB (notB (tstT (callE G_is_call (consR (nmE 4) (nilR))))) (tstB (binE gIsN (binE gIx (nmE 2) (binE gIx (nmE 4) (kE (.int 1)))) (kE .none)))
abbrev wcB : Stm := seqS (ifS wcT (retS (nmE 3)) (nxS)) <| setS 2 (callE G_table_behind (consR (nmE 2) (consR (nmE 4) (consR (tupE (nilL)) (nilR)))))
theorem srcC_lt {c : CallT} (h : c.ok) : srcC c < 10 := by cases c with
  | close n => exact h
  | copy n m => exact h.1
theorem wc_tst {t e : List EndS} {L : List CallT} {b : Bool} {s3 : Option Sl} {c : CallT} (he : e.length = 10) (hc : c.ok) : Pt wcT (wcEnv t L e b s3 (some (.val (cD c)))) (decide (at' e (srcC c) = none)) := by
  have h1 : callE G_is_call (consR (nmE 4) (nilR)) (wcEnv t L e b s3 (some (.val (cD c)))) = .ok (.val (.bool true)) (wcEnv t L e b s3 (some (.val (cD c)))) := callV (es := [cD c]) rfl (run_is_call hc)
  have h2 := Pt.or (f := notB (tstT (callE G_is_call (consR (nmE 4) (nilR))))) (Pt.not (Pt.tstT (Pv.val h1))) fun _ => Pt.tst (Pv.bin (Pv.bin (f := nmE 2) (a := .list (tD e)) wc_pa.pv (Pv.bin (f := nmE 4) (a := cD c) (Pv.nm rfl) Pv.k (ix1 c) rfl) (ix_at he (srcC_lt hc)) rfl) Pv.k (isN_eD _) rfl)
  simpa using h2
theorem end_some {e : List EndS} {c : CallT} (h : c ∈ callsL e) : at' e (srcC c) ≠ none := by
  cases c with
  | close n => exact (mem_close.mp h).2
  | copy n m => exact (mem_copy.mp h).1.2
theorem end_calls {e : List EndS} {c : CallT} (hc : c.ok) (h : at' e (srcC c) ≠ none) : c ∈ callsL e := by
  cases c with
  | close n => exact mem_close.mpr ⟨hc, h⟩
  | copy n m => exact mem_copy.mpr ⟨⟨hc.1, h⟩, hc.2⟩
theorem run_wrong {t : List EndS} (ht : t.length = 10) {L : List CallT} (hp : PossL t L) : G_wrong_call [.val (.list (tD t)), .val (.list (L.map cD))] = .ret (.val .none) [] := by
  let r0 : En := ⟨[some (.val (.list (tD t))), some (.val (.list (L.map cD))), none, none, none], []⟩
  have s1 : setS 2 (nmE 0) r0 = .nx (wcEnv t L t false none none) := (set_val (d := .list (tD t)) (r1 := r0) rfl).trans rfl
  let I : Nat → En → Prop := fun i r => ∃ b s3 s4, r = wcEnv t L (playL t (L.take i)) b s3 s4
  obtain ⟨r', e4, b, s3, s4, hr⟩ := forN_inv (nth := enuNth (.val (.list (L.map cD)))) (tg := tgTup [3, 4]) (bd := wcB) ((List.range L.length).zip L) (fun p => .tuple [.int ((p.1 : Nat) : Int), cD p.2]) I (fun i r _ => by
      show some ((L.map cD)[i]?.map fun d => PyData.tuple [.int ((i : Nat) : Int), d]) = _
      rw [List.getElem?_map]
      cases e : L[i]? with
      | none =>
        have := List.getElem?_eq_none_iff.mp e
        rw [List.getElem?_eq_none_iff.mpr (by rw [List.length_zip]; omega)]
        rfl
      | some c =>
        have hi := (List.getElem?_eq_some_iff.mp e).1
        have q : ((List.range L.length).zip L)[i]? = some (i, c) := List.getElem?_zip_eq_some.mpr ⟨by simp [hi], e⟩
        rw [q]
        rfl) (fun i r x h hx => by
      obtain ⟨h1, h2⟩ := List.getElem?_zip_eq_some.mp hx
      obtain ⟨b, s3, s4, rfl⟩ := h
      obtain ⟨hc, hb⟩ := poss_at t L i x.2 hp h2
      have hk := calls_ok hc
      have hl : (playL t (L.take i)).length = 10 := (play_len _ t).trans ht
      let q := some (Sl.val (.int ((x.1 : Nat) : Int)))
      have t1 := wc_tst (t := t) (L := L) (b := b) (s3 := q) hl hk
      rw [show decide (at' (playL t (L.take i)) (srcC x.2) = none) = false from decide_eq_false (end_some hc)] at t1
      have z1 : ifS wcT (retS (nmE 3)) nxS (wcEnv t L (playL t (L.take i)) b q (some (.val (cD x.2)))) = .nx (wcEnv t L (playL t (L.take i)) b q (some (.val (cD x.2)))) := (if_ok t1).trans rfl
      have c3 : callE G_table_behind (consR (nmE 2) (consR (nmE 4) (consR (tupE (nilL)) (nilR)))) (wcEnv t L (playL t (L.take i)) b q (some (.val (cD x.2)))) = .ok (.own (.lst (tD (behind (playL t (L.take i)) x.2)))) (wcEnv t L (playL t (L.take i)) b q (some (.val (cD x.2)))) :=
        callB (es := [cD x.2, .tuple []]) wc_pa rfl fun b => run_behindB b hl hk
      refine ⟨_, wcEnv t L (behind (playL t (L.take i)) x.2) true q (some (.val (cD x.2))), rfl, (seq_ok' z1).trans ((set_own c3).trans rfl), true, q, some (.val (cD x.2)), ?_⟩
      rw [hb]) L.length 0 (wcEnv t L t false none none) ⟨false, none, none, rfl⟩ (Nat.zero_le _) (by simp)
  subst hr
  have q0 : enuI (nmE 1) (wcEnv t L t false none none) = .ok ⟨enuNth (.val (.list (L.map cD))), (L.map cD).length⟩ (wcEnv t L t false none none) := rfl
  have e5 : forS (enuI (nmE 1)) (tgTup [3, 4]) wcB (wcEnv t L t false none none) = .nx _ := (ofM_ok q0).trans (by rw [List.length_map]; exact e4)
  exact (run_eq (r := r0) rfl rfl ((seq_ok' s1).trans ((seq_ok' e5).trans (ret_ok rfl)))).trans rfl
theorem run_after {t : List EndS} (ht : t.length = 10) {L : List CallT} (hp : PossL t L) : G_table_after [.val (.list (tD t)), .val (.list (L.map cD))] = .ret (.own (.lst (tD (playL t L)))) [] := by
  let T : List EndS → Option Sl → En := fun e s3 => ⟨[some (.val (.list (tD t))), some (.val (.list (L.map cD))), some (.own (.lst (tD e))), s3], []⟩
  let r0 : En := ⟨[some (.val (.list (tD t))), some (.val (.list (L.map cD))), none, none], []⟩
  have s1 : setS 2 (unE gList (nmE 0)) r0 = .nx (T t none) := (set_own (un_eq (f := nmE 0) (a := .list (tD t)) (Pv.nm rfl) rfl)).trans rfl
  let I : Nat → En → Prop := fun i r => ∃ s3, r = T (playL t (L.take i)) s3
  obtain ⟨r', e4, s3, hr⟩ := for_seq (e := nmE 1) (tg := fun d r => some (put r 3 (.val d))) (bd := setS 2 (callE G_table_behind (consR (nmE 2) (consR (nmE 3) (consR (tupE (nilL)) (nilR)))))) L cD (x := .val (.list (L.map cD))) (y := .val (.list (L.map cD))) (r := T t none) rfl rfl rfl I ⟨none, rfl⟩ (fun i r h => rfl) (fun i r x h h2 => by
      obtain ⟨s3, rfl⟩ := h
      obtain ⟨hc, hb⟩ := poss_at t L i x hp h2
      have hl : (playL t (L.take i)).length = 10 := (play_len _ t).trans ht
      have c3 : callE G_table_behind (consR (nmE 2) (consR (nmE 3) (consR (tupE (nilL)) (nilR)))) (T (playL t (L.take i)) (some (.val (cD x)))) = .ok (.own (.lst (tD (behind (playL t (L.take i)) x)))) (T (playL t (L.take i)) (some (.val (cD x)))) :=
        callB (es := [cD x, .tuple []]) (pa_own rfl) rfl fun b => run_behindB b hl (calls_ok hc)
      refine ⟨T (playL t (L.take i)) (some (.val (cD x))), T (behind (playL t (L.take i)) x) (some (.val (cD x))), rfl, (set_own c3).trans rfl, some (.val (cD x)), ?_⟩
      rw [hb])
  rw [List.take_length] at hr
  subst hr
  exact (run_eq (r := r0) rfl rfl ((seq_ok' s1).trans ((seq_ok' e4).trans (ret_ok (show nmE 2 (T (playL t L) s3) = .ok (.at (.slot 2)) _ from rfl))))).trans rfl
end Lw

/-! Kb2.lean -/
set_option Elab.async false
set_option linter.all false
set_option maxRecDepth 100000
/-! the functions about calls -/
namespace Lw
open PySem L2 Mi
theorem run_next {t g : List EndS} (ht : Tab t) (hg : Tab g) (m : Nat) (hm : m < 1000) (d : Done (linksL t g (changedL t g)) m) (d2 : ∀ c ∈ callsL t, Done (linksL (behind t c) g (changedL (behind t c) g)) m) {n : Nat} (hn : countN t g m = some n) :
    G_next_calls [.val (.list (tD t)), .val (.list (tD g))] = .ret (.own (.lst (((callsL t).filter (wellB t g m n)).map cD))) [] := by
  let r0 : En := ⟨[some (.val (.list (tD t))), some (.val (.list (tD g))), none, none], []⟩
  let r1 : En := ⟨[some (.val (.list (tD t))), some (.val (.list (tD g))), some (.val (.int (n : Int))), none], []⟩
  have s1 : setS 2 (callE G_needed_calls (consR (nmE 0) (consR (nmE 1) (nilR)))) r0 = .nx r1 := (set_val (callV (g := consR (nmE 0) (consR (nmE 1) nilR)) (r := r0) (es := [.list (tD t), .list (tD g)]) rfl (run_needed ht hg m hm d hn))).trans rfl
  have s2 : callE G_possible_calls (consR (nmE 0) (nilR)) r1 = .ok (.own (.lst ((callsL t).map cD))) r1 := callV (g := consR (nmE 0) nilR) (r := r1) (es := [.list (tD t)]) rfl (run_possible ht.len)
  have s3 : lcE (seqI (callE G_possible_calls (consR (nmE 0) (nilR)))) (fun d r => some (put r 3 (.val d))) [3] (tstT (callE G_begins_well (consR (nmE 0) (consR (nmE 1) (consR (nmE 3) (consR (nmE 2) (nilR))))))) (nmE 3) r1 = .ok (.own (.lst (((callsL t).filter (wellB t g m n)).map cD))) r1 := by
    refine lcE_seq (T := [3]) (callsL t) cD (x := .own (.lst ((callsL t).map cD))) (y := .val (.list ((callsL t).map cD))) (r1 := r1) (r2 := r1) (W := r1) s2 rfl rfl rfl (Nat.le_trans (calls_len t) (by decide)) rfl rfl rfl rfl (wellB t g m n) cD fun c hc => ?_
    let q : En := put r1 3 (.val (cD c))
    refine ⟨q, rfl, q, ?_, rfl, fun _ => ⟨q, nm_frz rfl, rfl⟩⟩
    exact Pt.tstT (Pv.val (callV (g := consR (nmE 0) (consR (nmE 1) (consR (nmE 3) (consR (nmE 2) nilR)))) (r := q) (es := [.list (tD t), .list (tD g), cD c, .int (n : Int)]) rfl (run_well ht hg m hm (calls_ok hc) (d2 c hc) n)))
  exact (run_eq (r := r0) rfl rfl ((seq_ok' s1).trans (ret_ok s3))).trans rfl

theorem seq_rt {f g : Stm} {r r1 : En} {x : Rv} (h : f r = .rt x r1) : seqS f g r = .rt x r1 := by unfold seqS; rw [h]
theorem run_wrong1 {t : List EndS} (ht : t.length = 10) {c : CallT} (hc : c.ok) (h : at' t (srcC c) = none) : G_wrong_call [.val (.list (tD t)), .val (.list [cD c])] = .ret (.val (.int 0)) [] := by
  let r0 : En := ⟨[some (.val (.list (tD t))), some (.val (.list [cD c])), none, none, none], []⟩
  have s1 : setS 2 (nmE 0) r0 = .nx (wcEnv t [c] t false none none) := (set_val (d := .list (tD t)) (r1 := r0) rfl).trans rfl
  have t1 := wc_tst (t := t) (L := [c]) (b := false) (s3 := some (.val (.int ((0 : Nat) : Int)))) ht hc
  rw [show decide (at' t (srcC c) = none) = true from decide_eq_true h] at t1
  have z1 : wcB (wcEnv t [c] t false (some (.val (.int ((0 : Nat) : Int)))) (some (.val (cD c)))) = .rt (.val (.int 0)) (wcEnv t [c] t false (some (.val (.int ((0 : Nat) : Int)))) (some (.val (cD c)))) := by
    have e : ifS wcT (retS (nmE 3)) nxS (wcEnv t [c] t false (some (.val (.int ((0 : Nat) : Int)))) (some (.val (cD c)))) = .rt (.val (.int 0)) (wcEnv t [c] t false (some (.val (.int ((0 : Nat) : Int)))) (some (.val (cD c)))) := (if_ok t1).trans rfl
    unfold wcB seqS
    rw [e]
  have q0 : enuI (nmE 1) (wcEnv t [c] t false none none) = .ok ⟨enuNth (.val (.list [cD c])), 1⟩ (wcEnv t [c] t false none none) := rfl
  have e4 : forN (enuNth (.val (.list [cD c]))) (tgTup [3, 4]) wcB 1 0 (wcEnv t [c] t false none none) = .rt (.val (.int 0)) (wcEnv t [c] t false (some (.val (.int ((0 : Nat) : Int)))) (some (.val (cD c)))) := by
    have e5 : enuNth (.val (.list [cD c])) (wcEnv t [c] t false none none) 0 = some (some (.tuple [.int ((0 : Nat) : Int), cD c])) := rfl
    have e6 : tgTup [3, 4] (.tuple [.int ((0 : Nat) : Int), cD c]) (wcEnv t [c] t false none none) = some (wcEnv t [c] t false (some (.val (.int ((0 : Nat) : Int)))) (some (.val (cD c)))) := rfl
    unfold forN
    simp only [e5, e6, z1]
  have e7 : forS (enuI (nmE 1)) (tgTup [3, 4]) wcB (wcEnv t [c] t false none none) = .rt (.val (.int 0)) _ := (ofM_ok q0).trans e4
  exact (run_eq (r := r0) rfl rfl ((seq_ok' s1).trans (seq_rt e7))).trans rfl
theorem run_is_calls {t : List EndS} (ht : Tab t) {c : CallT} (hc : c.ok) : G_is_calls [.val (.list (tD t)), .val (.list [cD c])] = .ret (.val (.bool (decide (c ∈ callsL t)))) [] := by
  let r0 : En := ⟨[some (.val (.list (tD t))), some (.val (.list [cD c]))], []⟩
  have s1 : dropS (callE G_check_table (consR (nmE 0) (nilR))) r0 = .nx r0 := ofM_ok (callV (g := consR (nmE 0) nilR) (r := r0) (es := [.list (tD t)]) rfl (run_check ht))
  have e1 : callE G_is_call_list (consR (nmE 1) (nilR)) r0 = .ok (.val (.bool true)) r0 := callV (g := consR (nmE 1) nilR) (r := r0) (es := [.list [cD c]]) rfl (run_is_call_list (by simp))
  have e2 : binE gIsN (callE G_wrong_call (consR (nmE 0) (consR (nmE 1) (nilR)))) (kE .none) r0 = .ok (.val (.bool (decide (c ∈ callsL t)))) r0 := by
    by_cases h : c ∈ callsL t
    · have q : callE G_wrong_call (consR (nmE 0) (consR (nmE 1) (nilR))) r0 = .ok (.val .none) r0 := callV (g := consR (nmE 0) (consR (nmE 1) nilR)) (r := r0) (es := [.list (tD t), .list [cD c]]) rfl (run_wrong (L := [c]) ht.len ⟨h, trivial⟩)
      rw [decide_eq_true h]
      exact bin_eq (Pv.val q) Pv.k rfl
    · have h' : at' t (srcC c) = none := Classical.byContradiction fun q => h (end_calls hc q)
      have q : callE G_wrong_call (consR (nmE 0) (consR (nmE 1) (nilR))) r0 = .ok (.val (.int 0)) r0 := callV (g := consR (nmE 0) (consR (nmE 1) nilR)) (r := r0) (es := [.list (tD t), .list [cD c]]) rfl (run_wrong1 ht.len hc h')
      rw [decide_eq_false h]
      exact bin_eq (Pv.val q) Pv.k rfl
  have e3 := and_eq (a := true) (b := decide (c ∈ callsL t)) (Pv.val e1) fun _ => e2
  rw [Bool.true_and] at e3
  exact (run_eq (r := r0) rfl rfl ((seq_ok' s1).trans (ret_ok e3))).trans rfl
theorem run_after_calls {t : List EndS} (ht : Tab t) {L : List CallT} (hp : PossL t L) (hl : L.length ≤ 100) : G_after_calls [.val (.list (tD t)), .val (.list (L.map cD))] = .ret (.own (.lst (tD (playL t L)))) [] := by
  let r0 : En := ⟨[some (.val (.list (tD t))), some (.val (.list (L.map cD))), none], []⟩
  let r1 : En := ⟨[some (.val (.list (tD t))), some (.val (.list (L.map cD))), some (.val .none)], []⟩
  have s1 : dropS (callE G_check_table (consR (nmE 0) (nilR))) r0 = .nx r0 := ofM_ok (callV (g := consR (nmE 0) nilR) (r := r0) (es := [.list (tD t)]) rfl (run_check ht))
  have e1 : callE G_is_call_list (consR (nmE 1) (nilR)) r0 = .ok (.val (.bool true)) r0 := callV (g := consR (nmE 1) nilR) (r := r0) (es := [.list (L.map cD)]) rfl (run_is_call_list (by simpa using hl))
  have t1 := Pt.not (a := true) (Pt.tstT (Pv.val e1))
  have s2 : ∀ f : Stm, ifS (notB (tstT (callE G_is_call_list (consR (nmE 1) (nilR))))) f nxS r0 = .nx r0 := fun f => (if_ok t1).trans rfl
  have s3 : setS 2 (callE G_wrong_call (consR (nmE 0) (consR (nmE 1) (nilR)))) r0 = .nx r1 := (set_val (callV (g := consR (nmE 0) (consR (nmE 1) nilR)) (r := r0) (es := [.list (tD t), .list (L.map cD)]) rfl (run_wrong ht.len hp))).trans rfl
  have t2 : Pt (tstB (binE gIsntN (nmE 2) (kE .none))) r1 false := Pt.tst (Pv.bin (Pv.nm rfl) Pv.k (rfl : gIsntN .none .none = some (vB false)) rfl)
  have s4 : ∀ f : Stm, ifS (tstB (binE gIsntN (nmE 2) (kE .none))) f nxS r1 = .nx r1 := fun f => (if_ok t2).trans rfl
  have s5 : callE G_table_after (consR (nmE 0) (consR (nmE 1) (nilR))) r1 = .ok (.own (.lst (tD (playL t L)))) r1 := callV (g := consR (nmE 0) (consR (nmE 1) nilR)) (r := r1) (es := [.list (tD t), .list (L.map cD)]) rfl (run_after ht.len hp)
  exact (run_eq (r := r0) rfl rfl ((seq_ok' s1).trans ((seq_ok' (s2 _)).trans ((seq_ok' s3).trans ((seq_ok' (s4 _)).trans (ret_ok s5)))))).trans rfl
theorem run_least_calls {t g : List EndS} (ht : TW t) (hg : TW g) {L : List CallT} (hp : PossL t L) (he : playL t L = g) (hn : lawN t g = some L.length) (hl : L.length ≤ 100) : G_least_calls [.val (.list (tD t)), .val (.list (tD g)), .val (.list (L.map cD))] = .ret (.val (.bool true)) [] := by
  let r0 : En := ⟨[some (.val (.list (tD t))), some (.val (.list (tD g))), some (.val (.list (L.map cD)))], []⟩
  have s1 : dropS (callE G_check_table (consR (nmE 0) (nilR))) r0 = .nx r0 := ofM_ok (callV (g := consR (nmE 0) nilR) (r := r0) (es := [.list (tD t)]) rfl (run_check ht.tab))
  have s2 : dropS (callE G_check_table (consR (nmE 1) (nilR))) r0 = .nx r0 := ofM_ok (callV (g := consR (nmE 1) nilR) (r := r0) (es := [.list (tD g)]) rfl (run_check hg.tab))
  have e1 : callE G_is_call_list (consR (nmE 2) (nilR)) r0 = .ok (.val (.bool true)) r0 := callV (g := consR (nmE 2) nilR) (r := r0) (es := [.list (L.map cD)]) rfl (run_is_call_list (by simpa using hl))
  have e2 : callE G_wrong_call (consR (nmE 0) (consR (nmE 2) (nilR))) r0 = .ok (.val .none) r0 := callV (g := consR (nmE 0) (consR (nmE 2) nilR)) (r := r0) (es := [.list (tD t), .list (L.map cD)]) rfl (run_wrong ht.len hp)
  have t1 : Pt (orB (notB (tstT (callE G_is_call_list (consR (nmE 2) (nilR))))) (tstB (binE gIsntN (callE G_wrong_call (consR (nmE 0) (consR (nmE 2) (nilR)))) (kE .none)))) r0 false := Pt.or (a := false) (b := false) (Pt.not (a := true) (Pt.tstT (Pv.val e1))) fun _ => Pt.tst (Pv.bin (Pv.val e2) Pv.k (rfl : gIsntN .none .none = some (vB false)) rfl)
  have s3 : ∀ f : Stm, ifS (orB (notB (tstT (callE G_is_call_list (consR (nmE 2) (nilR))))) (tstB (binE gIsntN (callE G_wrong_call (consR (nmE 0) (consR (nmE 2) (nilR)))) (kE .none)))) f nxS r0 = .nx r0 := fun f => (if_ok t1).trans rfl
  have hc : countN t g 11 = some L.length := by rw [number_same ht.len hg.len]; exact hn
  have e3 : callE G_count_calls (consR (nmE 0) (consR (nmE 1) (nilR))) r0 = .ok (.val (.int (L.length : Int))) r0 := callV (g := consR (nmE 0) (consR (nmE 1) nilR)) (r := r0) (es := [.list (tD t), .list (tD g)]) rfl (by
    have := run_count (some false) ht.tab.toTabOk hg.tab.toTabOk 11 (by decide) (done_links t g)
    rw [hc] at this
    exact this)
  have e4 : callE G_table_after (consR (nmE 0) (consR (nmE 2) (nilR))) r0 = .ok (.own (.lst (tD (playL t L)))) r0 := callV (g := consR (nmE 0) (consR (nmE 2) nilR)) (r := r0) (es := [.list (tD t), .list (L.map cD)]) rfl (run_after ht.len hp)
  have e5 : binE gEq (unE gLen (nmE 2)) (callE G_count_calls (consR (nmE 0) (consR (nmE 1) (nilR)))) r0 = .ok (.val (.bool true)) r0 := bin_eq (Pv.un (f := nmE 2) (a := .list (L.map cD)) (Pv.nm rfl) rfl rfl) (Pv.val e3) (by
    refine (eq_int _ _).trans ?_
    rw [List.length_map, decide_eq_true rfl])
  have e6 : binE gEq (callE G_table_after (consR (nmE 0) (consR (nmE 2) (nilR)))) (nmE 1) r0 = .ok (.val (.bool true)) r0 := bin_eq (Pv.own' e4) (Pv.nm (i := 1) (d := .list (tD g)) rfl) (by
    rw [he, eq_tD hg hg, decide_eq_true rfl])
  exact (run_eq (r := r0) rfl rfl ((seq_ok' s1).trans ((seq_ok' s2).trans ((seq_ok' (s3 _)).trans (ret_ok (and_eq (a := true) (b := true) (Pv.val e5) fun _ => e6)))))).trans rfl
theorem run_rings {t g : List EndS} (ht : Tab t) (hg : Tab g) : G_rings_of [.val (.list (tD t)), .val (.list (tD g))] = .ret (.own (.lst ((lawRings t g 10).map tupI))) [] := by
  let r0 : En := ⟨[some (.val (.list (tD t))), some (.val (.list (tD g)))], []⟩
  have s1 : dropS (callE G_check_table (consR (nmE 0) (nilR))) r0 = .nx r0 := ofM_ok (callV (g := consR (nmE 0) nilR) (r := r0) (es := [.list (tD t)]) rfl (run_check ht))
  have s2 : dropS (callE G_check_table (consR (nmE 1) (nilR))) r0 = .nx r0 := ofM_ok (callV (g := consR (nmE 1) nilR) (r := r0) (es := [.list (tD g)]) rfl (run_check hg))
  have s3 : callE G_find_rings (consR (nmE 0) (consR (nmE 1) (nilR))) r0 = .ok (.own (.lst ((lawRings t g 10).map tupI))) r0 := callV (g := consR (nmE 0) (consR (nmE 1) nilR)) (r := r0) (es := [.list (tD t), .list (tD g)]) rfl (by
    have := run_find false ht.len hg.len 11 (by decide) (done_links t g)
    rw [rings_same] at this
    exact this)
  exact (run_eq (r := r0) rfl rfl ((seq_ok' s1).trans ((seq_ok' s2).trans (ret_ok s3)))).trans rfl
theorem run_fewN {t g : List EndS} (ht : Tab t) (hg : Tab g) : G_fewest_calls [.val (.list (tD t)), .val (.list (tD g))] = .ret (.val (numD (lawN t g))) [] := by
  have := run_fewest ht hg 11 (by decide) (done_links t g)
  rw [number_same ht.len hg.len] at this
  exact this
def nextL (t g : List EndS) (n : Nat) : List CallT := (callsL t).filter (wellB t g 11 n)
theorem run_nextN {t g : List EndS} (ht : Tab t) (hg : Tab g) {n : Nat} (hn : lawN t g = some n) : G_next_calls [.val (.list (tD t)), .val (.list (tD g))] = .ret (.own (.lst ((nextL t g n).map cD))) [] :=
  run_next ht hg 11 (by decide) (done_links t g) (fun c _ => done_links (behind t c) g) (by rw [number_same ht.len hg.len]; exact hn)
theorem mem_next {t g : List EndS} (ht : t.length = 10) (hg : g.length = 10) {n : Nat} {c : CallT} : c ∈ nextL t g n ↔ c ∈ callsL t ∧ lawN (behind t c) g = some (n - 1) ∧ 1 ≤ n := by
  unfold nextL wellB
  rw [List.mem_filter, number_same ((behind_len' t c).trans ht) hg]
  simp
end Lw

/-! Kb3.lean -/
set_option Elab.async false
set_option linter.all false
set_option maxRecDepth 100000
/-! shuffled things are the same things -/
namespace Lw
open PySem L2 Mi
theorem era_perm {β : Type} : ∀ (l : List β) (v : Nat) (h : v < l.length), (l[v] :: l.eraseIdx v).Perm l
  | a :: l, 0, _ => List.Perm.refl _
  | a :: l, v + 1, h => (List.Perm.swap a _ _).trans (List.Perm.cons a (era_perm l v (by simpa using h)))
def shE (s1 : Sl) (left src : List PyData) (s3 : Option Sl) : En := ⟨[some (.bor 0), some s1, some (.own (.lst left)), s3], [.live (.lst src)]⟩
theorem run_shufP {n : Nat} {src ds : List PyData} (a1 : Ag) (s1 : Sl) (d0 : PyData) (he : entry 4 [.ref (.lst src), a1] = ⟨[some (.bor 0), some s1, none, none], [.live (.lst src)]⟩) (p1 : Pv (nmE 1) ⟨[some (.bor 0), some s1, none, none], [.live (.lst src)]⟩ d0) (hg : gListX d0 = some (.own (.lst ds))) (fin : ∀ acc src' , finish (.rt (.own (.lst acc)) (restV (shE s1 ds src none) (shE s1 [] src' none) [3])) = .ret (.own (.lst acc)) [.live (.lst src')]) (hd : ds.length ≤ 1000) (hs : SrcOk (n + ds.length) src) :
    ∃ out src', out.Perm ds ∧ SrcOk n src' ∧ G__law_shuffled [.ref (.lst src), a1] = .ret (.own (.lst out)) [.live (.lst src')] := by
  let r0 : En := ⟨[some (.bor 0), some s1, none, none], [.live (.lst src)]⟩
  have z1 : setS 2 (unE gListX (nmE 1)) r0 = .nx (shE s1 ds src none) := (set_own (un_eq p1 hg)).trans rfl
  let I : Nat → List PyData → En → Prop := fun i acc r => ∃ left src, r = shE s1 left src none ∧ left.length + i = ds.length ∧ acc.length = i ∧ (left ++ acc).Perm ds ∧ SrcOk (n + left.length) src
  obtain ⟨acc, r', e, left, src', hr, h1, h2, h3, h5⟩ := lcE_inv (tg := fun d r => some (put r 3 (.val d))) (T := [3]) (tt := yesB) (f := mutE 2 uPop (consL (callE G__law_draw (consR (nmE 0) (consR (unE gLen (nmE 2)) (nilR)))) (nilL))) (n := ds.length) (D := fun i => .int ((i : Nat) : Int)) I
    (rng_run (e := unE gLen (nmE 2)) (r := shE s1 ds src none) (n := ds.length) (un_eq (pa_own rfl).pv rfl) (Nat.le_trans hd (by decide))) rfl (Nat.le_refl _) (Nat.le_trans hd (by decide)) ⟨ds, src, rfl, rfl, rfl, by simp, hs⟩
    (fun i acc r _ hi => by
      show rngNth 0 ds.length r i = _
      unfold rngNth
      by_cases h : i < ds.length
      · rw [if_pos h, if_pos h]; simp
      · rw [if_neg h, if_neg h]) (fun i acc r h hi => by
      obtain ⟨left, src1, rfl, a1, a2, a3, a5⟩ := h
      have hl : 0 < left.length := by omega
      let r2 : En := shE s1 left src1 (some (.val (.int ((i : Nat) : Int))))
      have a5' : SrcOk ((n + (left.length - 1)) + 1) src1 := a5.le (by omega)
      obtain ⟨v, src2, hv, hs2, e2⟩ := draw_at (i := 0) (l := .obj 0) (L := left.length) (f := unE gLen (nmE 2)) (r := r2) (src := src1) rfl rfl a5' (un_eq (pa_own rfl).pv rfl) hl (by omega)
      have e2 : callE G__law_draw (consR (nmE 0) (consR (unE gLen (nmE 2)) (nilR))) r2 = .ok (.val (.int ((v : Nat) : Int))) (shE s1 left src2 (some (.val (.int ((i : Nat) : Int))))) := e2
      have ev : left[v]? = some left[v] := List.getElem?_eq_getElem hv
      have e3 := mut_go (i := 2) (up := uPop) (g := consL (callE G__law_draw (consR (nmE 0) (consR (unE gLen (nmE 2)) (nilR)))) (nilL)) (r := r2) (ds := left) (r1 := shE s1 left src2 (some (.val (.int ((i : Nat) : Int))))) rfl ((bnd_ok e2).trans rfl) rfl (pop_eq ev (by omega))
      refine ⟨r2, rfl, r2, rfl, left[v], shE s1 (left.eraseIdx v) src2 (some (.val (.int ((i : Nat) : Int)))), (bnd_ok e3).trans rfl, left.eraseIdx v, src2, rfl, ?_, ?_, ?_, ?_⟩
      · rw [List.length_eraseIdx_of_lt hv]; omega
      · simp [a2]
      · have q1 : (left.eraseIdx v ++ (acc ++ [left[v]])).Perm (left[v] :: left.eraseIdx v ++ acc) := by
          rw [← List.append_assoc]
          exact (List.perm_append_comm (l₁ := left.eraseIdx v ++ acc) (l₂ := [left[v]]))
        exact q1.trans (((era_perm left v hv).append_right acc).trans a3)
      · rw [List.length_eraseIdx_of_lt hv]; exact hs2)
  subst hr
  have hl : left = [] := List.length_eq_zero_iff.mp (by omega)
  subst hl
  refine ⟨acc, src', by simpa using h3, h5.le (by omega), ?_⟩
  exact (run_eq (r := r0) rfl he ((seq_ok' z1).trans (ret_ok e))).trans (fin acc src')
theorem perm_unmap {β γ : Type} {f : β → γ} {out m : List γ} (h : out.Perm m) : ∀ l : List β, m = l.map f → ∃ ps : List β, ps.Perm l ∧ out = ps.map f := by
  induction h with
  | nil => intro l e; exact ⟨l, .refl _, e⟩
  | cons x h ih =>
    intro l e
    cases l with
    | nil => cases e
    | cons a l =>
      rw [List.map_cons] at e
      injection e with e1 e2
      obtain ⟨ps, hp, he⟩ := ih l e2
      exact ⟨a :: ps, hp.cons a, by rw [List.map_cons, he, e1]⟩
  | swap x y l0 =>
    intro l e
    cases l with
    | nil => cases e
    | cons a l =>
      cases l with
      | nil => rw [List.map_cons] at e; injection e with e1 e2; cases e2
      | cons b l =>
        rw [List.map_cons, List.map_cons] at e
        injection e with e1 e2
        injection e2 with e2 e3
        exact ⟨b :: a :: l, List.Perm.swap a b l, by rw [List.map_cons, List.map_cons, e1, e2, e3]⟩
  | trans h1 h2 ih1 ih2 =>
    intro l e
    obtain ⟨ps, hp, he⟩ := ih2 l e
    obtain ⟨qs, hq, hqe⟩ := ih1 ps he
    exact ⟨qs, hq.trans hp, hqe⟩
/-- the places: a permutation of the numbers -/
theorem run_places {n : Nat} {src : List PyData} (hs : SrcOk (n + 10) src) : ∃ ps src', ps.Perm (List.range 10) ∧ SrcOk n src' ∧ G__law_shuffled [.ref (.lst src), .own (.lst (ints' (List.range 10)))] = .ret (.own (.lst (ints' ps))) [.live (.lst src')] := by
  obtain ⟨out, src', h1, h2, h3⟩ := run_shufP (n := n) (src := src) (ds := ints' (List.range 10)) (.own (.lst (ints' (List.range 10)))) (.own (.lst (ints' (List.range 10)))) (.list (ints' (List.range 10))) rfl ⟨_, rfl, rfl⟩ rfl (fun _ _ => rfl) (by decide) hs
  obtain ⟨ps, hp, he⟩ := perm_unmap h1 (List.range 10) rfl
  have he : out = ints' ps := he
  subst he
  exact ⟨ps, src', hp, h2, h3⟩
def freshS : Str := "klmnopqrstuvwxyz"
theorem gl_fresh : gListX (.str freshS) = some (.own (.lst (lettersD freshS))) := by
  show (if freshS.cps.size ≤ sizeLine then some (Rv.own (Ob.lst (lettersD freshS))) else none) = _
  exact if_pos (by decide +kernel)
theorem run_fresh {n : Nat} {src : List PyData} (hs : SrcOk (n + 16) src) : ∃ fr src', fr.Perm (lettersD freshS) ∧ SrcOk n src' ∧ G__law_shuffled [.ref (.lst src), .val (.str freshS)] = .ret (.own (.lst fr)) [.live (.lst src')] := by
  exact run_shufP (n := n) (src := src) (ds := lettersD freshS) (.val (.str freshS)) (.val (.str freshS)) (.str freshS) rfl ⟨_, rfl, rfl⟩ gl_fresh (fun _ _ => rfl) (by decide +kernel) hs
end Lw

/-! Kb4.lean -/
set_option Elab.async false
set_option linter.all false
set_option maxRecDepth 100000
/-! turned tables, for a table that is frozen -/
namespace Lw
open PySem L2 Mi
def tuEv (t found : List EndS) (ord : List Nat) (src : List PyData) (at_ : Nat) (s5 s6 : Option Sl) : En :=
  ⟨[some (.bor 0), some (.val (.list (tD t))), some (.own (.lst (ints' ord))), some (.own (.lst (tD found))), some (.val (.int (at_ : Int))), s5, s6], [.live (.lst src)]⟩
theorem turn_forV {t : List EndS} (ht : t.length = 10) {ord grp : List Nat} (hg : ∀ x ∈ grp, x < 10) (hl : grp.length ≤ 10) {src : List PyData} {at_ : Nat} {found : List EndS} (hf : found.length = 10) (hm : ∀ e ∈ found, e ∈ t) (s6 : Option Sl) :
    ∃ found' s6', found'.length = 10 ∧ (∀ e ∈ found', e ∈ t) ∧ forS (rng1 (unE gLen (nmE 5))) (fun d r => some (put r 6 (.val d))) (stoS (binE gIx (nmE 1) (binE gIx (nmE 5) (binE gSubI (nmE 6) (kE (.int 1))))) 3 (binE gIx (nmE 5) (nmE 6))) (tuEv t found ord src at_ (some (.own (.lst (ints' grp)))) s6) = .nx (tuEv t found' ord src at_ (some (.own (.lst (ints' grp)))) s6') := by
  let I : Nat → En → Prop := fun i r => ∃ found' s6', r = tuEv t found' ord src at_ (some (.own (.lst (ints' grp)))) s6' ∧ found'.length = 10 ∧ ∀ e ∈ found', e ∈ t
  have hlen : unE gLen (nmE 5) (tuEv t found ord src at_ (some (.own (.lst (ints' grp)))) s6) = .ok (.val (.int ((grp.length : Nat) : Int))) (tuEv t found ord src at_ (some (.own (.lst (ints' grp)))) s6) := un_eq (pa_own rfl).pv (len_ints (ns := grp))
  obtain ⟨r', e, found', s6', hr, h1, h2⟩ := for_rng (tg := fun d r => some (put r 6 (.val d))) (bd := stoS (binE gIx (nmE 1) (binE gIx (nmE 5) (binE gSubI (nmE 6) (kE (.int 1))))) 3 (binE gIx (nmE 5) (nmE 6))) hlen (Nat.le_trans hl (by decide)) I ⟨found, s6, rfl, hf, hm⟩ (fun i r h hi => by
    obtain ⟨f1, q6, rfl, a1, a2⟩ := h
    let r1 := tuEv t f1 ord src at_ (some (.own (.lst (ints' grp)))) (some (.val (.int ((i : Nat) : Int))))
    obtain ⟨x, hx, ex⟩ := ix_ahead hi
    have hx10 := hg x hx
    have hi10 := hg grp[i] (List.getElem_mem hi)
    have p5 : Pv (nmE 5) r1 (.list (ints' grp)) := (pa_own rfl).pv
    have p1 : Pv (nmE 1) r1 (.list (tD t)) := (Pv.nm rfl)
    have v1 : binE gIx (nmE 1) (binE gIx (nmE 5) (binE gSubI (nmE 6) (kE (.int 1)))) r1 = .ok (.val (eD (at' t x))) r1 := bin_eq p1 (Pv.bin p5 (Pv.bin (Pv.nm rfl) Pv.k (rfl : gSubI (.int ((i : Nat) : Int)) (.int 1) = some (vI (((i : Nat) : Int) - 1))) rfl) ex rfl) (ix_at ht hx10)
    have v2 : Pv (binE gIx (nmE 5) (nmE 6)) r1 (.int ((grp[i] : Nat) : Int)) := Pv.bin p5 (Pv.nm rfl) (ix_ints (List.getElem?_eq_getElem hi)) rfl
    have s := sto_eq (f := binE gIx (nmE 1) (binE gIx (nmE 5) (binE gSubI (nmE 6) (kE (.int 1))))) (j := 3) (ds := tD f1) v1 rfl v2 (by rw [tD_len, a1]; exact hi10)
    rw [tD_set] at s
    refine ⟨r1, _, rfl, s, f1.set grp[i] (at' t x), some (.val (.int ((i : Nat) : Int))), rfl, by rw [List.length_set]; exact a1, fun e he => ?_⟩
    rcases set_mem' he with q | q
    · rw [q]; exact at_mem ht hx10
    · exact a2 e q)
  subst hr
  exact ⟨found', s6', h1, h2, e⟩
theorem run_turnedV {n : Nat} {src : List PyData} {t : List EndS} (ht : t.length = 10) {ord : List Nat} (ho : ∀ x ∈ ord, x < 10) (hl : ord.length ≤ 10) (hs : SrcOk (n + ord.length) src) :
    ∃ g src', g.length = 10 ∧ (∀ e ∈ g, e ∈ t) ∧ SrcOk n src' ∧ G__law_turned [.ref (.lst src), .val (.list (tD t)), .own (.lst (ints' ord))] = .ret (.own (.lst (tD g))) [.live (.lst src')] := by
  let r0 : En := ⟨[some (.bor 0), some (.val (.list (tD t))), some (.own (.lst (ints' ord))), none, none, none, none], [.live (.lst src)]⟩
  have e1 : unE gList (nmE 1) r0 = .ok (.own (.lst (tD t))) r0 := un_eq (f := nmE 1) (a := .list (tD t)) (Pv.nm rfl) rfl
  have s1 : parS 3 4 (consR (unE gList (nmE 1)) (consR (kE (.int 0)) (nilR))) r0 = .nx (tuEv t t ord src 0 none none) := (par_eq (r := r0) (g := consR (unE gList (nmE 1)) (consR (kE (.int 0)) (nilR))) (o := .lst (tD t)) (d := .int 0) ((bnd_ok e1).trans rfl)).trans rfl
  let I : Nat → En → Prop := fun k r => ∃ found at_ src1 s5 s6, r = tuEv t found ord src1 at_ s5 s6 ∧ found.length = 10 ∧ (∀ e ∈ found, e ∈ t) ∧ at_ + k = ord.length ∧ SrcOk (n + k) src1
  obtain ⟨r', k', e, found, at_, src1, s5, s6, hr, h1, h2, h3, h4⟩ := whl_inv (t := tstB (binE gLt (nmE 4) (unE gLen (nmE 2)))) (bd := seqS (setS 5 (slE (nmE 2) (some (nmE 4)) (some (binE gAdd (binE gAdd (nmE 4) (kE (.int 1))) (callE G__law_draw (consR (nmE 0) (consR (kE (.int 4)) (nilR)))))))) <| seqS (forS (rng1 (unE gLen (nmE 5))) (fun d r => some (put r 6 (.val d))) (stoS (binE gIx (nmE 1) (binE gIx (nmE 5) (binE gSubI (nmE 6) (kE (.int 1))))) 3 (binE gIx (nmE 5) (nmE 6)))) <| setS 4 (binE gAdd (nmE 4) (unE gLen (nmE 5)))) I (fun k r h => by
      obtain ⟨found, at_, src1, s5, s6, rfl, a1, a2, a3, a4⟩ := h
      let r := tuEv t found ord src1 at_ s5 s6
      have tt : tstB (binE gLt (nmE 4) (unE gLen (nmE 2))) r = .ok (decide (at_ < ord.length)) r := Pt.tst (Pv.bin (Pv.nm rfl) (Pv.un (pa_own rfl).pv (len_ints (ns := ord)) rfl) (lt_nat _ _) rfl)
      by_cases c : at_ < ord.length
      · right
        rw [decide_eq_true c] at tt
        refine ⟨tt, ?_⟩
        obtain ⟨v, src2, hv, hs2, e2⟩ := draw_at (i := 0) (l := .obj 0) (L := 4) (n := n + (k - 1)) (f := kE (.int 4)) (r := r) (src := src1) rfl rfl (a4.le (by omega)) rfl (by decide) (by decide)
        let r2 := tuEv t found ord src2 at_ s5 s6
        have e2 : callE G__law_draw (consR (nmE 0) (consR (kE (.int 4)) (nilR))) r = .ok (.val (.int ((v : Nat) : Int))) r2 := e2
        let grp := (ord.drop (min at_ ord.length)).take (min (at_ + 1 + v) ord.length - min at_ ord.length)
        have g1 : ∀ x ∈ grp, x < 10 := fun x hx => ho x (List.mem_of_mem_drop (List.mem_of_mem_take hx))
        have g2 : grp.length = min (at_ + 1 + v) ord.length - at_ := by
          show ((ord.drop (min at_ ord.length)).take _).length = _
          rw [List.length_take, List.length_drop]
          omega
        have hi : binE gAdd (binE gAdd (nmE 4) (kE (.int 1))) (callE G__law_draw (consR (nmE 0) (consR (kE (.int 4)) (nilR)))) r = .ok (.val (.int ((at_ + 1 + v : Nat) : Int))) r2 := bin_go (bin_eq (Pv.nm rfl) Pv.k (add_nat at_ 1)) e2 rfl rfl (add_nat (at_ + 1) v)
        have s1 : setS 5 (slE (nmE 2) (some (nmE 4)) (some (binE gAdd (binE gAdd (nmE 4) (kE (.int 1))) (callE G__law_draw (consR (nmE 0) (consR (kE (.int 4)) (nilR))))))) r = .nx (tuEv t found ord src2 at_ (some (.own (.lst (ints' grp)))) s6) := by
          have l0 := sl_go (f := nmE 2) (r := r) (ds := ints' ord) (show nmE 2 r = .ok (.at (.slot 2)) r from rfl) (opt_some (f := nmE 4) (x := .val (.int (at_ : Int))) rfl rfl) (opt_some hi rfl) rfl
          rw [cut_ints] at l0
          exact (set_own l0).trans rfl
        obtain ⟨found2, q6, f1, f2, s2⟩ := turn_forV (src := src2) (at_ := at_) (ord := ord) ht g1 (by rw [g2]; omega) a1 a2 s6
        have s3 : setS 4 (binE gAdd (nmE 4) (unE gLen (nmE 5))) (tuEv t found2 ord src2 at_ (some (.own (.lst (ints' grp)))) q6) = .nx (tuEv t found2 ord src2 (at_ + grp.length) (some (.own (.lst (ints' grp)))) q6) := (set_val (bin_eq (Pv.nm rfl) (Pv.un (pa_own rfl).pv (len_ints (ns := grp)) rfl) (add_nat _ _))).trans rfl
        refine ⟨_, k - grp.length, (seq_ok' s1).trans ((seq_ok' s2).trans s3), by omega, found2, at_ + grp.length, src2, _, q6, rfl, f1, f2, by omega, hs2.le (by omega)⟩
      · left
        rw [decide_eq_false c] at tt
        exact tt) 1000 ord.length (tuEv t t ord src 0 none none) ⟨t, 0, src, none, none, rfl, ht, fun e h => h, by omega, hs⟩ (by omega)
  subst hr
  refine ⟨found, src1, h1, h2, h4.le (by omega), ?_⟩
  exact (run_eq (r := r0) rfl rfl ((seq_ok' s1).trans ((seq_ok' e).trans (ret_ok (show nmE 3 (tuEv t found ord src1 at_ s5 s6) = .ok (.at (.slot 3)) _ from rfl))))).trans rfl
end Lw

/-! Kb6.lean -/
set_option Elab.async false
set_option linter.all false
set_option maxRecDepth 100000
namespace Lw
open PySem L2 Mi Rg
def piF (ps : List Nat) (i : Nat) : Nat := ps.getD i 0
abbrev AL := List (Str × Str)
def dicD (A : AL) : List (Key × PyData) := A.map fun p => (Sum.inr p.1, PyData.str p.2)
def getA (A : AL) (x : Str) : Option Str := (A.find? fun p => decide (p.1 = x)).map (·.2)
theorem val_dic (A : AL) (x : Str) : valD (dicD A) (.inr x) = (getA A x).map PyData.str := by
  unfold valD dicD getA
  induction A with
  | nil => rfl
  | cons p A ih =>
    rw [List.map_cons, List.find?_cons, List.find?_cons]
    by_cases h : p.1 = x
    · simp [h]
    · have h2 : ¬ ((Sum.inr p.1 : Key) = Sum.inr x) := fun e => h (by injection e)
      simp only [h, h2, decide_false]
      exact ih
def rhoF (A : AL) : EndS → EndS
  | none => none
  | some x => some ((getA A x).getD x)
def unA (A : AL) (y : Str) : Option Str := (A.find? fun p => decide (p.2 = y)).map (·.1)
def sigF (A : AL) : EndS → EndS
  | none => none
  | some y => some ((unA A y).getD y)
def puEnv (t : List EndS) (ps : List Nat) (A : AL) (f : List EndS) (s4 : Option Sl) : En :=
  ⟨[some (.val (.list (tD t))), some (.val (.list (ints' ps))), some (.bor 0), some (.own (.lst (tD f))), s4], [.live (.dct (dicD A))]⟩
theorem run_put {t : List EndS} (ht : t.length = 10) {ps : List Nat} (hp : ps.Perm (List.range 10)) {A : AL} (hA : ∀ x, some x ∈ t → (getA A x).isSome = true) :
    ∃ f, f.length = 10 ∧ Ren t f (piF ps) (rhoF A) ∧ (∀ e ∈ f, e = none ∨ ∃ x, some x ∈ t ∧ e = some ((getA A x).getD x)) ∧ G__law_put [.val (.list (tD t)), .val (.list (ints' ps)), .ref (.dct (dicD A))] = .ret (.own (.lst (tD f))) [.live (.dct (dicD A))] := by
  have hl : ps.length = 10 := by rw [hp.length_eq]; rfl
  have nd : ps.Nodup := hp.nodup_iff.mpr List.nodup_range
  have plt : ∀ i (h : i < 10), ps[i]'(by omega) < 10 := fun i h => List.mem_range.mp (hp.mem_iff.mp (List.getElem_mem _))
  let r0 : En := ⟨[some (.val (.list (tD t))), some (.val (.list (ints' ps))), some (.bor 0), none, none], [.live (.dct (dicD A))]⟩
  have s1 : setS 3 (repE (lstE (consL (kE .none) (nilL))) (kE (.int 10))) r0 = .nx (puEnv t ps A (List.replicate 10 none) none) :=
    (set_own (rep_eq (f := lstE (consL (kE .none) (nilL))) (g := kE (.int 10)) (ds := [.none]) (k := 10) rfl rfl (by decide) (by simp [sizeLine]))).trans rfl
  let I : Nat → En → Prop := fun i r => ∃ f s4, r = puEnv t ps A f s4 ∧ f.length = 10 ∧ (∀ j (h : j < 10), j < i → at' f (ps[j]'(by omega)) = rhoF A (at' t j)) ∧ (∀ e ∈ f, e = none ∨ ∃ x, some x ∈ t ∧ e = some ((getA A x).getD x))
  obtain ⟨r', e, f, s4, hr, h1, h2, h3⟩ := for_rng (e := kE (.int 10)) (n := 10) (tg := fun d r => some (put r 4 (.val d))) (bd := stoS (iteE (tstB (binE gIsN (binE gIx (nmE 0) (nmE 4)) (kE .none))) (kE .none) (dixE (nmE 2) (binE gIx (nmE 0) (nmE 4)))) 3 (binE gIx (nmE 1) (nmE 4))) (r := puEnv t ps A (List.replicate 10 none) none) rfl (by decide) I
    ⟨_, none, rfl, rfl, fun j h q => absurd q (Nat.not_lt_zero _), fun e he => .inl (List.eq_of_mem_replicate he)⟩ (fun i r h hi => by
    obtain ⟨f, s4, rfl, a1, a2, a3⟩ := h
    let r1 := puEnv t ps A f (some (.val (.int ((i : Nat) : Int))))
    have p0 : Pv (binE gIx (nmE 0) (nmE 4)) r1 (eD (at' t i)) := Pv.bin (Pv.nm rfl) (Pv.nm rfl) (ix_at ht hi) rfl
    have tt : Pt (tstB (binE gIsN (binE gIx (nmE 0) (nmE 4)) (kE .none))) r1 (decide (at' t i = none)) := Pt.tst (Pv.bin p0 Pv.k (isN_eD _) rfl)
    have v : iteE (tstB (binE gIsN (binE gIx (nmE 0) (nmE 4)) (kE .none))) (kE .none) (dixE (nmE 2) (binE gIx (nmE 0) (nmE 4))) r1 = .ok (.val (eD (rhoF A (at' t i)))) r1 := by
      refine (ite_eq tt).trans ?_
      cases e : at' t i with
      | none => rw [if_pos (by simp)]; rfl
      | some x =>
        rw [if_neg (by simp)]
        have hx : some x ∈ t := e ▸ at_mem ht hi
        obtain ⟨y, hy⟩ := Option.isSome_iff_exists.mp (hA x hx)
        have q : binE gIx (nmE 0) (nmE 4) r1 = .ok (.val (eD (some x))) r1 := by rw [← e]; exact bin_eq (Pv.nm rfl) (Pv.nm rfl) (ix_at ht hi)
        refine (bnd_ok (f := nmE 2) (x := Rv.at (.obj 0)) (r1 := r1) rfl).trans ((bnd_ok q).trans ?_)
        have k1 : dctOf r1 (.at (.obj 0)) = some (dicD A) := rfl
        have k2 : (peek r1 (.val (eD (some x)))).bind keyOf = some (.inr x) := rfl
        simp only [k1, k2, val_dic, hy]
        show Res.ok (Rv.val (PyData.str y)) r1 = Res.ok (Rv.val (eD (some ((getA A x).getD x)))) r1
        rw [hy]; rfl
    have g2 : Pv (binE gIx (nmE 1) (nmE 4)) r1 (.int ((ps[i]'(by omega) : Nat) : Int)) := Pv.bin (Pv.nm rfl) (Pv.nm rfl) (ix_ints (List.getElem?_eq_getElem (by omega))) rfl
    have s := sto_eq (j := 3) (ds := tD f) v rfl g2 (by rw [tD_len, a1]; exact plt i hi)
    rw [tD_set] at s
    refine ⟨r1, _, rfl, s, f.set (ps[i]'(by omega)) (rhoF A (at' t i)), some (.val (.int ((i : Nat) : Int))), rfl, by rw [List.length_set]; exact a1, fun j h q => ?_, fun e he => ?_⟩
    · rw [set_at a1 (plt i hi)]
      by_cases ji : j = i
      · subst ji; exact upd_b _ _ _
      · rw [upd_o _ _ fun z => ji ((List.getElem_inj nd).mp z)]
        exact a2 j h (by omega)
    · rcases set_mem' he with q | q
      · cases e2 : at' t i with
        | none => rw [e2] at q; exact .inl q
        | some x => rw [e2] at q; exact .inr ⟨x, e2 ▸ at_mem ht hi, q⟩
      · exact a3 e q)
  subst hr
  refine ⟨f, h1, ⟨fun i hi => ?_⟩, h3, ?_⟩
  · have := h2 i hi hi
    unfold piF
    rw [List.getD_eq_getElem?_getD, List.getElem?_eq_getElem (by omega)]
    exact this
  · exact (run_eq (r := r0) rfl rfl ((seq_ok' s1).trans ((seq_ok' e).trans (ret_ok (show nmE 3 (puEnv t ps A f s4) = .ok (.at (.slot 3)) _ from rfl))))).trans rfl
end Lw

/-! Kb5.lean -/
set_option Elab.async false
set_option linter.all false
set_option maxRecDepth 100000
/-! tables put elsewhere -/
namespace Lw
open PySem L2 Mi Rg
set_option maxHeartbeats 0 in
theorem run_moved {ps : List Nat} (hl : ps.length = 10) {c : CallT} (hc : c.ok) : G__law_moved [.val (cD c), .val (.list (ints' ps))] = .ret (.val (cD (mvC (piF ps) c))) [] := by
  match ps, hl with
  | [p0, p1, p2, p3, p4, p5, p6, p7, p8, p9], _ =>
    cases c with
    | close n => rcases ten hc with rfl | rfl | rfl | rfl | rfl | rfl | rfl | rfl | rfl | rfl <;> rfl
    | copy n m =>
      rcases ten hc.1 with rfl | rfl | rfl | rfl | rfl | rfl | rfl | rfl | rfl | rfl <;>
      rcases ten hc.2 with rfl | rfl | rfl | rfl | rfl | rfl | rfl | rfl | rfl | rfl <;> rfl
end Lw

/-! Kb7.lean -/
set_option Elab.async false
set_option linter.all false
set_option maxRecDepth 100000
/-! names for names -/
namespace Lw
open PySem L2 Mi Rg
def kaF (ps : List Nat) (j : Nat) : Nat := ps.idxOf j
theorem ps_ok {ps : List Nat} (hp : ps.Perm (List.range 10)) : (∀ i, i < 10 → piF ps i < 10) ∧ (∀ j, j < 10 → kaF ps j < 10) ∧ (∀ i, i < 10 → kaF ps (piF ps i) = i) ∧ (∀ j, j < 10 → piF ps (kaF ps j) = j) := by
  have hl : ps.length = 10 := by rw [hp.length_eq]; rfl
  have nd : ps.Nodup := hp.nodup_iff.mpr List.nodup_range
  have e : ∀ i (h : i < 10), piF ps i = ps[i]'(by omega) := fun i h => by unfold piF; rw [List.getD_eq_getElem?_getD, List.getElem?_eq_getElem (by omega)]; rfl
  have mem : ∀ j, j < 10 → j ∈ ps := fun j h => hp.mem_iff.mpr (List.mem_range.mpr h)
  have k : ∀ j, j < 10 → kaF ps j < 10 := fun j h => by have := List.idxOf_lt_length_of_mem (mem j h); unfold kaF; omega
  refine ⟨fun i h => ?_, k, fun i h => ?_, fun j h => ?_⟩
  · rw [e i h]; exact List.mem_range.mp (hp.mem_iff.mp (List.getElem_mem _))
  · rw [e i h]; exact List.Nodup.idxOf_getElem nd i (by omega)
  · rw [e _ (k j h)]; exact List.getElem_idxOf (List.idxOf_lt_length_of_mem (mem j h))
def sgn : List Str := freshS.cps.toList.map fun c => ⟨#[c]⟩
theorem sgn_nd : sgn.Nodup := by decide +kernel
theorem sgn_len : sgn.length = 16 := by decide +kernel
theorem sgn_ok : ∀ y ∈ sgn, PyData.strOk y = true ∧ (1 ≤ y.cps.size ∧ y.cps.size ≤ 8 ∧ ∀ c ∈ y.cps.toList, LetOk c = true) := by decide +kernel
theorem sgn_letters : lettersD freshS = sgn.map PyData.str := by unfold lettersD sgn; rw [List.map_map]; rfl
structure Let (A : AL) (fr : List Str) : Prop where
  kn : (A.map (·.1)).Nodup
  kw : ∀ p ∈ A, some p.1 ∈ allE
  pm : (A.map (·.2) ++ fr).Perm sgn
theorem Let.vals {A : AL} {fr : List Str} (h : Let A fr) : (A.map (·.2)).Nodup := (List.nodup_append.mp (h.pm.nodup_iff.mpr sgn_nd)).1
theorem Let.len {A : AL} {fr : List Str} (h : Let A fr) : A.length + fr.length = 16 := by
  have := h.pm.length_eq
  rw [sgn_len, List.length_append, List.length_map] at this
  exact this
theorem Let.few {A : AL} {fr : List Str} (h : Let A fr) : A.length ≤ 12 := by
  have nd : ((A.map (·.1)).map some).Nodup := map_nodup h.kn fun a b _ _ e => by injection e
  have := nodup_sub _ allE nd fun x hx => by
    obtain ⟨y, hy, rfl⟩ := List.mem_map.mp hx
    obtain ⟨p, hp, rfl⟩ := List.mem_map.mp hy
    exact h.kw p hp
  simpa [allE, words1] using this
theorem Let.more {A : AL} {fr : List Str} {x y : Str} (h : Let A (fr ++ [y])) (hx : getA A x = none) (hw : some x ∈ allE) : Let (A ++ [(x, y)]) fr where
  kn := by
    rw [List.map_append]
    refine List.nodup_append.mpr ⟨h.kn, by simp, fun a ha b hb e => ?_⟩
    simp at hb
    subst hb
    subst e
    obtain ⟨p, hp, e⟩ := List.mem_map.mp ha
    unfold getA at hx
    have := List.find?_eq_none.mp (Option.map_eq_none_iff.mp hx) p hp
    simp [e] at this
  kw := fun p hp => by
    rcases List.mem_append.mp hp with hp | hp
    · exact h.kw p hp
    · rw [List.mem_singleton.mp hp]; exact hw
  pm := by
    refine List.Perm.trans ?_ h.pm
    rw [List.map_append, List.append_assoc]
    exact List.Perm.append_left _ List.perm_append_comm
theorem get_mem {A : AL} {x y : Str} (h : getA A x = some y) : (x, y) ∈ A := by
  obtain ⟨p, hp, e⟩ := Option.map_eq_some_iff.mp h
  have h1 := List.mem_of_find?_eq_some hp
  have h2 := List.find?_some hp
  have h2 : p.1 = x := of_decide_eq_true h2
  rw [← h2, ← e]; exact h1
theorem nd_inj {β γ : Type} {f : β → γ} {l : List β} (nd : (l.map f).Nodup) {a b : β} (ha : a ∈ l) (hb : b ∈ l) (e : f a = f b) : a = b := by
  induction l with
  | nil => cases ha
  | cons c l ih =>
    rw [List.map_cons, List.nodup_cons] at nd
    rcases List.mem_cons.mp ha with h1 | h1
    · rcases List.mem_cons.mp hb with h2 | h2
      · rw [h1, h2]
      · exact absurd (List.mem_map.mpr ⟨b, h2, by rw [← e, h1]⟩ : f c ∈ l.map f) nd.1
    · rcases List.mem_cons.mp hb with h2 | h2
      · exact absurd (List.mem_map.mpr ⟨a, h1, by rw [e, h2]⟩ : f c ∈ l.map f) nd.1
      · exact ih nd.2 h1 h2
theorem un_get {A : AL} {fr : List Str} (h : Let A fr) {x y : Str} (e : getA A x = some y) : unA A y = some x := by
  have hm := get_mem e
  unfold unA
  cases q : A.find? fun p => decide (p.2 = y) with
  | none => exact absurd (List.find?_eq_none.mp q _ hm) (by simp)
  | some p =>
    have h2 : p.2 = y := of_decide_eq_true (List.find?_some (p := fun p : Str × Str => decide (p.2 = y)) q)
    have := nd_inj h.vals (List.mem_of_find?_eq_some q) hm h2
    rw [this]; rfl
theorem sig_rho {A : AL} {fr : List Str} (h : Let A fr) {e : EndS} (he : ∀ x, e = some x → (getA A x).isSome = true) : sigF A (rhoF A e) = e := by
  cases e with
  | none => rfl
  | some x =>
    obtain ⟨y, hy⟩ := Option.isSome_iff_exists.mp (he x rfl)
    unfold rhoF sigF
    simp only [hy, Option.getD_some, un_get h hy]
theorem rho_none {A : AL} (e : EndS) (q : rhoF A e = none) : e = none := by
  cases e with
  | none => rfl
  | some x => cases q
theorem sig_none {A : AL} (e : EndS) (q : sigF A e = none) : e = none := by
  cases e with
  | none => rfl
  | some x => cases q
theorem at_in {t : List EndS} (ht : t.length = 10) {i : Nat} {x : Str} (hi : i < 10) (e : at' t i = some x) : some x ∈ t := e ▸ at_mem ht hi
theorem mk_rn {t g f f2 : List EndS} {ps : List Nat} {A : AL} {fr : List Str} (hp : ps.Perm (List.range 10)) (h : Let A fr) (ht : t.length = 10) (hg : g.length = 10) (hf : f.length = 10) (hf2 : f2.length = 10)
    (nt : ∀ x, some x ∈ t → (getA A x).isSome = true) (ng : ∀ x, some x ∈ g → (getA A x).isSome = true) (r1 : Ren t f (piF ps) (rhoF A)) (r2 : Ren g f2 (piF ps) (rhoF A)) : Rn (piF ps) (kaF ps) (rhoF A) (sigF A) t f g f2 := by
  obtain ⟨a, b, c, d⟩ := ps_ok hp
  have back : ∀ {t f : List EndS}, t.length = 10 → (∀ x, some x ∈ t → (getA A x).isSome = true) → Ren t f (piF ps) (rhoF A) → Ren f t (kaF ps) (sigF A) := fun {t f} ht nt r => ⟨fun j hj => by
    have := r.eq (kaF ps j) (b j hj)
    rw [d j hj] at this
    rw [this, sig_rho h fun x e => nt x (at_in ht (b j hj) e)]⟩
  exact ⟨⟨⟨a, b, c, d, rfl⟩, ⟨b, a, d, c, rfl⟩, rho_none, sig_none⟩, ht, hf, hg, hf2, r1, r2, back ht nt r1, back hg ng r2⟩
theorem tab_put {t f : List EndS} {A : AL} {fr : List Str} (h : Let A fr) (hf : f.length = 10) (nt : ∀ x, some x ∈ t → (getA A x).isSome = true) (hm : ∀ e ∈ f, e = none ∨ ∃ x, some x ∈ t ∧ e = some ((getA A x).getD x)) : Tab f := by
  have key : ∀ y : Str, some y ∈ f → y ∈ sgn := fun y hy => by
    rcases hm _ hy with e | ⟨x, hx, e⟩
    · cases e
    · obtain ⟨z, hz⟩ := Option.isSome_iff_exists.mp (nt x hx)
      rw [hz] at e
      injection e with e
      rw [e]
      exact h.pm.mem_iff.mp (List.mem_append_left _ (List.mem_map.mpr ⟨_, get_mem hz, rfl⟩))
  exact ⟨⟨hf, fun x hx => (sgn_ok x (key x hx)).1⟩, fun x hx => ⟨(sgn_ok x (key x hx)).2.1, (sgn_ok x (key x hx)).2.2.1, (sgn_ok x (key x hx)).2.2.2⟩⟩
end Lw

/-! Kb8.lean -/
set_option Elab.async false
set_option linter.all false
set_option maxRecDepth 100000
/-! sorted rings, sorted calls -/
namespace Lw
open PySem L2 Mi Rg
open PySem.W (dataLe dataLe_rows alike alikeAll alike_ints depth_ints)
theorem intsOf_nat : ∀ r : List Nat, intsOf (ints' r) = some (r.map fun (i : Nat) => (i : Int))
  | [] => rfl
  | n :: r => by
    have := intsOf_nat r
    unfold ints' at this ⊢
    rw [List.map_cons, List.map_cons]
    unfold intsOf
    rw [this]; rfl
theorem can_perm {r : List Nat} (nd : r.Nodup) (lt : ∀ x ∈ r, x < 10) : (can r).Perm r :=
  (List.perm_ext_iff_of_nodup (List.Pairwise.filter _ List.nodup_range) nd).mpr fun x => by

    rw [List.mem_filter, List.mem_range]
    simp only [decide_eq_true_eq]
    exact ⟨fun h => h.2, fun h => ⟨lt x h, h⟩⟩
theorem can_sorted (r : List Nat) : (can r).Pairwise (· < ·) := List.Pairwise.filter _ List.pairwise_lt_range
theorem sortI_can {r : List Nat} (nd : r.Nodup) (lt : ∀ x ∈ r, x < 10) : gSortI (.list (ints' r)) = some (.own (.lst (ints' (can r)))) := by
  have hl : r.length ≤ 10 := by
    have := nodup_sub r (List.range 10) nd fun x hx => List.mem_range.mpr (lt x hx)
    simpa using this
  have hm : ((r.map fun (i : Nat) => (i : Int)).mergeSort fun a b => decide (a ≤ b)) = (can r).map fun (i : Nat) => (i : Int) :=
    mergeSort_is ((can_perm nd lt).map _) (List.pairwise_map.mpr ((can_sorted r).imp fun h => by omega))
  unfold gSortI
  simp only [intsOf_nat, Option.bind_some, List.length_map]
  rw [if_pos (by omega), hm, List.map_map]
  rfl
theorem sortY_list {r : List Nat} (nd : r.Nodup) (lt : ∀ x ∈ r, x < 10) : gSortY (.list (ints' r)) = some (.own (.lst (ints' (can r)))) := by
  show (match gSortI (.list (ints' r)) with | some z => some z | none => gSortD (.list (ints' r))) = _
  rw [sortI_can nd lt]
theorem sortY_tup {r : List Nat} (nd : r.Nodup) (lt : ∀ x ∈ r, x < 10) : gSortY (.tuple (ints' r)) = some (.own (.lst (ints' (can r)))) := sortI_can nd lt
def row (r : List Nat) : PyData := .list (ints' r)
def rowZ (r : List Nat) : List Int := r.map fun (i : Nat) => (i : Int)
theorem row_eq (r : List Nat) : row r = .list ((rowZ r).map .int) := by unfold row rowZ ints'; rw [List.map_map]; rfl
theorem rowZ_inj {a b : List Nat} (h : rowZ a = rowZ b) : a = b := by
  unfold rowZ at h
  exact List.map_inj_right (fun x y e => by omega) |>.mp h
theorem sortD_rows (A : List (List Nat)) : gSortD (.list (A.map row)) = some (.own (.lst ((A.mergeSort fun a b => decide (rowZ a ≤ rowZ b)).map row))) := by
  have e : (A.map row).mergeSort (dataLe false id) = (A.mergeSort fun a b => decide (rowZ a ≤ rowZ b)).map row := by
    refine (List.map_mergeSort fun a _ b _ => ?_).symm
    have := congrFun (congrFun (dataLe_rows rowZ) a) b
    rw [← this, row_eq a, row_eq b]
    rfl
  unfold gSortD
  simp only
  rw [e, if_pos]
  simp only [Bool.and_eq_true]
  refine ⟨⟨?_, ?_⟩, ?_⟩
  · unfold alikeB
    simp only [List.all_eq_true, List.mem_map]
    rintro _ ⟨a, _, rfl⟩ _ ⟨b, _, rfl⟩
    rw [row_eq, row_eq]
    exact alike_ints _ _
  · unfold sortableB
    rw [Bool.or_eq_true]
    refine .inr ?_
    simp only [List.all_eq_true, List.mem_map]
    rintro _ ⟨a, _, rfl⟩
    rfl
  · simp only [List.all_eq_true, List.mem_map]
    rintro _ ⟨a, _, rfl⟩
    rw [row_eq]
    refine decide_eq_true ?_
    show PyData.depth (.list _) ≤ 60
    unfold PyData.depth
    rw [depth_ints]
    omega
theorem rows_same {A B : List (List Nat)} (h : A.Perm B) : ∃ C : List (List Nat), C.Perm A ∧ gSortY (.list (A.map row)) = some (.own (.lst (C.map row))) ∧ gSortY (.list (B.map row)) = some (.own (.lst (C.map row))) := by
  cases A with
  | nil =>
    rw [List.nil_perm.mp h]
    have q : gSortY (.list []) = some (.own (.lst [])) := by
      show (match gSortI (.list []) with | some z => some z | none => gSortD (.list [])) = _
      have : gSortI (.list []) = some (.own (.lst [])) := by unfold gSortI intsOf; simp
      rw [this]
    exact ⟨[], .refl _, q, q⟩
  | cons a A =>
    cases B with
    | nil => exact absurd h.length_eq (by simp)
    | cons b B =>
      have key : ∀ (a : List Nat) (A : List (List Nat)), gSortY (.list ((a :: A).map row)) = gSortD (.list ((a :: A).map row)) := fun a A => rfl
      have le : ∀ x y : List Nat, decide (rowZ x ≤ rowZ y) = true → rowZ x ≤ rowZ y := fun x y q => of_decide_eq_true q
      have pw : ∀ A : List (List Nat), (A.mergeSort fun a b => decide (rowZ a ≤ rowZ b)).Pairwise fun a b => decide (rowZ a ≤ rowZ b) = true := fun A =>
        List.pairwise_mergeSort (le := fun a b : List Nat => decide (rowZ a ≤ rowZ b)) (fun a b c h1 h2 => decide_eq_true (List.le_trans (le a b h1) (le b c h2))) (fun a b => by
          rcases List.le_total (rowZ a) (rowZ b) with q | q <;> simp [q]) A
      have e : (a :: A).mergeSort (fun a b => decide (rowZ a ≤ rowZ b)) = (b :: B).mergeSort (fun a b => decide (rowZ a ≤ rowZ b)) :=
        List.Perm.eq_of_pairwise (le := fun a b => decide (rowZ a ≤ rowZ b) = true) (fun x y _ _ h1 h2 => rowZ_inj (List.le_antisymm (le _ _ h1) (le _ _ h2))) (pw _) (pw _) ((List.mergeSort_perm _ _).trans (h.trans (List.mergeSort_perm _ _).symm))
      rw [key, key, sortD_rows, sortD_rows, e]
      exact ⟨_, (List.mergeSort_perm _ _).trans h.symm, rfl, rfl⟩
end Lw

/-! Kb9.lean -/
set_option Elab.async false
set_option linter.all false
set_option maxRecDepth 100000
/-! sorted calls -/
namespace Lw
open PySem L2 Mi Rg
open PySem.W (dataLe alike alikeAll)
def keyC : CallT → Nat
  | .close n => n
  | .copy n m => 100 + 10 * n + m
def all110 : List CallT := (List.range 10).map CallT.close ++ (List.range 10).flatMap fun n => (List.range 10).map fun m => CallT.copy n m
theorem mem_all {c : CallT} (h : c.ok) : c ∈ all110 := by
  unfold all110
  cases c with
  | close n => exact List.mem_append_left _ (List.mem_map.mpr ⟨n, List.mem_range.mpr h, rfl⟩)
  | copy n m => exact List.mem_append_right _ (List.mem_flatMap.mpr ⟨n, List.mem_range.mpr h.1, List.mem_map.mpr ⟨m, List.mem_range.mpr h.2, rfl⟩⟩)
def chkC : Bool := all110.all fun a => all110.all fun b => (dataLe false id (cD a) (cD b) == decide (keyC a ≤ keyC b)) && alike (cD a) (cD b) && decide ((cD a).depth ≤ 60)
theorem chk_ok : chkC = true := by decide +kernel
theorem chk_at {a b : CallT} (ha : a.ok) (hb : b.ok) : dataLe false id (cD a) (cD b) = decide (keyC a ≤ keyC b) ∧ alike (cD a) (cD b) = true ∧ (cD a).depth ≤ 60 := by
  have := List.all_eq_true.mp (List.all_eq_true.mp chk_ok a (mem_all ha)) b (mem_all hb)
  simp only [Bool.and_eq_true, beq_iff_eq, decide_eq_true_eq] at this
  exact ⟨this.1.1, this.1.2, this.2⟩
end Lw

/-! Kc1.lean -/
set_option Elab.async false
set_option linter.all false
set_option maxRecDepth 100000
namespace Lw
open PySem L2 Mi Rg
open PySem.W (dataLe alike alikeAll)
theorem calls_sorted (t : List EndS) : (callsL t).Pairwise fun a b => keyC a < keyC b := by
  have st : (takenL t).Pairwise (· < ·) := List.Pairwise.filter _ List.pairwise_lt_range
  have lt : ∀ n ∈ takenL t, n < 10 := fun n h => taken_lt h
  unfold callsL
  refine List.pairwise_append.mpr ⟨List.pairwise_map.mpr st, ?_, fun a ha b hb => ?_⟩
  · refine List.pairwise_flatMap.mpr ⟨fun n hn => List.pairwise_map.mpr (List.pairwise_lt_range.imp fun h => by show 100 + 10 * n + _ < 100 + 10 * n + _; omega), List.Pairwise.imp_of_mem (fun {n m} hn hm h x hx y hy => ?_) st⟩
    obtain ⟨i, hi, rfl⟩ := List.mem_map.mp hx
    obtain ⟨j, hj, rfl⟩ := List.mem_map.mp hy
    have := List.mem_range.mp hi
    have := List.mem_range.mp hj
    show 100 + 10 * n + i < 100 + 10 * m + j
    omega
  · obtain ⟨n, hn, rfl⟩ := List.mem_map.mp ha
    obtain ⟨m, hm, hb⟩ := List.mem_flatMap.mp hb
    obtain ⟨j, hj, rfl⟩ := List.mem_map.mp hb
    have := lt n hn
    show n < 100 + 10 * m + j
    omega
theorem key_inj {a b : CallT} (ha : a.ok) (hb : b.ok) (h : keyC a = keyC b) : a = b := by
  cases a with
  | close n => cases b with
    | close m => have h : n = m := h; rw [h]
    | copy m j => have ha : n < 10 := ha; have h : n = 100 + 10 * m + j := h; omega
  | copy n i => cases b with
    | close m => have hb : m < 10 := hb; have h : 100 + 10 * n + i = m := h; omega
    | copy m j =>
      have h : 100 + 10 * n + i = 100 + 10 * m + j := h
      have := ha.2
      have := hb.2
      have e1 : n = m := by omega
      have e2 : i = j := by omega
      rw [e1, e2]
theorem sort_calls {L L' : List CallT} (ok : ∀ c ∈ L, c.ok) (hp : L.Perm L') (hs : L'.Pairwise fun a b => keyC a < keyC b) : gSortY (.list (L.map cD)) = some (.own (.lst (L'.map cD))) := by
  cases L with
  | nil =>
    rw [List.nil_perm.mp hp]
    show gSortY (.list []) = some (.own (.lst []))
    show (match gSortI (.list []) with | some z => some z | none => gSortD (.list [])) = _
    have : gSortI (.list []) = some (.own (.lst [])) := by unfold gSortI intsOf; simp
    rw [this]
  | cons c L =>
    have k0 : gSortY (.list ((c :: L).map cD)) = gSortD (.list ((c :: L).map cD)) := by cases c <;> rfl
    rw [k0]
    generalize c :: L = L at ok hp
    have e : (L.map cD).mergeSort (dataLe false id) = (L.mergeSort fun a b => decide (keyC a ≤ keyC b)).map cD :=
      (List.map_mergeSort fun a ha b hb => ((chk_at (ok a ha) (ok b hb)).1).symm).symm
    have e2 : (L.mergeSort fun a b => decide (keyC a ≤ keyC b)) = L' := by
      have pw := List.pairwise_mergeSort (le := fun a b : CallT => decide (keyC a ≤ keyC b)) (fun a b c h1 h2 => decide_eq_true (Nat.le_trans (of_decide_eq_true h1) (of_decide_eq_true h2))) (fun a b => by
        rcases Nat.le_total (keyC a) (keyC b) with q | q <;> simp [q]) L
      have mm := List.mergeSort_perm L fun a b : CallT => decide (keyC a ≤ keyC b)
      exact List.Perm.eq_of_pairwise (le := fun a b => decide (keyC a ≤ keyC b) = true) (fun x y hx hy h1 h2 => key_inj (ok x (mm.mem_iff.mp hx)) (ok y (hp.mem_iff.mpr hy)) (Nat.le_antisymm (of_decide_eq_true h1) (of_decide_eq_true h2))) pw (hs.imp fun h => decide_eq_true (Nat.le_of_lt h)) (mm.trans hp)
    unfold gSortD
    simp only
    rw [e, e2, if_pos]
    simp only [Bool.and_eq_true]
    refine ⟨⟨?_, ?_⟩, ?_⟩
    · unfold alikeB
      simp only [List.all_eq_true, List.mem_map]
      rintro _ ⟨a, ha, rfl⟩ _ ⟨b, hb, rfl⟩
      exact (chk_at (ok a ha) (ok b hb)).2.1
    · unfold sortableB
      rw [Bool.or_eq_true]
      refine .inl ?_
      simp only [List.all_eq_true, List.mem_map]
      rintro _ ⟨a, ha, rfl⟩
      cases a <;> rfl
    · simp only [List.all_eq_true, List.mem_map]
      rintro _ ⟨a, ha, rfl⟩
      exact decide_eq_true (chk_at (ok a ha) (ok a ha)).2.2
theorem mv_ok {ps : List Nat} (hp : ps.Perm (List.range 10)) {c : CallT} (h : c.ok) : (mvC (piF ps) c).ok := by
  cases c with
  | close n => exact (ps_ok hp).1 n h
  | copy n m => exact ⟨(ps_ok hp).1 n h.1, (ps_ok hp).1 m h.2⟩
theorem nextL_nodup (t g : List EndS) (n : Nat) : (nextL t g n).Nodup := by
  unfold nextL
  exact ((calls_sorted t).filter _).imp fun h e => by rw [e] at h; omega
theorem next_ren {π κ : Nat → Nat} {ρ ς : EndS → EndS} {t t' g g' : List EndS} (R : Rn π κ ρ ς t t' g g') {n : Nat} (hn : lawN t g = some n) : ((nextL t g n).map (mvC π)).Perm (nextL t' g' n) := by
  have hn' : lawN t' g' = some n := (ren_eq R.B R.ht R.ht' R.hg R.hg' R.h1 R.h2 R.h3 R.h4).trans hn
  have fwd : ∀ {π κ : Nat → Nat} {ρ ς : EndS → EndS} {t t' g g' : List EndS}, Rn π κ ρ ς t t' g g' → lawN t g = some n → lawN t' g' = some n → ∀ c ∈ nextL t g n, mvC π c ∈ nextL t' g' n ∧ mvC κ (mvC π c) = c := by
    intro π κ ρ ς t t' g g' R hn hn' c hc
    obtain ⟨h1, h2, h3⟩ := (mem_next R.ht R.hg).mp hc
    obtain ⟨k, rfl⟩ : ∃ k, n = k + 1 := ⟨n - 1, by omega⟩
    obtain ⟨q1, m, q2, q3⟩ := ren_next R.B R.ht R.ht' R.hg R.hg' R.h1 R.h2 R.h3 R.h4 (c := c) ⟨h1, k, hn, h2⟩
    rw [hn'] at q2
    have : m = k := by injection q2 with q2; omega
    subst this
    refine ⟨(mem_next R.ht' R.hg').mpr ⟨q1, q3, by omega⟩, ?_⟩
    cases c with
    | close n => show CallT.close _ = _; rw [R.B.f.kp n (mem_close.mp h1).1]
    | copy a b => show CallT.copy _ _ = _; rw [R.B.f.kp a (mem_copy.mp h1).1.1, R.B.f.kp b (mem_copy.mp h1).2]
  refine (List.perm_ext_iff_of_nodup (map_nodup (nextL_nodup t g n) fun a b ha hb e => ?_) (nextL_nodup t' g' n)).mpr fun c => ?_
  · rw [← (fwd R hn hn' a ha).2, ← (fwd R hn hn' b hb).2, e]
  · constructor
    · intro h
      obtain ⟨a, ha, rfl⟩ := List.mem_map.mp h
      exact (fwd R hn hn' a ha).1
    · intro h
      obtain ⟨q1, q2⟩ := fwd R.symm hn' hn c h
      exact List.mem_map.mpr ⟨_, q1, q2⟩
end Lw

/-! Kc2.lean -/
set_option Elab.async false
set_option linter.all false
set_option maxRecDepth 100000
/-! names gathered -/
namespace Lw
open PySem L2 Mi Rg
theorem fz_own {f : M Rv} {r r1 : En} {ds : List PyData} (h : f r = .ok (.own (.lst ds)) r1) : fzE f r = .ok (.val (.list ds)) r1 := (bnd_ok h).trans rfl
theorem fz_val {f : M Rv} {r r1 : En} {d : PyData} (h : f r = .ok (.val d) r1) : fzE f r = .ok (.val d) r1 := (bnd_ok h).trans rfl
theorem par_vo {i j : Nat} {g : M (List Rv)} {r r1 : En} {o : Ob} {d : PyData} (h : g r = .ok [.val d, .own o] r1) : parS i j g r = .nx (put (put r1 i (.val d)) j (.own o)) := by
  unfold parS
  rw [h]
  rfl
theorem par_vv {i j : Nat} {g : M (List Rv)} {r r1 : En} {d e : PyData} (h : g r = .ok [.val d, .val e] r1) : parS i j g r = .nx (put (put r1 i (.val d)) j (.val e)) := by
  unfold parS
  rw [h]
  rfl
def rr (t g : List EndS) (s3 s4 s5 s6 s7 s8 s9 : Option Sl) (src : List PyData) : En :=
  ⟨[some (.bor 0), some (.val (.list (tD t))), some (.val (.list (tD g))), s3, s4, s5, s6, s7, s8, s9, none, none, none], [.live (.lst src)]⟩
theorem rr1 {n : Nat} {t g : List EndS} {src : List PyData} (hs : SrcOk (n + 26) src) : ∃ (ps : List Nat) (ws : List Str) (src' : List PyData), ps.Perm (List.range 10) ∧ ws.Perm sgn ∧ SrcOk n src' ∧
    parS 3 4 (consR (fzE (callE G__law_shuffled (consR (nmE 0) (consR (lrgE (kE (.int 10))) (nilR))))) (consR (callE G__law_shuffled (consR (nmE 0) (consR (kE (.str "klmnopqrstuvwxyz")) (nilR)))) (nilR))) (rr t g none none none none none none none src) = .nx (rr t g (some (.val (.list (ints' ps)))) (some (.own (.lst (ws.map .str)))) none none none none none src') := by
  obtain ⟨ps, src1, p1, p2, p3⟩ := run_places (n := n + 16) (src := src) hs
  obtain ⟨fr, src2, q1, q2, q3⟩ := run_fresh (n := n) (src := src1) p2
  rw [sgn_letters] at q1
  obtain ⟨ws, w1, rfl⟩ := perm_unmap q1 sgn rfl
  have c1 : callE G__law_shuffled (consR (nmE 0) (consR (lrgE (kE (.int 10))) (nilR))) (rr t g none none none none none none none src) = .ok (.own (.lst (ints' ps))) (rr t g none none none none none none none src1) := callG (xs := [.at (.obj 0), .own (.lst (ints' (List.range 10)))]) (r1 := rr t g none none none none none none none src) rfl (as := [.ref (.lst src), .own (.lst (ints' (List.range 10)))]) (ls := [.obj 0]) rfl rfl p3 rfl
  have c2 : callE G__law_shuffled (consR (nmE 0) (consR (kE (.str "klmnopqrstuvwxyz")) (nilR))) (rr t g none none none none none none none src1) = .ok (.own (.lst (ws.map .str))) (rr t g none none none none none none none src2) := callG (xs := [.at (.obj 0), .val (.str freshS)]) (r1 := rr t g none none none none none none none src1) rfl (as := [.ref (.lst src1), .val (.str freshS)]) (ls := [.obj 0]) rfl rfl q3 rfl
  exact ⟨ps, ws, src2, p1, w1, q2, (par_vo (cr_go (fz_own c1) (cr_go c2 rfl))).trans rfl⟩
theorem get_app {A : AL} {x y z : Str} (h : (getA A z).isSome = true ∨ z = x) : (getA (A ++ [(x, y)]) z).isSome = true := by
  unfold getA at h ⊢
  rw [List.find?_append]
  cases e : A.find? fun p => decide (p.1 = z) with
  | some p => rfl
  | none =>
    rw [e] at h
    rcases h with h | h
    · cases h
    · subst h; simp
theorem put_app {A : AL} {x y : Str} (h : getA A x = none) : putD (dicD A) (.inr x) (.str y) = dicD (A ++ [(x, y)]) := by
  unfold putD
  rw [if_neg, show dicD (A ++ [(x, y)]) = dicD A ++ [(.inr x, .str y)] from by unfold dicD; rw [List.map_append]; rfl]
  intro q
  obtain ⟨p, hp, e⟩ := List.any_eq_true.mp q
  unfold dicD at hp
  obtain ⟨z, hz, rfl⟩ := List.mem_map.mp hp
  have e : (Sum.inr z.1 : Key) = Sum.inr x := of_decide_eq_true e
  injection e with e
  have := List.find?_eq_none.mp (Option.map_eq_none_iff.mp h) z hz
  simp [e] at this
abbrev rrT : M Bool := andB (tstB (binE gIsntN (nmE 6) (kE .none))) (tstB (dinE true (nmE 6) (nmE 5)))
abbrev rrB : Stm := ifS rrT (dstS (mutE 4 uPop0 nilL) 5 (nmE 6)) (nxS)
theorem rr2 {t g : List EndS} (ht : TW t) (hg : TW g) {ps : List Nat} {ws : List Str} (hw : ws.Perm sgn) {src : List PyData} : ∃ A fr s6, Let A fr ∧ (∀ x, some x ∈ t ++ g → (getA A x).isSome = true) ∧
    forS (seqI (binE gAdd (nmE 1) (nmE 2))) (fun d r => some (put r 6 (.val d))) rrB (rr t g (some (.val (.list (ints' ps)))) (some (.own (.lst (ws.map .str)))) (some (.own (.dct []))) none none none none src) = .nx (rr t g (some (.val (.list (ints' ps)))) (some (.own (.lst (fr.map .str)))) (some (.own (.dct (dicD A)))) s6 none none none src) := by
  let R : List Str → AL → Option Sl → En := fun fr A s6 => rr t g (some (.val (.list (ints' ps)))) (some (.own (.lst (fr.map .str)))) (some (.own (.dct (dicD A)))) s6 none none none src
  let I : Nat → En → Prop := fun i r => ∃ A fr s6, r = R fr A s6 ∧ Let A fr ∧ ∀ j x, j < i → (t ++ g)[j]? = some (some x) → (getA A x).isSome = true
  have add : binE gAdd (nmE 1) (nmE 2) (R ws [] none) = .ok (.own (.lst (tD (t ++ g)))) (R ws [] none) := bin_eq (a := .list (tD t)) (b := .list (tD g)) (Pv.nm rfl) (Pv.nm rfl) (by
    show (if (tD t).length + (tD g).length ≤ sizeLine then some (Rv.own (Ob.lst (tD t ++ tD g))) else none) = _
    rw [if_pos (by rw [tD_len, tD_len, ht.len, hg.len]; simp [sizeLine]), show tD (t ++ g) = tD t ++ tD g from by unfold tD; rw [List.map_append]])
  have all : ∀ e ∈ t ++ g, e ∈ allE := fun e he => (List.mem_append.mp he).elim (ht.mem e) (hg.mem e)
  obtain ⟨r', e, A, fr, s6, hr, h1, h2⟩ := for_seq (e := binE gAdd (nmE 1) (nmE 2)) (tg := fun d r => some (put r 6 (.val d))) (bd := rrB) (t ++ g) eD (x := .own (.lst (tD (t ++ g)))) (y := .val (.list (tD (t ++ g)))) (r := R ws [] none) add rfl rfl I
    ⟨[], ws, none, rfl, ⟨by simp, fun p hp => (nomatch hp), by simpa using hw⟩, fun j x q => absurd q (Nat.not_lt_zero _)⟩ (fun i r h => rfl) (fun i r e h he => by
    obtain ⟨A, fr, s6, rfl, a1, a2⟩ := h
    let r1 := R fr A (some (.val (eD e)))
    have t1 : Pt (tstB (binE gIsntN (nmE 6) (kE .none))) r1 (!decide (e = none)) := Pt.tst (Pv.bin (Pv.nm rfl) Pv.k (isntN_eD e) rfl)
    have keep : ∀ A' : AL, (∀ z, (getA A z).isSome = true → (getA A' z).isSome = true) → (∀ x, e = some x → (getA A' x).isSome = true) → ∀ j x, j < i + 1 → (t ++ g)[j]? = some (some x) → (getA A' x).isSome = true := fun A' h1 h2 j x hj hx => by
      by_cases q : j < i
      · exact h1 x (a2 j x q hx)
      · have : j = i := by omega
        subst this
        rw [he] at hx
        injection hx with hx
        exact h2 x hx
    cases e with
    | none =>
      have tt : Pt rrT r1 false := by
        have := Pt.and (g := tstB (dinE true (nmE 6) (nmE 5))) (b := false) t1 (fun q => by simp at q)
        simpa using this
      exact ⟨r1, r1, rfl, (if_ok tt).trans rfl, A, fr, _, rfl, a1, keep A (fun _ h => h) fun x q => by cases q⟩
    | some x =>
      have k1 : dctOf r1 (.at (.slot 5)) = some (dicD A) := rfl
      have k2 : (peek r1 (.val (.str x))).bind keyOf = some (.inr x) := rfl
      have d1 : dinE true (nmE 6) (nmE 5) r1 = .ok (.val (.bool (!(getA A x).isSome))) r1 := by
        refine (bnd_ok (f := nmE 6) (x := Rv.val (.str x)) (r1 := r1) rfl).trans ((bnd_ok (f := nmE 5) (x := Rv.at (.slot 5)) (r1 := r1) rfl).trans ?_)
        simp only [k1, k2, val_dic]
        cases getA A x <;> rfl
      have tt : Pt rrT r1 (!(getA A x).isSome) := by
        have := Pt.and (g := tstB (dinE true (nmE 6) (nmE 5))) t1 fun _ => Pt.tst (Pv.val d1)
        simpa using this
      cases hx : getA A x with
      | some y =>
        rw [hx] at tt
        exact ⟨r1, r1, rfl, (if_ok tt).trans rfl, A, fr, _, rfl, a1, keep A (fun _ h => h) fun z q => by cases q; rw [hx]; rfl⟩
      | none =>
        rw [hx] at tt
        have hl := a1.len
        have hf := a1.few
        obtain ⟨fr', y, rfl⟩ : ∃ fr' y, fr = fr' ++ [y] := by
          rcases List.eq_nil_or_concat fr with q | ⟨a, b, q⟩
          · rw [q] at hl; simp at hl; omega
          · exact ⟨a, b, by simpa using q⟩
        let r2 := R fr' A (some (.val (.str x)))
        have m : mutE 4 uPop0 nilL r1 = .ok (.val (.str y)) r2 := mut_go (i := 4) (up := uPop0) (g := nilL) (r := r1) (r1 := r1) (ds := (fr' ++ [y]).map .str) (as := []) (ds' := fr'.map .str) (e := .str y) rfl rfl rfl (by
          show (((fr' ++ [y]).map PyData.str)[((fr' ++ [y]).map PyData.str).length - 1]?.map fun e => (((fr' ++ [y]).map PyData.str).dropLast, e)) = _
          simp)
        have hA : (dicD A).length < sizeLine := by unfold dicD; rw [List.length_map]; exact Nat.lt_of_lt_of_le (show A.length < 13 by omega) (by simp [sizeLine])
        have w : dstS (mutE 4 uPop0 nilL) 5 (nmE 6) r1 = .nx (R fr' (A ++ [(x, y)]) (some (.val (.str x)))) := by
          refine (ofM_ok m).trans ((ofM_ok (f := frz (.val (.str y))) (x := PyData.str y) (r1 := r2) rfl).trans ((ofM_ok (f := nmE 5) (x := Rv.at (.slot 5)) (r1 := r2) rfl).trans ((ofM_ok (f := nmE 6) (x := Rv.val (.str x)) (r1 := r2) rfl).trans ?_)))
          have k3 : look r2 (.slot 5) = some (.live (.dct (dicD A))) := rfl
          have k4 : (peek r2 (.val (.str x))).bind keyOf = some (.inr x) := rfl
          unfold dstF
          simp only [k3, k4]
          rw [if_pos hA, put_app hx]
          rfl
        exact ⟨r1, _, rfl, (if_ok tt).trans w, A ++ [(x, y)], fr', _, rfl, a1.more hx (all _ (List.mem_of_getElem? he)), keep _ (fun z h => get_app (.inl h)) fun z q => by cases q; exact get_app (.inr rfl)⟩)
  subst hr
  exact ⟨A, fr, s6, h1, fun x hx => by
    obtain ⟨j, hj, e⟩ := List.mem_iff_getElem.mp hx
    exact h2 j x hj (by rw [List.getElem?_eq_getElem hj, e]), e⟩
end Lw

/-! Kc3.lean -/
set_option Elab.async false
set_option linter.all false
set_option maxRecDepth 100000
/-! the renamed tables' answers -/
namespace Lw
open PySem L2 Mi Rg
theorem eq_self {D W : Nat} {d : PyData} (h : Sm D W d) (h1 : D ≤ 60) : gEq d d = some (vB true) := by
  unfold gEq eqOk
  rw [h.shaped h1, PySem.SeqAt.eqv_refl d h.lay]
  simp
theorem ne_self {D W : Nat} {d : PyData} (h : Sm D W d) (h1 : D ≤ 60) : gNe d d = some (vB false) := by
  unfold gNe eqOk
  rw [h.shaped h1, PySem.SeqAt.eqv_refl d h.lay]
  simp
theorem ne_numD (a : Option Nat) : gNe (numD a) (numD a) = some (vB false) := by
  cases a with
  | none => rfl
  | some n => exact (ne_int _ _).trans (by simp)
theorem ring_ok {t g : List EndS} {r : List Nat} (hr : r ∈ lawRings t g 10) : r.Nodup ∧ ∀ x ∈ r, x < 10 := by
  unfold lawRings at hr
  obtain ⟨n, hn, rfl⟩ := List.mem_map.mp hr
  obtain ⟨hn, l⟩ := mem_keep.mp hn
  rcases lw_spec t g hn with ⟨_, w, _, _⟩ | ⟨_, o⟩
  · exact ⟨w.nd, w.lt⟩
  · exact absurd l.1 o
theorem sm_rows {C : List (List Nat)} (h : ∀ r ∈ C, r.length ≤ 10 ∧ ∀ x ∈ r, x < 10) (hl : C.length ≤ 10) : Sm 2 3000 (.list (C.map row)) :=
  (Sm.list (xs := C.map row) (D := 1) (W := 210) fun d hd => by
    obtain ⟨r, hr, rfl⟩ := List.mem_map.mp hd
    refine (Sm.list (xs := ints' r) (D := 0) (W := 20) fun x hx => ?_).le (Nat.le_refl _) ?_
    · obtain ⟨n, hn, rfl⟩ := List.mem_map.mp hx
      exact sm_dig ((h r hr).2 n hn)
    · have := (h r hr).1
      unfold ints'
      rw [List.length_map]; omega).le (Nat.le_refl _) (by rw [List.length_map]; omega)
theorem can_len (r : List Nat) : (can r).length ≤ 10 ∧ ∀ x ∈ can r, x < 10 := by
  unfold can
  exact ⟨Nat.le_trans (List.length_filter_le _ _) (by simp), fun x hx => List.mem_range.mp (List.mem_filter.mp hx).1⟩
theorem ix_pi {ps : List Nat} (hl : ps.length = 10) {n : Nat} (hn : n < 10) : gIx (.list (ints' ps)) (.int (n : Int)) = some (.val (.int ((piF ps n : Nat) : Int))) := by
  unfold piF
  rw [List.getD_eq_getElem?_getD, List.getElem?_eq_getElem (by omega)]
  exact ix_ints (List.getElem?_eq_getElem (by omega))
theorem rr3 {n : Nat} {src : List PyData} (hs : SrcOk (n + 26) src) {t g : List EndS} (ht : TW t) (hg : TW g) : ∃ src', SrcOk n src' ∧ G__law_renamed_right [.ref (.lst src), .val (.list (tD t)), .val (.list (tD g))] = .ret (.val (.bool true)) [.live (.lst src')] := by
  obtain ⟨ps, ws, src', hp, hw, hs', s1⟩ := rr1 (t := t) (g := g) hs
  obtain ⟨A, fr, s6, hA, hN, s3⟩ := rr2 ht hg (ps := ps) hw (src := src')
  have nt : ∀ x, some x ∈ t → (getA A x).isSome = true := fun x h => hN x (List.mem_append_left _ h)
  have ng : ∀ x, some x ∈ g → (getA A x).isSome = true := fun x h => hN x (List.mem_append_right _ h)
  obtain ⟨f, f1, f2, f3, f4⟩ := run_put ht.len hp nt
  obtain ⟨k, k1, k2, k3, k4⟩ := run_put hg.len hp ng
  have R := mk_rn hp hA ht.len hg.len f1 k1 nt ng f2 k2
  have tf := tab_put hA f1 nt f3
  have tk := tab_put hA k1 ng k3
  have tt := ht.tab
  have tg := hg.tab
  have hl : ps.length = 10 := by rw [hp.length_eq]; rfl
  have eN : lawN f k = lawN t g := ren_eq R.B R.ht R.ht' R.hg R.hg' R.h1 R.h2 R.h3 R.h4
  let E := fun (s7 s8 s9 : Option Sl) => rr t g (some (.val (.list (ints' ps)))) (some (.own (.lst (fr.map .str)))) (some (.own (.dct (dicD A)))) s6 s7 s8 s9 src'
  let r2 := E (some (.val (.list (tD f)))) (some (.val (.list (tD k)))) none
  have c1 : callE G__law_put (consR (nmE 1) (consR (nmE 3) (consR (nmE 5) (nilR)))) (E none none none) = .ok (.own (.lst (tD f))) (E none none none) := callG (xs := [.val (.list (tD t)), .val (.list (ints' ps)), .at (.slot 5)]) (r1 := E none none none) rfl (as := [.val (.list (tD t)), .val (.list (ints' ps)), .ref (.dct (dicD A))]) (ls := [.slot 5]) rfl rfl f4 rfl
  have c2 : callE G__law_put (consR (nmE 2) (consR (nmE 3) (consR (nmE 5) (nilR)))) (E none none none) = .ok (.own (.lst (tD k))) (E none none none) := callG (xs := [.val (.list (tD g)), .val (.list (ints' ps)), .at (.slot 5)]) (r1 := E none none none) rfl (as := [.val (.list (tD g)), .val (.list (ints' ps)), .ref (.dct (dicD A))]) (ls := [.slot 5]) rfl rfl k4 rfl
  have s4 : parS 7 8 (consR (fzE (callE G__law_put (consR (nmE 1) (consR (nmE 3) (consR (nmE 5) (nilR)))))) (consR (fzE (callE G__law_put (consR (nmE 2) (consR (nmE 3) (consR (nmE 5) (nilR)))))) (nilR))) (E none none none) = .nx r2 := (par_vv (cr_go (fz_own c1) (cr_go (fz_own c2) rfl))).trans rfl
  have n1 : ∀ s9, callE G_fewest_calls (consR (nmE 7) (consR (nmE 8) (nilR))) (E (some (.val (.list (tD f)))) (some (.val (.list (tD k)))) s9) = .ok (.val (numD (lawN t g))) (E (some (.val (.list (tD f)))) (some (.val (.list (tD k)))) s9) := fun s9 => by
    have := run_fewN tf tk
    rw [eN] at this
    exact callV (es := [.list (tD f), .list (tD k)]) rfl this
  have n2 : ∀ s9, callE G_fewest_calls (consR (nmE 1) (consR (nmE 2) (nilR))) (E (some (.val (.list (tD f)))) (some (.val (.list (tD k)))) s9) = .ok (.val (numD (lawN t g))) (E (some (.val (.list (tD f)))) (some (.val (.list (tD k)))) s9) := fun s9 => callV (es := [.list (tD t), .list (tD g)]) rfl (run_fewN tt tg)
  have t5 : Pt (tstB (binE gNe (callE G_fewest_calls (consR (nmE 7) (consR (nmE 8) (nilR)))) (callE G_fewest_calls (consR (nmE 1) (consR (nmE 2) (nilR)))))) r2 false := Pt.tst (Pv.bin (Pv.val (n1 none)) (Pv.val (n2 none)) (ne_numD _) rfl)
  have s5 : ∀ z : Stm, ifS (tstB (binE gNe (callE G_fewest_calls (consR (nmE 7) (consR (nmE 8) (nilR)))) (callE G_fewest_calls (consR (nmE 1) (consR (nmE 2) (nilR)))))) z nxS r2 = .nx r2 := fun z => (if_ok t5).trans rfl
  -- rings
  have g1 : fzE (callE G_rings_of (consR (nmE 1) (consR (nmE 2) (nilR)))) r2 = .ok (.val (.list ((lawRings t g 10).map tupI))) r2 := fz_own (callV (es := [.list (tD t), .list (tD g)]) rfl (run_rings tt tg))
  have lz : ∀ a b : List EndS, (lawRings a b 10).length ≤ 10 := fun a b => lawRings_len a b 10
  have inner : ∀ r ∈ lawRings t g 10, unE gSortY (lcE (seqI (nmE 10)) (fun d r => some (put r 11 (.val d))) [11] (yesB) (binE gIx (nmE 3) (nmE 11))) (put r2 10 (.val (tupI r))) = .ok (.own (.lst (ints' (can (r.map (piF ps)))))) (put r2 10 (.val (tupI r))) := fun r hr => by
    obtain ⟨nd, lt⟩ := ring_ok hr
    have hz : r.length ≤ 10 := by have := nodup_sub r (List.range 10) nd fun x hx => List.mem_range.mpr (lt x hx); simpa using this
    have q := lcE_eq (it := seqI (nmE 10)) (s := ⟨tupNth (.val (tupI r)), (ints' r).length⟩) (tg := fun d r => some (put r 11 (.val d))) (T := [11]) (tt := yesB) (f := binE gIx (nmE 3) (nmE 11)) (r := put r2 10 (.val (tupI r))) (r1 := put r2 10 (.val (tupI r))) (W := put r2 10 (.val (tupI r))) rfl rfl rfl rfl r (fun (i : Nat) => PyData.int (i : Int)) (fun i => by
      show some ((ints' r)[i]?) = _
      unfold ints'
      rw [List.getElem?_map]) (by unfold ints'; rw [List.length_map]; exact Nat.le_refl _) (Nat.le_trans hz (by decide)) (fun _ => true) (fun n => .int ((piF ps n : Nat) : Int)) fun d hd => by
        let q2 : En := put (put r2 10 (.val (tupI r))) 11 (.val (.int (d : Int)))
        exact ⟨q2, rfl, q2, rfl, rfl, fun _ => ⟨q2, val_frz (bin_eq (Pv.nm rfl) (Pv.nm rfl) (ix_pi hl (lt d hd))), rfl⟩⟩
    rw [ft] at q
    have q : lcE (seqI (nmE 10)) (fun d r => some (put r 11 (.val d))) [11] (yesB) (binE gIx (nmE 3) (nmE 11)) (put r2 10 (.val (tupI r))) = .ok (.own (.lst (ints' (r.map (piF ps))))) (put r2 10 (.val (tupI r))) := q.trans (by unfold ints'; rw [List.map_map]; rfl)
    have nd' : (r.map (piF ps)).Nodup := map_nodup nd fun a b ha hb e => by
      rw [← (ps_ok hp).2.2.1 a (lt a ha), ← (ps_ok hp).2.2.1 b (lt b hb), e]
    exact un_go q rfl (sortY_list nd' fun x hx => by
      obtain ⟨y, hy, rfl⟩ := List.mem_map.mp hx
      exact (ps_ok hp).1 y (lt y hy))
  have s6' : setS 9 (lcE (seqI (fzE (callE G_rings_of (consR (nmE 1) (consR (nmE 2) (nilR)))))) (fun d r => some (put r 10 (.val d))) [10] (yesB) (unE gSortY (lcE (seqI (nmE 10)) (fun d r => some (put r 11 (.val d))) [11] (yesB) (binE gIx (nmE 3) (nmE 11))))) r2 = .nx (E (some (.val (.list (tD f)))) (some (.val (.list (tD k)))) (some (.own (.lst (((lawRings t g 10).map fun r => can (r.map (piF ps))).map row))))) := by
    refine (set_own ((lcE_seq (T := [10]) (lawRings t g 10) tupI (x := .val (.list ((lawRings t g 10).map tupI))) (y := .val (.list ((lawRings t g 10).map tupI))) (r1 := r2) (r2 := r2) (W := r2) g1 rfl rfl rfl (Nat.le_trans (lz t g) (by decide)) rfl rfl rfl rfl (fun _ => true) (fun r => row (can (r.map (piF ps)))) fun r hr => ?_).trans ?_)).trans (rfl : Out.nx (put r2 9 (.own (.lst (((lawRings t g 10).map fun r => can (r.map (piF ps))).map row)))) = _)
    · exact ⟨put r2 10 (.val (tupI r)), rfl, _, rfl, rfl, fun _ => ⟨_, own_frz (inner r hr), rfl⟩⟩
    · rw [ft, List.map_map]; rfl
  let r3 := E (some (.val (.list (tD f)))) (some (.val (.list (tD k)))) (some (.own (.lst (((lawRings t g 10).map fun r => can (r.map (piF ps))).map row))))
  have g2 : fzE (callE G_rings_of (consR (nmE 7) (consR (nmE 8) (nilR)))) r3 = .ok (.val (.list ((lawRings f k 10).map tupI))) r3 := fz_own (callV (es := [.list (tD f), .list (tD k)]) rfl (run_rings tf tk))
  have l2 : lcE (seqI (fzE (callE G_rings_of (consR (nmE 7) (consR (nmE 8) (nilR)))))) (fun d r => some (put r 10 (.val d))) [10] (yesB) (unE gSortY (nmE 10)) r3 = .ok (.own (.lst (((lawRings f k 10).map can).map row))) r3 := by
    refine (lcE_seq (T := [10]) (lawRings f k 10) tupI (x := .val (.list ((lawRings f k 10).map tupI))) (y := .val (.list ((lawRings f k 10).map tupI))) (r1 := r3) (r2 := r3) (W := r3) g2 rfl rfl rfl (Nat.le_trans (lz f k) (by decide)) rfl rfl rfl rfl (fun _ => true) (fun r => row (can r)) fun r hr => ?_).trans ?_
    · obtain ⟨nd, lt⟩ := ring_ok hr
      exact ⟨put r3 10 (.val (tupI r)), rfl, _, rfl, rfl, fun _ => ⟨_, own_frz (un_eq (f := nmE 10) (a := tupI r) (Pv.nm rfl) (sortY_tup nd lt)), rfl⟩⟩
    · rw [ft, List.map_map]; rfl
  obtain ⟨C, hC, e1, e2⟩ := rows_same (rings_ren R)
  have smC : Sm 2 3000 (.list (C.map row)) := sm_rows (fun r hr => by
    obtain ⟨q, _, rfl⟩ := List.mem_map.mp (hC.mem_iff.mp hr)
    exact can_len _) (by rw [hC.length_eq, List.length_map]; exact lz t g)
  have t7 : Pt (tstB (binE gNe (unE gSortY (nmE 9)) (unE gSortY (lcE (seqI (fzE (callE G_rings_of (consR (nmE 7) (consR (nmE 8) (nilR)))))) (fun d r => some (put r 10 (.val d))) [10] (yesB) (unE gSortY (nmE 10)))))) r3 false :=
    Pt.tst (Pv.bin (Pv.un (pa_own rfl).pv e1 rfl) (Pv.un (Pv.own' l2) e2 rfl) (ne_self smC (by decide)) rfl)
  have s7 : ∀ z : Stm, ifS (tstB (binE gNe (unE gSortY (nmE 9)) (unE gSortY (lcE (seqI (fzE (callE G_rings_of (consR (nmE 7) (consR (nmE 8) (nilR)))))) (fun d r => some (put r 10 (.val d))) [10] (yesB) (unE gSortY (nmE 10)))))) z nxS r3 = .nx r3 := fun z => (if_ok t7).trans rfl
  refine ⟨src', hs', ?_⟩
  have body : ∀ o : Out, (seqS (ifS (tstB (binE gIsN (callE G_fewest_calls (consR (nmE 1) (consR (nmE 2) (nilR)))) (kE .none))) (retS (kE (.bool true))) (nxS)) <| retS (binE gEq (unE gSortY (lcE (seqI (fzE (callE G_next_calls (consR (nmE 1) (consR (nmE 2) (nilR)))))) (fun d r => some (put r 12 (.val d))) [12] (yesB) (callE G__law_moved (consR (nmE 12) (consR (nmE 3) (nilR)))))) (fzE (callE G_next_calls (consR (nmE 7) (consR (nmE 8) (nilR))))))) r3 = .rt (.val (.bool true)) r3 := fun _ => by
    cases hn : lawN t g with
    | none =>
      have t8 : Pt (tstB (binE gIsN (callE G_fewest_calls (consR (nmE 1) (consR (nmE 2) (nilR)))) (kE .none))) r3 true := Pt.tst (Pv.bin (Pv.val (by have := n2 (some (.own (.lst (((lawRings t g 10).map fun r => can (r.map (piF ps))).map row)))); rw [hn] at this; exact this)) Pv.k (rfl : gIsN .none .none = some (vB true)) rfl)
      exact seq_rt ((if_ok t8).trans rfl)
    | some n =>
      have t8 : Pt (tstB (binE gIsN (callE G_fewest_calls (consR (nmE 1) (consR (nmE 2) (nilR)))) (kE .none))) r3 false := Pt.tst (Pv.bin (Pv.val (by have := n2 (some (.own (.lst (((lawRings t g 10).map fun r => can (r.map (piF ps))).map row)))); rw [hn] at this; exact this)) Pv.k (rfl : gIsN (.int (n : Int)) .none = some (vB false)) rfl)
      refine (seq_ok' ((if_ok t8).trans rfl)).trans ?_
      have ok1 : ∀ c ∈ nextL t g n, c.ok := fun c hc => calls_ok (List.mem_filter.mp hc).1
      have ok2 : ∀ c ∈ nextL f k n, c.ok := fun c hc => calls_ok (List.mem_filter.mp hc).1
      have h1 : fzE (callE G_next_calls (consR (nmE 1) (consR (nmE 2) (nilR)))) r3 = .ok (.val (.list ((nextL t g n).map cD))) r3 := fz_own (callV (es := [.list (tD t), .list (tD g)]) rfl (run_nextN tt tg hn))
      have h2 : fzE (callE G_next_calls (consR (nmE 7) (consR (nmE 8) (nilR)))) r3 = .ok (.val (.list ((nextL f k n).map cD))) r3 := fz_own (callV (es := [.list (tD f), .list (tD k)]) rfl (run_nextN tf tk (eN.trans hn)))
      have h3 : lcE (seqI (fzE (callE G_next_calls (consR (nmE 1) (consR (nmE 2) (nilR)))))) (fun d r => some (put r 12 (.val d))) [12] (yesB) (callE G__law_moved (consR (nmE 12) (consR (nmE 3) (nilR)))) r3 = .ok (.own (.lst (((nextL t g n).map (mvC (piF ps))).map cD))) r3 := by
        have nl : (nextL t g n).length ≤ 110 := Nat.le_trans (List.length_filter_le _ _) (calls_len t)
        refine (lcE_seq (T := [12]) (nextL t g n) cD (x := .val (.list ((nextL t g n).map cD))) (y := .val (.list ((nextL t g n).map cD))) (r1 := r3) (r2 := r3) (W := r3) h1 rfl rfl rfl (Nat.le_trans nl (by decide)) rfl rfl rfl rfl (fun _ => true) (fun c => cD (mvC (piF ps) c)) fun c hc => ?_).trans ?_
        · exact ⟨put r3 12 (.val (cD c)), rfl, _, rfl, rfl, fun _ => ⟨_, val_frz (callV (es := [cD c, .list (ints' ps)]) rfl (run_moved hl (ok1 c hc))), rfl⟩⟩
        · rw [ft, List.map_map]; rfl
      have h4 := sort_calls (L := (nextL t g n).map (mvC (piF ps))) (fun c hc => by
        obtain ⟨a, ha, rfl⟩ := List.mem_map.mp hc
        exact mv_ok hp (ok1 a ha)) (next_ren R hn) ((calls_sorted f).filter _)
      exact ret_ok (bin_eq (Pv.un (Pv.own' h3) h4 rfl) (Pv.val h2) (eq_self (sm_calls ok2 (Nat.le_trans (List.length_filter_le _ _) (calls_len f))) (by decide)))
  exact (run_eq (r := rr t g none none none none none none none src) rfl rfl ((seq_ok' s1).trans ((seq_ok' (r1 := rr t g (some (.val (.list (ints' ps)))) (some (.own (.lst (ws.map .str)))) (some (.own (.dct []))) none none none none src') rfl).trans ((seq_ok' s3).trans ((seq_ok' s4).trans ((seq_ok' (s5 _)).trans ((seq_ok' s6').trans ((seq_ok' (s7 _)).trans (body .no))))))))).trans rfl
end Lw

/-! Kd1.lean -/
set_option Elab.async false
set_option linter.all false
set_option maxRecDepth 100000
/-! the told calls, call by call -/
namespace Lw
open PySem L2 Mi Rg
def gr : Nat → List EndS → List EndS → List CallT
  | 0, _, _ => []
  | n + 1, t, g => match (callsL t).find? (wellB t g 11 (n + 1)) with
    | some c => c :: gr n (behind t c) g
    | none => []
theorem run_betweenG {t g : List EndS} (ht : TW t) (hg : TW g) {many : Nat} (hn : lawN t g = some many) (hm : many < 100) : ∃ L : List CallT, L.length = many ∧ PossL t L ∧ playL t L = g ∧ L = gr many t g ∧ G_calls_between [.val (.list (tD t)), .val (.list (tD g))] = .ret (.own (.lst (L.map cD))) [] := by
  have tt := ht.tab
  have tg := hg.tab
  have hn' : countN t g 11 = some many := by rw [number_same ht.len hg.len]; exact hn
  let r0 : En := ⟨[some (.val (.list (tD t))), some (.val (.list (tD g))), none, none, none, none, none], []⟩
  let r1 : En := ⟨[some (.val (.list (tD t))), some (.val (.list (tD g))), some (.val (.int (many : Int))), none, none, none, none], []⟩
  let r2 : En := ⟨[some (.val (.list (tD t))), some (.val (.list (tD g))), some (.val (.int (many : Int))), some (.own (.lst [])), none, none, none], []⟩
  have s1 : setS 2 (callE G_needed_calls (consR (nmE 0) (consR (nmE 1) (nilR)))) r0 = .nx r1 := (set_val (callV (g := consR (nmE 0) (consR (nmE 1) nilR)) (r := r0) (es := [.list (tD t), .list (tD g)]) rfl (run_needed tt tg 11 (by decide) (done_links t g) hn'))).trans rfl
  have s2 : setS 3 (lstE (nilL)) r1 = .nx r2 := (set_own (lst_eq (ds := []) rfl (Nat.zero_le _))).trans rfl
  have s3 : setS 4 (nmE 0) r2 = .nx (cbEnv t g t false many [] none none) := (set_val (d := .list (tD t)) (r1 := r2) rfl).trans rfl
  let I : Nat → En → Prop := fun i r => ∃ acc e b s5 s6, r = cbEnv t g e b many acc s5 s6 ∧ acc.length = i ∧ e = playL t acc ∧ PossL t acc ∧ lawN e g = some (many - i) ∧ acc ++ gr (many - i) e g = gr many t g
  obtain ⟨r', e4, acc, e, b, s5, s6, hr, h1, h2, h3, h4, h5⟩ := forN_inv (nth := rngDn (many : Int) many) (tg := fun d r => some (put r 5 (.val d))) (bd := seqS (setS 6 (callE G_least_call (consR (nmE 4) (consR (nmE 1) (consR (nmE 5) (nilR)))))) <| seqS (dropS (mutE 3 uApp (consL (nmE 6) (nilL)))) <| setS 4 (callE G_table_behind (consR (nmE 4) (consR (nmE 6) (consR (tupE (nilL)) (nilR)))))) (List.range many) (fun i => .int ((many : Int) + ((i : Nat) : Int) * (-1))) I (fun i r _ => by
      show (if i < many then some (some (PyData.int ((many : Int) + ((i : Nat) : Int) * (-1)))) else some none) = _
      by_cases h : i < many
      · rw [if_pos h]; simp [h]
      · rw [if_neg h]; simp [h]) (fun i r x h hx => by
      obtain ⟨hi, ex⟩ := List.getElem?_eq_some_iff.mp hx
      have hi : i < many := by simpa using hi
      have ex : x = i := by simpa using ex.symm
      subst ex
      obtain ⟨acc, e, b, s5, s6, rfl, a1, a2, a3, a4, a5⟩ := h
      have he : TW e := a2 ▸ ht.play acc
      have el : (many : Int) + ((x : Nat) : Int) * (-1) = ((many - x - 1 + 1 : Nat) : Int) := by omega
      have a4' : lawN e g = some (many - x - 1 + 1) := by rw [a4]; congr 1; omega
      obtain ⟨c, f1, f2, f3⟩ := find_some he.len hg.len a4'
      let q : Option Sl := some (.val (.int ((many - x - 1 + 1 : Nat) : Int)))
      let R1 := cbEnv t g e b many acc q s6
      have p4 : ∀ (acc : List CallT) (s6 : Option Sl), Pa (nmE 4) (cbEnv t g e b many acc q s6) (tD e) := fun acc s6 => by cases b; exact pa_val rfl; exact pa_own rfl
      have c1 : callE G_least_call (consR (nmE 4) (consR (nmE 1) (consR (nmE 5) (nilR)))) R1 = .ok (.val (cD c)) R1 := callB (r := R1) (g := consR (nmE 1) (consR (nmE 5) nilR)) (es := [.list (tD g), .int ((many - x - 1 + 1 : Nat) : Int)]) (p4 acc s6) rfl fun b => run_least b he.tab tg f1
      have z1 : setS 6 (callE G_least_call (consR (nmE 4) (consR (nmE 1) (consR (nmE 5) (nilR))))) R1 = .nx (cbEnv t g e b many acc q (some (.val (cD c)))) := (set_val c1).trans rfl
      have hz : (acc.map cD).length < sizeLine := by
        rw [List.length_map]
        exact Nat.lt_of_lt_of_le (show acc.length < 1000 by omega) (by decide)
      have z2 : dropS (mutE 3 uApp (consL (nmE 6) (nilL))) (cbEnv t g e b many acc q (some (.val (cD c)))) = .nx (cbEnv t g e b many (acc ++ [c]) q (some (.val (cD c)))) := by
        have m := mut_go (i := 3) (up := uApp) (g := consL (nmE 6) (nilL)) (r := cbEnv t g e b many acc q (some (.val (cD c)))) (r1 := cbEnv t g e b many acc q (some (.val (cD c)))) (ds := acc.map cD) (as := [cD c]) (ds' := (acc ++ [c]).map cD) (e := .none) rfl (lst1 (nm_frz rfl)) rfl (by
          show (if (acc.map cD).length < sizeLine then some (acc.map cD ++ [cD c], PyData.none) else none) = _
          rw [if_pos hz, List.map_append]
          rfl)
        exact (ofM_ok m).trans rfl
      have c3 : callE G_table_behind (consR (nmE 4) (consR (nmE 6) (consR (tupE (nilL)) (nilR)))) (cbEnv t g e b many (acc ++ [c]) q (some (.val (cD c)))) = .ok (.own (.lst (tD (behind e c)))) (cbEnv t g e b many (acc ++ [c]) q (some (.val (cD c)))) := callB (g := consR (nmE 6) (consR (tupE nilL) nilR)) (es := [cD c, .tuple []]) (p4 _ _) rfl fun b => run_behindB b he.len (calls_ok f2)
      have z3 : setS 4 (callE G_table_behind (consR (nmE 4) (consR (nmE 6) (consR (tupE (nilL)) (nilR))))) (cbEnv t g e b many (acc ++ [c]) q (some (.val (cD c)))) = .nx (cbEnv t g (behind e c) true many (acc ++ [c]) q (some (.val (cD c)))) := (set_own c3).trans rfl
      refine ⟨R1, _, ?_, (seq_ok' z1).trans ((seq_ok' z2).trans z3), acc ++ [c], behind e c, true, q, _, rfl, by simp [a1], ?_, ?_, ?_, ?_⟩
      · rw [el]; rfl
      · rw [play_snoc, a2]
      · exact poss_snoc t acc c a3 (a2 ▸ f2)
      · rw [f3]; rfl
      · rw [← a5, show many - x = many - (x + 1) + 1 from by omega]
        have f1' : (callsL e).find? (wellB e g 11 (many - (x + 1) + 1)) = some c := by rw [← f1]; congr 2
        show _ = acc ++ (match (callsL e).find? (wellB e g 11 (many - (x + 1) + 1)) with | some c => c :: gr (many - (x + 1)) (behind e c) g | none => [])
        rw [f1']
        simp) many 0 (cbEnv t g t false many [] none none) ⟨[], t, false, none, none, rfl, rfl, rfl, trivial, by rw [hn]; rfl, rfl⟩ (Nat.zero_le _) (by simp)
  rw [List.length_range] at h1 h4 h5
  subst hr
  rw [Nat.sub_self] at h4 h5
  have he : TW e := h2 ▸ ht.play acc
  have eg := zero_eq he.len hg.len h4
  refine ⟨acc, h1, h3, h2.symm.trans eg, by simpa [gr] using h5, ?_⟩
  have q0 : rngD (nmE 2) (kE (.int 0)) (unE gNeg (kE (.int 1))) (cbEnv t g t false many [] none none) = .ok ⟨rngDn (many : Int) many, many⟩ (cbEnv t g t false many [] none none) := by
    refine rngD_run (n := many) ?_ ?_ (neg1 _) (by omega)
    · rfl
    · rfl
  have e5 : forS (rngD (nmE 2) (kE (.int 0)) (unE gNeg (kE (.int 1)))) (fun d r => some (put r 5 (.val d))) (seqS (setS 6 (callE G_least_call (consR (nmE 4) (consR (nmE 1) (consR (nmE 5) (nilR)))))) <| seqS (dropS (mutE 3 uApp (consL (nmE 6) (nilL)))) <| setS 4 (callE G_table_behind (consR (nmE 4) (consR (nmE 6) (consR (tupE (nilL)) (nilR)))))) (cbEnv t g t false many [] none none) = .nx (cbEnv t g e b many acc s5 s6) := by
    refine (ofM_ok q0).trans ?_
    exact e4
  exact (run_eq (r := r0) rfl rfl ((seq_ok' s1).trans ((seq_ok' s2).trans ((seq_ok' s3).trans ((seq_ok' e5).trans (ret_ok (show nmE 3 (cbEnv t g e b many acc s5 s6) = .ok (.at (.slot 3)) _ from rfl))))))).trans rfl
end Lw

/-! Kd2.lean -/
set_option Elab.async false
set_option linter.all false
set_option maxRecDepth 100000
/-! the law's questions about calls -/
namespace Lw
open PySem L2 Mi Rg
theorem eqv_cD (a b : CallT) : PyData.eqv (cD a) (cD b) = decide (a = b) := by
  rw [Bool.eq_iff_iff]
  cases a with
  | close n => cases b with
    | close m => simp [cD, PyData.eqv, PyData.eqvAll]; omega
    | copy m j => simp [cD, PyData.eqv, PyData.eqvAll]
  | copy n i => cases b with
    | close m => simp [cD, PyData.eqv, PyData.eqvAll]
    | copy m j => simp [cD, PyData.eqv, PyData.eqvAll]; omega
theorem notIn_cD {L : List CallT} (hL : ∀ c ∈ L, c.ok) (hl : L.length ≤ 110) {c : CallT} (hc : c.ok) : gNotIn (cD c) (.list (L.map cD)) = some (vB (!decide (c ∈ L))) := by
  have h1 : ((L.map cD).any fun z => PyData.eqv z (cD c)) = decide (c ∈ L) := by
    rw [List.any_map, Bool.eq_iff_iff]
    simp only [List.any_eq_true, Function.comp, eqv_cD, decide_eq_true_eq]
    exact ⟨fun ⟨x, hx, h⟩ => h ▸ hx, fun h => ⟨c, h, rfl⟩⟩
  have h2 : gInB (cD c) (.list (L.map cD)) = if (SeqAt.shaped (cD c) && SeqAt.shaped (.list (L.map cD))) = true then some ((L.map cD).any fun z => PyData.eqv z (cD c)) else none := by
    cases c <;> rfl
  unfold gNotIn
  rw [h2, (sm_call hc).shaped (by decide), (sm_calls hL hl).shaped (by decide), h1]
  rfl
def ce (t g : List EndS) (s3 s4 s5 s6 s7 s8 : Option Sl) (src : List PyData) : En :=
  ⟨[some (.bor 0), some (.val (.list (tD t))), some (.val (.list (tD g))), s3, s4, s5, s6, s7, s8], [.live (.lst src)]⟩
theorem ce_after {t g : List EndS} (ht : TW t) {c : CallT} (hc : c ∈ callsL t) (s3 s4 s6 s7 s8 : Option Sl) (src : List PyData) :
    fzE (callE G_after_calls (consR (nmE 1) (consR (fzE (lstE (consL (nmE 5) (nilL)))) (nilR)))) (ce t g s3 s4 (some (.val (cD c))) s6 s7 s8 src) = .ok (.val (.list (tD (behind t c)))) (ce t g s3 s4 (some (.val (cD c))) s6 s7 s8 src) := by
  have l : lstE (consL (nmE 5) (nilL)) (ce t g s3 s4 (some (.val (cD c))) s6 s7 s8 src) = .ok (.own (.lst [cD c])) (ce t g s3 s4 (some (.val (cD c))) s6 s7 s8 src) := lst_eq (ds := [cD c]) (cl_go (x := .val (cD c)) rfl rfl rfl) (by simp [sizeLine])
  exact fz_own (callV (es := [.list (tD t), .list [cD c]]) (cr_go (x := .val (.list (tD t))) rfl (cr_go (fz_own l) rfl)) (run_after_calls (L := [c]) ht.tab ⟨hc, trivial⟩ (by simp)))
theorem ce_few {t g : List EndS} (ht : TW t) (hg : TW g) {c : CallT} (hc : c ∈ callsL t) (s3 s4 s6 s7 s8 : Option Sl) (src : List PyData) :
    callE G_fewest_calls (consR (fzE (callE G_after_calls (consR (nmE 1) (consR (fzE (lstE (consL (nmE 5) (nilL)))) (nilR))))) (consR (nmE 2) (nilR))) (ce t g s3 s4 (some (.val (cD c))) s6 s7 s8 src) = .ok (.val (numD (lawN (behind t c) g))) (ce t g s3 s4 (some (.val (cD c))) s6 s7 s8 src) :=
  callV (es := [.list (tD (behind t c)), .list (tD g)]) (cr_go (ce_after ht hc s3 s4 s6 s7 s8 src) (cr_go (x := .val (.list (tD g))) rfl rfl)) (run_fewN (ht.behind c).tab hg.tab)
abbrev crB1 : Stm := ifS (tstB (binE gNe (callE G_fewest_calls (consR (fzE (callE G_after_calls (consR (nmE 1) (consR (fzE (lstE (consL (nmE 5) (nilL)))) (nilR))))) (consR (nmE 2) (nilR)))) (binE gSubI (nmE 3) (kE (.int 1))))) (retS (kE (.bool false))) (nxS)
theorem cr1 {t g : List EndS} (ht : TW t) (hg : TW g) {n : Nat} (src : List PyData) : ∃ s5, forS (seqI (slE (nmE 4) none (some (kE (.int 4))))) (fun d r => some (put r 5 (.val d))) crB1 (ce t g (some (.val (.int (n : Int)))) (some (.val (.list ((nextL t g n).map cD)))) none none none none src) = .nx (ce t g (some (.val (.int (n : Int)))) (some (.val (.list ((nextL t g n).map cD)))) s5 none none none src) := by
  let E := fun s5 => ce t g (some (.val (.int (n : Int)))) (some (.val (.list ((nextL t g n).map cD)))) s5 none none none src
  let I : Nat → En → Prop := fun i r => ∃ s5, r = E s5
  have l0 := sl_go (f := nmE 4) (r := E none) (lo := none) (hi := some (kE (.int 4))) (ds := (nextL t g n).map cD) (show nmE 4 (E none) = .ok (.val (.list ((nextL t g n).map cD))) (E none) from rfl) (show optI none (E none) = .ok none (E none) from rfl) (opt_some (f := kE (.int 4)) (x := .val (.int ((4 : Nat) : Int))) rfl rfl) rfl
  rw [cut_to, ← List.map_take] at l0
  obtain ⟨r', e, s5, hr⟩ := for_seq (tg := fun d r => some (put r 5 (.val d))) (bd := crB1) ((nextL t g n).take 4) cD (y := .val (.list (((nextL t g n).take 4).map cD))) l0 rfl rfl I ⟨none, rfl⟩ (fun i r _ => rfl) (fun i r c h hc => by
    obtain ⟨s5, rfl⟩ := h
    have hm : c ∈ nextL t g n := List.mem_of_mem_take (List.mem_of_getElem? hc)
    obtain ⟨q1, q2, q3⟩ := (mem_next ht.len hg.len).mp hm
    have f1 := ce_few ht hg q1 (some (.val (.int (n : Int)))) (some (.val (.list ((nextL t g n).map cD)))) none none none src
    rw [q2] at f1
    have e2 : gSubI (.int (n : Int)) (.int 1) = some (.val (.int ((n - 1 : Nat) : Int))) := by
      show some (vI ((n : Int) - 1)) = _
      rw [show (n : Int) - 1 = ((n - 1 : Nat) : Int) from by omega]
    have tt : Pt (tstB (binE gNe (callE G_fewest_calls (consR (fzE (callE G_after_calls (consR (nmE 1) (consR (fzE (lstE (consL (nmE 5) (nilL)))) (nilR))))) (consR (nmE 2) (nilR)))) (binE gSubI (nmE 3) (kE (.int 1))))) (E (some (.val (cD c)))) false := Pt.tst (Pv.bin (Pv.val f1) (Pv.bin (Pv.nm rfl) Pv.k e2 rfl) (ne_numD (some (n - 1))) rfl)
    exact ⟨E (some (.val (cD c))), E (some (.val (cD c))), rfl, (if_ok tt).trans rfl, _, rfl⟩)
  subst hr
  exact ⟨s5, e⟩
abbrev crT : M Bool := andB (tstT (callE G_is_calls (consR (nmE 1) (consR (fzE (lstE (consL (nmE 5) (nilL)))) (nilR))))) (tstB (binE gNotIn (nmE 5) (nmE 4)))
abbrev crI : Stm := ifS (andB (tstB (binE gIsntN (nmE 7) (kE .none))) (tstB (binE gLt (nmE 7) (nmE 3)))) (retS (kE (.bool false))) (nxS)
abbrev crB2 : Stm := seqS (setS 5 (tupE (consL (kE (.str "copy")) (consL (callE G__law_draw (consR (nmE 0) (consR (kE (.int 10)) (nilR)))) (consL (callE G__law_draw (consR (nmE 0) (consR (kE (.int 10)) (nilR)))) (nilL)))))) <| ifS crT (seqS (setS 7 (callE G_fewest_calls (consR (fzE (callE G_after_calls (consR (nmE 1) (consR (fzE (lstE (consL (nmE 5) (nilL)))) (nilR))))) (consR (nmE 2) (nilR))))) crI) (nxS)
theorem cr2 {t g : List EndS} (ht : TW t) (hg : TW g) {m : Nat} (hn : lawN t g = some m) {n : Nat} {src : List PyData} (hs : SrcOk (n + 12) src) (s5 : Option Sl) : ∃ s5' s6' s7' src', SrcOk n src' ∧
    forS (rng1 (kE (.int 6))) (fun d r => some (put r 6 (.val d))) crB2 (ce t g (some (.val (.int (m : Int)))) (some (.val (.list ((nextL t g m).map cD)))) s5 none none none src) = .nx (ce t g (some (.val (.int (m : Int)))) (some (.val (.list ((nextL t g m).map cD)))) s5' s6' s7' none src') := by
  let E := fun s5 s6 s7 src => ce t g (some (.val (.int (m : Int)))) (some (.val (.list ((nextL t g m).map cD)))) s5 s6 s7 none src
  let I : Nat → En → Prop := fun i r => ∃ s5 s6 s7 src, r = E s5 s6 s7 src ∧ SrcOk (n + 2 * (6 - i)) src
  have ok1 : ∀ c ∈ nextL t g m, c.ok := fun c hc => calls_ok (List.mem_filter.mp hc).1
  have nl : (nextL t g m).length ≤ 110 := Nat.le_trans (List.length_filter_le _ _) (calls_len t)
  obtain ⟨r', e, s5', s6', s7', src', hr, h1⟩ := for_rng (e := kE (.int 6)) (n := 6) (tg := fun d r => some (put r 6 (.val d))) (bd := crB2) (r := E s5 none none src) rfl (by decide) I ⟨s5, none, none, src, rfl, hs⟩ (fun i r h hi => by
    obtain ⟨s5, s6, s7, src1, rfl, a1⟩ := h
    let q6 : Option Sl := some (.val (.int (i : Int)))
    obtain ⟨v, src2, hv, hs2, d1⟩ := draw_at (i := 0) (l := .obj 0) (L := 10) (n := n + 2 * (6 - (i + 1)) + 1) (f := kE (.int 10)) (r := E s5 q6 s7 src1) (src := src1) rfl rfl (a1.le (by omega)) rfl (by decide) (by decide)
    have d1 : callE G__law_draw (consR (nmE 0) (consR (kE (.int 10)) (nilR))) (E s5 q6 s7 src1) = .ok (.val (.int ((v : Nat) : Int))) (E s5 q6 s7 src2) := d1
    obtain ⟨w, src3, hw, hs3, d2⟩ := draw_at (i := 0) (l := .obj 0) (L := 10) (n := n + 2 * (6 - (i + 1))) (f := kE (.int 10)) (r := E s5 q6 s7 src2) (src := src2) rfl rfl hs2 rfl (by decide) (by decide)
    have d2 : callE G__law_draw (consR (nmE 0) (consR (kE (.int 10)) (nilR))) (E s5 q6 s7 src2) = .ok (.val (.int ((w : Nat) : Int))) (E s5 q6 s7 src3) := d2
    let c : CallT := .copy v w
    have hc : c.ok := ⟨hv, hw⟩
    have z1 : setS 5 (tupE (consL (kE (.str "copy")) (consL (callE G__law_draw (consR (nmE 0) (consR (kE (.int 10)) (nilR)))) (consL (callE G__law_draw (consR (nmE 0) (consR (kE (.int 10)) (nilR)))) (nilL))))) (E s5 q6 s7 src1) = .nx (E (some (.val (cD c))) q6 s7 src3) :=
      (set_val (tup_eq (ds := [.str "copy", .int (v : Int), .int (w : Int)]) (cl_go (x := .val (.str "copy")) rfl rfl (cl_go d1 rfl (cl_go d2 rfl rfl))) (by simp [sizeLine]))).trans rfl
    let r1 := E (some (.val (cD c))) q6 s7 src3
    have l : lstE (consL (nmE 5) (nilL)) r1 = .ok (.own (.lst [cD c])) r1 := lst_eq (ds := [cD c]) (cl_go (x := .val (cD c)) rfl rfl rfl) (by simp [sizeLine])
    have i1 : callE G_is_calls (consR (nmE 1) (consR (fzE (lstE (consL (nmE 5) (nilL)))) (nilR))) r1 = .ok (.val (.bool (decide (c ∈ callsL t)))) r1 := callV (es := [.list (tD t), .list [cD c]]) (cr_go (x := .val (.list (tD t))) rfl (cr_go (fz_own l) rfl)) (run_is_calls ht.tab hc)
    have tt : Pt crT r1 (decide (c ∈ callsL t) && !decide (c ∈ nextL t g m)) := Pt.and (Pt.tstT (Pv.val i1)) fun _ => Pt.tst (Pv.bin (Pv.nm rfl) (Pv.nm rfl) (notIn_cD ok1 nl hc) rfl)
    refine ⟨E s5 q6 s7 src1, ?_⟩
    by_cases h2 : c ∈ callsL t ∧ c ∉ nextL t g m
    · rw [decide_eq_true h2.1, decide_eq_false h2.2] at tt
      have f1 := ce_few ht hg h2.1 (some (.val (.int (m : Int)))) (some (.val (.list ((nextL t g m).map cD)))) q6 s7 none src3
      let r2 := E (some (.val (cD c))) q6 (some (.val (numD (lawN (behind t c) g)))) src3
      have z2 : setS 7 (callE G_fewest_calls (consR (fzE (callE G_after_calls (consR (nmE 1) (consR (fzE (lstE (consL (nmE 5) (nilL)))) (nilR))))) (consR (nmE 2) (nilR)))) r1 = .nx r2 := (set_val f1).trans rfl
      have z3 : crI r2 = .nx r2 := by
        have key : Pt (andB (tstB (binE gIsntN (nmE 7) (kE .none))) (tstB (binE gLt (nmE 7) (nmE 3)))) r2 false := by
          cases q : lawN (behind t c) g with
          | none =>
            have t1 : Pt (tstB (binE gIsntN (nmE 7) (kE .none))) r2 false := Pt.tst (Pv.bin (Pv.nm (i := 7) (d := numD none) (by show some (some (Sl.val (numD (lawN (behind t c) g)))) = _; rw [q])) Pv.k (rfl : gIsntN (numD none) .none = some (vB false)) rfl)
            have := Pt.and (g := tstB (binE gLt (nmE 7) (nmE 3))) (b := false) t1 (fun z => by cases z)
            simpa using this
          | some k =>
            have hk : ¬ k < m := fun hk => by
              have := due_one ht.len hg.len hn h2.1 q
              exact h2.2 ((mem_next ht.len hg.len).mpr ⟨h2.1, by rw [q]; congr 1; omega, by omega⟩)
            have p7 : Pv (nmE 7) r2 (.int (k : Int)) := Pv.nm (by show some (some (Sl.val (numD (lawN (behind t c) g)))) = _; rw [q]; rfl)
            have t1 : Pt (tstB (binE gIsntN (nmE 7) (kE .none))) r2 true := Pt.tst (Pv.bin p7 Pv.k (rfl : gIsntN (.int (k : Int)) .none = some (vB true)) rfl)
            have t2 : Pt (tstB (binE gLt (nmE 7) (nmE 3))) r2 false := Pt.tst (Pv.bin p7 (Pv.nm rfl) ((lt_nat k m).trans (by rw [decide_eq_false hk])) rfl)
            exact Pt.and t1 fun _ => t2
        exact (if_ok key).trans rfl
      exact ⟨r2, rfl, (seq_ok' z1).trans ((if_ok tt).trans ((seq_ok' z2).trans z3)), _, _, _, src3, rfl, hs3⟩
    · have tf : (decide (c ∈ callsL t) && !decide (c ∈ nextL t g m)) = false := by
        by_cases a : c ∈ callsL t
        · by_cases b : c ∈ nextL t g m
          · simp [b]
          · exact absurd ⟨a, b⟩ h2
        · simp [a]
      rw [tf] at tt
      exact ⟨r1, rfl, (seq_ok' z1).trans ((if_ok tt).trans rfl), _, _, _, src3, rfl, hs3⟩)
  subst hr
  exact ⟨s5', s6', s7', src', h1, e⟩
end Lw

/-! Kd3.lean -/
set_option Elab.async false
set_option linter.all false
set_option maxRecDepth 100000
namespace Lw
open PySem L2 Mi Rg
theorem gr_succ {t g : List EndS} {n : Nat} {c : CallT} (h : (callsL t).find? (wellB t g 11 (n + 1)) = some c) : gr (n + 1) t g = c :: gr n (behind t c) g := by
  show (match (callsL t).find? (wellB t g 11 (n + 1)) with | some c => c :: gr n (behind t c) g | none => []) = _
  rw [h]
theorem gr_head {t g : List EndS} {n : Nat} (ht : t.length = 10) (hg : g.length = 10) (hn : lawN t g = some n) : (gr n t g).take 1 = (nextL t g n).take 1 := by
  cases n with
  | zero =>
    have : nextL t g 0 = [] := List.eq_nil_iff_forall_not_mem.mpr fun c hc => by
      have := ((mem_next ht hg).mp hc).2.2
      omega
    rw [this]; rfl
  | succ n =>
    obtain ⟨c, h1, _, _⟩ := find_some ht hg hn
    have h2 : (nextL t g (n + 1)).head? = some c := by unfold nextL; rw [List.head?_filter]; exact h1
    have h3 : gr (n + 1) t g = c :: gr n (behind t c) g := gr_succ h1
    rw [h3]
    cases q : nextL t g (n + 1) with
    | nil => rw [q] at h2; cases h2
    | cons d l => rw [q] at h2; injection h2 with h2; rw [h2]; rfl
theorem sl_lst {i k : Nat} {r : En} {ds : List PyData} (h : r.vs[i]? = some (some (.val (.list ds)))) : slE (nmE i) none (some (kE (.int (k : Int)))) r = .ok (.own (.lst (ds.take k))) r := by
  have l0 := sl_go (f := nmE i) (r := r) (lo := none) (hi := some (kE (.int (k : Int)))) (ds := ds) (show nmE i r = .ok (.val (.list ds)) r by unfold nmE; rw [h]) (show optI none r = .ok none r from rfl) (opt_some (f := kE (.int (k : Int))) (x := .val (.int (k : Int))) rfl rfl) rfl
  rw [cut_to] at l0
  exact l0
theorem sl_lo {i : Nat} {r : En} {ds : List PyData} (hz : ds.length ≤ 200) (h : r.vs[i]? = some (some (.val (.list ds)))) : slE (nmE i) (some (kE (.int 1))) none r = .ok (.own (.lst (ds.drop 1))) r := by
  have l0 := sl_go (f := nmE i) (r := r) (lo := some (kE (.int 1))) (hi := none) (ds := ds) (show nmE i r = .ok (.val (.list ds)) r by unfold nmE; rw [h]) (opt_some (f := kE (.int 1)) (x := .val (.int 1)) rfl rfl) (show optI none r = .ok none r from rfl) rfl
  have e : cutD ds (some 1) none = ds.drop 1 := by
    cases ds with
    | nil => rfl
    | cons d ds =>
      unfold cutD
      have e1 : HT.sIx (d :: ds).length 0 (some 1) = 1 := by
        unfold HT.sIx
        simp [HT.sIx, L2.ixN]
      have e2 : HT.sIx (d :: ds).length (d :: ds).length none = (d :: ds).length := rfl
      rw [e1, e2]
      simp
  rw [e] at l0
  exact l0
theorem run_calls_right {n : Nat} {src : List PyData} (hs : SrcOk (n + 12) src) {t g : List EndS} (ht : TW t) (hg : TW g) {m : Nat} (hn : lawN t g = some m) (hm : m < 100) : ∃ src', SrcOk n src' ∧ G__law_calls_right [.ref (.lst src), .val (.list (tD t)), .val (.list (tD g))] = .ret (.val (.bool true)) [.live (.lst src')] := by
  let S3 : Option Sl := some (.val (.int (m : Int)))
  let S4 : Option Sl := some (.val (.list ((nextL t g m).map cD)))
  obtain ⟨s5, e2⟩ := cr1 ht hg (n := m) src
  obtain ⟨s5', s6, s7, src', hs', e3⟩ := cr2 ht hg hn hs s5
  obtain ⟨L, l1, l2, l3, l4, l5⟩ := run_betweenG ht hg hn hm
  have ok1 : ∀ c ∈ nextL t g m, c.ok := fun c hc => calls_ok (List.mem_filter.mp hc).1
  have okL : ∀ c ∈ L, c.ok := poss_ok t L l2
  have hd : L.take 1 = (nextL t g m).take 1 := by rw [l4]; exact gr_head ht.len hg.len hn
  have f0 : callE G_fewest_calls (consR (nmE 1) (consR (nmE 2) (nilR))) (ce t g none none none none none none src) = .ok (.val (.int (m : Int))) (ce t g none none none none none none src) := by
    have := run_fewN ht.tab hg.tab
    rw [hn] at this
    exact callV (es := [.list (tD t), .list (tD g)]) rfl this
  have f1 : fzE (callE G_next_calls (consR (nmE 1) (consR (nmE 2) (nilR)))) (ce t g none none none none none none src) = .ok (.val (.list ((nextL t g m).map cD))) (ce t g none none none none none none src) := fz_own (callV (es := [.list (tD t), .list (tD g)]) rfl (run_nextN ht.tab hg.tab hn))
  have s1 : parS 3 4 (consR (callE G_fewest_calls (consR (nmE 1) (consR (nmE 2) (nilR)))) (consR (fzE (callE G_next_calls (consR (nmE 1) (consR (nmE 2) (nilR))))) (nilR))) (ce t g none none none none none none src) = .nx (ce t g S3 S4 none none none none src) := (par_vv (cr_go f0 (cr_go f1 rfl))).trans rfl
  let r8 := ce t g S3 S4 s5' s6 s7 (some (.val (.list (L.map cD)))) src'
  have s8 : setS 8 (fzE (callE G_calls_between (consR (nmE 1) (consR (nmE 2) (nilR))))) (ce t g S3 S4 s5' s6 s7 none src') = .nx r8 := (set_val (fz_own (callV (es := [.list (tD t), .list (tD g)]) rfl l5))).trans rfl
  have c1 : callE G_least_calls (consR (nmE 1) (consR (nmE 2) (consR (nmE 8) (nilR)))) r8 = .ok (.val (.bool true)) r8 := callV (es := [.list (tD t), .list (tD g), .list (L.map cD)]) rfl (run_least_calls ht hg l2 l3 (by rw [l1]; exact hn) (by omega))
  have c2 : fzE (callE G_after_calls (consR (nmE 1) (consR (nmE 8) (nilR)))) r8 = .ok (.val (.list (tD g))) r8 := by
    have := run_after_calls ht.tab l2 (by omega : L.length ≤ 100)
    rw [l3] at this
    exact fz_own (callV (es := [.list (tD t), .list (L.map cD)]) rfl this)
  have c3 : slE (nmE 8) none (some (kE (.int 1))) r8 = .ok (.own (.lst ((L.take 1).map cD))) r8 := by rw [List.map_take]; exact sl_lst (k := 1) rfl
  have c4 : slE (nmE 4) none (some (kE (.int 1))) r8 = .ok (.own (.lst ((L.take 1).map cD))) r8 := by rw [hd, List.map_take]; exact sl_lst (k := 1) rfl
  have ok3 : ∀ c ∈ L.take 1, c.ok := fun c hc => okL c (List.mem_of_mem_take hc)
  have t9 : Pt (orB (notB (tstT (callE G_least_calls (consR (nmE 1) (consR (nmE 2) (consR (nmE 8) (nilR))))))) (orB (tstB (binE gNe (fzE (callE G_after_calls (consR (nmE 1) (consR (nmE 8) (nilR))))) (nmE 2))) (tstB (binE gNe (slE (nmE 8) none (some (kE (.int 1)))) (slE (nmE 4) none (some (kE (.int 1)))))))) r8 false :=
    Pt.or (a := false) (b := false) (Pt.not (a := true) (Pt.tstT (Pv.val c1))) fun _ => Pt.or (a := false) (b := false) (Pt.tst (Pv.bin (Pv.val c2) (Pv.nm rfl) (ne_self (sm_tab hg) (by decide)) rfl)) fun _ => Pt.tst (Pv.bin (Pv.own' c3) (Pv.own' c4) (ne_self (sm_calls ok3 (by rw [List.length_take]; omega)) (by decide)) rfl)
  have lastE : orE (binE gEq (nmE 8) (lstE (nilL))) (binE gEq (fzE (callE G_calls_between (consR (fzE (callE G_after_calls (consR (nmE 1) (consR (fzE (slE (nmE 8) none (some (kE (.int 1))))) (nilR))))) (consR (nmE 2) (nilR))))) (slE (nmE 8) (some (kE (.int 1))) none)) r8 = .ok (.val (.bool true)) r8 := by
    have nilS : Sm 2 7040 (.list (([] : List CallT).map cD)) := sm_calls (L := []) (fun c hc => by cases hc) (by simp)
    have le : lstE (nilL) r8 = .ok (.own (.lst [])) r8 := lst_eq (ds := []) rfl (Nat.zero_le _)
    cases L with
    | nil =>
      have e1 : Pv (binE gEq (nmE 8) (lstE (nilL))) r8 (.bool true) := Pv.bin (a := .list []) (b := .list []) (Pv.nm rfl) (Pv.own' le) (eq_self nilS (by decide)) rfl
      exact or_eq (a := true) (b := true) e1 fun q => by cases q
    | cons c L =>
      have sL := sm_calls okL (by omega : (c :: L).length ≤ 110)
      have e0 : gEq (.list ((c :: L).map cD)) (.list []) = some (vB (PyData.eqv (.list ((c :: L).map cD)) (.list []))) := by
        unfold gEq eqOk
        rw [sL.shaped (by decide), show SeqAt.shaped (.list []) = true from nilS.shaped (by decide)]
        simp
      have e1 : Pv (binE gEq (nmE 8) (lstE (nilL))) r8 (.bool (PyData.eqv (.list ((c :: L).map cD)) (.list []))) := Pv.bin (Pv.nm rfl) (Pv.own' le) e0 rfl
      obtain ⟨k, rfl⟩ : ∃ k, m = k + 1 := ⟨L.length, by simpa using l1.symm⟩
      obtain ⟨c', q1, q2, q3⟩ := find_some ht.len hg.len hn
      have hg1 : gr (k + 1) t g = c' :: gr k (behind t c') g := gr_succ q1
      rw [hg1] at l4
      injection l4 with l4a l4b
      subst l4a
      obtain ⟨M, m1, m2, m3, m4, m5⟩ := run_betweenG (ht.behind c) hg q3 (by omega)
      have hM : M = L := m4.trans l4b.symm
      subst hM
      have a1 : fzE (slE (nmE 8) none (some (kE (.int 1)))) r8 = .ok (.val (.list [cD c])) r8 := fz_own c3
      have a2 : fzE (callE G_after_calls (consR (nmE 1) (consR (fzE (slE (nmE 8) none (some (kE (.int 1))))) (nilR)))) r8 = .ok (.val (.list (tD (behind t c)))) r8 := fz_own (callV (es := [.list (tD t), .list [cD c]]) (cr_go (x := .val (.list (tD t))) rfl (cr_go a1 rfl)) (run_after_calls (L := [c]) ht.tab ⟨q2, trivial⟩ (by simp)))
      have a3 : fzE (callE G_calls_between (consR (fzE (callE G_after_calls (consR (nmE 1) (consR (fzE (slE (nmE 8) none (some (kE (.int 1))))) (nilR))))) (consR (nmE 2) (nilR)))) r8 = .ok (.val (.list (M.map cD))) r8 := fz_own (callV (es := [.list (tD (behind t c)), .list (tD g)]) (cr_go a2 (cr_go (x := .val (.list (tD g))) rfl rfl)) m5)
      have a4 : slE (nmE 8) (some (kE (.int 1))) none r8 = .ok (.own (.lst (M.map cD))) r8 := sl_lo (ds := (c :: M).map cD) (by rw [List.length_map]; omega) rfl
      have okM : ∀ d ∈ M, d.ok := fun d hd => okL d (List.mem_cons_of_mem _ hd)
      have e2 : binE gEq (fzE (callE G_calls_between (consR (fzE (callE G_after_calls (consR (nmE 1) (consR (fzE (slE (nmE 8) none (some (kE (.int 1))))) (nilR))))) (consR (nmE 2) (nilR))))) (slE (nmE 8) (some (kE (.int 1))) none) r8 = .ok (.val (.bool true)) r8 := bin_eq (Pv.val a3) (Pv.own' a4) (eq_self (sm_calls okM (by simp at l1; omega)) (by decide))
      have := or_eq (b := true) e1 fun _ => e2
      rw [Bool.or_true] at this
      exact this
  refine ⟨src', hs', ?_⟩
  exact (run_eq (r := ce t g none none none none none none src) rfl rfl ((seq_ok' s1).trans ((seq_ok' e2).trans ((seq_ok' e3).trans ((seq_ok' s8).trans ((seq_ok' ((if_ok t9).trans rfl)).trans (ret_ok lastE))))))).trans rfl
end Lw

/-! Ke1.lean -/
set_option Elab.async false
set_option linter.all false
set_option maxRecDepth 100000
namespace Lw
open PySem L2 Mi Rg
theorem law_ge {t g : List EndS} (ht : t.length = 10) (hg : g.length = 10) {n : Nat} (hn : lawN t g = some n) : (changedL t g).length ≤ n ∧ n < 100 := by
  have h := hn
  rw [lawN_num ht hg] at h
  obtain ⟨h1, h2⟩ := num_le h
  have c1 : (changedL t g).length ≤ 10 := changed_len t g
  have c2 := lawRings_len t g 10
  rw [changed_cnt] at c1 ⊢
  rw [rings_cnt] at c2
  exact ⟨by omega, by omega⟩
def lE (scr : PyData) (s1 s2 s3 s4 s5 s6 s7 s8 s9 : Option Sl) : En := ⟨[some (.val scr), s1, s2, s3, s4, s5, s6, s7, s8, s9, none], []⟩
abbrev lB3 : Stm := setS 5 (fzE (callE G__law_turned (consR (nmE 2) (consR (nmE 4) (consR (slE (callE G__law_shuffled (consR (nmE 2) (consR (lrgE (kE (.int 10))) (nilR)))) none (some (callE G__law_draw (consR (nmE 2) (consR (kE (.int 11)) (nilR)))))) (nilR))))))
theorem l3 {n : Nat} {scr : PyData} {s1 s3 s5 s6 s7 s8 s9 : Option Sl} {m : List EndS} (hm : TW m) {src : List PyData} (hs : SrcOk (n + 21) src) : ∃ a src', TW a ∧ SrcOk n src' ∧ lB3 (lE scr s1 (some (.own (.lst src))) s3 (some (.val (.list (tD m)))) s5 s6 s7 s8 s9) = .nx (lE scr s1 (some (.own (.lst src'))) s3 (some (.val (.list (tD m)))) (some (.val (.list (tD a)))) s6 s7 s8 s9) := by
  let E := fun src => lE scr s1 (some (.own (.lst src))) s3 (some (.val (.list (tD m)))) s5 s6 s7 s8 s9
  obtain ⟨ps, src1, p1, p2, p3⟩ := run_places (n := n + 11) (src := src) hs
  have c1 : callE G__law_shuffled (consR (nmE 2) (consR (lrgE (kE (.int 10))) (nilR))) (E src) = .ok (.own (.lst (ints' ps))) (E src1) := callG (xs := [.at (.slot 2), .own (.lst (ints' (List.range 10)))]) (r1 := E src) rfl (as := [.ref (.lst src), .own (.lst (ints' (List.range 10)))]) (ls := [.slot 2]) rfl rfl p3 rfl
  obtain ⟨v, src2, hv, hs2, d1⟩ := draw_at (i := 2) (l := .slot 2) (L := 11) (n := n + 10) (f := kE (.int 11)) (r := E src1) (src := src1) rfl rfl p2 rfl (by decide) (by decide)
  have d1 : callE G__law_draw (consR (nmE 2) (consR (kE (.int 11)) (nilR))) (E src1) = .ok (.val (.int ((v : Nat) : Int))) (E src2) := d1
  have l0 := sl_go (lo := none) (hi := some (callE G__law_draw (consR (nmE 2) (consR (kE (.int 11)) (nilR))))) (ds := ints' ps) c1 (show optI none (E src1) = .ok none (E src1) from rfl) (opt_some d1 rfl) rfl
  rw [cut_to] at l0
  have l1 : slE (callE G__law_shuffled (consR (nmE 2) (consR (lrgE (kE (.int 10))) (nilR)))) none (some (callE G__law_draw (consR (nmE 2) (consR (kE (.int 11)) (nilR))))) (E src) = .ok (.own (.lst (ints' (ps.take v)))) (E src2) := l0.trans (by unfold ints'; rw [List.map_take])
  have hl : ps.length = 10 := by rw [p1.length_eq]; rfl
  have hk : (ps.take v).length ≤ 10 := by rw [List.length_take]; omega
  obtain ⟨a, src3, g1, g2, g3, e3⟩ := run_turnedV (n := n) hm.len (ord := ps.take v) (fun x hx => List.mem_range.mp (p1.mem_iff.mp (List.mem_of_mem_take hx))) hk (hs2.le (by omega))
  have c2 : callE G__law_turned (consR (nmE 2) (consR (nmE 4) (consR (slE (callE G__law_shuffled (consR (nmE 2) (consR (lrgE (kE (.int 10))) (nilR)))) none (some (callE G__law_draw (consR (nmE 2) (consR (kE (.int 11)) (nilR)))))) (nilR)))) (E src) = .ok (.own (.lst (tD a))) (E src3) :=
    callG (xs := [.at (.slot 2), .val (.list (tD m)), .own (.lst (ints' (ps.take v)))]) (r1 := E src2) (cr_go (x := .at (.slot 2)) (r1 := E src) rfl (cr_go (x := .val (.list (tD m))) (r1 := E src) rfl (cr_go l1 (rfl : nilR (E src2) = .ok [] (E src2))))) (as := [.ref (.lst src2), .val (.list (tD m)), .own (.lst (ints' (ps.take v)))]) (ls := [.slot 2]) rfl rfl e3 rfl
  exact ⟨a, src3, ⟨g1, fun e he => hm.mem e (g2 e he)⟩, g3, (set_val (fz_own c2)).trans rfl⟩
abbrev lB6 : Stm := seqS (setS 9 (callE G_fewest_calls (consR (nmE 7) (consR (nmE 8) (nilR))))) <| seqS (ifS (tstB (binE gNe (binE gEq (nmE 9) (kE (.int 0))) (binE gEq (nmE 7) (nmE 8)))) (retS (kE (.bool false))) (nxS)) <| ifS (andB (tstB (binE gIsntN (nmE 9) (kE .none))) (tstB (binE gLt (nmE 9) (unE gLen (lcE (rng1 (kE (.int 10))) (fun d r => some (put r 10 (.val d))) [10] (tstB (binE gNe (binE gIx (nmE 7) (nmE 10)) (binE gIx (nmE 8) (nmE 10)))) (nmE 10)))))) (retS (kE (.bool false))) (nxS)
theorem l6 {t g : List EndS} (ht : TW t) (hg : TW g) (scr : PyData) (s1 s2 s3 s4 s5 s6 s9 : Option Sl) : ∃ s9', lB6 (lE scr s1 s2 s3 s4 s5 s6 (some (.val (.list (tD t)))) (some (.val (.list (tD g)))) s9) = .nx (lE scr s1 s2 s3 s4 s5 s6 (some (.val (.list (tD t)))) (some (.val (.list (tD g)))) s9') := by
  let r1 := lE scr s1 s2 s3 s4 s5 s6 (some (.val (.list (tD t)))) (some (.val (.list (tD g)))) (some (.val (numD (lawN t g))))
  have z1 : setS 9 (callE G_fewest_calls (consR (nmE 7) (consR (nmE 8) (nilR)))) (lE scr s1 s2 s3 s4 s5 s6 (some (.val (.list (tD t)))) (some (.val (.list (tD g)))) s9) = .nx r1 := (set_val (callV (es := [.list (tD t), .list (tD g)]) rfl (run_fewN ht.tab hg.tab))).trans rfl
  have e0 : gEq (numD (lawN t g)) (.int 0) = some (vB (decide (t = g))) := by
    cases q : lawN t g with
    | none =>
      have : t ≠ g := fun e => by rw [e, num_zero hg.len] at q; cases q
      rw [decide_eq_false this]
      rfl
    | some n =>
      refine (eq_int _ _).trans ?_
      by_cases e : t = g
      · rw [decide_eq_true e]
        rw [e, num_zero hg.len] at q
        injection q with q
        rw [← q]; rfl
      · rw [decide_eq_false e]
        have : n ≠ 0 := fun z => by subst z; exact e (zero_eq ht.len hg.len q)
        rw [decide_eq_false (by omega)]
  have eb : gNe (.bool (decide (t = g))) (.bool (decide (t = g))) = some (vB false) := (ne_bool _ _).trans (by simp)
  have t2 : Pt (tstB (binE gNe (binE gEq (nmE 9) (kE (.int 0))) (binE gEq (nmE 7) (nmE 8)))) r1 false := Pt.tst (Pv.bin (Pv.bin (Pv.nm rfl) Pv.k e0 rfl) (Pv.bin (Pv.nm rfl) (Pv.nm rfl) (eq_tD ht hg) rfl) eb rfl)
  have t3 : Pt (andB (tstB (binE gIsntN (nmE 9) (kE .none))) (tstB (binE gLt (nmE 9) (unE gLen (lcE (rng1 (kE (.int 10))) (fun d r => some (put r 10 (.val d))) [10] (tstB (binE gNe (binE gIx (nmE 7) (nmE 10)) (binE gIx (nmE 8) (nmE 10)))) (nmE 10)))))) r1 false := by
    cases q : lawN t g with
    | none =>
      have t1 : Pt (tstB (binE gIsntN (nmE 9) (kE .none))) r1 false := Pt.tst (Pv.bin (Pv.nm (i := 9) (d := numD none) (by show some (some (Sl.val (numD (lawN t g)))) = _; rw [q])) Pv.k (rfl : gIsntN (numD none) .none = some (vB false)) rfl)
      have := Pt.and (g := (tstB (binE gLt (nmE 9) (unE gLen (lcE (rng1 (kE (.int 10))) (fun d r => some (put r 10 (.val d))) [10] (tstB (binE gNe (binE gIx (nmE 7) (nmE 10)) (binE gIx (nmE 8) (nmE 10)))) (nmE 10)))))) (b := false) t1 (fun z => by cases z)
      simpa using this
    | some n =>
      have p9 : Pv (nmE 9) r1 (.int (n : Int)) := Pv.nm (by show some (some (Sl.val (numD (lawN t g)))) = _; rw [q]; rfl)
      have t1 : Pt (tstB (binE gIsntN (nmE 9) (kE .none))) r1 true := Pt.tst (Pv.bin p9 Pv.k (rfl : gIsntN (.int (n : Int)) .none = some (vB true)) rfl)
      have lc : lcE (rng1 (kE (.int 10))) (fun d r => some (put r 10 (.val d))) [10] (tstB (binE gNe (binE gIx (nmE 7) (nmE 10)) (binE gIx (nmE 8) (nmE 10)))) (nmE 10) r1 = .ok (.own (.lst (ints' (changedL t g)))) r1 := by
        refine lcE_rng (n := 10) (r := r1) (W := r1) rfl (by decide) rfl rfl rfl rfl (fun i => !decide (at' t i = at' g i)) (fun (i : Nat) => .int (i : Int)) fun i hi => ?_
        exact ⟨_, rfl, _, Pt.tst (Pv.bin (Pv.bin (f := nmE 7) (a := .list (tD t)) (Pv.nm rfl) (Pv.nm rfl) (ix_at ht.len hi) rfl) (Pv.bin (f := nmE 8) (a := .list (tD g)) (Pv.nm rfl) (Pv.nm rfl) (ix_at hg.len hi) rfl) (ne_eD _ _) rfl), rfl, fun _ => ⟨_, nm_frz rfl, rfl⟩⟩
      have pl : Pv (unE gLen (lcE (rng1 (kE (.int 10))) (fun d r => some (put r 10 (.val d))) [10] (tstB (binE gNe (binE gIx (nmE 7) (nmE 10)) (binE gIx (nmE 8) (nmE 10)))) (nmE 10))) r1 (.int (((changedL t g).length : Nat) : Int)) := Pv.un (Pv.own' lc) (len_ints (ns := changedL t g)) rfl
      have t2 : Pt (tstB (binE gLt (nmE 9) (unE gLen (lcE (rng1 (kE (.int 10))) (fun d r => some (put r 10 (.val d))) [10] (tstB (binE gNe (binE gIx (nmE 7) (nmE 10)) (binE gIx (nmE 8) (nmE 10)))) (nmE 10))))) r1 false := Pt.tst (Pv.bin p9 pl ((lt_nat _ _).trans (by rw [decide_eq_false (by have := (law_ge ht.len hg.len q).1; omega)])) rfl)
      exact Pt.and t1 fun _ => t2
  exact ⟨_, (seq_ok' z1).trans ((seq_ok' ((if_ok t2).trans rfl)).trans ((if_ok t3).trans rfl))⟩
end Lw

/-! Ke2.lean -/
set_option Elab.async false
set_option linter.all false
set_option maxRecDepth 100000
namespace Lw
open PySem L2 Mi Rg
abbrev lB4 : Stm := setS 6 (lstE (consL (callE G_fewest_calls (consR (nmE 3) (consR (nmE 4) (nilR)))) (consL (callE G_fewest_calls (consR (nmE 4) (consR (nmE 5) (nilR)))) (consL (callE G_fewest_calls (consR (nmE 3) (consR (nmE 5) (nilR)))) (nilL)))))
abbrev lT5 : M Bool := andB (tstB (binE gNotIn (kE .none) (slE (nmE 6) none (some (kE (.int 2)))))) (orB (tstB (binE gIsN (binE gIx (nmE 6) (kE (.int 2))) (kE .none))) (tstB (binE gGt (binE gIx (nmE 6) (kE (.int 2))) (binE gAdd (binE gIx (nmE 6) (kE (.int 0))) (binE gIx (nmE 6) (kE (.int 1)))))))
def wD (t m a : List EndS) : List PyData := [numD (lawN t m), numD (lawN m a), numD (lawN t a)]
theorem l4 {t m a : List EndS} (ht : TW t) (hm : TW m) (ha : TW a) (scr : PyData) (s1 s2 s6 s7 s8 s9 : Option Sl) : lB4 (lE scr s1 s2 (some (.val (.list (tD t)))) (some (.val (.list (tD m)))) (some (.val (.list (tD a)))) s6 s7 s8 s9) = .nx (lE scr s1 s2 (some (.val (.list (tD t)))) (some (.val (.list (tD m)))) (some (.val (.list (tD a)))) (some (.own (.lst (wD t m a)))) s7 s8 s9) := by
  let r := lE scr s1 s2 (some (.val (.list (tD t)))) (some (.val (.list (tD m)))) (some (.val (.list (tD a)))) s6 s7 s8 s9
  have c1 : callE G_fewest_calls (consR (nmE 3) (consR (nmE 4) (nilR))) r = .ok (.val (numD (lawN t m))) r := callV (es := [.list (tD t), .list (tD m)]) rfl (run_fewN ht.tab hm.tab)
  have c2 : callE G_fewest_calls (consR (nmE 4) (consR (nmE 5) (nilR))) r = .ok (.val (numD (lawN m a))) r := callV (es := [.list (tD m), .list (tD a)]) rfl (run_fewN hm.tab ha.tab)
  have c3 : callE G_fewest_calls (consR (nmE 3) (consR (nmE 5) (nilR))) r = .ok (.val (numD (lawN t a))) r := callV (es := [.list (tD t), .list (tD a)]) rfl (run_fewN ht.tab ha.tab)
  exact (set_own (lst_eq (lst3 (val_frz c1) (val_frz c2) (val_frz c3)) (by simp [sizeLine]))).trans rfl
theorem ix_w2 {t m a : List EndS} : gIx (.list (wD t m a)) (.int 2) = some (.val (numD (lawN t a))) := ix_lst (n := 2) rfl
theorem ix_w0 {t m a : List EndS} : gIx (.list (wD t m a)) (.int 0) = some (.val (numD (lawN t m))) := ix_lst (n := 0) rfl
theorem ix_w1 {t m a : List EndS} : gIx (.list (wD t m a)) (.int 1) = some (.val (numD (lawN m a))) := ix_lst (n := 1) rfl
theorem notIn2 (x y : Option Nat) : gNotIn .none (.list [numD x, numD y]) = some (vB (!(x.isNone || y.isNone))) := by
  have sh : SeqAt.shaped (.list [numD x, numD y]) = true := by
    cases x <;> cases y <;> simp [numD, SeqAt.shaped, PyData.canLay0, PyData.canLayAll0, PyData.depth, PyData.depthAll]
  have sn : SeqAt.shaped .none = true := by simp [SeqAt.shaped, PyData.canLay0, PyData.depth]
  have h2 : gInB .none (.list [numD x, numD y]) = if (SeqAt.shaped .none && SeqAt.shaped (.list [numD x, numD y])) = true then some ([numD x, numD y].any fun z => PyData.eqv z .none) else none := rfl
  unfold gNotIn
  rw [h2, sh, sn]
  cases x <;> cases y <;> simp [numD, PyData.eqv]
theorem l5 {t m a : List EndS} (ht : TW t) (hm : TW m) (ha : TW a) (scr : PyData) (s1 s2 s7 s8 s9 : Option Sl) : Pt lT5 (lE scr s1 s2 (some (.val (.list (tD t)))) (some (.val (.list (tD m)))) (some (.val (.list (tD a)))) (some (.own (.lst (wD t m a)))) s7 s8 s9) false := by
  let r := lE scr s1 s2 (some (.val (.list (tD t)))) (some (.val (.list (tD m)))) (some (.val (.list (tD a)))) (some (.own (.lst (wD t m a)))) s7 s8 s9
  have p6 : Pv (nmE 6) r (.list (wD t m a)) := (pa_own rfl).pv
  have l0 := sl_go (f := nmE 6) (r := r) (lo := none) (hi := some (kE (.int ((2 : Nat) : Int)))) (ds := wD t m a) (show nmE 6 r = .ok (.at (.slot 6)) r from rfl) (show optI none r = .ok none r from rfl) (opt_some (f := kE (.int ((2 : Nat) : Int))) (x := .val (.int ((2 : Nat) : Int))) rfl rfl) rfl
  rw [cut_to] at l0
  have l0 : slE (nmE 6) none (some (kE (.int 2))) r = .ok (.own (.lst [numD (lawN t m), numD (lawN m a)])) r := l0
  have t1 : Pt (tstB (binE gNotIn (kE .none) (slE (nmE 6) none (some (kE (.int 2)))))) r (!((lawN t m).isNone || (lawN m a).isNone)) := Pt.tst (Pv.bin Pv.k (Pv.own' l0) (notIn2 _ _) rfl)
  by_cases h : ((lawN t m).isNone || (lawN m a).isNone) = true
  · rw [h] at t1
    have := Pt.and (g := (orB (tstB (binE gIsN (binE gIx (nmE 6) (kE (.int 2))) (kE .none))) (tstB (binE gGt (binE gIx (nmE 6) (kE (.int 2))) (binE gAdd (binE gIx (nmE 6) (kE (.int 0))) (binE gIx (nmE 6) (kE (.int 1)))))))) (b := false) t1 (fun z => by cases z)
    simpa using this
  · have h : ((lawN t m).isNone || (lawN m a).isNone) = false := Bool.eq_false_iff.mpr h
    rw [h] at t1
    rw [Bool.or_eq_false_iff] at h
    obtain ⟨x, hx⟩ : ∃ x, lawN t m = some x := by cases q : lawN t m with
      | none => rw [q] at h; cases h.1
      | some x => exact ⟨x, rfl⟩
    obtain ⟨y, hy⟩ : ∃ y, lawN m a = some y := by cases q : lawN m a with
      | none => rw [q] at h; cases h.2
      | some y => exact ⟨y, rfl⟩
    obtain ⟨z, hz, le⟩ := law_tri ht.len hm.len ha.len hx hy
    have p2 : Pv (binE gIx (nmE 6) (kE (.int 2))) r (.int (z : Int)) := Pv.bin p6 Pv.k ix_w2 (by show some (numD (lawN t a)) = _; rw [hz]; rfl)
    have p0 : Pv (binE gIx (nmE 6) (kE (.int 0))) r (.int (x : Int)) := Pv.bin p6 Pv.k ix_w0 (by show some (numD (lawN t m)) = _; rw [hx]; rfl)
    have p1 : Pv (binE gIx (nmE 6) (kE (.int 1))) r (.int (y : Int)) := Pv.bin p6 Pv.k ix_w1 (by show some (numD (lawN m a)) = _; rw [hy]; rfl)
    have g1 : gGt (.int (z : Int)) (.int ((x + y : Nat) : Int)) = some (vB false) := by
      show some (vB (decide ((z : Int) > ((x + y : Nat) : Int)))) = _
      rw [decide_eq_false (by omega)]
    exact Pt.and t1 fun _ => Pt.or (a := false) (b := false) (Pt.tst (Pv.bin p2 Pv.k (rfl : gIsN (.int (z : Int)) .none = some (vB false)) rfl)) fun _ => Pt.tst (Pv.bin p2 (Pv.bin p0 p1 (add_nat x y) rfl) g1 rfl)
abbrev lB7 : Stm := seqS (forS (seqI (tupE (consL (tupE (consL (nmE 3) (consL (nmE 4) (nilL)))) (consL (tupE (consL (nmE 4) (consL (nmE 5) (nilL)))) (consL (tupE (consL (nmE 3) (consL (nmE 5) (nilL)))) (nilL)))))) (tgTup [7, 8]) lB6) <| seqS (ifS (notB (tstT (callE G__law_renamed_right (consR (nmE 2) (consR (nmE 3) (consR (nmE 5) (nilR))))))) (retS (kE (.bool false))) (nxS)) <| ifS (andB (tstB (binE gIsntN (binE gIx (nmE 6) (kE (.int 2))) (kE .none))) (notB (tstT (callE G__law_calls_right (consR (nmE 2) (consR (nmE 3) (consR (nmE 5) (nilR)))))))) (retS (kE (.bool false))) (nxS)
theorem l7 {t m a : List EndS} (ht : TW t) (hm : TW m) (ha : TW a) (scr : PyData) (s1 s7 s8 s9 : Option Sl) {n : Nat} {src : List PyData} (hs : SrcOk (n + 38) src) : ∃ s7' s8' s9' src', SrcOk n src' ∧
    lB7 (lE scr s1 (some (.own (.lst src))) (some (.val (.list (tD t)))) (some (.val (.list (tD m)))) (some (.val (.list (tD a)))) (some (.own (.lst (wD t m a)))) s7 s8 s9) = .nx (lE scr s1 (some (.own (.lst src'))) (some (.val (.list (tD t)))) (some (.val (.list (tD m)))) (some (.val (.list (tD a)))) (some (.own (.lst (wD t m a)))) s7' s8' s9') := by
  let E := fun src s7 s8 s9 => lE scr s1 (some (.own (.lst src))) (some (.val (.list (tD t)))) (some (.val (.list (tD m)))) (some (.val (.list (tD a)))) (some (.own (.lst (wD t m a)))) s7 s8 s9
  let PS : List (List EndS × List EndS) := [(t, m), (m, a), (t, a)]
  have hP : ∀ p ∈ PS, TW p.1 ∧ TW p.2 := fun p hp => by
    simp only [PS, List.mem_cons, List.not_mem_nil, or_false] at hp
    rcases hp with rfl | rfl | rfl
    · exact ⟨ht, hm⟩
    · exact ⟨hm, ha⟩
    · exact ⟨ht, ha⟩
  let D : List EndS × List EndS → PyData := fun p => .tuple [.list (tD p.1), .list (tD p.2)]
  have tp : ∀ (i j : Nat) (u v : List EndS), nmE i (E src s7 s8 s9) = .ok (.val (.list (tD u))) (E src s7 s8 s9) → nmE j (E src s7 s8 s9) = .ok (.val (.list (tD v))) (E src s7 s8 s9) → tupE (consL (nmE i) (consL (nmE j) (nilL))) (E src s7 s8 s9) = .ok (.val (D (u, v))) (E src s7 s8 s9) := fun i j u v h1 h2 => tup_eq (ds := [.list (tD u), .list (tD v)]) (cl_go h1 rfl (cl_go h2 rfl rfl)) (by simp [sizeLine])
  have q0 : tupE (consL (tupE (consL (nmE 3) (consL (nmE 4) (nilL)))) (consL (tupE (consL (nmE 4) (consL (nmE 5) (nilL)))) (consL (tupE (consL (nmE 3) (consL (nmE 5) (nilL)))) (nilL)))) (E src s7 s8 s9) = .ok (.val (.tuple (PS.map D))) (E src s7 s8 s9) := tup_eq (ds := PS.map D) (cl_go (tp 3 4 t m rfl rfl) rfl (cl_go (tp 4 5 m a rfl rfl) rfl (cl_go (tp 3 5 t a rfl rfl) rfl rfl))) (by simp [PS, sizeLine])
  have q1 : seqI (tupE (consL (tupE (consL (nmE 3) (consL (nmE 4) (nilL)))) (consL (tupE (consL (nmE 4) (consL (nmE 5) (nilL)))) (consL (tupE (consL (nmE 3) (consL (nmE 5) (nilL)))) (nilL))))) (E src s7 s8 s9) = .ok ⟨tupNth (.val (.tuple (PS.map D))), 3⟩ (E src s7 s8 s9) := (bnd_ok q0).trans rfl
  let I : Nat → En → Prop := fun i r => ∃ s7 s8 s9, r = E src s7 s8 s9
  obtain ⟨r', e1, s7', s8', s9', hr⟩ := forN_inv (nth := tupNth (.val (.tuple (PS.map D)))) (tg := tgTup [7, 8]) (bd := lB6) PS D I (fun i r _ => by
    show some ((PS.map D)[i]?) = _
    rw [List.getElem?_map]) (fun i r p h hp => by
    obtain ⟨s7, s8, s9, rfl⟩ := h
    obtain ⟨h1, h2⟩ := hP p (List.mem_of_getElem? hp)
    obtain ⟨s9', e⟩ := l6 h1 h2 scr s1 (some (.own (.lst src))) (some (.val (.list (tD t)))) (some (.val (.list (tD m)))) (some (.val (.list (tD a)))) (some (.own (.lst (wD t m a)))) s9
    exact ⟨_, _, rfl, e, _, _, s9', rfl⟩) 3 0 (E src s7 s8 s9) ⟨s7, s8, s9, rfl⟩ (Nat.zero_le _) (by simp [PS])
  subst hr
  have z1 : forS (seqI (tupE (consL (tupE (consL (nmE 3) (consL (nmE 4) (nilL)))) (consL (tupE (consL (nmE 4) (consL (nmE 5) (nilL)))) (consL (tupE (consL (nmE 3) (consL (nmE 5) (nilL)))) (nilL)))))) (tgTup [7, 8]) lB6 (E src s7 s8 s9) = .nx (E src s7' s8' s9') := (ofM_ok q1).trans e1
  obtain ⟨src2, h2, e2⟩ := rr3 (n := n + 12) (src := src) hs ht ha
  have c2 : callE G__law_renamed_right (consR (nmE 2) (consR (nmE 3) (consR (nmE 5) (nilR)))) (E src s7' s8' s9') = .ok (.val (.bool true)) (E src2 s7' s8' s9') := callG (xs := [.at (.slot 2), .val (.list (tD t)), .val (.list (tD a))]) (r1 := E src s7' s8' s9') rfl (as := [.ref (.lst src), .val (.list (tD t)), .val (.list (tD a))]) (ls := [.slot 2]) rfl rfl e2 rfl
  have z2 : ∀ z : Stm, ifS (notB (tstT (callE G__law_renamed_right (consR (nmE 2) (consR (nmE 3) (consR (nmE 5) (nilR))))))) z nxS (E src s7' s8' s9') = .nx (E src2 s7' s8' s9') := fun z => by
    have t1 : tstT (callE G__law_renamed_right (consR (nmE 2) (consR (nmE 3) (consR (nmE 5) (nilR))))) (E src s7' s8' s9') = .ok true (E src2 s7' s8' s9') := by
      unfold tstT
      exact (bnd_ok c2).trans rfl
    exact (if_go ((bnd_ok t1).trans rfl : notB (tstT (callE G__law_renamed_right (consR (nmE 2) (consR (nmE 3) (consR (nmE 5) (nilR)))))) (E src s7' s8' s9') = .ok false (E src2 s7' s8' s9'))).trans rfl
  have p6 : Pv (nmE 6) (E src2 s7' s8' s9') (.list (wD t m a)) := (pa_own rfl).pv
  cases q : lawN t a with
  | none =>
    have t3 : Pt (tstB (binE gIsntN (binE gIx (nmE 6) (kE (.int 2))) (kE .none))) (E src2 s7' s8' s9') false := Pt.tst (Pv.bin (Pv.bin p6 Pv.k ix_w2 (by show some (numD (lawN t a)) = some PyData.none; rw [q]; rfl)) Pv.k (rfl : gIsntN .none .none = some (vB false)) rfl)
    have t4 := Pt.and (g := notB (tstT (callE G__law_calls_right (consR (nmE 2) (consR (nmE 3) (consR (nmE 5) (nilR))))))) (b := false) t3 (fun z => by cases z)
    exact ⟨s7', s8', s9', src2, h2.le (by omega), (seq_ok' z1).trans ((seq_ok' (z2 _)).trans ((if_ok t4).trans rfl))⟩
  | some k =>
    have t3 : Pt (tstB (binE gIsntN (binE gIx (nmE 6) (kE (.int 2))) (kE .none))) (E src2 s7' s8' s9') true := Pt.tst (Pv.bin (Pv.bin p6 Pv.k ix_w2 (by show some (numD (lawN t a)) = some (PyData.int (k : Int)); rw [q]; rfl)) Pv.k (rfl : gIsntN (.int (k : Int)) .none = some (vB true)) rfl)
    obtain ⟨src3, h3, e3⟩ := run_calls_right (n := n) (src := src2) h2 ht ha q (law_ge ht.len ha.len q).2
    have c3 : callE G__law_calls_right (consR (nmE 2) (consR (nmE 3) (consR (nmE 5) (nilR)))) (E src2 s7' s8' s9') = .ok (.val (.bool true)) (E src3 s7' s8' s9') := callG (xs := [.at (.slot 2), .val (.list (tD t)), .val (.list (tD a))]) (r1 := E src2 s7' s8' s9') rfl (as := [.ref (.lst src2), .val (.list (tD t)), .val (.list (tD a))]) (ls := [.slot 2]) rfl rfl e3 rfl
    have t4 : tstT (callE G__law_calls_right (consR (nmE 2) (consR (nmE 3) (consR (nmE 5) (nilR))))) (E src2 s7' s8' s9') = .ok true (E src3 s7' s8' s9') := by
      unfold tstT
      exact (bnd_ok c3).trans rfl
    have t5 : notB (tstT (callE G__law_calls_right (consR (nmE 2) (consR (nmE 3) (consR (nmE 5) (nilR)))))) (E src2 s7' s8' s9') = .ok false (E src3 s7' s8' s9') := (bnd_ok t4).trans rfl
    have t6 : andB (tstB (binE gIsntN (binE gIx (nmE 6) (kE (.int 2))) (kE .none))) (notB (tstT (callE G__law_calls_right (consR (nmE 2) (consR (nmE 3) (consR (nmE 5) (nilR))))))) (E src2 s7' s8' s9') = .ok false (E src3 s7' s8' s9') := (bnd_ok t3).trans t5
    exact ⟨s7', s8', s9', src3, h3, (seq_ok' z1).trans ((seq_ok' (z2 _)).trans ((if_go t6).trans rfl))⟩
end Lw

/-! Ke3.lean -/
set_option Elab.async false
set_option linter.all false
set_option maxRecDepth 100000
/-! the whole law -/
namespace Lw
open PySem L2 Mi Rg
abbrev lBody : Stm := seqS (setS 2 (callE G__law_open_source (consR (nmE 0) (consR (nmE 1) (nilR))))) <| seqS (unlS [3, 4] (callE G__law_pair (consR (nmE 2) (nilR)))) <| seqS lB3 <| seqS lB4 <| seqS (ifS lT5 (retS (kE (.bool false))) (nxS)) lB7
theorem run_cellW (ns : List Int) (k : Nat) (s2 s3 s4 s5 s6 s7 s8 s9 : Option Sl) : ∃ q2 q3 q4 q5 q6 q7 q8 q9, lBody (lE (pyInts ns) (some (.val (.int ((k : Nat) : Int)))) s2 s3 s4 s5 s6 s7 s8 s9) = .nx (lE (pyInts ns) (some (.val (.int ((k : Nat) : Int)))) q2 q3 q4 q5 q6 q7 q8 q9) := by
  let k1 : Option Sl := some (.val (.int ((k : Nat) : Int)))
  obtain ⟨src, hs, eo⟩ := run_open ns k
  have c1 : callE G__law_open_source (consR (nmE 0) (consR (nmE 1) (nilR))) (lE (pyInts ns) k1 s2 s3 s4 s5 s6 s7 s8 s9) = .ok (.own (.lst src)) (lE (pyInts ns) k1 s2 s3 s4 s5 s6 s7 s8 s9) := callV (es := [pyInts ns, .int ((k : Nat) : Int)]) rfl eo
  have e1 : setS 2 (callE G__law_open_source (consR (nmE 0) (consR (nmE 1) (nilR)))) (lE (pyInts ns) k1 s2 s3 s4 s5 s6 s7 s8 s9) = .nx (lE (pyInts ns) k1 (some (.own (.lst src))) s3 s4 s5 s6 s7 s8 s9) := (set_own c1).trans rfl
  obtain ⟨t, m, src1, ht, hm, hs1, ep⟩ := run_pair (n := 59) (src := src) (hs.le (by decide))
  have c2 : callE G__law_pair (consR (nmE 2) (nilR)) (lE (pyInts ns) k1 (some (.own (.lst src))) s3 s4 s5 s6 s7 s8 s9) = .ok (.own (.lst [.list (tD t), .list (tD m)])) (lE (pyInts ns) k1 (some (.own (.lst src1))) s3 s4 s5 s6 s7 s8 s9) := callG (xs := [.at (.slot 2)]) (r1 := lE (pyInts ns) k1 (some (.own (.lst src))) s3 s4 s5 s6 s7 s8 s9) rfl (as := [.ref (.lst src)]) (ls := [.slot 2]) rfl rfl ep rfl
  have e2 : unlS [3, 4] (callE G__law_pair (consR (nmE 2) (nilR))) (lE (pyInts ns) k1 (some (.own (.lst src))) s3 s4 s5 s6 s7 s8 s9) = .nx (lE (pyInts ns) k1 (some (.own (.lst src1))) (some (.val (.list (tD t)))) (some (.val (.list (tD m)))) s5 s6 s7 s8 s9) := (ofM_ok c2).trans rfl
  obtain ⟨a, src2, ha, hs2, e3⟩ := l3 (n := 38) (scr := pyInts ns) (s1 := k1) (s3 := some (.val (.list (tD t)))) (s5 := s5) (s6 := s6) (s7 := s7) (s8 := s8) (s9 := s9) hm hs1
  have e4 := l4 ht hm ha (pyInts ns) k1 (some (.own (.lst src2))) s6 s7 s8 s9
  have t5 := l5 ht hm ha (pyInts ns) k1 (some (.own (.lst src2))) s7 s8 s9
  obtain ⟨q7, q8, q9, src3, _, e7⟩ := l7 ht hm ha (pyInts ns) k1 s7 s8 s9 (n := 0) (src := src2) hs2
  exact ⟨_, _, _, _, _, _, _, _, (seq_ok' e1).trans ((seq_ok' e2).trans ((seq_ok' e3).trans ((seq_ok' e4).trans ((seq_ok' ((if_ok t5).trans rfl)).trans e7))))⟩
theorem run_cellsW (ns : List Int) : ∃ r' s1 s2 s3 s4 s5 s6 s7 s8 s9, r' = lE (pyInts ns) s1 s2 s3 s4 s5 s6 s7 s8 s9 ∧ forS (rng1 (binE gMax2 (kE (.int 1)) (binE gMin2 (kE (.int 2)) (unE gLen (nmE 0))))) (fun d r => some (put r 1 (.val d))) lBody (lE (pyInts ns) none none none none none none none none none) = .nx r' := by
  let r0 := lE (pyInts ns) none none none none none none none none none
  have ln : gLen (pyInts ns) = some (vI ((ns.length : Nat) : Int)) := by
    show some (vI (((ns.map PyData.int).length : Nat) : Int)) = _
    rw [List.length_map]
  have v : ∃ n : Nat, n ≤ 2 ∧ binE gMax2 (kE (.int 1)) (binE gMin2 (kE (.int 2)) (unE gLen (nmE 0))) r0 = .ok (.val (.int (n : Int))) r0 := by
    have m1 : Pv (binE gMin2 (kE (.int 2)) (unE gLen (nmE 0))) r0 (.int ((min ns.length 2 : Nat) : Int)) := by
      refine Pv.bin (z := vI ((min ns.length 2 : Nat) : Int)) Pv.k (Pv.un (Pv.nm rfl) ln rfl) ?_ rfl
      show some (vI (if ((ns.length : Nat) : Int) < 2 then ((ns.length : Nat) : Int) else 2)) = _
      congr 2
      split <;> omega
    refine ⟨max (min ns.length 2) 1, by omega, bin_eq Pv.k m1 ?_⟩
    show some (vI (if ((min ns.length 2 : Nat) : Int) > 1 then ((min ns.length 2 : Nat) : Int) else 1)) = _
    congr 2
    split <;> omega
  obtain ⟨n, hn, v⟩ := v
  let I : Nat → En → Prop := fun i r => ∃ s1 s2 s3 s4 s5 s6 s7 s8 s9, r = lE (pyInts ns) s1 s2 s3 s4 s5 s6 s7 s8 s9
  obtain ⟨r', e, s1, s2, s3, s4, s5, s6, s7, s8, s9, hr⟩ := for_rng (tg := fun d r => some (put r 1 (.val d))) (bd := lBody) v (Nat.le_trans hn (by decide)) I ⟨_, _, _, _, _, _, _, _, _, rfl⟩ (fun i r h hi => by
    obtain ⟨p1, p2, p3, p4, p5, p6, p7, p8, p9, rfl⟩ := h
    obtain ⟨q2, q3, q4, q5, q6, q7, q8, q9, e⟩ := run_cellW ns i p2 p3 p4 p5 p6 p7 p8 p9
    exact ⟨_, _, rfl, e, _, q2, q3, q4, q5, q6, q7, q8, q9, rfl⟩)
  exact ⟨r', s1, s2, s3, s4, s5, s6, s7, s8, s9, hr, e⟩
/-! the examples at the end -/
def xA : List PyData := [.str "a", .none, .none, .none, .none, .none, .none, .none, .none, .none]
def xN : List PyData := [.none, .none, .none, .none, .none, .none, .none, .none, .none, .none]
def chk1 : FR → Bool
  | .ret (.val (.int i)) [] => decide (i = 1)
  | _ => false
def chk0 : FR → Bool
  | .ret (.val .none) [] => true
  | _ => false
theorem chk1_eq : ∀ x : FR, chk1 x = true → x = .ret (.val (.int 1)) []
  | .ret (.val (.int i)) [], h => by rw [of_decide_eq_true h]
theorem chk0_eq : ∀ x : FR, chk0 x = true → x = .ret (.val .none) []
  | .ret (.val .none) [], h => rfl
theorem ex1 : G_fewest_calls [.val (.list xA), .val (.list xN)] = .ret (.val (.int 1)) [] := chk1_eq _ (by decide +kernel)
theorem ex2 : G_fewest_calls [.val (.list xN), .val (.list xA)] = .ret (.val .none) [] := chk0_eq _ (by decide +kernel)
abbrev eA : M Rv := fzE (binE gAdd (lstE (consL (kE (.str "a")) (nilL))) (repE (lstE (consL (kE .none) (nilL))) (kE (.int 9))))
abbrev eN : M Rv := fzE (repE (lstE (consL (kE .none) (nilL))) (kE (.int 10)))
theorem eN_run (r : En) : eN r = .ok (.val (.list xN)) r := fz_own ((rep_eq (f := lstE (consL (kE .none) (nilL))) (g := kE (.int 10)) (ds := [.none]) (k := 10) rfl rfl (by decide) (by simp [sizeLine])).trans rfl)
theorem eA_run (r : En) : eA r = .ok (.val (.list xA)) r := by
  have h1 : lstE (consL (kE (.str "a")) (nilL)) r = .ok (.own (.lst [.str "a"])) r := lst_eq (ds := [.str "a"]) (cl_go (x := .val (.str "a")) rfl rfl rfl) (by simp [sizeLine])
  have h2 : repE (lstE (consL (kE .none) (nilL))) (kE (.int 9)) r = .ok (.own (.lst (List.replicate 9 [PyData.none]).flatten)) r := rep_eq (f := lstE (consL (kE .none) (nilL))) (g := kE (.int 9)) (ds := [.none]) (k := 9) rfl rfl (by decide) (by simp [sizeLine])
  have h3 : gAdd (.list [.str "a"]) (.list (List.replicate 9 [PyData.none]).flatten) = some (.own (.lst xA)) := by
    show (if ([PyData.str "a"] : List PyData).length + (List.replicate 9 [PyData.none]).flatten.length ≤ sizeLine then some (Rv.own (Ob.lst ([PyData.str "a"] ++ (List.replicate 9 [PyData.none]).flatten))) else none) = _
    rw [if_pos (by simp [sizeLine])]
    rfl
  exact fz_own (bin_eq (Pv.own' h1) (Pv.own' h2) h3)
theorem run_restW (r : En) : (retS (andE (binE gEq (callE G_fewest_calls (consR eA (consR eN (nilR)))) (kE (.int 1))) (binE gIsN (callE G_fewest_calls (consR eN (consR eA (nilR)))) (kE .none)))) r = .rt (.val (.bool true)) r := by
  have c1 : callE G_fewest_calls (consR eA (consR eN (nilR))) r = .ok (.val (.int 1)) r := callV (es := [.list xA, .list xN]) (cr_go (eA_run r) (cr_go (eN_run r) rfl)) ex1
  have c2 : callE G_fewest_calls (consR eN (consR eA (nilR))) r = .ok (.val .none) r := callV (es := [.list xN, .list xA]) (cr_go (eN_run r) (cr_go (eA_run r) rfl)) ex2
  have e11 : gEq (.int 1) (.int 1) = some (vB true) := (eq_int 1 1).trans (by simp)
  have a1 : Pv (binE gEq (callE G_fewest_calls (consR eA (consR eN (nilR)))) (kE (.int 1))) r (.bool true) := Pv.bin (Pv.val c1) Pv.k e11 rfl
  have a2 : binE gIsN (callE G_fewest_calls (consR eN (consR eA (nilR)))) (kE .none) r = .ok (.val (.bool true)) r := bin_eq (Pv.val c2) Pv.k rfl
  exact ret_ok (and_eq (a := true) (b := true) a1 fun _ => a2)
/-- the law's run, for every script -/
theorem pure (ns : List Int) : runF 1 11 b_law [.val (pyInts ns)] = .ret (.val (.bool true)) [] := by
  obtain ⟨r', s1, s2, s3, s4, s5, s6, s7, s8, s9, hr, e1⟩ := run_cellsW ns
  subst hr
  refine (run_eq (np := 1) (n := 11) (bd := b_law) (as := [.val (pyInts ns)]) (r := lE (pyInts ns) none none none none none none none none none) rfl rfl ((seq_ok' e1).trans (run_restW _))).trans ?_
  rfl
end Lw

/-! Lw46F.lean -/
set_option Elab.async false
set_option linter.all false
set_option maxRecDepth 100000
set_option maxHeartbeats 0
namespace Lw
open PySem PySem.Spec PyProof.Rows L2 Mi
theorem all_mk {l : PySem.W.OpenLaw} {w : World} {K : PySem.W.Frag} {h : Heap} {mg : Str → Option Value} {fa : Addr} (X : K.In h) (G : h.Ns mainGlobals mg) (hfa : mg "law" = some (.ref fa))
    {f0 : Addr} {od0 an0 : Option Addr} {sl0 : Array (Option Value)} {oc0 kV0 dc0 pm0 cd0 ct0 : Value}
    (a0 : PySem.W.nsIn K mainGlobals "_law_open_source" = some (some (.ref f0))) (l0 : K.lookup f0 = some ⟨oc0, od0, .func (PySem.W.fnOf "_law_open_source" "_law_open_source" (defArgs s__law_open_source) (defBody s__law_open_source) (defScope s__law_open_source) .none kV0 dc0 pm0 an0 cd0 ct0), sl0⟩) (c0 : PySem.W.codeIn K cd0 "_law_open_source" = true) (k0 : PySem.W.keepIn K (.ref f0) = true)
    {f1 : Addr} {od1 an1 : Option Addr} {sl1 : Array (Option Value)} {oc1 kV1 dc1 pm1 cd1 ct1 : Value}
    (a1 : PySem.W.nsIn K mainGlobals "_law_draw" = some (some (.ref f1))) (l1 : K.lookup f1 = some ⟨oc1, od1, .func (PySem.W.fnOf "_law_draw" "_law_draw" (defArgs s__law_draw) (defBody s__law_draw) (defScope s__law_draw) .none kV1 dc1 pm1 an1 cd1 ct1), sl1⟩) (c1 : PySem.W.codeIn K cd1 "_law_draw" = true) (k1 : PySem.W.keepIn K (.ref f1) = true)
    {f2 : Addr} {od2 an2 : Option Addr} {sl2 : Array (Option Value)} {oc2 kV2 dc2 pm2 cd2 ct2 : Value}
    (a2 : PySem.W.nsIn K mainGlobals "_law_shuffled" = some (some (.ref f2))) (l2 : K.lookup f2 = some ⟨oc2, od2, .func (PySem.W.fnOf "_law_shuffled" "_law_shuffled" (defArgs s__law_shuffled) (defBody s__law_shuffled) (defScope s__law_shuffled) .none kV2 dc2 pm2 an2 cd2 ct2), sl2⟩) (c2 : PySem.W.codeIn K cd2 "_law_shuffled" = true) (k2 : PySem.W.keepIn K (.ref f2) = true)
    {f3 : Addr} {od3 an3 : Option Addr} {sl3 : Array (Option Value)} {oc3 kV3 dc3 pm3 cd3 ct3 : Value}
    (a3 : PySem.W.nsIn K mainGlobals "_law_turned" = some (some (.ref f3))) (l3 : K.lookup f3 = some ⟨oc3, od3, .func (PySem.W.fnOf "_law_turned" "_law_turned" (defArgs s__law_turned) (defBody s__law_turned) (defScope s__law_turned) .none kV3 dc3 pm3 an3 cd3 ct3), sl3⟩) (c3 : PySem.W.codeIn K cd3 "_law_turned" = true) (k3 : PySem.W.keepIn K (.ref f3) = true)
    {f4 : Addr} {od4 an4 : Option Addr} {sl4 : Array (Option Value)} {oc4 kV4 dc4 pm4 cd4 ct4 : Value}
    (a4 : PySem.W.nsIn K mainGlobals "_law_pair" = some (some (.ref f4))) (l4 : K.lookup f4 = some ⟨oc4, od4, .func (PySem.W.fnOf "_law_pair" "_law_pair" (defArgs s__law_pair) (defBody s__law_pair) (defScope s__law_pair) .none kV4 dc4 pm4 an4 cd4 ct4), sl4⟩) (c4 : PySem.W.codeIn K cd4 "_law_pair" = true) (k4 : PySem.W.keepIn K (.ref f4) = true)
    {f5 : Addr} {od5 an5 : Option Addr} {sl5 : Array (Option Value)} {oc5 kV5 dc5 pm5 cd5 ct5 : Value}
    (a5 : PySem.W.nsIn K mainGlobals "is_list" = some (some (.ref f5))) (l5 : K.lookup f5 = some ⟨oc5, od5, .func (PySem.W.fnOf "is_list" "is_list" (defArgs s_is_list) (defBody s_is_list) (defScope s_is_list) .none kV5 dc5 pm5 an5 cd5 ct5), sl5⟩) (c5 : PySem.W.codeIn K cd5 "is_list" = true) (k5 : PySem.W.keepIn K (.ref f5) = true)
    {f6 : Addr} {od6 an6 : Option Addr} {sl6 : Array (Option Value)} {oc6 kV6 dc6 pm6 cd6 ct6 : Value}
    (a6 : PySem.W.nsIn K mainGlobals "is_name" = some (some (.ref f6))) (l6 : K.lookup f6 = some ⟨oc6, od6, .func (PySem.W.fnOf "is_name" "is_name" (defArgs s_is_name) (defBody s_is_name) (defScope s_is_name) .none kV6 dc6 pm6 an6 cd6 ct6), sl6⟩) (c6 : PySem.W.codeIn K cd6 "is_name" = true) (k6 : PySem.W.keepIn K (.ref f6) = true)
    {f7 : Addr} {od7 an7 : Option Addr} {sl7 : Array (Option Value)} {oc7 kV7 dc7 pm7 cd7 ct7 : Value}
    (a7 : PySem.W.nsIn K mainGlobals "is_table" = some (some (.ref f7))) (l7 : K.lookup f7 = some ⟨oc7, od7, .func (PySem.W.fnOf "is_table" "is_table" (defArgs s_is_table) (defBody s_is_table) (defScope s_is_table) .none kV7 dc7 pm7 an7 cd7 ct7), sl7⟩) (c7 : PySem.W.codeIn K cd7 "is_table" = true) (k7 : PySem.W.keepIn K (.ref f7) = true)
    {f8 : Addr} {od8 an8 : Option Addr} {sl8 : Array (Option Value)} {oc8 kV8 dc8 pm8 cd8 ct8 : Value}
    (a8 : PySem.W.nsIn K mainGlobals "check_table" = some (some (.ref f8))) (l8 : K.lookup f8 = some ⟨oc8, od8, .func (PySem.W.fnOf "check_table" "check_table" (defArgs s_check_table) (defBody s_check_table) (defScope s_check_table) .none kV8 dc8 pm8 an8 cd8 ct8), sl8⟩) (c8 : PySem.W.codeIn K cd8 "check_table" = true) (k8 : PySem.W.keepIn K (.ref f8) = true)
    {f9 : Addr} {od9 an9 : Option Addr} {sl9 : Array (Option Value)} {oc9 kV9 dc9 pm9 cd9 ct9 : Value}
    (a9 : PySem.W.nsIn K mainGlobals "changed_numbers" = some (some (.ref f9))) (l9 : K.lookup f9 = some ⟨oc9, od9, .func (PySem.W.fnOf "changed_numbers" "changed_numbers" (defArgs s_changed_numbers) (defBody s_changed_numbers) (defScope s_changed_numbers) .none kV9 dc9 pm9 an9 cd9 ct9), sl9⟩) (c9 : PySem.W.codeIn K cd9 "changed_numbers" = true) (k9 : PySem.W.keepIn K (.ref f9) = true)
    {f10 : Addr} {od10 an10 : Option Addr} {sl10 : Array (Option Value)} {oc10 kV10 dc10 pm10 cd10 ct10 : Value}
    (a10 : PySem.W.nsIn K mainGlobals "ring_links" = some (some (.ref f10))) (l10 : K.lookup f10 = some ⟨oc10, od10, .func (PySem.W.fnOf "ring_links" "ring_links" (defArgs s_ring_links) (defBody s_ring_links) (defScope s_ring_links) .none kV10 dc10 pm10 an10 cd10 ct10), sl10⟩) (c10 : PySem.W.codeIn K cd10 "ring_links" = true) (k10 : PySem.W.keepIn K (.ref f10) = true)
    {f11 : Addr} {od11 an11 : Option Addr} {sl11 : Array (Option Value)} {oc11 kV11 dc11 pm11 cd11 ct11 : Value}
    (a11 : PySem.W.nsIn K mainGlobals "ring_from" = some (some (.ref f11))) (l11 : K.lookup f11 = some ⟨oc11, od11, .func (PySem.W.fnOf "ring_from" "ring_from" (defArgs s_ring_from) (defBody s_ring_from) (defScope s_ring_from) .none kV11 dc11 pm11 an11 cd11 ct11), sl11⟩) (c11 : PySem.W.codeIn K cd11 "ring_from" = true) (k11 : PySem.W.keepIn K (.ref f11) = true)
    {f12 : Addr} {od12 an12 : Option Addr} {sl12 : Array (Option Value)} {oc12 kV12 dc12 pm12 cd12 ct12 : Value}
    (a12 : PySem.W.nsIn K mainGlobals "find_rings" = some (some (.ref f12))) (l12 : K.lookup f12 = some ⟨oc12, od12, .func (PySem.W.fnOf "find_rings" "find_rings" (defArgs s_find_rings) (defBody s_find_rings) (defScope s_find_rings) .none kV12 dc12 pm12 an12 cd12 ct12), sl12⟩) (c12 : PySem.W.codeIn K cd12 "find_rings" = true) (k12 : PySem.W.keepIn K (.ref f12) = true)
    {f13 : Addr} {od13 an13 : Option Addr} {sl13 : Array (Option Value)} {oc13 kV13 dc13 pm13 cd13 ct13 : Value}
    (a13 : PySem.W.nsIn K mainGlobals "has_unchanged_spare" = some (some (.ref f13))) (l13 : K.lookup f13 = some ⟨oc13, od13, .func (PySem.W.fnOf "has_unchanged_spare" "has_unchanged_spare" (defArgs s_has_unchanged_spare) (defBody s_has_unchanged_spare) (defScope s_has_unchanged_spare) .none kV13 dc13 pm13 an13 cd13 ct13), sl13⟩) (c13 : PySem.W.codeIn K cd13 "has_unchanged_spare" = true) (k13 : PySem.W.keepIn K (.ref f13) = true)
    {f14 : Addr} {od14 an14 : Option Addr} {sl14 : Array (Option Value)} {oc14 kV14 dc14 pm14 cd14 ct14 : Value}
    (a14 : PySem.W.nsIn K mainGlobals "count_calls" = some (some (.ref f14))) (l14 : K.lookup f14 = some ⟨oc14, od14, .func (PySem.W.fnOf "count_calls" "count_calls" (defArgs s_count_calls) (defBody s_count_calls) (defScope s_count_calls) .none kV14 dc14 pm14 an14 cd14 ct14), sl14⟩) (c14 : PySem.W.codeIn K cd14 "count_calls" = true) (k14 : PySem.W.keepIn K (.ref f14) = true)
    {f15 : Addr} {od15 an15 : Option Addr} {sl15 : Array (Option Value)} {oc15 kV15 dc15 pm15 cd15 ct15 : Value}
    (a15 : PySem.W.nsIn K mainGlobals "fewest_calls" = some (some (.ref f15))) (l15 : K.lookup f15 = some ⟨oc15, od15, .func (PySem.W.fnOf "fewest_calls" "fewest_calls" (defArgs s_fewest_calls) (defBody s_fewest_calls) (defScope s_fewest_calls) .none kV15 dc15 pm15 an15 cd15 ct15), sl15⟩) (c15 : PySem.W.codeIn K cd15 "fewest_calls" = true) (k15 : PySem.W.keepIn K (.ref f15) = true)
    {f16 : Addr} {od16 an16 : Option Addr} {sl16 : Array (Option Value)} {oc16 kV16 dc16 pm16 cd16 ct16 : Value}
    (a16 : PySem.W.nsIn K mainGlobals "_law_put" = some (some (.ref f16))) (l16 : K.lookup f16 = some ⟨oc16, od16, .func (PySem.W.fnOf "_law_put" "_law_put" (defArgs s__law_put) (defBody s__law_put) (defScope s__law_put) .none kV16 dc16 pm16 an16 cd16 ct16), sl16⟩) (c16 : PySem.W.codeIn K cd16 "_law_put" = true) (k16 : PySem.W.keepIn K (.ref f16) = true)
    {f17 : Addr} {od17 an17 : Option Addr} {sl17 : Array (Option Value)} {oc17 kV17 dc17 pm17 cd17 ct17 : Value}
    (a17 : PySem.W.nsIn K mainGlobals "needed_calls" = some (some (.ref f17))) (l17 : K.lookup f17 = some ⟨oc17, od17, .func (PySem.W.fnOf "needed_calls" "needed_calls" (defArgs s_needed_calls) (defBody s_needed_calls) (defScope s_needed_calls) .none kV17 dc17 pm17 an17 cd17 ct17), sl17⟩) (c17 : PySem.W.codeIn K cd17 "needed_calls" = true) (k17 : PySem.W.keepIn K (.ref f17) = true)
    {f18 : Addr} {od18 an18 : Option Addr} {sl18 : Array (Option Value)} {oc18 kV18 dc18 pm18 cd18 ct18 : Value}
    (a18 : PySem.W.nsIn K mainGlobals "possible_calls" = some (some (.ref f18))) (l18 : K.lookup f18 = some ⟨oc18, od18, .func (PySem.W.fnOf "possible_calls" "possible_calls" (defArgs s_possible_calls) (defBody s_possible_calls) (defScope s_possible_calls) .none kV18 dc18 pm18 an18 cd18 ct18), sl18⟩) (c18 : PySem.W.codeIn K cd18 "possible_calls" = true) (k18 : PySem.W.keepIn K (.ref f18) = true)
    {f19 : Addr} {od19 an19 : Option Addr} {sl19 : Array (Option Value)} {oc19 kV19 dc19 pm19 cd19 ct19 : Value}
    (a19 : PySem.W.nsIn K mainGlobals "table_behind" = some (some (.ref f19))) (l19 : K.lookup f19 = some ⟨oc19, od19, .func (PySem.W.fnOf "table_behind" "table_behind" (defArgs s_table_behind) (defBody s_table_behind) (defScope s_table_behind) .none kV19 dc19 pm19 an19 cd19 ct19), sl19⟩) (c19 : PySem.W.codeIn K cd19 "table_behind" = true) (k19 : PySem.W.keepIn K (.ref f19) = true)
    {f20 : Addr} {od20 an20 : Option Addr} {sl20 : Array (Option Value)} {oc20 kV20 dc20 pm20 cd20 ct20 : Value}
    (a20 : PySem.W.nsIn K mainGlobals "begins_well" = some (some (.ref f20))) (l20 : K.lookup f20 = some ⟨oc20, od20, .func (PySem.W.fnOf "begins_well" "begins_well" (defArgs s_begins_well) (defBody s_begins_well) (defScope s_begins_well) .none kV20 dc20 pm20 an20 cd20 ct20), sl20⟩) (c20 : PySem.W.codeIn K cd20 "begins_well" = true) (k20 : PySem.W.keepIn K (.ref f20) = true)
    {f21 : Addr} {od21 an21 : Option Addr} {sl21 : Array (Option Value)} {oc21 kV21 dc21 pm21 cd21 ct21 : Value}
    (a21 : PySem.W.nsIn K mainGlobals "next_calls" = some (some (.ref f21))) (l21 : K.lookup f21 = some ⟨oc21, od21, .func (PySem.W.fnOf "next_calls" "next_calls" (defArgs s_next_calls) (defBody s_next_calls) (defScope s_next_calls) .none kV21 dc21 pm21 an21 cd21 ct21), sl21⟩) (c21 : PySem.W.codeIn K cd21 "next_calls" = true) (k21 : PySem.W.keepIn K (.ref f21) = true)
    {f22 : Addr} {od22 an22 : Option Addr} {sl22 : Array (Option Value)} {oc22 kV22 dc22 pm22 cd22 ct22 : Value}
    (a22 : PySem.W.nsIn K mainGlobals "rings_of" = some (some (.ref f22))) (l22 : K.lookup f22 = some ⟨oc22, od22, .func (PySem.W.fnOf "rings_of" "rings_of" (defArgs s_rings_of) (defBody s_rings_of) (defScope s_rings_of) .none kV22 dc22 pm22 an22 cd22 ct22), sl22⟩) (c22 : PySem.W.codeIn K cd22 "rings_of" = true) (k22 : PySem.W.keepIn K (.ref f22) = true)
    {f23 : Addr} {od23 an23 : Option Addr} {sl23 : Array (Option Value)} {oc23 kV23 dc23 pm23 cd23 ct23 : Value}
    (a23 : PySem.W.nsIn K mainGlobals "_law_moved" = some (some (.ref f23))) (l23 : K.lookup f23 = some ⟨oc23, od23, .func (PySem.W.fnOf "_law_moved" "_law_moved" (defArgs s__law_moved) (defBody s__law_moved) (defScope s__law_moved) .none kV23 dc23 pm23 an23 cd23 ct23), sl23⟩) (c23 : PySem.W.codeIn K cd23 "_law_moved" = true) (k23 : PySem.W.keepIn K (.ref f23) = true)
    {f24 : Addr} {od24 an24 : Option Addr} {sl24 : Array (Option Value)} {oc24 kV24 dc24 pm24 cd24 ct24 : Value}
    (a24 : PySem.W.nsIn K mainGlobals "_law_renamed_right" = some (some (.ref f24))) (l24 : K.lookup f24 = some ⟨oc24, od24, .func (PySem.W.fnOf "_law_renamed_right" "_law_renamed_right" (defArgs s__law_renamed_right) (defBody s__law_renamed_right) (defScope s__law_renamed_right) .none kV24 dc24 pm24 an24 cd24 ct24), sl24⟩) (c24 : PySem.W.codeIn K cd24 "_law_renamed_right" = true) (k24 : PySem.W.keepIn K (.ref f24) = true)
    {f25 : Addr} {od25 an25 : Option Addr} {sl25 : Array (Option Value)} {oc25 kV25 dc25 pm25 cd25 ct25 : Value}
    (a25 : PySem.W.nsIn K mainGlobals "least_call" = some (some (.ref f25))) (l25 : K.lookup f25 = some ⟨oc25, od25, .func (PySem.W.fnOf "least_call" "least_call" (defArgs s_least_call) (defBody s_least_call) (defScope s_least_call) .none kV25 dc25 pm25 an25 cd25 ct25), sl25⟩) (c25 : PySem.W.codeIn K cd25 "least_call" = true) (k25 : PySem.W.keepIn K (.ref f25) = true)
    {f26 : Addr} {od26 an26 : Option Addr} {sl26 : Array (Option Value)} {oc26 kV26 dc26 pm26 cd26 ct26 : Value}
    (a26 : PySem.W.nsIn K mainGlobals "calls_between" = some (some (.ref f26))) (l26 : K.lookup f26 = some ⟨oc26, od26, .func (PySem.W.fnOf "calls_between" "calls_between" (defArgs s_calls_between) (defBody s_calls_between) (defScope s_calls_between) .none kV26 dc26 pm26 an26 cd26 ct26), sl26⟩) (c26 : PySem.W.codeIn K cd26 "calls_between" = true) (k26 : PySem.W.keepIn K (.ref f26) = true)
    {f27 : Addr} {od27 an27 : Option Addr} {sl27 : Array (Option Value)} {oc27 kV27 dc27 pm27 cd27 ct27 : Value}
    (a27 : PySem.W.nsIn K mainGlobals "is_call_list" = some (some (.ref f27))) (l27 : K.lookup f27 = some ⟨oc27, od27, .func (PySem.W.fnOf "is_call_list" "is_call_list" (defArgs s_is_call_list) (defBody s_is_call_list) (defScope s_is_call_list) .none kV27 dc27 pm27 an27 cd27 ct27), sl27⟩) (c27 : PySem.W.codeIn K cd27 "is_call_list" = true) (k27 : PySem.W.keepIn K (.ref f27) = true)
    {f28 : Addr} {od28 an28 : Option Addr} {sl28 : Array (Option Value)} {oc28 kV28 dc28 pm28 cd28 ct28 : Value}
    (a28 : PySem.W.nsIn K mainGlobals "is_tuple" = some (some (.ref f28))) (l28 : K.lookup f28 = some ⟨oc28, od28, .func (PySem.W.fnOf "is_tuple" "is_tuple" (defArgs s_is_tuple) (defBody s_is_tuple) (defScope s_is_tuple) .none kV28 dc28 pm28 an28 cd28 ct28), sl28⟩) (c28 : PySem.W.codeIn K cd28 "is_tuple" = true) (k28 : PySem.W.keepIn K (.ref f28) = true)
    {f29 : Addr} {od29 an29 : Option Addr} {sl29 : Array (Option Value)} {oc29 kV29 dc29 pm29 cd29 ct29 : Value}
    (a29 : PySem.W.nsIn K mainGlobals "is_integer" = some (some (.ref f29))) (l29 : K.lookup f29 = some ⟨oc29, od29, .func (PySem.W.fnOf "is_integer" "is_integer" (defArgs s_is_integer) (defBody s_is_integer) (defScope s_is_integer) .none kV29 dc29 pm29 an29 cd29 ct29), sl29⟩) (c29 : PySem.W.codeIn K cd29 "is_integer" = true) (k29 : PySem.W.keepIn K (.ref f29) = true)
    {f30 : Addr} {od30 an30 : Option Addr} {sl30 : Array (Option Value)} {oc30 kV30 dc30 pm30 cd30 ct30 : Value}
    (a30 : PySem.W.nsIn K mainGlobals "is_descriptor" = some (some (.ref f30))) (l30 : K.lookup f30 = some ⟨oc30, od30, .func (PySem.W.fnOf "is_descriptor" "is_descriptor" (defArgs s_is_descriptor) (defBody s_is_descriptor) (defScope s_is_descriptor) .none kV30 dc30 pm30 an30 cd30 ct30), sl30⟩) (c30 : PySem.W.codeIn K cd30 "is_descriptor" = true) (k30 : PySem.W.keepIn K (.ref f30) = true)
    {f31 : Addr} {od31 an31 : Option Addr} {sl31 : Array (Option Value)} {oc31 kV31 dc31 pm31 cd31 ct31 : Value}
    (a31 : PySem.W.nsIn K mainGlobals "is_call" = some (some (.ref f31))) (l31 : K.lookup f31 = some ⟨oc31, od31, .func (PySem.W.fnOf "is_call" "is_call" (defArgs s_is_call) (defBody s_is_call) (defScope s_is_call) .none kV31 dc31 pm31 an31 cd31 ct31), sl31⟩) (c31 : PySem.W.codeIn K cd31 "is_call" = true) (k31 : PySem.W.keepIn K (.ref f31) = true)
    {f32 : Addr} {od32 an32 : Option Addr} {sl32 : Array (Option Value)} {oc32 kV32 dc32 pm32 cd32 ct32 : Value}
    (a32 : PySem.W.nsIn K mainGlobals "wrong_call" = some (some (.ref f32))) (l32 : K.lookup f32 = some ⟨oc32, od32, .func (PySem.W.fnOf "wrong_call" "wrong_call" (defArgs s_wrong_call) (defBody s_wrong_call) (defScope s_wrong_call) .none kV32 dc32 pm32 an32 cd32 ct32), sl32⟩) (c32 : PySem.W.codeIn K cd32 "wrong_call" = true) (k32 : PySem.W.keepIn K (.ref f32) = true)
    {f33 : Addr} {od33 an33 : Option Addr} {sl33 : Array (Option Value)} {oc33 kV33 dc33 pm33 cd33 ct33 : Value}
    (a33 : PySem.W.nsIn K mainGlobals "is_calls" = some (some (.ref f33))) (l33 : K.lookup f33 = some ⟨oc33, od33, .func (PySem.W.fnOf "is_calls" "is_calls" (defArgs s_is_calls) (defBody s_is_calls) (defScope s_is_calls) .none kV33 dc33 pm33 an33 cd33 ct33), sl33⟩) (c33 : PySem.W.codeIn K cd33 "is_calls" = true) (k33 : PySem.W.keepIn K (.ref f33) = true)
    {f34 : Addr} {od34 an34 : Option Addr} {sl34 : Array (Option Value)} {oc34 kV34 dc34 pm34 cd34 ct34 : Value}
    (a34 : PySem.W.nsIn K mainGlobals "table_after" = some (some (.ref f34))) (l34 : K.lookup f34 = some ⟨oc34, od34, .func (PySem.W.fnOf "table_after" "table_after" (defArgs s_table_after) (defBody s_table_after) (defScope s_table_after) .none kV34 dc34 pm34 an34 cd34 ct34), sl34⟩) (c34 : PySem.W.codeIn K cd34 "table_after" = true) (k34 : PySem.W.keepIn K (.ref f34) = true)
    {f35 : Addr} {od35 an35 : Option Addr} {sl35 : Array (Option Value)} {oc35 kV35 dc35 pm35 cd35 ct35 : Value}
    (a35 : PySem.W.nsIn K mainGlobals "least_calls" = some (some (.ref f35))) (l35 : K.lookup f35 = some ⟨oc35, od35, .func (PySem.W.fnOf "least_calls" "least_calls" (defArgs s_least_calls) (defBody s_least_calls) (defScope s_least_calls) .none kV35 dc35 pm35 an35 cd35 ct35), sl35⟩) (c35 : PySem.W.codeIn K cd35 "least_calls" = true) (k35 : PySem.W.keepIn K (.ref f35) = true)
    {f36 : Addr} {od36 an36 : Option Addr} {sl36 : Array (Option Value)} {oc36 kV36 dc36 pm36 cd36 ct36 : Value}
    (a36 : PySem.W.nsIn K mainGlobals "after_calls" = some (some (.ref f36))) (l36 : K.lookup f36 = some ⟨oc36, od36, .func (PySem.W.fnOf "after_calls" "after_calls" (defArgs s_after_calls) (defBody s_after_calls) (defScope s_after_calls) .none kV36 dc36 pm36 an36 cd36 ct36), sl36⟩) (c36 : PySem.W.codeIn K cd36 "after_calls" = true) (k36 : PySem.W.keepIn K (.ref f36) = true)
    {f37 : Addr} {od37 an37 : Option Addr} {sl37 : Array (Option Value)} {oc37 kV37 dc37 pm37 cd37 ct37 : Value}
    (a37 : PySem.W.nsIn K mainGlobals "_law_calls_right" = some (some (.ref f37))) (l37 : K.lookup f37 = some ⟨oc37, od37, .func (PySem.W.fnOf "_law_calls_right" "_law_calls_right" (defArgs s__law_calls_right) (defBody s__law_calls_right) (defScope s__law_calls_right) .none kV37 dc37 pm37 an37 cd37 ct37), sl37⟩) (c37 : PySem.W.codeIn K cd37 "_law_calls_right" = true) (k37 : PySem.W.keepIn K (.ref f37) = true)
    {f38 : Addr} {od38 an38 : Option Addr} {sl38 : Array (Option Value)} {oc38 kV38 dc38 pm38 cd38 ct38 : Value}
    (a38 : PySem.W.nsIn K mainGlobals "law" = some (some (.ref f38))) (l38 : K.lookup f38 = some ⟨oc38, od38, .func (PySem.W.fnOf "law" "law" (defArgs s_law) (defBody s_law) (defScope s_law) .none kV38 dc38 pm38 an38 cd38 ct38), sl38⟩) (c38 : PySem.W.codeIn K cd38 "law" = true) (k38 : PySem.W.keepIn K (.ref f38) = true)
    (z_len : PySem.W.nsIn K mainGlobals "len" = some none)
    (z_list : PySem.W.nsIn K mainGlobals "list" = some none)
    (z_tuple : PySem.W.nsIn K mainGlobals "tuple" = some none)
    (z_range : PySem.W.nsIn K mainGlobals "range" = some none)
    (z_enumerate : PySem.W.nsIn K mainGlobals "enumerate" = some none)
    (z_int : PySem.W.nsIn K mainGlobals "int" = some none)
    (z_str : PySem.W.nsIn K mainGlobals "str" = some none)
    (z_max : PySem.W.nsIn K mainGlobals "max" = some none)
    (z_min : PySem.W.nsIn K mainGlobals "min" = some none)
    (z_sum : PySem.W.nsIn K mainGlobals "sum" = some none)
    (z_any : PySem.W.nsIn K mainGlobals "any" = some none)
    (z_all : PySem.W.nsIn K mainGlobals "all" = some none)
    (z_sorted : PySem.W.nsIn K mainGlobals "sorted" = some none)
    (z_isinstance : PySem.W.nsIn K mainGlobals "isinstance" = some none)
    (z_type : PySem.W.nsIn K mainGlobals "type" = some none)
    (z_zip : PySem.W.nsIn K mainGlobals "zip" = some none)
    (z_bool : PySem.W.nsIn K mainGlobals "bool" = some none)
    {t_DESCRIPTORS} (y_DESCRIPTORS : PySem.W.nsIn K mainGlobals "DESCRIPTORS" = some (some (.int 10 t_DESCRIPTORS)))
    {t_MOST_LETTERS} (y_MOST_LETTERS : PySem.W.nsIn K mainGlobals "MOST_LETTERS" = some (some (.int 8 t_MOST_LETTERS)))
    {t_MOST_CALLS} (y_MOST_CALLS : PySem.W.nsIn K mainGlobals "MOST_CALLS" = some (some (.int 100 t_MOST_CALLS)))
    {C_InvalidTable : Addr} (n_InvalidTable : PySem.W.nsIn K mainGlobals "InvalidTable" = some (some (.ref C_InvalidTable)))
    {C_NoCalls : Addr} (n_NoCalls : PySem.W.nsIn K mainGlobals "NoCalls" = some (some (.ref C_NoCalls)))
    (sb_InvalidTable : PySem.W.subIn K (.ref C_InvalidTable) (.type "BaseException") = some true) (ty_InvalidTable : PySem.W.typeIn K (.ref C_InvalidTable) = some (.type "type"))
    (sb_NoCalls : PySem.W.subIn K (.ref C_NoCalls) (.type "BaseException") = some true) (ty_NoCalls : PySem.W.typeIn K (.ref C_NoCalls) = some (.type "type"))
    (x_InvalidTable : PySem.W.excIn K C_InvalidTable HandSPX.veTail "ValueError.__new__" = true) (kp_InvalidTable : PySem.W.keepIn K (.ref C_InvalidTable) = true)
    (x_NoCalls : PySem.W.excIn K C_NoCalls HandSPX.veTail "ValueError.__new__" = true) (kp_NoCalls : PySem.W.keepIn K (.ref C_NoCalls) = true)
    : ∃ fd : FuncData, (∀ (s : Shared) (v : Value), BindsTo s fd ⟨[v], []⟩ [("script", v)]) ∧ ∀ base : Heap, K.In base → base.Ns mainGlobals mg → FnG l.prog w K mg base 9 fa fd ["script"] (spF K 1 11 b_law) := by
  have e := hfa.symm.trans (PySem.W.mg_of X G a38)
  cases e
  have N : Nm mg := ⟨PySem.W.mg_none_of X G z_len, PySem.W.mg_none_of X G z_list, PySem.W.mg_none_of X G z_tuple, PySem.W.mg_none_of X G z_range, PySem.W.mg_none_of X G z_enumerate, PySem.W.mg_none_of X G z_int, PySem.W.mg_none_of X G z_str, PySem.W.mg_none_of X G z_max, PySem.W.mg_none_of X G z_min, PySem.W.mg_none_of X G z_sum, PySem.W.mg_none_of X G z_any, PySem.W.mg_none_of X G z_all, PySem.W.mg_none_of X G z_sorted, PySem.W.mg_none_of X G z_isinstance, PySem.W.mg_none_of X G z_type, PySem.W.mg_none_of X G z_zip, PySem.W.mg_none_of X G z_bool, ⟨_, PySem.W.mg_of X G y_DESCRIPTORS⟩, ⟨_, PySem.W.mg_of X G y_MOST_LETTERS⟩, ⟨_, PySem.W.mg_of X G y_MOST_CALLS⟩⟩
  refine ⟨PySem.W.fnOf "law" "law" (defArgs s_law) (defBody s_law) (defScope s_law) .none kV38 dc38 pm38 an38 cd38 ct38, fun s v => .of_eq rfl, fun base _ _ => ?_⟩
  have E_InvalidTable : ExD K mg "InvalidTable" := ⟨_, PySem.W.mg_of X G n_InvalidTable, n_InvalidTable, x_InvalidTable, kp_InvalidTable, sb_InvalidTable, ty_InvalidTable⟩
  have E_NoCalls : ExD K mg "NoCalls" := ⟨_, PySem.W.mg_of X G n_NoCalls, n_NoCalls, x_NoCalls, kp_NoCalls, sb_NoCalls, ty_NoCalls⟩
  have F0 := fun_mk (st := s__law_open_source) l0 c0 k0
  have D__law_open_source : Def l.prog w K mg base "_law_open_source" 1 2 3 b__law_open_source := ⟨f0, _, ["script", "k"], PySem.W.mg_of X G a0, k0, F0.binds (ps := ["script", "k"]) (fun _ _ _ _ _ _ us hl => match us, hl with | [_, _], _ => rfl), rfl, k__law_open_source F0 N ⟩
  have F1 := fun_mk (st := s__law_draw) l1 c1 k1
  have D__law_draw : Def l.prog w K mg base "_law_draw" 1 2 4 b__law_draw := ⟨f1, _, ["source", "limit"], PySem.W.mg_of X G a1, k1, F1.binds (ps := ["source", "limit"]) (fun _ _ _ _ _ _ us hl => match us, hl with | [_, _], _ => rfl), rfl, k__law_draw F1 N ⟩
  have F2 := fun_mk (st := s__law_shuffled) l2 c2 k2
  have D__law_shuffled : Def l.prog w K mg base "_law_shuffled" 2 2 4 b__law_shuffled := ⟨f2, _, ["source", "things"], PySem.W.mg_of X G a2, k2, F2.binds (ps := ["source", "things"]) (fun _ _ _ _ _ _ us hl => match us, hl with | [_, _], _ => rfl), rfl, k__law_shuffled F2 N D__law_draw⟩
  have F3 := fun_mk (st := s__law_turned) l3 c3 k3
  have D__law_turned : Def l.prog w K mg base "_law_turned" 2 3 7 b__law_turned := ⟨f3, _, ["source", "row", "order"], PySem.W.mg_of X G a3, k3, F3.binds (ps := ["source", "row", "order"]) (fun _ _ _ _ _ _ us hl => match us, hl with | [_, _, _], _ => rfl), rfl, k__law_turned F3 N D__law_draw⟩
  have F4 := fun_mk (st := s__law_pair) l4 c4 k4
  have D__law_pair : Def l.prog w K mg base "_law_pair" 3 1 6 b__law_pair := ⟨f4, _, ["source"], PySem.W.mg_of X G a4, k4, F4.binds (ps := ["source"]) (fun _ _ _ _ _ _ us hl => match us, hl with | [_], _ => rfl), rfl, k__law_pair F4 N D__law_shuffled D__law_turned D__law_draw⟩
  have F5 := fun_mk (st := s_is_list) l5 c5 k5
  have D_is_list : Def l.prog w K mg base "is_list" 1 1 1 b_is_list := ⟨f5, _, ["value"], PySem.W.mg_of X G a5, k5, F5.binds (ps := ["value"]) (fun _ _ _ _ _ _ us hl => match us, hl with | [_], _ => rfl), rfl, k_is_list F5 N ⟩
  have F6 := fun_mk (st := s_is_name) l6 c6 k6
  have D_is_name : Def l.prog w K mg base "is_name" 1 1 2 b_is_name := ⟨f6, _, ["value"], PySem.W.mg_of X G a6, k6, F6.binds (ps := ["value"]) (fun _ _ _ _ _ _ us hl => match us, hl with | [_], _ => rfl), rfl, k_is_name F6 N ⟩
  have F7 := fun_mk (st := s_is_table) l7 c7 k7
  have D_is_table : Def l.prog w K mg base "is_table" 2 1 2 b_is_table := ⟨f7, _, ["value"], PySem.W.mg_of X G a7, k7, F7.binds (ps := ["value"]) (fun _ _ _ _ _ _ us hl => match us, hl with | [_], _ => rfl), rfl, k_is_table F7 N D_is_list D_is_name⟩
  have F8 := fun_mk (st := s_check_table) l8 c8 k8
  have D_check_table : Def l.prog w K mg base "check_table" 3 1 1 b_check_table := ⟨f8, _, ["value"], PySem.W.mg_of X G a8, k8, F8.binds (ps := ["value"]) (fun _ _ _ _ _ _ us hl => match us, hl with | [_], _ => rfl), rfl, k_check_table F8 N D_is_table E_InvalidTable⟩
  have F9 := fun_mk (st := s_changed_numbers) l9 c9 k9
  have D_changed_numbers : Def l.prog w K mg base "changed_numbers" 1 2 3 b_changed_numbers := ⟨f9, _, ["table", "goal"], PySem.W.mg_of X G a9, k9, F9.binds (ps := ["table", "goal"]) (fun _ _ _ _ _ _ us hl => match us, hl with | [_, _], _ => rfl), rfl, k_changed_numbers F9 N ⟩
  have F10 := fun_mk (st := s_ring_links) l10 c10 k10
  have D_ring_links : Def l.prog w K mg base "ring_links" 2 2 9 b_ring_links := ⟨f10, _, ["table", "goal"], PySem.W.mg_of X G a10, k10, F10.binds (ps := ["table", "goal"]) (fun _ _ _ _ _ _ us hl => match us, hl with | [_, _], _ => rfl), rfl, k_ring_links F10 N D_changed_numbers⟩
  have F11 := fun_mk (st := s_ring_from) l11 c11 k11
  have D_ring_from : Def l.prog w K mg base "ring_from" 1 2 4 b_ring_from := ⟨f11, _, ["links", "start"], PySem.W.mg_of X G a11, k11, F11.binds (ps := ["links", "start"]) (fun _ _ _ _ _ _ us hl => match us, hl with | [_, _], _ => rfl), rfl, k_ring_from F11 N ⟩
  have F12 := fun_mk (st := s_find_rings) l12 c12 k12
  have D_find_rings : Def l.prog w K mg base "find_rings" 3 2 6 b_find_rings := ⟨f12, _, ["table", "goal"], PySem.W.mg_of X G a12, k12, F12.binds (ps := ["table", "goal"]) (fun _ _ _ _ _ _ us hl => match us, hl with | [_, _], _ => rfl), rfl, k_find_rings F12 N D_ring_links D_ring_from⟩
  have F13 := fun_mk (st := s_has_unchanged_spare) l13 c13 k13
  have D_has_unchanged_spare : Def l.prog w K mg base "has_unchanged_spare" 1 2 5 b_has_unchanged_spare := ⟨f13, _, ["table", "goal"], PySem.W.mg_of X G a13, k13, F13.binds (ps := ["table", "goal"]) (fun _ _ _ _ _ _ us hl => match us, hl with | [_, _], _ => rfl), rfl, k_has_unchanged_spare F13 N ⟩
  have F14 := fun_mk (st := s_count_calls) l14 c14 k14
  have D_count_calls : Def l.prog w K mg base "count_calls" 4 2 6 b_count_calls := ⟨f14, _, ["table", "goal"], PySem.W.mg_of X G a14, k14, F14.binds (ps := ["table", "goal"]) (fun _ _ _ _ _ _ us hl => match us, hl with | [_, _], _ => rfl), rfl, k_count_calls F14 N D_find_rings D_has_unchanged_spare D_changed_numbers⟩
  have F15 := fun_mk (st := s_fewest_calls) l15 c15 k15
  have D_fewest_calls : Def l.prog w K mg base "fewest_calls" 5 2 2 b_fewest_calls := ⟨f15, _, ["table", "goal"], PySem.W.mg_of X G a15, k15, F15.binds (ps := ["table", "goal"]) (fun _ _ _ _ _ _ us hl => match us, hl with | [_, _], _ => rfl), rfl, k_fewest_calls F15 N D_check_table D_count_calls⟩
  have F16 := fun_mk (st := s__law_put) l16 c16 k16
  have D__law_put : Def l.prog w K mg base "_law_put" 1 3 5 b__law_put := ⟨f16, _, ["row", "places", "letters"], PySem.W.mg_of X G a16, k16, F16.binds (ps := ["row", "places", "letters"]) (fun _ _ _ _ _ _ us hl => match us, hl with | [_, _, _], _ => rfl), rfl, k__law_put F16 N ⟩
  have F17 := fun_mk (st := s_needed_calls) l17 c17 k17
  have D_needed_calls : Def l.prog w K mg base "needed_calls" 6 2 3 b_needed_calls := ⟨f17, _, ["table", "goal"], PySem.W.mg_of X G a17, k17, F17.binds (ps := ["table", "goal"]) (fun _ _ _ _ _ _ us hl => match us, hl with | [_, _], _ => rfl), rfl, k_needed_calls F17 N D_fewest_calls E_NoCalls⟩
  have F18 := fun_mk (st := s_possible_calls) l18 c18 k18
  have D_possible_calls : Def l.prog w K mg base "possible_calls" 1 1 5 b_possible_calls := ⟨f18, _, ["table"], PySem.W.mg_of X G a18, k18, F18.binds (ps := ["table"]) (fun _ _ _ _ _ _ us hl => match us, hl with | [_], _ => rfl), rfl, k_possible_calls F18 N ⟩
  have F19 := fun_mk (st := s_table_behind) l19 c19 k19
  have D_table_behind : Def l.prog w K mg base "table_behind" 1 3 5 b_table_behind := ⟨f19, _, ["table", "step", "fresh"], PySem.W.mg_of X G a19, k19, F19.binds (ps := ["table", "step", "fresh"]) (fun _ _ _ _ _ _ us hl => match us, hl with | [_, _, _], _ => rfl), rfl, k_table_behind F19 N ⟩
  have F20 := fun_mk (st := s_begins_well) l20 c20 k20
  have D_begins_well : Def l.prog w K mg base "begins_well" 5 4 4 b_begins_well := ⟨f20, _, ["table", "goal", "call", "many"], PySem.W.mg_of X G a20, k20, F20.binds (ps := ["table", "goal", "call", "many"]) (fun _ _ _ _ _ _ us hl => match us, hl with | [_, _, _, _], _ => rfl), rfl, k_begins_well F20 N D_count_calls D_table_behind⟩
  have F21 := fun_mk (st := s_next_calls) l21 c21 k21
  have D_next_calls : Def l.prog w K mg base "next_calls" 7 2 4 b_next_calls := ⟨f21, _, ["table", "goal"], PySem.W.mg_of X G a21, k21, F21.binds (ps := ["table", "goal"]) (fun _ _ _ _ _ _ us hl => match us, hl with | [_, _], _ => rfl), rfl, k_next_calls F21 N D_needed_calls D_possible_calls D_begins_well⟩
  have F22 := fun_mk (st := s_rings_of) l22 c22 k22
  have D_rings_of : Def l.prog w K mg base "rings_of" 4 2 2 b_rings_of := ⟨f22, _, ["table", "goal"], PySem.W.mg_of X G a22, k22, F22.binds (ps := ["table", "goal"]) (fun _ _ _ _ _ _ us hl => match us, hl with | [_, _], _ => rfl), rfl, k_rings_of F22 N D_check_table D_find_rings⟩
  have F23 := fun_mk (st := s__law_moved) l23 c23 k23
  have D__law_moved : Def l.prog w K mg base "_law_moved" 1 2 3 b__law_moved := ⟨f23, _, ["call", "places"], PySem.W.mg_of X G a23, k23, F23.binds (ps := ["call", "places"]) (fun _ _ _ _ _ _ us hl => match us, hl with | [_, _], _ => rfl), rfl, k__law_moved F23 N ⟩
  have F24 := fun_mk (st := s__law_renamed_right) l24 c24 k24
  have D__law_renamed_right : Def l.prog w K mg base "_law_renamed_right" 8 3 13 b__law_renamed_right := ⟨f24, _, ["source", "row", "aim"], PySem.W.mg_of X G a24, k24, F24.binds (ps := ["source", "row", "aim"]) (fun _ _ _ _ _ _ us hl => match us, hl with | [_, _, _], _ => rfl), rfl, k__law_renamed_right F24 N D__law_shuffled D__law_put D_fewest_calls D_next_calls D_rings_of D__law_moved⟩
  have F25 := fun_mk (st := s_least_call) l25 c25 k25
  have D_least_call : Def l.prog w K mg base "least_call" 6 3 4 b_least_call := ⟨f25, _, ["table", "goal", "many"], PySem.W.mg_of X G a25, k25, F25.binds (ps := ["table", "goal", "many"]) (fun _ _ _ _ _ _ us hl => match us, hl with | [_, _, _], _ => rfl), rfl, k_least_call F25 N D_possible_calls D_begins_well⟩
  have F26 := fun_mk (st := s_calls_between) l26 c26 k26
  have D_calls_between : Def l.prog w K mg base "calls_between" 7 2 7 b_calls_between := ⟨f26, _, ["table", "goal"], PySem.W.mg_of X G a26, k26, F26.binds (ps := ["table", "goal"]) (fun _ _ _ _ _ _ us hl => match us, hl with | [_, _], _ => rfl), rfl, k_calls_between F26 N D_needed_calls D_least_call D_table_behind⟩
  have F27 := fun_mk (st := s_is_call_list) l27 c27 k27
  have D_is_call_list : Def l.prog w K mg base "is_call_list" 2 1 1 b_is_call_list := ⟨f27, _, ["value"], PySem.W.mg_of X G a27, k27, F27.binds (ps := ["value"]) (fun _ _ _ _ _ _ us hl => match us, hl with | [_], _ => rfl), rfl, k_is_call_list F27 N D_is_list⟩
  have F28 := fun_mk (st := s_is_tuple) l28 c28 k28
  have D_is_tuple : Def l.prog w K mg base "is_tuple" 1 1 1 b_is_tuple := ⟨f28, _, ["value"], PySem.W.mg_of X G a28, k28, F28.binds (ps := ["value"]) (fun _ _ _ _ _ _ us hl => match us, hl with | [_], _ => rfl), rfl, k_is_tuple F28 N ⟩
  have F29 := fun_mk (st := s_is_integer) l29 c29 k29
  have D_is_integer : Def l.prog w K mg base "is_integer" 1 1 1 b_is_integer := ⟨f29, _, ["value"], PySem.W.mg_of X G a29, k29, F29.binds (ps := ["value"]) (fun _ _ _ _ _ _ us hl => match us, hl with | [_], _ => rfl), rfl, k_is_integer F29 N ⟩
  have F30 := fun_mk (st := s_is_descriptor) l30 c30 k30
  have D_is_descriptor : Def l.prog w K mg base "is_descriptor" 2 1 1 b_is_descriptor := ⟨f30, _, ["value"], PySem.W.mg_of X G a30, k30, F30.binds (ps := ["value"]) (fun _ _ _ _ _ _ us hl => match us, hl with | [_], _ => rfl), rfl, k_is_descriptor F30 N D_is_integer⟩
  have F31 := fun_mk (st := s_is_call) l31 c31 k31
  have D_is_call : Def l.prog w K mg base "is_call" 3 1 2 b_is_call := ⟨f31, _, ["value"], PySem.W.mg_of X G a31, k31, F31.binds (ps := ["value"]) (fun _ _ _ _ _ _ us hl => match us, hl with | [_], _ => rfl), rfl, k_is_call F31 N D_is_tuple D_is_descriptor⟩
  have F32 := fun_mk (st := s_wrong_call) l32 c32 k32
  have D_wrong_call : Def l.prog w K mg base "wrong_call" 4 2 5 b_wrong_call := ⟨f32, _, ["table", "items"], PySem.W.mg_of X G a32, k32, F32.binds (ps := ["table", "items"]) (fun _ _ _ _ _ _ us hl => match us, hl with | [_, _], _ => rfl), rfl, k_wrong_call F32 N D_table_behind D_is_call⟩
  have F33 := fun_mk (st := s_is_calls) l33 c33 k33
  have D_is_calls : Def l.prog w K mg base "is_calls" 5 2 2 b_is_calls := ⟨f33, _, ["table", "value"], PySem.W.mg_of X G a33, k33, F33.binds (ps := ["table", "value"]) (fun _ _ _ _ _ _ us hl => match us, hl with | [_, _], _ => rfl), rfl, k_is_calls F33 N D_check_table D_is_call_list D_wrong_call⟩
  have F34 := fun_mk (st := s_table_after) l34 c34 k34
  have D_table_after : Def l.prog w K mg base "table_after" 2 2 4 b_table_after := ⟨f34, _, ["table", "calls"], PySem.W.mg_of X G a34, k34, F34.binds (ps := ["table", "calls"]) (fun _ _ _ _ _ _ us hl => match us, hl with | [_, _], _ => rfl), rfl, k_table_after F34 N D_table_behind⟩
  have F35 := fun_mk (st := s_least_calls) l35 c35 k35
  have D_least_calls : Def l.prog w K mg base "least_calls" 5 3 3 b_least_calls := ⟨f35, _, ["table", "goal", "value"], PySem.W.mg_of X G a35, k35, F35.binds (ps := ["table", "goal", "value"]) (fun _ _ _ _ _ _ us hl => match us, hl with | [_, _, _], _ => rfl), rfl, k_least_calls F35 N D_check_table D_is_call_list D_wrong_call D_count_calls D_table_after⟩
  have F36 := fun_mk (st := s_after_calls) l36 c36 k36
  have D_after_calls : Def l.prog w K mg base "after_calls" 5 2 3 b_after_calls := ⟨f36, _, ["table", "calls"], PySem.W.mg_of X G a36, k36, F36.binds (ps := ["table", "calls"]) (fun _ _ _ _ _ _ us hl => match us, hl with | [_, _], _ => rfl), rfl, k_after_calls F36 N D_check_table D_wrong_call D_table_after D_is_call_list⟩
  have F37 := fun_mk (st := s__law_calls_right) l37 c37 k37
  have D__law_calls_right : Def l.prog w K mg base "_law_calls_right" 8 3 9 b__law_calls_right := ⟨f37, _, ["source", "row", "aim"], PySem.W.mg_of X G a37, k37, F37.binds (ps := ["source", "row", "aim"]) (fun _ _ _ _ _ _ us hl => match us, hl with | [_, _, _], _ => rfl), rfl, k__law_calls_right F37 N D_calls_between D_fewest_calls D_next_calls D__law_draw D_is_calls D_least_calls D_after_calls⟩
  have F38 := fun_mk (st := s_law) l38 c38 k38
  exact k_law F38 N D__law_open_source D__law_pair D__law_turned D_fewest_calls D__law_renamed_right D__law_shuffled D__law_calls_right D__law_draw
end Lw
open PySem PySem.W PyProof.Rows
set_option maxHeartbeats 0 in
theorem PySem.Challenge.cw_fdwires_k46_whole_ways_between_tables_holds : PySem.Challenge.rw_fdwires_k46_whole_ways_between_tables.Holds := by
  w_on; o_law; k_head; (case hw => w_witness2)
  k_fill
  refine Mi.law_end (l := PySem.Challenge.rw_fdwires_k46_whole_ways_between_tables) (n := 11) (k := 9) (x := "script") (bd := Lw.b_law) rfl rfl ⟨rfl, by decide, by decide⟩ (fun w h Y => PySem.W.kIn_of Y) ?F (by decide) fun ns _ _ => Lw.pure ns
  case F =>
    intro w mg fa h KX G hmg
    refine' Lw.all_mk KX G hmg ?a0 ?l0 ?c0 ?k0 ?a1 ?l1 ?c1 ?k1 ?a2 ?l2 ?c2 ?k2 ?a3 ?l3 ?c3 ?k3 ?a4 ?l4 ?c4 ?k4 ?a5 ?l5 ?c5 ?k5 ?a6 ?l6 ?c6 ?k6 ?a7 ?l7 ?c7 ?k7 ?a8 ?l8 ?c8 ?k8 ?a9 ?l9 ?c9 ?k9 ?a10 ?l10 ?c10 ?k10 ?a11 ?l11 ?c11 ?k11 ?a12 ?l12 ?c12 ?k12 ?a13 ?l13 ?c13 ?k13 ?a14 ?l14 ?c14 ?k14 ?a15 ?l15 ?c15 ?k15 ?a16 ?l16 ?c16 ?k16 ?a17 ?l17 ?c17 ?k17 ?a18 ?l18 ?c18 ?k18 ?a19 ?l19 ?c19 ?k19 ?a20 ?l20 ?c20 ?k20 ?a21 ?l21 ?c21 ?k21 ?a22 ?l22 ?c22 ?k22 ?a23 ?l23 ?c23 ?k23 ?a24 ?l24 ?c24 ?k24 ?a25 ?l25 ?c25 ?k25 ?a26 ?l26 ?c26 ?k26 ?a27 ?l27 ?c27 ?k27 ?a28 ?l28 ?c28 ?k28 ?a29 ?l29 ?c29 ?k29 ?a30 ?l30 ?c30 ?k30 ?a31 ?l31 ?c31 ?k31 ?a32 ?l32 ?c32 ?k32 ?a33 ?l33 ?c33 ?k33 ?a34 ?l34 ?c34 ?k34 ?a35 ?l35 ?c35 ?k35 ?a36 ?l36 ?c36 ?k36 ?a37 ?l37 ?c37 ?k37 ?a38 ?l38 ?c38 ?k38 ?z_len ?z_list ?z_tuple ?z_range ?z_enumerate ?z_int ?z_str ?z_max ?z_min ?z_sum ?z_any ?z_all ?z_sorted ?z_isinstance ?z_type ?z_zip ?z_bool ?y_DESCRIPTORS ?y_MOST_LETTERS ?y_MOST_CALLS ?n_InvalidTable ?n_NoCalls ?sb_InvalidTable ?ty_InvalidTable ?sb_NoCalls ?ty_NoCalls ?x_InvalidTable ?kp_InvalidTable ?x_NoCalls ?kp_NoCalls
    (case a0 => k_is); (case l0 => k_is); (case c0 => k_is); (case k0 => k_is); (case a1 => k_is); (case l1 => k_is); (case c1 => k_is); (case k1 => k_is); (case a2 => k_is); (case l2 => k_is); (case c2 => k_is); (case k2 => k_is); (case a3 => k_is); (case l3 => k_is); (case c3 => k_is); (case k3 => k_is); (case a4 => k_is); (case l4 => k_is); (case c4 => k_is); (case k4 => k_is); (case a5 => k_is); (case l5 => k_is); (case c5 => k_is); (case k5 => k_is); (case a6 => k_is); (case l6 => k_is); (case c6 => k_is); (case k6 => k_is); (case a7 => k_is); (case l7 => k_is); (case c7 => k_is); (case k7 => k_is); (case a8 => k_is); (case l8 => k_is); (case c8 => k_is); (case k8 => k_is); (case a9 => k_is); (case l9 => k_is); (case c9 => k_is); (case k9 => k_is); (case a10 => k_is); (case l10 => k_is); (case c10 => k_is); (case k10 => k_is); (case a11 => k_is); (case l11 => k_is); (case c11 => k_is); (case k11 => k_is); (case a12 => k_is); (case l12 => k_is); (case c12 => k_is); (case k12 => k_is); (case a13 => k_is); (case l13 => k_is); (case c13 => k_is); (case k13 => k_is); (case a14 => k_is); (case l14 => k_is); (case c14 => k_is); (case k14 => k_is); (case a15 => k_is); (case l15 => k_is); (case c15 => k_is); (case k15 => k_is); (case a16 => k_is); (case l16 => k_is); (case c16 => k_is); (case k16 => k_is); (case a17 => k_is); (case l17 => k_is); (case c17 => k_is); (case k17 => k_is); (case a18 => k_is); (case l18 => k_is); (case c18 => k_is); (case k18 => k_is); (case a19 => k_is); (case l19 => k_is); (case c19 => k_is); (case k19 => k_is); (case a20 => k_is); (case l20 => k_is); (case c20 => k_is); (case k20 => k_is); (case a21 => k_is); (case l21 => k_is); (case c21 => k_is); (case k21 => k_is); (case a22 => k_is); (case l22 => k_is); (case c22 => k_is); (case k22 => k_is); (case a23 => k_is); (case l23 => k_is); (case c23 => k_is); (case k23 => k_is); (case a24 => k_is); (case l24 => k_is); (case c24 => k_is); (case k24 => k_is); (case a25 => k_is); (case l25 => k_is); (case c25 => k_is); (case k25 => k_is); (case a26 => k_is); (case l26 => k_is); (case c26 => k_is); (case k26 => k_is); (case a27 => k_is); (case l27 => k_is); (case c27 => k_is); (case k27 => k_is); (case a28 => k_is); (case l28 => k_is); (case c28 => k_is); (case k28 => k_is); (case a29 => k_is); (case l29 => k_is); (case c29 => k_is); (case k29 => k_is); (case a30 => k_is); (case l30 => k_is); (case c30 => k_is); (case k30 => k_is); (case a31 => k_is); (case l31 => k_is); (case c31 => k_is); (case k31 => k_is); (case a32 => k_is); (case l32 => k_is); (case c32 => k_is); (case k32 => k_is); (case a33 => k_is); (case l33 => k_is); (case c33 => k_is); (case k33 => k_is); (case a34 => k_is); (case l34 => k_is); (case c34 => k_is); (case k34 => k_is); (case a35 => k_is); (case l35 => k_is); (case c35 => k_is); (case k35 => k_is); (case a36 => k_is); (case l36 => k_is); (case c36 => k_is); (case k36 => k_is); (case a37 => k_is); (case l37 => k_is); (case c37 => k_is); (case k37 => k_is); (case a38 => k_is); (case l38 => k_is); (case c38 => k_is); (case k38 => k_is); (case z_len => k_is); (case z_list => k_is); (case z_tuple => k_is); (case z_range => k_is); (case z_enumerate => k_is); (case z_int => k_is); (case z_str => k_is); (case z_max => k_is); (case z_min => k_is); (case z_sum => k_is); (case z_any => k_is); (case z_all => k_is); (case z_sorted => k_is); (case z_isinstance => k_is); (case z_type => k_is); (case z_zip => k_is); (case z_bool => k_is); (case y_DESCRIPTORS => k_is); (case y_MOST_LETTERS => k_is); (case y_MOST_CALLS => k_is); (case n_InvalidTable => k_is); (case n_NoCalls => k_is); (case sb_InvalidTable => k_is); (case ty_InvalidTable => k_is); (case sb_NoCalls => k_is); (case ty_NoCalls => k_is); (case x_InvalidTable => k_exc); (case kp_InvalidTable => k_is); (case x_NoCalls => k_exc); (case kp_NoCalls => k_is)
