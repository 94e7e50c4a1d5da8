import PyProof.Rows.All
import Wide.All
import OpenK.AllK
import Wide.FinOn
import HandS.ForMost
import HandS.ForExc
import HandS.TupAny
import HandS.Conv
import HandS.IsInst
import HandS.Flow
import HandS.Style
import HandS.SortInts
import PyProof.TupleOfSeq
import HandS.RaiseMore
import KE.KSortedM
import PyProof.ReprRoads
import PyProof.CallFns
import HandS.Walk
import HandS.Exc
import HandS.WordsExc
import HandS.Defaults
import HandS.HeadEnd
import KE.GoesMore
import HandS.Star
import HandS.Rev
import KE.GoesEnumKw
import HandS.Zip
import KE.GoesEnum
import HandS.HeadHook1
import HandS.HeadHook2
import HandS.HeadHook3
import HandS.HeadHook4
import HandS.SortRule
import KE.KSortTupG
import HandS.SetFor
import HandS.OwnEq
import HandS.StrMore
import HandS.SortKw
import HandS.TupMul
import HandS.Head2
import HandS.Head0
import HandS.Head1
import PyProof.FitsInt
import KE.IntBitsLaws
import PySem.Challenge.RW_onestillview_k15_beats_by_hand
section
set_option Elab.async false
set_option linter.all false
set_option maxRecDepth 100000
namespace Pm
open PySem PySem.Spec PyProof.Rows L2

/-- data: what a value is, without addresses; loc: an object that may change -/
inductive D where
  | non | bl (b : Bool) | int (i : Int) | str (s : Str) | tup (xs : List D) | loc (n : Nat) | scr

mutual
def D.deq : (a b : D) → Decidable (a = b)
  | .non, .non => Decidable.isTrue rfl
  | .bl a, .bl b => if h : a = b then Decidable.isTrue (by rw [h]) else isFalse (fun e => h (D.bl.inj e))
  | .int a, .int b => if h : a = b then Decidable.isTrue (by rw [h]) else isFalse (fun e => h (D.int.inj e))
  | .str a, .str b => if h : a = b then Decidable.isTrue (by rw [h]) else isFalse (fun e => h (D.str.inj e))
  | .tup a, .tup b => match D.deqs a b with
    | .isTrue h => Decidable.isTrue (by rw [h])
    | .isFalse h => isFalse (fun e => h (D.tup.inj e))
  | .loc a, .loc b => if h : a = b then Decidable.isTrue (by rw [h]) else isFalse (fun e => h (D.loc.inj e))
  | .scr, .scr => Decidable.isTrue rfl
  | .non, .bl _ => isFalse nofun | .non, .int _ => isFalse nofun | .non, .str _ => isFalse nofun | .non, .tup _ => isFalse nofun | .non, .loc _ => isFalse nofun | .non, .scr => isFalse nofun
  | .bl _, .non => isFalse nofun | .bl _, .int _ => isFalse nofun | .bl _, .str _ => isFalse nofun | .bl _, .tup _ => isFalse nofun | .bl _, .loc _ => isFalse nofun | .bl _, .scr => isFalse nofun
  | .int _, .non => isFalse nofun | .int _, .bl _ => isFalse nofun | .int _, .str _ => isFalse nofun | .int _, .tup _ => isFalse nofun | .int _, .loc _ => isFalse nofun | .int _, .scr => isFalse nofun
  | .str _, .non => isFalse nofun | .str _, .bl _ => isFalse nofun | .str _, .int _ => isFalse nofun | .str _, .tup _ => isFalse nofun | .str _, .loc _ => isFalse nofun | .str _, .scr => isFalse nofun
  | .tup _, .non => isFalse nofun | .tup _, .bl _ => isFalse nofun | .tup _, .int _ => isFalse nofun | .tup _, .str _ => isFalse nofun | .tup _, .loc _ => isFalse nofun | .tup _, .scr => isFalse nofun
  | .loc _, .non => isFalse nofun | .loc _, .bl _ => isFalse nofun | .loc _, .int _ => isFalse nofun | .loc _, .str _ => isFalse nofun | .loc _, .tup _ => isFalse nofun | .loc _, .scr => isFalse nofun
  | .scr, .non => isFalse nofun | .scr, .bl _ => isFalse nofun | .scr, .int _ => isFalse nofun | .scr, .str _ => isFalse nofun | .scr, .tup _ => isFalse nofun | .scr, .loc _ => isFalse nofun
def D.deqs : (a b : List D) → Decidable (a = b)
  | [], [] => Decidable.isTrue rfl
  | [], _ :: _ => isFalse nofun
  | _ :: _, [] => isFalse nofun
  | x :: xs, y :: ys => match D.deq x y with
    | .isTrue h => match D.deqs xs ys with
      | .isTrue h' => Decidable.isTrue (by rw [h, h'])
      | .isFalse h' => isFalse (fun e => h' (List.cons.inj e).2)
    | .isFalse h => isFalse (fun e => h (List.cons.inj e).1)
end
instance : DecidableEq D := D.deq

/-- what stands at a loc -/
inductive O where
  | lst (xs : List D)
  | dct (kvs : List (Key × D))
  /-- an instance of the class of this name, its attributes -/
  | ins (x : Str) (fs : List (Str × D))
  deriving DecidableEq
abbrev Sto := List O
inductive Res (α : Type) where
  | ok (a : α) (st : Sto)
  | exc (c : Str) (d : D) (st : Sto)
  | stuck
abbrev M (α : Type) := Sto → Res α
def ret {α : Type} (a : α) : M α := fun st => .ok a st
def bnd {α β : Type} (m : M α) (k : α → M β) : M β := fun st => match m st with
  | .ok a st' => k a st'
  | .exc c d st' => .exc c d st'
  | .stuck => .stuck
def no {α : Type} : M α := fun _ => .stuck
def raise {α : Type} (c : Str) (d : D) : M α := fun st => .exc c d st

/-- the context of a law: the written part, the script -/
structure Ct where
  K : PySem.W.Frag
  sa : Addr
  ns : List Int
  /-- the class of the program by its name -/
  cl : Str → Option Addr

/-- the object there has no dict of its own -/
def DL (K : PySem.W.Frag) (H : Hp) (a : Addr) : Prop := (∃ o u, H a = some (.frz o u) ∧ o.dict = none) ∨ ∃ o, K.lookup a = some o ∧ o.dict = none
section
variable (c : Ct) (bs : List Addr) (H : Hp)
mutual
inductive RD : V → D → Prop
  | non : RD .non .non
  | bl (b : Bool) : RD (.bl b) (.bl b)
  | int (i : Int) : RD (.int i) (.int i)
  | str (x : Str) : RD (.str x) (.str x)
  | tup {a : Addr} {vs : List V} {ds : List D} : SqT c.K H a vs → DL c.K H a → RDs vs ds → RD (.ref a) (.tup ds)
  | loc {a : Addr} {n : Nat} : bs[n]? = some a → RD (.ref a) (.loc n)
  | scr : RD (.ref c.sa) .scr
inductive RDs : List V → List D → Prop
  | nil : RDs [] []
  | cons {v : V} {d : D} {vs : List V} {ds : List D} : RD v d → RDs vs ds → RDs (v :: vs) (d :: ds)
end
def ROb (a : Addr) : O → Prop
  | .lst xs => ∃ vs, H a = some (.lst vs) ∧ RDs c bs H vs xs
  | .dct kvs => ∃ vks : List (Key × V), H a = some (.dK vks) ∧ vks.map (·.1) = kvs.map (·.1) ∧ RDs c bs H (vks.map (·.2)) (kvs.map (·.2))
  | .ins x fs => ∃ (C dx : Addr) (vfs : List (Str × V)), c.cl x = some C ∧ H a = some (.ins C dx vfs) ∧ vfs.map (·.1) = fs.map (·.1) ∧ RDs c bs H (vfs.map (·.2)) (fs.map (·.2))
/-- the script, to be read -/
def Scr : Prop := (∃ o, H c.sa = some (.frz o (.lst (c.ns.map V.int)))) ∨ ∀ H', SqL c.K H' c.sa (c.ns.map V.int)
structure Rel (st : Sto) : Prop where
  len : bs.length = st.length
  obj : ∀ (l : Nat) (a : Addr) (o : O), bs[l]? = some a → st[l]? = some o → ROb c bs H a o
  nd : bs.Nodup
  scr : Scr c H
end
def Imm : HO → Prop
  | .tup _ => True
  | .frz _ _ => True
  | _ => False
structure Ext (bs : List Addr) (H : Hp) (bs' : List Addr) (H' : Hp) : Prop where
  pre : ∃ t, bs' = bs ++ t
  keep : ∀ a o, H a = some o → (a ∉ bs ∨ Imm o) → H' a = some o
  fresh : ∀ a, a ∈ bs' → a ∉ bs → H a = none

section
variable {c : Ct} {bs bs1 bs2 : List Addr} {H H1 H2 : Hp}
theorem Ext.refl : Ext bs H bs H := ⟨⟨[], by simp⟩, fun _ _ h _ => h, fun a h n => absurd h n⟩
theorem Ext.trans (e1 : Ext bs H bs1 H1) (e2 : Ext bs1 H1 bs2 H2) : Ext bs H bs2 H2 := by
  refine ⟨?_, fun a o h q => ?_, fun a h n => ?_⟩
  · obtain ⟨t, rfl⟩ := e1.pre
    obtain ⟨u, rfl⟩ := e2.pre
    exact ⟨t ++ u, by simp⟩
  · have h1 := e1.keep a o h q
    refine e2.keep a o h1 ?_
    rcases q with q | q
    · refine .inl fun z => ?_
      have := e1.fresh a z q
      rw [this] at h
      cases h
    · exact .inr q
  · by_cases z : a ∈ bs1
    · exact e1.fresh a z n
    · have q := e2.fresh a h z
      cases e : H a with
      | none => rfl
      | some o =>
        rw [e1.keep a o e (.inl n)] at q
        cases q
theorem Ext.get (e : Ext bs H bs1 H1) {n : Nat} {a : Addr} (h : bs[n]? = some a) : bs1[n]? = some a := by
  obtain ⟨t, rfl⟩ := e.pre
  have hl : n < bs.length := by
    rcases List.getElem?_eq_some_iff.mp h with ⟨q, _⟩
    exact q
  rw [List.getElem?_append_left hl]
  exact h
theorem Ext.sqT (e : Ext bs H bs1 H1) {a : Addr} {vs : List V} (h : SqT c.K H a vs) : SqT c.K H1 a vs := by
  rcases h with (h | ⟨o, h⟩) | h
  · exact .inl (.inl (e.keep _ _ h (.inr trivial)))
  · exact .inl (.inr ⟨o, e.keep _ _ h (.inr trivial)⟩)
  · exact .inr h
theorem Ext.scr (e : Ext bs H bs1 H1) (h : Scr c H) : Scr c H1 := by
  rcases h with ⟨o, h⟩ | h
  · exact .inl ⟨o, e.keep _ _ h (.inr trivial)⟩
  · exact .inr h
theorem Scr.sq (h : Scr c H) : SqL c.K H c.sa (c.ns.map V.int) := by
  rcases h with ⟨o, h⟩ | h
  · exact .inl (.inr ⟨o, h⟩)
  · exact h H
/-- what a change leaves: tuples and places -/
structure Pre (c : Ct) (bs : List Addr) (H : Hp) (bs1 : List Addr) (H1 : Hp) : Prop where
  get : ∀ (n : Nat) (a : Addr), bs[n]? = some a → bs1[n]? = some a
  sqT : ∀ a vs, SqT c.K H a vs → SqT c.K H1 a vs
  dl : ∀ a, DL c.K H a → DL c.K H1 a
theorem Ext.dl (e : Ext bs H bs1 H1) {a : Addr} (h : DL c.K H a) : DL c.K H1 a := h.imp (fun ⟨o, u, h1, h2⟩ => ⟨o, u, e.keep _ _ h1 (.inr trivial), h2⟩) id
theorem Ext.mov (e : Ext bs H bs1 H1) : Pre c bs H bs1 H1 := ⟨fun _ _ => e.get, fun _ _ => e.sqT, fun _ => e.dl⟩
mutual
theorem RD.mono (m : Pre c bs H bs1 H1) : ∀ {v : V} {d : D}, RD c bs H v d → RD c bs1 H1 v d
  | _, _, .non => .non
  | _, _, .bl b => .bl b
  | _, _, .int i => .int i
  | _, _, .str x => .str x
  | _, _, .tup s tl r => .tup (m.sqT _ _ s) (m.dl _ tl) (RDs.mono m r)
  | _, _, .loc h => .loc (m.get _ _ h)
  | _, _, .scr => .scr
theorem RDs.mono (m : Pre c bs H bs1 H1) : ∀ {vs : List V} {ds : List D}, RDs c bs H vs ds → RDs c bs1 H1 vs ds
  | _, _, .nil => .nil
  | _, _, .cons r t => .cons (RD.mono m r) (RDs.mono m t)
end
theorem RD.ext (e : Ext bs H bs1 H1) {v : V} {d : D} (h : RD c bs H v d) : RD c bs1 H1 v d := h.mono e.mov
theorem RDs.ext (e : Ext bs H bs1 H1) {vs : List V} {ds : List D} (h : RDs c bs H vs ds) : RDs c bs1 H1 vs ds := h.mono e.mov
theorem RDs.length : ∀ {vs : List V} {ds : List D}, RDs c bs H vs ds → vs.length = ds.length
  | _, _, .nil => rfl
  | _, _, .cons _ t => by simp [RDs.length t]
theorem RDs.get : ∀ {vs : List V} {ds : List D} {i : Nat} {d : D}, RDs c bs H vs ds → ds[i]? = some d → ∃ v, vs[i]? = some v ∧ RD c bs H v d
  | _, _, _, _, .nil, e => by simp at e
  | _, _, 0, _, .cons r _, e => by simp at e; subst e; exact ⟨_, rfl, r⟩
  | _, _, i + 1, _, .cons _ t, e => by
    obtain ⟨v, h1, h2⟩ := RDs.get (i := i) t (by simpa using e)
    exact ⟨v, by simpa using h1, h2⟩
theorem RDs.getV : ∀ {vs : List V} {ds : List D} {i : Nat} {v : V}, RDs c bs H vs ds → vs[i]? = some v → ∃ d, ds[i]? = some d ∧ RD c bs H v d
  | _, _, _, _, .nil, e => by simp at e
  | _, _, 0, _, .cons r _, e => by simp at e; subst e; exact ⟨_, rfl, r⟩
  | _, _, i + 1, _, .cons _ t, e => by
    obtain ⟨v, h1, h2⟩ := RDs.getV (i := i) t (by simpa using e)
    exact ⟨v, by simpa using h1, h2⟩
theorem RDs.append : ∀ {vs ws : List V} {ds es : List D}, RDs c bs H vs ds → RDs c bs H ws es → RDs c bs H (vs ++ ws) (ds ++ es)
  | _, _, _, _, .nil, s => s
  | _, _, _, _, .cons r t, s => .cons r (RDs.append t s)
theorem RDs.set {v : V} {d : D} (r : RD c bs H v d) : ∀ {vs : List V} {ds : List D} (i : Nat), RDs c bs H vs ds → RDs c bs H (vs.set i v) (ds.set i d)
  | _, _, _, .nil => .nil
  | _, _, 0, .cons _ t => .cons r t
  | _, _, i + 1, .cons q t => .cons q (RDs.set r i t)
theorem RDs.take : ∀ {vs : List V} {ds : List D} (n : Nat), RDs c bs H vs ds → RDs c bs H (vs.take n) (ds.take n)
  | _, _, 0, _ => .nil
  | _, _, _ + 1, .nil => .nil
  | _, _, n + 1, .cons r t => .cons r (RDs.take n t)
theorem RDs.drop : ∀ {vs : List V} {ds : List D} (n : Nat), RDs c bs H vs ds → RDs c bs H (vs.drop n) (ds.drop n)
  | _, _, 0, r => r
  | _, _, _ + 1, .nil => .nil
  | _, _, n + 1, .cons r t => RDs.drop n t
theorem RDs.reverse : ∀ {vs : List V} {ds : List D}, RDs c bs H vs ds → RDs c bs H vs.reverse ds.reverse
  | _, _, .nil => .nil
  | _, _, .cons r t => by simp only [List.reverse_cons]; exact RDs.append (RDs.reverse t) (.cons r .nil)
theorem RDs.ints : ∀ (ns : List Int), RDs c bs H (ns.map V.int) (ns.map D.int)
  | [] => .nil
  | n :: ns => .cons (.int n) (RDs.ints ns)
theorem RDs.atI {vs : List V} {ds : List D} (r : RDs c bs H vs ds) {i : Int} {d : D} (h : L2.atI ds i = some d) : ∃ v, L2.atI vs i = some v ∧ RD c bs H v d := by
  unfold L2.atI at h ⊢
  rw [r.length]
  cases e : ixN ds.length i with
  | none => rw [e] at h; cases h
  | some j =>
    rw [e] at h
    exact r.get h
end
end Pm
end
section
set_option Elab.async false
set_option linter.all false
set_option maxRecDepth 100000
namespace Pm
open PySem PySem.Spec PyProof.Rows L2

/-! ### what is wanted behind a run -/
abbrev Wh := Str → D → List Addr → Hp → Prop
def Post {α : Type} (c : Ct) (ex : Wh) (r : Res α) (bs : List Addr) (H : Hp) (k : α → Sto → List Addr → Hp → Prop) : Prop :=
  match r with
  | .ok a st' => ∀ bs' H', Ext bs H bs' H' → Rel c bs' H' st' → k a st' bs' H'
  | .exc n d st' => ∀ bs' H', Ext bs H bs' H' → Rel c bs' H' st' → ex n d bs' H'
  | .stuck => False
section
variable {c : Ct} {ex : Wh} {α β : Type} {bs bs1 bs2 : List Addr} {H H1 H2 : Hp} {st : Sto}
theorem Post.far {r : Res α} {k : α → Sto → List Addr → Hp → Prop} (p : Post c ex r bs H k) (e : Ext bs H bs1 H1) : Post c ex r bs1 H1 k := by
  cases r with
  | ok a st' => exact fun b' H' e' rl => p b' H' (e.trans e') rl
  | exc n d st' => exact fun b' H' e' rl => p b' H' (e.trans e') rl
  | stuck => exact p
theorem Post.bnd {m : M α} {f : α → M β} {k : β → Sto → List Addr → Hp → Prop} (p : Post c ex (bnd m f st) bs H k) : Post c ex (m st) bs H fun a st1 bs1 H1 => Post c ex (f a st1) bs1 H1 k := by
  unfold Pm.bnd at p
  cases e : m st with
  | ok a st' =>
    rw [e] at p
    exact fun b' H' e' rl => Post.far p e'
  | exc n d st' =>
    rw [e] at p
    exact p
  | stuck =>
    rw [e] at p
    exact p
theorem Post.imp {r : Res α} {k k' : α → Sto → List Addr → Hp → Prop} (p : Post c ex r bs H k) (q : ∀ a st' bs' H', Ext bs H bs' H' → Rel c bs' H' st' → k a st' bs' H' → k' a st' bs' H') : Post c ex r bs H k' := by
  cases r with
  | ok a st' => exact fun b' H' e' rl => q _ _ _ _ e' rl (p b' H' e' rl)
  | exc n d st' => exact p
  | stuck => exact p
theorem Post.now {a : α} {k : α → Sto → List Addr → Hp → Prop} (p : Post c ex (ret a st) bs H k) (rl : Rel c bs H st) : k a st bs H := p bs H Ext.refl rl
theorem Post.of {a : α} {k : α → Sto → List Addr → Hp → Prop} (p : Post c ex (.ok a st) bs H k) (rl : Rel c bs H st) : k a st bs H := p bs H Ext.refl rl
theorem Post.at {a : α} {k : α → Sto → List Addr → Hp → Prop} (p : Post c ex (.ok a st) bs H k) (e : Ext bs H bs1 H1) (rl : Rel c bs1 H1 st) : k a st bs1 H1 := p bs1 H1 e rl
/-- only so -/
theorem Post.iff {p : Prop} [Decidable p] {m : M α} {k : α → Sto → List Addr → Hp → Prop} (q : Post c ex ((if p then m else no) st) bs H k) : p ∧ Post c ex (m st) bs H k := by
  by_cases h : p
  · rw [if_pos h] at q
    exact ⟨h, q⟩
  · rw [if_neg h] at q
    exact q.elim
end

/-! ### the slots -/
abbrev En := List (Option D)
structure RE (c : Ct) (bs : List Addr) (H : Hp) (ρ : En) (σ : L2.St) : Prop where
  len : σ.length = ρ.length
  val : ∀ (i : Nat) (d : D), ρ[i]? = some (some d) → ∃ v, σ[i]? = some (some v) ∧ RD c bs H v d
section
variable {c : Ct} {ex : Wh} {bs bs1 bs2 : List Addr} {H H1 H2 : Hp} {st : Sto} {ρ : En} {σ : L2.St}
theorem RE.ext (r : RE c bs H ρ σ) (e : Ext bs H bs1 H1) : RE c bs1 H1 ρ σ := ⟨r.len, fun i d h => let ⟨v, a, b⟩ := r.val i d h; ⟨v, a, b.ext e⟩⟩
theorem RE.set (r : RE c bs H ρ σ) {v : V} {d : D} (h : RD c bs H v d) (i : Nat) : RE c bs H (ρ.set i (some d)) (σ.set i (some v)) := by
  refine ⟨by rw [List.length_set, List.length_set, r.len], fun j e q => ?_⟩
  by_cases hj : i = j
  · subst hj
    have hl : i < ρ.length := by
      obtain ⟨z, _⟩ := List.getElem?_eq_some_iff.mp q
      rw [List.length_set] at z
      exact z
    rw [List.getElem?_set_self hl] at q
    cases q
    exact ⟨v, List.getElem?_set_self (by rw [r.len]; exact hl), h⟩
  · rw [List.getElem?_set_ne hj] at q ⊢
    exact r.val j e q
end

/-! ### readings -/
abbrev ME := En → M D
abbrev MT := En → M Bool
abbrev MA := En → M (List D)
inductive Fl where
  | nx | bk | ct | rt (d : D)
abbrev MS := En → M (Fl × En)
def tE (c : Ct) (ex : Wh) (f : ME) : TE := fun σ H Q => ∃ ρ st bs, Rel c bs H st ∧ RE c bs H ρ σ ∧ Post c ex (f ρ st) bs H fun d _ bs' H' => ∀ v, RD c bs' H' v d → Q v H'
def tT (c : Ct) (ex : Wh) (f : MT) : TT := fun σ H Q => ∃ ρ st bs, Rel c bs H st ∧ RE c bs H ρ σ ∧ Post c ex (f ρ st) bs H fun b _ _ H' => Q b H'
def tA (c : Ct) (ex : Wh) (f : MA) : TA := fun σ H Q => ∃ ρ st bs, Rel c bs H st ∧ RE c bs H ρ σ ∧ Post c ex (f ρ st) bs H fun ds _ bs' H' => ∀ vs, RDs c bs' H' vs ds → Q vs H'
def Fin (c : Ct) (E : Ends) (bs : List Addr) (H : Hp) (σ : L2.St) : Fl → Prop
  | .nx => E.nx σ H
  | .bk => E.bk σ H
  | .ct => E.ct σ H
  | .rt d => ∀ v, RD c bs H v d → E.rt v H
def tS (c : Ct) (ex : Wh) (f : MS) : TS := fun E σ H => ∃ ρ st bs, Rel c bs H st ∧ RE c bs H ρ σ ∧ Post c ex (f ρ st) bs H fun x _ bs' H' => ∀ σ', RE c bs' H' x.2 σ' → Fin c E bs' H' σ' x.1

theorem PE_imp {X : Cx} {e : Expr} {t t' : TE} (h : PE X e t) (i : ∀ σ H Q, t' σ H Q → t σ H Q) : PE X e t' := ⟨fun pins s σ H Q I q => h.run pins s σ H Q I (i σ H Q q)⟩
theorem PT_imp {X : Cx} {e : Expr} {t t' : TT} (h : PT X e t) (i : ∀ σ H Q, t' σ H Q → t σ H Q) : PT X e t' := ⟨fun pins s σ H Q I q => h.run pins s σ H Q I (i σ H Q q)⟩
theorem PW_imp {X : Cx} {e : Expr} {t t' : TT} (h : PW X e t) (i : ∀ σ H Q, t' σ H Q → t σ H Q) : PW X e t' := ⟨fun wh pins s σ H Q I q => h.run wh pins s σ H Q I (i σ H Q q)⟩
theorem PA_imp {X : Cx} {es : List Expr} {t t' : TA} (h : PA X es t) (i : ∀ σ H Q, t' σ H Q → t σ H Q) : PA X es t' := ⟨fun pos pins s σ H Q I q => h.run pos pins s σ H Q I (i σ H Q q)⟩
theorem PS_imp {X : Cx} {e : Stmt} {t t' : TS} (h : PS X e t) (i : ∀ E σ H, t' E σ H → t E σ H) : PS X e t' := ⟨fun pins s σ H E I q => h.run pins s σ H E I (i E σ H q)⟩
theorem PSs_imp {X : Cx} {e : List Stmt} {t t' : TS} (h : PSs X e t) (i : ∀ E σ H, t' E σ H → t E σ H) : PSs X e t' := ⟨fun pins s σ H E I q => h.run pins s σ H E I (i E σ H q)⟩
theorem PG_imp {X : Cx} {e : Expr} {t t' : TG} (h : PG X e t) (i : ∀ v σ H Q, t' v σ H Q → t v σ H Q) : PG X e t' := ⟨fun pins s σ H v u Q I r q => h.run pins s σ H v u Q I r (i v σ H Q q)⟩
theorem PGs_imp {X : Cx} {e : List Expr} {t t' : TGs} (h : PGs X e t) (i : ∀ v σ H Q, t' v σ H Q → t v σ H Q) : PGs X e t' := ⟨fun pins s σ H v u Q I r q => h.run pins s σ H v u Q I r (i v σ H Q q)⟩

/-! ### names, constants -/
def rd (i : Nat) : ME := fun ρ => match ρ[i]? with
  | some (some d) => ret d
  | _ => no
def kon (d : D) : ME := fun _ => ret d
section
variable {X : Cx} {c : Ct} {ex : Wh} {pos : Pos}
theorem tE_rd {i : Nat} {σ : L2.St} {H : Hp} {Q : VK} (h : tE c ex (rd i) σ H Q) : tVar i σ H Q := by
  obtain ⟨ρ, st, bs, rl, re, p⟩ := h
  unfold rd at p
  cases e : ρ[i]? with
  | none =>
    rw [e] at p
    exact p.elim
  | some o =>
    rw [e] at p
    cases o with
    | none => exact p.elim
    | some d =>
      obtain ⟨v, hv, r⟩ := re.val i d e
      exact ⟨v, hv, p.now rl v r⟩
theorem md_var (i : Nat) {x : Str} (hN : X.N[i]? = some x := by rfl) (hv : Vis X.env.scope x := by first | exact Or.inl rfl | exact Or.inr (Or.inl rfl) | exact Or.inr (Or.inr rfl)) (hd : (x == ("__debug__" : Str)) = false := by decide)
    (hcd : (x == ("__classdict__" : Str)) = false := by decide) : PE X (.Name x pos) (tE c ex (rd i)) := PE_imp (pe_var hN hv hd hcd) fun _ _ _ => tE_rd
theorem tE_kon {d : D} {v : V} (r : ∀ bs H, RD c bs H v d) {σ : L2.St} {H : Hp} {Q : VK} (h : tE c ex (kon d) σ H Q) : tC v σ H Q := by
  obtain ⟨ρ, st, bs, rl, re, p⟩ := h
  exact p.now rl v (r _ _)
theorem md_int {i : Int} {j} : PE X (.Constant (.int i) j pos) (tE c ex (kon (.int i))) := PE_imp pe_int fun _ _ _ => tE_kon fun _ _ => .int i
theorem md_bl {b : Bool} {j} : PE X (.Constant (.bool b) j pos) (tE c ex (kon (.bl b))) := PE_imp pe_bl fun _ _ _ => tE_kon fun _ _ => .bl b
theorem md_non {j} : PE X (.Constant .none j pos) (tE c ex (kon .non)) := PE_imp pe_non fun _ _ _ => tE_kon fun _ _ => .non
theorem md_str {x : Str} {j} : PE X (.Constant (.str x) j pos) (tE c ex (kon (.str x))) := PE_imp pe_str fun _ _ _ => tE_kon fun _ _ => .str x
/-- a module's constant -/
theorem md_glob {x : Str} {v : V} {u : Value} {d : D} (hg : Gl X x) (hm : X.mg x = some u) (r : RelV v u) (rd : ∀ bs H, RD c bs H v d) (hd : (x == ("__debug__" : Str)) = false := by decide) : PE X (.Name x pos) (tE c ex (kon d)) :=
  PE_imp (pe_glob hg hm r hd) fun _ _ _ => tE_kon rd

/-! ### two and one -/
def bin (f g : ME) (op : D → D → M D) : ME := fun ρ => bnd (f ρ) fun x => bnd (g ρ) fun y => op x y
def una (f : ME) (op : D → M D) : ME := fun ρ => bnd (f ρ) op
def S2 (c : Ct) (ex : Wh) (g : D → D → M D) (r : R2) : Prop := ∀ x y d e bs H st Q, RD c bs H x d → RD c bs H y e → Rel c bs H st → Post c ex (g d e st) bs H (fun z _ bs' H' => ∀ v, RD c bs' H' v z → Q v H') → r x y H Q
def S1 (c : Ct) (ex : Wh) (g : D → M D) (r : V → Hp → VK → Prop) : Prop := ∀ x d bs H st Q, RD c bs H x d → Rel c bs H st → Post c ex (g d st) bs H (fun z _ bs' H' => ∀ v, RD c bs' H' v z → Q v H') → r x H Q
theorem tE_bnd {f : ME} {g : D → ME} {σ : L2.St} {H : Hp} {Q : VK} (h : tE c ex (fun ρ => bnd (f ρ) fun x => g x ρ) σ H Q) :
    ∃ ρ st bs, Rel c bs H st ∧ RE c bs H ρ σ ∧ Post c ex (f ρ st) bs H fun d st1 bs1 H1 => Post c ex (g d ρ st1) bs1 H1 fun z _ bs' H' => ∀ v, RD c bs' H' v z → Q v H' := by
  obtain ⟨ρ, st, bs, rl, re, p⟩ := h
  exact ⟨ρ, st, bs, rl, re, p.bnd⟩
theorem tE_bin {f g : ME} {op : D → D → M D} {r : R2} (s : S2 c ex op r) {σ : L2.St} {H : Hp} {Q : VK} (h : tE c ex (bin f g op) σ H Q) : tOp r (tE c ex f) (tE c ex g) σ H Q := by
  obtain ⟨ρ, st, bs, rl, re, p⟩ := h
  refine ⟨ρ, st, bs, rl, re, p.bnd.imp fun d st1 bs1 H1 e1 rl1 p1 v rv => ?_⟩
  refine ⟨ρ, st1, bs1, rl1, re.ext e1, p1.bnd.imp fun d2 st2 bs2 H2 e2 rl2 p2 w rw' => ?_⟩
  exact s _ _ _ _ _ _ _ _ (rv.ext e2) rw' rl2 p2
theorem md_bin {op : Operator} {r : R2} {g : D → D → M D} {a b : Expr} {fa fb : ME} (ho : OpR X (binaryOp op) r) (s : S2 c ex g r) (ha : PE X a (tE c ex fa)) (hb : PE X b (tE c ex fb)) : PE X (.BinOp a op b pos) (tE c ex (bin fa fb g)) :=
  PE_imp (pe_op ho ha hb) fun _ _ _ => tE_bin s
theorem tE_una {f : ME} {op : D → M D} {r : V → Hp → VK → Prop} (s : S1 c ex op r) {σ : L2.St} {H : Hp} {Q : VK} (h : tE c ex (una f op) σ H Q) : tUn r (tE c ex f) σ H Q := by
  obtain ⟨ρ, st, bs, rl, re, p⟩ := h
  exact ⟨ρ, st, bs, rl, re, p.bnd.imp fun d st1 bs1 H1 e1 rl1 p1 v rv => s _ _ _ _ _ _ rv rl1 p1⟩
theorem md_una {op : UnaryOp} {r : V → Hp → VK → Prop} {g : D → M D} {a : Expr} {fa : ME} (ho : UnR X (unaryOp op) r) (s : S1 c ex g r) (ha : PE X a (tE c ex fa)) : PE X (.UnaryOp op a pos) (tE c ex (una fa g)) :=
  PE_imp (pe_un ho ha) fun _ _ _ => tE_una s
theorem S2.orL {g : D → D → M D} {r r' : R2} (h : S2 c ex g r) : S2 c ex g (fun x y H Q => r x y H Q ∨ r' x y H Q) := fun x y d e bs H st Q a b l p => .inl (h x y d e bs H st Q a b l p)
/-- by the two values -/
theorem S2.or {p : D → D → Bool} {g1 g2 : D → D → M D} {r r' : R2} (h : S2 c ex g1 r) (h' : S2 c ex g2 r') : S2 c ex (fun d e => if p d e then g1 d e else g2 d e) (fun x y H Q => r x y H Q ∨ r' x y H Q) := fun x y d e bs H st Q a b l q => by
  by_cases z : p d e = true
  · have q' : Post c ex (g1 d e st) bs H (fun z _ bs' H' => ∀ v, RD c bs' H' v z → Q v H') := by
      simpa only [if_pos z] using q
    exact .inl (h x y d e bs H st Q a b l q')
  · have q' : Post c ex (g2 d e st) bs H (fun z _ bs' H' => ∀ v, RD c bs' H' v z → Q v H') := by
      simpa only [if_neg z] using q
    exact .inr (h' x y d e bs H st Q a b l q')
end
/-- two ints -/
def opI (C : Int → Int → Bool) (g : Int → Int → D) : D → D → M D
  | .int i, .int j => if C i j then ret (g i j) else no
  | _, _ => no
def opI0 (g : Int → Int → D) : D → D → M D
  | .int i, .int j => ret (g i j)
  | _, _ => no
section
variable {c : Ct} {ex : Wh}
theorem s2_I0 {g : Int → Int → D} {k : Int → Int → V} (hk : ∀ i j bs H, RD c bs H (k i j) (g i j)) : S2 c ex (opI0 g) (rI0 k) := by
  intro x y d e bs H st Q rx ry rl p
  cases rx with
  | int i =>
    cases ry with
    | int j => exact ⟨i, j, rfl, rfl, p.now rl _ (hk i j bs H)⟩
    | _ => exact p.elim
  | _ => exact p.elim
theorem s2_I {C : Int → Int → Bool} {C' : Int → Int → Prop} (hC : ∀ i j, C i j = true → C' i j) {g : Int → Int → D} {k : Int → Int → V} (hk : ∀ i j bs H, RD c bs H (k i j) (g i j)) : S2 c ex (opI C g) (rI C' k) := by
  intro x y d e bs H st Q rx ry rl p
  cases rx with
  | int i =>
    cases ry with
    | int j =>
      obtain ⟨h, p⟩ := Post.iff (m := ret (g i j)) p
      exact ⟨i, j, rfl, rfl, hC i j h, p.now rl _ (hk i j bs H)⟩
    | _ => exact p.elim
  | _ => exact p.elim
end
end Pm
namespace Pm
open PySem PySem.Spec PyProof.Rows L2
/-! ### new tuples, known to the object: without a dict of their own -/
abbrev tupO (us : List Value) : Obj := { cls := .type "tuple", data := .seq us.toArray }
abbrev frT (us : List Value) (xs : List V) : HO := .frz (tupO us) (.tup xs)
theorem sqF {K : PySem.W.Frag} {H : Hp} {p : Addr} {us : List Value} {xs : List V} : SqT K (upd H p (frT us xs)) p xs := .inl (.inr ⟨_, upd_same⟩)
theorem dlF {K : PySem.W.Frag} {H : Hp} {p : Addr} {us : List Value} {xs : List V} : DL K (upd H p (frT us xs)) p := .inl ⟨_, _, upd_same, rfl⟩
theorem tupF_ok {P : Program} {w : World} {H : Hp} {h : Heap} {a : Addr} {us : List Value} {xs : List V} (z : xs.length ≤ sizeLine) (r : Vals xs us) (e : h.get? a = some (tupO us)) : ObjOk P w H h a (frT us xs) := ⟨e, z, us, r, ⟨_, e, rfl, _, rfl⟩⟩
section
variable {X : Cx} {e : Expr} {es : List Expr} {t : TA} {te : TE} {pos p : Pos}
theorem tupN {pins : List (Addr × Obj)} {σ : L2.St} {H : Hp} {s : Shared} {us : List Value} {xs : List V} (I : Inv X pins σ H s) (z : xs.length ≤ sizeLine) (r : Vals xs us) (tk : Nat) : Inv X pins σ (upd H s.heap.objs.size (frT us xs)) { s with heap := s.heap.push (tupO us), toks := tk } :=
  I.laid (o := frT us xs) (fun b u e => Heap.get?_push_of_some _ e) (Nat.le_refl _) (tupF_ok z r (Heap.get?_push_size _ rfl))
def tTupF (t : TA) : TE := fun σ H Q => t σ H fun xs H1 => xs.length ≤ sizeLine ∧ ∀ p us, H1 p = none → Q (.ref p) (upd H1 p (frT us xs))
theorem pe_tupF {x1} (h : PA X es t) : PE X (.Tuple es x1 pos) (tTupF t) := ⟨fun pins s σ H Q I hq =>
  wpAny_Tuple_spliced (thn (h.run pos pins s σ H _ I hq) fun us s1 ⟨xs, H1, I1, r, z, q⟩ => ⟨by rw [← r.length]; exact z, .ref s1.heap.objs.size, _, tupN I1 z r s1.toks, rfl, q _ us (I1.hok.fresh (Nat.le_refl _))⟩)⟩
/-- tuple(x) of a list, of a tuple -/
theorem call_tupleF : CallR X (.type "tuple") (fun xs H Q => ∃ p ys, xs = [.ref p] ∧ ((SqL X.K H p ys ∧ ∀ l us, H l = none → Q (.ref l) (upd H l (frT us ys))) ∨ (SqT X.K H p ys ∧ Q (.ref p) H))) := by
  intro pins s σ H xs us Q I r ⟨p, ys, ex, h⟩
  subst ex
  obtain ⟨u, rfl, rx⟩ := vals1 r
  cases rx
  rcases h with ⟨hq, q⟩ | ⟨hq, q⟩
  · obtain ⟨its, r', pl, hz⟩ := I.list hq
    have hn := r'.length
    refine call_tuple_list pl.isList (fun h' kp => ?_) (by simp only [List.size_toArray] <;> omega)
    have I1 : Inv X pins σ H { s with heap := h' } := I.kept (t' := s.toks) kp
    exact ⟨.ref h'.objs.size, _, tupN I1 hz r' s.toks, rfl, q _ its (I1.hok.fresh (Nat.le_refl _))⟩
  · obtain ⟨_, _, pl, _⟩ := I.tuple hq
    exact call_tuple_same pl ⟨.ref p, H, I, rfl, q⟩
/-- t + u -/
def rCatF (K : PySem.W.Frag) : R2 := fun x y H Q => ∃ a b xs ys, x = .ref a ∧ y = .ref b ∧ SqT K H a xs ∧ SqT K H b ys ∧ xs.length + ys.length ≤ sizeLine ∧
  (xs = [] → Q (.ref b) H) ∧ (xs ≠ [] → ys = [] → Q (.ref a) H) ∧ (xs ≠ [] → ys ≠ [] → ∀ p us, H p = none → Q (.ref p) (upd H p (frT us (xs ++ ys))))
theorem op_catF : OpR X (binaryOp .Add) (rCatF X.K) := by
  intro pins s σ H x y v u Q I rx ry ⟨a, b, xs, ys, ex, ey, ha, hb, hz, q0, q1, q2⟩
  subst ex ey
  cases rx
  cases ry
  obtain ⟨is1, r1, p1, _⟩ := I.tuple ha
  obtain ⟨is2, r2, p2, _⟩ := I.tuple hb
  by_cases hx : xs = []
  · subst hx
    cases r1
    exact cat_tup0 p1 p2 ⟨.ref b, H, I, rfl, q0 rfl⟩
  · refine HT.cat_tup p1 p2 (fun z => hx (r1.nil_iff.mp z)) (fun z => ⟨.ref a, H, I, rfl, q1 hx (r2.nil_iff.mp z)⟩) (fun z => ?_) (by rw [← r1.length, ← r2.length]; exact hz)
    exact ⟨.ref s.heap.objs.size, _, tupN I (by rw [List.length_append]; exact hz) (r1.append r2) s.toks, rfl, q2 hx (fun w => z (r2.nil_iff.mpr w)) _ _ (I.hok.fresh (Nat.le_refl _))⟩
/-- t[lo:hi] -/
def rSlF (K : PySem.W.Frag) : V → Option Int → Option Int → Hp → VK → Prop := fun x lo hi H Q => ∃ a xs, x = .ref a ∧ SqT K H a xs ∧
  (HT.sIx xs.length 0 lo = 0 ∧ HT.sIx xs.length xs.length hi = xs.length → Q (.ref a) H) ∧ (¬ (HT.sIx xs.length 0 lo = 0 ∧ HT.sIx xs.length xs.length hi = xs.length) → ∀ p us, H p = none → Q (.ref p) (upd H p (frT us (cutV xs lo hi))))
theorem sl_tupF : SlR X (rSlF X.K) := by
  intro pins s σ H x v vl vu lo hi sl Q I rx hs pl pu ⟨a, xs, ex, hx, q1, q2⟩
  subst ex
  cases rx
  obtain ⟨its, r, ht, hz⟩ := I.tuple hx
  have hn : its.toArray.size = xs.length := by rw [List.size_toArray, r.length]
  refine ⟨"tuple", _, PyProof.Rows.slot_tuple_getitem.lookup, ht.typeIs, ?_⟩
  by_cases hw : HT.sIx xs.length 0 lo = 0 ∧ HT.sIx xs.length xs.length hi = xs.length
  · exact getItem_tuple_whole ht hs pl pu (by rw [hn]; exact hw) ⟨.ref a, H, I, rfl, q1 hw⟩
  · refine HT.getItem_tuple_cut ht hs pl pu (by rw [hn]; exact hw) ?_ (by rw [hn]; exact hz)
    rw [hn]
    exact ⟨.ref s.heap.objs.size, _, tupN I (xs := cutV xs lo hi) (Nat.le_trans (cutV_length xs lo hi) hz) ((r.drop (HT.sIx xs.length 0 lo)).take (HT.sIx xs.length xs.length hi - HT.sIx xs.length 0 lo)) s.toks, rfl, q2 hw _ _ (I.hok.fresh (Nat.le_refl _))⟩
end
end Pm
end
section
set_option Elab.async false
set_option linter.all false
set_option maxRecDepth 100000
namespace Pm
open PySem PySem.Spec PyProof.Rows L2

/-! ### changes of the heap -/
section
variable {c : Ct} {ex : Wh} {bs : List Addr} {H : Hp} {st : Sto} {p a : Addr} {o : HO} {vs : List V} {xs : List D} {l : Nat}
theorem Rel.here (rl : Rel c bs H st) (h : a ∈ bs) : ∃ o, H a = some o ∧ ¬ Imm o := by
  obtain ⟨i, hi, e⟩ := List.getElem_of_mem h
  have e1 : bs[i]? = some a := by rw [List.getElem?_eq_getElem hi, e]
  have hi2 : i < st.length := by rw [← rl.len]; exact hi
  have q := rl.obj i a st[i] e1 (List.getElem?_eq_getElem hi2)
  cases e2 : st[i] with
  | lst xs =>
    rw [e2] at q
    obtain ⟨vs, q, _⟩ := q
    exact ⟨_, q, fun z => z⟩
  | dct kvs =>
    rw [e2] at q
    obtain ⟨vs, q, _⟩ := q
    exact ⟨_, q, fun z => z⟩
  | ins x fs =>
    rw [e2] at q
    obtain ⟨C, dx, vfs, _, q, _⟩ := q
    exact ⟨_, q, fun z => z⟩
theorem ROb.same {c : Ct} {bs bs' : List Addr} {H H' : Hp} (m : Pre c bs H bs' H') (e : H' a = H a) {o : O} (h : ROb c bs H a o) : ROb c bs' H' a o := by
  cases o with
  | lst xs =>
    obtain ⟨vs, q, r⟩ := h
    exact ⟨vs, e.trans q, r.mono m⟩
  | dct kvs =>
    obtain ⟨vs, q, e2, r⟩ := h
    exact ⟨vs, e.trans q, e2, r.mono m⟩
  | ins x fs =>
    obtain ⟨C, dx, vfs, h1, q, e2, r⟩ := h
    exact ⟨C, dx, vfs, h1, e.trans q, e2, r.mono m⟩
/-- a new object that nothing tells of -/
theorem Rel.fresh (rl : Rel c bs H st) (hp : H p = none) (o : HO) : Ext bs H bs (upd H p o) ∧ Rel c bs (upd H p o) st := by
  have e : Ext bs H bs (upd H p o) := ⟨⟨[], by simp⟩, fun b u h _ => by rw [upd_ne (ne_of_none h hp)]; exact h, fun b h n => absurd h n⟩
  refine ⟨e, ⟨rl.len, fun l b u h1 h2 => ?_, rl.nd, e.scr rl.scr⟩⟩
  obtain ⟨w, hw, _⟩ := rl.here (List.mem_of_getElem? h1)
  exact (rl.obj l b u h1 h2).same e.mov (upd_ne (ne_of_none hw hp))
/-- a new object -/
theorem Rel.laid (rl : Rel c bs H st) (hp : H p = none) {u0 : O} (r : Pre c bs H (bs ++ [p]) (upd H p o) → ROb c (bs ++ [p]) (upd H p o) p u0) : Ext bs H (bs ++ [p]) (upd H p o) ∧ Rel c (bs ++ [p]) (upd H p o) (st ++ [u0]) := by
  have nb : p ∉ bs := fun z => by
    obtain ⟨w, hw, _⟩ := rl.here z
    rw [hp] at hw
    cases hw
  have e : Ext bs H (bs ++ [p]) (upd H p o) := ⟨⟨[p], rfl⟩, fun b u h _ => by rw [upd_ne (ne_of_none h hp)]; exact h, fun b h n => by
    rcases List.mem_append.mp h with z | z
    · exact absurd z n
    · rw [List.mem_singleton.mp z]
      exact hp⟩
  refine ⟨e, ⟨by simp [rl.len], fun l b u h1 h2 => ?_, ?_, e.scr rl.scr⟩⟩
  · by_cases hl : l < bs.length
    · rw [List.getElem?_append_left hl] at h1
      rw [List.getElem?_append_left (by rw [← rl.len]; exact hl)] at h2
      obtain ⟨w, hw, _⟩ := rl.here (List.mem_of_getElem? h1)
      exact (rl.obj l b u h1 h2).same e.mov (upd_ne (ne_of_none hw hp))
    · have el : l = bs.length := by
        obtain ⟨z, _⟩ := List.getElem?_eq_some_iff.mp h1
        simp at z
        omega
      subst el
      rw [List.getElem?_append_right (Nat.le_refl _)] at h1
      rw [List.getElem?_append_right (by rw [rl.len]; exact Nat.le_refl _)] at h2
      simp at h1
      simp [rl.len] at h2
      subst h1 h2
      exact r e.mov
  · rw [List.nodup_append]
    exact ⟨rl.nd, by simp, fun x hx y hy => by rw [List.mem_singleton.mp hy]; exact fun z => nb (z ▸ hx)⟩
/-- a new list -/
theorem Rel.alloc (rl : Rel c bs H st) (hp : H p = none) (r : RDs c bs H vs xs) : Ext bs H (bs ++ [p]) (upd H p (.lst vs)) ∧ Rel c (bs ++ [p]) (upd H p (.lst vs)) (st ++ [.lst xs]) :=
  rl.laid hp fun m => ⟨vs, upd_same, r.mono m⟩
/-- an object that changes -/
theorem Rel.chg (rl : Rel c bs H st) (hb : bs[l]? = some a) {u0 : O} (r : Pre c bs H bs (upd H a o) → ROb c bs (upd H a o) a u0) : Ext bs H bs (upd H a o) ∧ Rel c bs (upd H a o) (st.set l u0) := by
  obtain ⟨ws, hw, hi⟩ := rl.here (List.mem_of_getElem? hb)
  have e : Ext bs H bs (upd H a o) := ⟨⟨[], by simp⟩, fun b u h q => by
    have n : b ≠ a := fun z => by
      subst z
      rcases q with q | q
      · exact q (List.mem_of_getElem? hb)
      · rw [hw] at h
        cases h
        exact hi q
    rw [upd_ne n]
    exact h, fun b h n => absurd h n⟩
  refine ⟨e, ⟨by simp [rl.len], fun k b u h1 h2 => ?_, rl.nd, e.scr rl.scr⟩⟩
  by_cases hk : l = k
  · subst hk
    rw [hb] at h1
    cases h1
    have z : l < st.length := by
      rw [← rl.len]
      exact (List.getElem?_eq_some_iff.mp hb).1
    rw [List.getElem?_set_self z] at h2
    cases h2
    exact r e.mov
  · rw [List.getElem?_set_ne hk] at h2
    have n : b ≠ a := fun z => by
      subst z
      exact hk ((List.getElem?_inj (List.getElem?_eq_some_iff.mp hb).1 rl.nd).mp (hb.trans h1.symm))
    exact (rl.obj k b u h1 h2).same e.mov (upd_ne n)
/-- a list that changes -/
theorem Rel.put (rl : Rel c bs H st) (hb : bs[l]? = some a) {ys : List D} (hl : st[l]? = some (.lst ys)) (r : RDs c bs H vs xs) : Ext bs H bs (upd H a (.lst vs)) ∧ Rel c bs (upd H a (.lst vs)) (st.set l (.lst xs)) :=
  rl.chg hb fun m => ⟨vs, upd_same, r.mono m⟩
end
def alloc (xs : List D) : M D := fun st => .ok (.loc st.length) (st ++ [.lst xs])
def lst (l : Nat) : M (List D) := fun st => match st[l]? with
  | some (.lst xs) => .ok xs st
  | _ => .stuck
def put (l : Nat) (xs : List D) : M Unit := fun st => .ok () (st.set l (.lst xs))
/-- what stands there, of any kind -/
def obj (l : Nat) : M O := fun st => match st[l]? with
  | some o => .ok o st
  | none => .stuck
def allocO (o : O) : M D := fun st => .ok (.loc st.length) (st ++ [o])
def putO (l : Nat) (o : O) : M Unit := fun st => .ok () (st.set l o)
def dkey : D → Option Key
  | .int i => some (.inl i)
  | .str x => some (.inr x)
  | _ => none
def getK (kvs : List (Key × D)) (k : Key) : Option D := (kvs.find? fun kv => decide (kv.1 = k)).map (·.2)
def setK (kvs : List (Key × D)) (k : Key) (d : D) : List (Key × D) := if (kvs.any fun kv => decide (kv.1 = k)) = true then kvs.map (fun kv => if kv.1 = k then (kv.1, d) else kv) else kvs ++ [(k, d)]
section
variable {c : Ct} {ex : Wh} {bs : List Addr} {H : Hp} {st : Sto} {p a : Addr} {o : HO} {vs : List V} {xs : List D} {l : Nat} {α : Type}
theorem post_alloc {k : D → Sto → List Addr → Hp → Prop} (q : Post c ex (alloc xs st) bs H k) (rl : Rel c bs H st) (hp : H p = none) (r : RDs c bs H vs xs) :
    k (.loc st.length) (st ++ [.lst xs]) (bs ++ [p]) (upd H p (.lst vs)) ∧ RD c (bs ++ [p]) (upd H p (.lst vs)) (.ref p) (.loc st.length) := by
  obtain ⟨e, rl'⟩ := rl.alloc hp r
  exact ⟨Post.at (st := st ++ [.lst xs]) q e rl', .loc (by rw [← rl.len]; simp)⟩
theorem post_lst {k : List D → Sto → List Addr → Hp → Prop} {f : List D → M α} {k' : α → Sto → List Addr → Hp → Prop} (q : Post c ex (bnd (lst l) f st) bs H k') (rl : Rel c bs H st) {v : V} (r : RD c bs H v (.loc l)) :
    ∃ a vs xs, v = .ref a ∧ bs[l]? = some a ∧ st[l]? = some (.lst xs) ∧ H a = some (.lst vs) ∧ RDs c bs H vs xs ∧ Post c ex (f xs st) bs H k' := by
  cases r with
  | @loc a n h =>
    unfold Pm.bnd Pm.lst at q
    cases e : st[l]? with
    | none => rw [e] at q; exact q.elim
    | some o =>
      cases o with
      | lst xs =>
        rw [e] at q
        obtain ⟨vs, h1, h2⟩ := rl.obj l a _ h e
        exact ⟨a, vs, xs, rfl, h, rfl, h1, h2, q⟩
      | dct _ => rw [e] at q; exact q.elim
      | ins _ _ => rw [e] at q; exact q.elim
theorem post_put {k : Unit → Sto → List Addr → Hp → Prop} {ys : List D} {f : Unit → M α} {k' : α → Sto → List Addr → Hp → Prop} (q : Post c ex (bnd (put l xs) f st) bs H k') (rl : Rel c bs H st) (hb : bs[l]? = some a) (hl : st[l]? = some (.lst ys)) (r : RDs c bs H vs xs) :
    Rel c bs (upd H a (.lst vs)) (st.set l (.lst xs)) ∧ Ext bs H bs (upd H a (.lst vs)) ∧ Post c ex (f () (st.set l (.lst xs))) bs (upd H a (.lst vs)) k' := by
  obtain ⟨e, rl'⟩ := rl.put hb hl r
  exact ⟨rl', e, Post.far (show Post c ex (f () (st.set l (.lst xs))) bs H k' from q) e⟩
end

/-! ### arithmetic -/
def opMul : D → D → M D := opI (fun i j => decide ((-(2 ^ 64) < i ∧ i < 2 ^ 64) ∨ (-(2 ^ 64) < j ∧ j < 2 ^ 64))) fun i j => .int (i * j)
def opSub : D → D → M D := opI0 fun i j => .int (i - j)
def opMod : D → D → M D := opI (fun _ j => decide (0 < j)) fun i j => .int (i % j)
def opFdiv : D → D → M D := opI (fun _ j => decide (0 < j ∧ j < 1073741824)) fun i j => .int (i / j)
def CPowB (i j : Int) : Prop := 0 ≤ j ∧ (Builtin.Int.intBits i : Int) * j ≤ 2 ^ 27
instance (i j : Int) : Decidable (CPowB i j) := by unfold CPowB; infer_instance
def opPow : D → D → M D := opI (fun i j => decide (CPowB i j)) fun i j => .int (i ^ j.toNat)
theorem op_powB {X : Cx} : OpR X (binaryOp .Pow) (rI CPowB fun i j => .int (i ^ j.toNat)) := L2.opI (C := CPowB) (g := fun i j => i ^ j.toNat) fun i j t u s Q E hc q => PyProof.Rows.pow_int hc.1 hc.2 q
def opNeg : D → M D
  | .int i => ret (.int (-i))
  | _ => no
/-- +: ints, texts, tuples, lists -/
def opAdd : D → D → M D
  | .int i, .int j => ret (.int (i + j))
  | .str x, .str y => if x.length + y.length ≤ sizeLine then ret (.str (x ++ y)) else no
  | .loc l, .loc m => bnd (lst l) fun xs => bnd (lst m) fun ys => if xs.length + ys.length ≤ sizeLine then alloc (xs ++ ys) else no
  | .tup xs, .tup ys => if xs.length + ys.length ≤ sizeLine then ret (.tup (xs ++ ys)) else no
  | _, _ => no
def rAddA (K : PySem.W.Frag) : R2 := fun x y H Q => rI0 (fun i j => .int (i + j)) x y H Q ∨ (∃ i j, x = .str i ∧ y = .str j ∧ i.length + j.length ≤ sizeLine ∧ Q (.str (i ++ j)) H) ∨ rCat x y H Q ∨ rCatF K x y H Q
theorem op_addA {X : Cx} : OpR X (binaryOp .Add) (rAddA X.K) := op_add.or (op_add_str.or (op_cat.or op_catF))
section
variable {X : Cx} {c : Ct} {ex : Wh} {pos : Pos} {a b : Expr} {fa fb : ME}
theorem s2_add : S2 c ex opAdd (rAddA c.K) := by
  intro x y d e bs H st Q rx ry rl p
  cases rx with
  | int i =>
    cases ry with
    | int j => exact .inl ⟨i, j, rfl, rfl, p.now rl _ (.int _)⟩
    | _ => exact p.elim
  | str i =>
    cases ry with
    | str j =>
      obtain ⟨h, p⟩ := Post.iff (m := ret _) p
      exact .inr (.inl ⟨i, j, rfl, rfl, h, p.now rl _ (.str _)⟩)
    | _ => exact p.elim
  | @loc a1 l h1 =>
    cases ry with
    | @loc a2 m h2 =>
      obtain ⟨a1', vs, xs, e1, hb1, hl1, hv1, r1, p⟩ := post_lst (k := fun _ _ _ _ => True) p rl (RD.loc h1)
      cases e1
      obtain ⟨a2', ws, ys, e2, hb2, hl2, hv2, r2, p⟩ := post_lst (k := fun _ _ _ _ => True) p rl (RD.loc h2)
      cases e2
      obtain ⟨h, p⟩ := Post.iff (m := alloc _) p
      refine .inr (.inr (.inl ⟨a1, a2, vs, ws, rfl, rfl, hv1, hv2, by rw [r1.length, r2.length]; exact h, fun q hq => ?_⟩))
      obtain ⟨k, r⟩ := post_alloc p rl hq (r1.append r2)
      exact k _ r
    | _ => exact p.elim
  | @tup a1 vs xs s1 tl1 r1 =>
    cases ry with
    | @tup a2 ws ys s2 tl2 r2 =>
      obtain ⟨h, p⟩ := Post.iff (m := ret _) p
      refine .inr (.inr (.inr ⟨a1, a2, vs, ws, rfl, rfl, s1, s2, by rw [r1.length, r2.length]; exact h, fun z => ?_, fun _ z => ?_, fun _ _ q us hq => ?_⟩))
      · subst z
        cases r1
        exact p.now rl _ (.tup s2 tl2 r2)
      · subst z
        cases r2
        rw [List.append_nil] at p
        exact p.now rl _ (.tup s1 tl1 r1)
      · obtain ⟨e, rl'⟩ := rl.fresh hq (frT us (vs ++ ws))
        exact p.at e rl' _ (.tup sqF dlF ((r1.append r2).ext e))
    | _ => exact p.elim
  | _ => cases ry <;> exact p.elim
theorem md_add (hK : X.K = c.K) (ha : PE X a (tE c ex fa)) (hb : PE X b (tE c ex fb)) : PE X (.BinOp a .Add b pos) (tE c ex (bin fa fb opAdd)) := md_bin op_addA (by rw [hK]; exact s2_add) ha hb
theorem md_sub (ha : PE X a (tE c ex fa)) (hb : PE X b (tE c ex fb)) : PE X (.BinOp a .Sub b pos) (tE c ex (bin fa fb opSub)) := md_bin op_sub (s2_I0 fun _ _ _ _ => .int _) ha hb
theorem md_mul (ha : PE X a (tE c ex fa)) (hb : PE X b (tE c ex fb)) : PE X (.BinOp a .Mult b pos) (tE c ex (bin fa fb opMul)) := md_bin op_mul (s2_I (fun _ _ h => of_decide_eq_true h) fun _ _ _ _ => .int _) ha hb
theorem md_mod (ha : PE X a (tE c ex fa)) (hb : PE X b (tE c ex fb)) : PE X (.BinOp a .Mod b pos) (tE c ex (bin fa fb opMod)) := md_bin op_mod (s2_I (fun _ _ h => of_decide_eq_true h) fun _ _ _ _ => .int _) ha hb
theorem md_fdiv (ha : PE X a (tE c ex fa)) (hb : PE X b (tE c ex fb)) : PE X (.BinOp a .FloorDiv b pos) (tE c ex (bin fa fb opFdiv)) := md_bin op_fdiv (s2_I (fun _ _ h => of_decide_eq_true h) fun _ _ _ _ => .int _) ha hb
theorem md_pow (ha : PE X a (tE c ex fa)) (hb : PE X b (tE c ex fb)) : PE X (.BinOp a .Pow b pos) (tE c ex (bin fa fb opPow)) := md_bin op_powB (s2_I (fun _ _ h => of_decide_eq_true h) fun _ _ _ _ => .int _) ha hb
theorem s1_neg : S1 c ex opNeg (rU fun i => .int (-i)) := by
  intro x d bs H st Q rx rl p
  cases rx with
  | int i => exact ⟨i, rfl, p.now rl _ (.int _)⟩
  | _ => exact p.elim
theorem md_neg (ha : PE X a (tE c ex fa)) : PE X (.UnaryOp .USub a pos) (tE c ex (una fa opNeg)) := md_una un_neg s1_neg ha
end
end Pm
namespace Pm
open PySem PySem.Spec PyProof.Rows L2
section
variable {c : Ct} {ex : Wh} {bs : List Addr} {H : Hp} {st : Sto} {a : Addr} {l : Nat} {α : Type}
theorem post_obj {k' : α → Sto → List Addr → Hp → Prop} {f : O → M α} (q : Post c ex (bnd (obj l) f st) bs H k') (rl : Rel c bs H st) {v : V} (r : RD c bs H v (.loc l)) :
    ∃ a o, v = .ref a ∧ bs[l]? = some a ∧ st[l]? = some o ∧ ROb c bs H a o ∧ Post c ex (f o st) bs H k' := by
  cases r with
  | @loc a n h =>
    unfold Pm.bnd Pm.obj at q
    cases e : st[l]? with
    | none => rw [e] at q; exact q.elim
    | some o =>
      rw [e] at q
      exact ⟨a, o, rfl, h, rfl, rl.obj l a o h e, q⟩
/-- the pairs of a dict, paired -/
theorem rdk_get : ∀ {vks : List (Key × V)} {kvs : List (Key × D)} {k : Key} {d : D}, vks.map (·.1) = kvs.map (·.1) → RDs c bs H (vks.map (·.2)) (kvs.map (·.2)) → getK kvs k = some d → ∃ v, valV vks k = some v ∧ RD c bs H v d
  | [], [], k, d, _, _, h => by cases h
  | [], _ :: _, _, _, e, _, _ => by cases e
  | _ :: _, [], _, _, e, _, _ => by cases e
  | (k1, v1) :: vks, (k2, d2) :: kvs, k, d, e, r, h => by
    simp only [List.map_cons, List.cons.injEq] at e
    obtain ⟨e1, e2⟩ := e
    have e1 : k1 = k2 := e1
    subst e1
    cases r with
    | cons r1 r2 =>
      by_cases hk : k1 = k
      · rw [valV_pos (p := (k1, v1)) hk]
        have e3 : getK ((k1, d2) :: kvs) k = some d2 := by simp [getK, List.find?_cons, hk]
        rw [e3] at h
        cases h
        exact ⟨_, rfl, r1⟩
      · rw [valV_neg (p := (k1, v1)) hk]
        have e3 : getK ((k1, d2) :: kvs) k = getK kvs k := by simp [getK, List.find?_cons, hk]
        rw [e3] at h
        exact rdk_get e2 r2 h
theorem rdk_none : ∀ {vks : List (Key × V)} {kvs : List (Key × D)} {k : Key}, vks.map (·.1) = kvs.map (·.1) → getK kvs k = none → valV vks k = none
  | [], [], _, _, _ => rfl
  | [], _ :: _, _, e, _ => by cases e
  | _ :: _, [], _, e, _ => by cases e
  | (k1, v1) :: vks, (k2, d2) :: kvs, k, e, h => by
    simp only [List.map_cons, List.cons.injEq] at e
    obtain ⟨e1, e2⟩ := e
    have e1 : k1 = k2 := e1
    subst e1
    by_cases hk : k1 = k
    · have e3 : getK ((k1, d2) :: kvs) k = some d2 := by simp [getK, List.find?_cons, hk]
      rw [e3] at h
      cases h
    · rw [valV_neg (p := (k1, v1)) hk]
      have e3 : getK ((k1, d2) :: kvs) k = getK kvs k := by simp [getK, List.find?_cons, hk]
      rw [e3] at h
      exact rdk_none e2 h
theorem any_fst {β : Type} (k : Key) (l : List (Key × β)) : (l.any fun kv => decide (kv.1 = k)) = (l.map (·.1)).any fun x => decide (x = k) := by
  rw [List.any_map]; rfl
theorem map_ite : ∀ {vks : List (Key × V)} {kvs : List (Key × D)} {k : Key} {v : V} {d : D}, vks.map (·.1) = kvs.map (·.1) → RDs c bs H (vks.map (·.2)) (kvs.map (·.2)) → RD c bs H v d →
    ((vks.map fun kv => if kv.1 = k then (kv.1, v) else kv).map (·.1) = (kvs.map fun kv => if kv.1 = k then (kv.1, d) else kv).map (·.1)) ∧ RDs c bs H ((vks.map fun kv => if kv.1 = k then (kv.1, v) else kv).map (·.2)) ((kvs.map fun kv => if kv.1 = k then (kv.1, d) else kv).map (·.2))
  | [], [], _, _, _, _, _, _ => ⟨rfl, .nil⟩
  | [], _ :: _, _, _, _, e, _, _ => by cases e
  | _ :: _, [], _, _, _, e, _, _ => by cases e
  | (k1, v1) :: vks, (k2, d2) :: kvs, k, v, d, e, r, rv => by
    simp only [List.map_cons, List.cons.injEq] at e
    obtain ⟨e1, e2⟩ := e
    have e1 : k1 = k2 := e1
    subst e1
    cases r with
    | cons r1 r2 =>
      obtain ⟨i1, i2⟩ := map_ite (k := k) e2 r2 rv
      by_cases hk : k1 = k
      · subst hk
        simp only [List.map_cons, if_true]
        exact ⟨by rw [i1], .cons rv i2⟩
      · simp only [List.map_cons, if_neg hk]
        exact ⟨by rw [i1], .cons r1 i2⟩
theorem rdk_put {vks : List (Key × V)} {kvs : List (Key × D)} {k : Key} {v : V} {d : D} (e : vks.map (·.1) = kvs.map (·.1)) (r : RDs c bs H (vks.map (·.2)) (kvs.map (·.2))) (rv : RD c bs H v d) :
    (putK vks k v).map (·.1) = (setK kvs k d).map (·.1) ∧ RDs c bs H ((putK vks k v).map (·.2)) ((setK kvs k d).map (·.2)) := by
  unfold putK setK
  have ea : (vks.any fun kv => decide (kv.1 = k)) = (kvs.any fun kv => decide (kv.1 = k)) := by rw [any_fst, any_fst, e]
  rw [ea]
  by_cases h : (kvs.any fun kv => decide (kv.1 = k)) = true
  · rw [if_pos h, if_pos h]
    exact map_ite e r rv
  · rw [if_neg h, if_neg h]
    simp only [List.map_append, List.map_cons, List.map_nil]
    exact ⟨by rw [e], r.append (.cons rv .nil)⟩
end
end Pm
end
section
set_option Elab.async false
set_option linter.all false
set_option maxRecDepth 100000
namespace Pm
open PySem PySem.Spec PyProof.Rows L2

/-! ### truth, and, or, not, if -/
def tru : D → M Bool
  | .non => ret false
  | .bl b => ret b
  | .int i => ret (i != 0)
  | .str y => if y.length ≤ sizeLine then ret ((y.length : Int) != 0) else no
  | .tup xs => ret (!xs.isEmpty)
  | .loc l => bnd (lst l) fun xs => ret (!xs.isEmpty)
  | .scr => no
def asB : D → M Bool
  | .bl b => ret b
  | _ => no
section
variable {X : Cx} {c : Ct} {ex : Wh} {pos : Pos} {a b e : Expr} {fa fb f g : ME} {ta tb t : MT} {bs : List Addr} {H : Hp} {st : Sto} {rest : List Expr}
theorem RDs.isEmpty {vs : List V} {ds : List D} (r : RDs c bs H vs ds) : vs.isEmpty = ds.isEmpty := by cases r <;> rfl
theorem tru_ok' {v : V} {d : D} {k : Bool → Sto → List Addr → Hp → Prop} (r : RD c bs H v d) (rl : Rel c bs H st) (p : Post c ex (tru d st) bs H k) : ∃ q, TruV c.K v H q ∧ k q st bs H := by
  cases r with
  | non => exact ⟨false, rfl, p.now rl⟩
  | bl q => exact ⟨q, rfl, p.now rl⟩
  | int i => exact ⟨_, rfl, p.now rl⟩
  | str y =>
    obtain ⟨h, p⟩ := Post.iff (m := ret _) p
    exact ⟨_, ⟨h, rfl⟩, p.now rl⟩
  | tup s tl r => exact ⟨_, .inr (.inl ⟨_, s, by rw [r.isEmpty]⟩), p.now rl⟩
  | loc h =>
    obtain ⟨a, vs, xs, e, hb, hl, hv, r, p⟩ := post_lst (k := fun _ _ _ _ => True) p rl (RD.loc h)
    cases e
    exact ⟨_, .inl ⟨_, SqL.of hv, by rw [r.isEmpty]⟩, p.now rl⟩
  | scr => exact p.elim
def tstV (f : ME) : MT := fun ρ => bnd (f ρ) tru
def tstB (f : ME) : MT := fun ρ => bnd (f ρ) asB
theorem tT_V {σ : L2.St} {Q : Bool → Hp → Prop} (h : tT c ex (tstV f) σ H Q) : tE c ex f σ H fun x H' => ∃ k, TruV c.K x H' k ∧ Q k H' := by
  obtain ⟨ρ, st, bs, rl, re, p⟩ := h
  exact ⟨ρ, st, bs, rl, re, p.bnd.imp fun d st1 bs1 H1 e1 rl1 p1 v rv => tru_ok' rv rl1 p1⟩
theorem mt_tru (hK : X.K = c.K) (h : PE X a (tE c ex f)) (he : ∀ whole, isTrue a X.env whole = (do let v ← whole; standAt a.pos; holding [v] (truthy v)) := by intro _; rfl) : PT X a (tT c ex (tstV f)) :=
  PT_imp (pt_truth h he) fun σ H Q q => by rw [hK]; exact tT_V q
theorem tT_B {σ : L2.St} {Q : Bool → Hp → Prop} (h : tT c ex (tstB f) σ H Q) : tE c ex f σ H fun x H' => ∃ k, x = .bl k ∧ Q k H' := by
  obtain ⟨ρ, st, bs, rl, re, p⟩ := h
  refine ⟨ρ, st, bs, rl, re, p.bnd.imp fun d st1 bs1 H1 e1 rl1 p1 v rv => ?_⟩
  cases rv with
  | bl k => exact ⟨k, rfl, p1.now rl1⟩
  | _ => exact p1.elim
/-- a test whose value is a bool -/
theorem mt_val (h : PE X a (tE c ex f)) (he : ∀ whole, isTrue a X.env whole = (do let v ← whole; standAt a.pos; holding [v] (truthy v)) := by intro _; rfl) : PT X a (tT c ex (tstB f)) :=
  PT_imp (pt_val h he) fun σ H Q q => tT_B q
def notT (t : MT) : MT := fun ρ => bnd (t ρ) fun k => ret (!k)
def andT (t u : MT) : MT := fun ρ => bnd (t ρ) fun k => if k = true then u ρ else ret false
def orT (t u : MT) : MT := fun ρ => bnd (t ρ) fun k => if k = true then ret true else u ρ
theorem mt_not (h : PT X a (tT c ex t)) : PT X (.UnaryOp .Not a pos) (tT c ex (notT t)) := PT_imp (pt_not h) fun σ H Q q => by
  obtain ⟨ρ, st, bs, rl, re, p⟩ := q
  exact ⟨ρ, st, bs, rl, re, p.bnd.imp fun d st1 bs1 H1 e1 rl1 p1 => p1.now rl1⟩
theorem mw_and1 (h : PT X a (tT c ex t)) : PW X (.BoolOp .And [a] pos) (tT c ex t) := pw_and1 h
theorem mw_or1 (h : PT X a (tT c ex t)) : PW X (.BoolOp .Or [a] pos) (tT c ex t) := pw_or1 h
theorem mw_and (ha : PT X a (tT c ex ta)) (hb : PW X (.BoolOp .And (b :: rest) pos) (tT c ex tb)) : PW X (.BoolOp .And (a :: b :: rest) pos) (tT c ex (andT ta tb)) := PW_imp (pw_and ha hb) fun σ H Q q => by
  obtain ⟨ρ, st, bs, rl, re, p⟩ := q
  refine ⟨ρ, st, bs, rl, re, p.bnd.imp fun k st1 bs1 H1 e1 rl1 p1 => ?_⟩
  cases k with
  | true => exact iteT ⟨ρ, st1, bs1, rl1, re.ext e1, p1⟩
  | false => exact iteF (p1.now rl1)
theorem mw_or (ha : PT X a (tT c ex ta)) (hb : PW X (.BoolOp .Or (b :: rest) pos) (tT c ex tb)) : PW X (.BoolOp .Or (a :: b :: rest) pos) (tT c ex (orT ta tb)) := PW_imp (pw_or ha hb) fun σ H Q q => by
  obtain ⟨ρ, st, bs, rl, re, p⟩ := q
  refine ⟨ρ, st, bs, rl, re, p.bnd.imp fun k st1 bs1 H1 e1 rl1 p1 => ?_⟩
  cases k with
  | true => exact iteT (p1.now rl1)
  | false => exact iteF ⟨ρ, st1, bs1, rl1, re.ext e1, p1⟩
/-- .. as values -/
def andV (f g : ME) : ME := fun ρ => bnd (f ρ) fun x => bnd (tru x) fun k => if k = true then g ρ else ret x
def orV (f g : ME) : ME := fun ρ => bnd (f ρ) fun x => bnd (tru x) fun k => if k = true then ret x else g ρ
def notV (f : ME) : ME := fun ρ => bnd (f ρ) fun x => bnd (tru x) fun k => ret (.bl (!k))
theorem md_one {op} (h : PE X a (tE c ex f)) : PE X (.BoolOp op [a] pos) (tE c ex f) := pe_one h
theorem md_and (hK : X.K = c.K) (ha : PE X a (tE c ex fa)) (hb : PE X (.BoolOp .And (b :: rest) pos) (tE c ex fb)) : PE X (.BoolOp .And (a :: b :: rest) pos) (tE c ex (andV fa fb)) := PE_imp (pe_andT ha hb) fun σ H Q q => by
  obtain ⟨ρ, st, bs, rl, re, p⟩ := q
  refine ⟨ρ, st, bs, rl, re, p.bnd.imp fun d st1 bs1 H1 e1 rl1 p1 v rv => ?_⟩
  obtain ⟨k, hk, p2⟩ := tru_ok' rv rl1 p1.bnd
  rw [hK]
  refine ⟨k, hk, ?_⟩
  cases k with
  | true => exact iteT ⟨ρ, st1, bs1, rl1, re.ext e1, p2⟩
  | false => exact iteF (p2.now rl1 v rv)
theorem md_or (hK : X.K = c.K) (ha : PE X a (tE c ex fa)) (hb : PE X (.BoolOp .Or (b :: rest) pos) (tE c ex fb)) : PE X (.BoolOp .Or (a :: b :: rest) pos) (tE c ex (orV fa fb)) := PE_imp (pe_orT ha hb) fun σ H Q q => by
  obtain ⟨ρ, st, bs, rl, re, p⟩ := q
  refine ⟨ρ, st, bs, rl, re, p.bnd.imp fun d st1 bs1 H1 e1 rl1 p1 v rv => ?_⟩
  obtain ⟨k, hk, p2⟩ := tru_ok' rv rl1 p1.bnd
  rw [hK]
  refine ⟨k, hk, ?_⟩
  cases k with
  | true => exact iteT (p2.now rl1 v rv)
  | false => exact iteF ⟨ρ, st1, bs1, rl1, re.ext e1, p2⟩
theorem md_not (hK : X.K = c.K) (ha : PE X a (tE c ex fa)) : PE X (.UnaryOp .Not a pos) (tE c ex (notV fa)) := PE_imp (pe_notT ha) fun σ H Q q => by
  obtain ⟨ρ, st, bs, rl, re, p⟩ := q
  refine ⟨ρ, st, bs, rl, re, p.bnd.imp fun d st1 bs1 H1 e1 rl1 p1 v rv => ?_⟩
  obtain ⟨k, hk, p2⟩ := tru_ok' rv rl1 p1.bnd
  rw [hK]
  exact ⟨k, hk, p2.now rl1 _ (.bl _)⟩
def ifE (t : MT) (f g : ME) : ME := fun ρ => bnd (t ρ) fun k => if k = true then f ρ else g ρ
theorem md_if {x : Expr} (ht : PT X x (tT c ex t)) (ha : PE X a (tE c ex fa)) (hb : PE X b (tE c ex fb)) : PE X (.IfExp x a b pos) (tE c ex (ifE t fa fb)) := PE_imp (pe_ifExp ht ha hb) fun σ H Q q => by
  obtain ⟨ρ, st, bs, rl, re, p⟩ := q
  refine ⟨ρ, st, bs, rl, re, p.bnd.imp fun k st1 bs1 H1 e1 rl1 p1 => ?_⟩
  cases k with
  | true => exact iteT ⟨ρ, st1, bs1, rl1, re.ext e1, p1⟩
  | false => exact iteF ⟨ρ, st1, bs1, rl1, re.ext e1, p1⟩
end

/-! ### comparisons -/
def scD : D → D → Bool
  | .non, .non => true | .non, .int _ => true | .int _, .non => true | .non, .bl _ => true | .bl _, .non => true | .non, .str _ => true | .str _, .non => true
  | .int _, .int _ => true | .bl _, .bl _ => true | .str _, .str _ => true
  | .int _, .str _ => true | .str _, .int _ => true | .bl _, .str _ => true | .str _, .bl _ => true
  | _, _ => false
def toPys (f : D → Option PyData) : List D → Option (List PyData)
  | [] => some []
  | x :: xs => match f x, toPys f xs with
    | some a, some as => some (a :: as)
    | _, _ => none
def toPy (st : Sto) : Nat → D → Option PyData
  | 0, _ => none
  | n + 1, d => match d with
    | .non => some .none
    | .bl b => some (.bool b)
    | .int i => some (.int i)
    | .str s => some (.str s)
    | .tup xs => (toPys (toPy st n) xs).map .tuple
    | .loc l => match st[l]? with
      | some (.lst xs) => (toPys (toPy st n) xs).map .list
      | _ => none
    | .scr => none
/-- data, to be compared or shown -/
def py (d : D) : M PyData := fun st => match toPy st 60 d with
  | some p => .ok p st
  | none => .stuck
def opEq : D → D → M D := fun d e => if scD d e then ret (.bl (decide (d = e))) else bnd (py d) fun p => bnd (py e) fun q => if SeqAt.shaped p && SeqAt.shaped q then ret (.bl (PyData.eqv p q)) else no
def opNe : D → D → M D := fun d e => if scD d e then ret (.bl (!decide (d = e))) else bnd (py d) fun p => bnd (py e) fun q => if SeqAt.shaped p && SeqAt.shaped q then ret (.bl (!PyData.eqv p q)) else no
section
variable {X : Cx} {c : Ct} {ex : Wh} {pos : Pos} {a b : Expr} {fa fb f g : ME} {bs : List Addr} {H : Hp} {st : Sto}
theorem dpAll_of {f : D → Option PyData} (h : ∀ d v p, f d = some p → RD c bs H v d → Dp c.K H v p) : ∀ (xs : List D) (vs : List V) (ps : List PyData), toPys f xs = some ps → RDs c bs H vs xs → DpAll c.K H vs ps
  | [], _, _, e, r => by
    cases r
    cases e
    exact .nil
  | x :: xs, _, ps, e, r => by
    cases r with
    | cons r1 r2 =>
      unfold toPys at e
      cases e1 : f x with
      | none => rw [e1] at e; cases e
      | some q =>
        cases e2 : toPys f xs with
        | none => rw [e1, e2] at e; cases e
        | some qs =>
          rw [e1, e2] at e
          cases e
          exact .cons (h _ _ _ e1 r1) (dpAll_of h xs _ _ e2 r2)
theorem dp_of (rl : Rel c bs H st) : ∀ (n : Nat) (d : D) (v : V) (p : PyData), toPy st n d = some p → RD c bs H v d → Dp c.K H v p
  | 0, _, _, _, e, _ => by cases e
  | n + 1, d, v, p, e, r => by
    cases r with
    | non => cases e; exact .non
    | bl b => cases e; exact .bl b
    | int i => cases e; exact .int i
    | str s => cases e; exact .str s
    | @tup a vs ds s tl r =>
      have e : (toPys (toPy st n) ds).map PyData.tuple = some p := e
      cases e1 : toPys (toPy st n) ds with
      | none => rw [e1] at e; cases e
      | some ps =>
        rw [e1] at e
        cases e
        exact .tup s (dpAll_of (fun d v p => dp_of rl n d v p) _ _ _ e1 r)
    | @loc a l h =>
      cases e1 : st[l]? with
      | none =>
        unfold toPy at e
        simp only [e1] at e
        cases e
      | some o =>
        unfold toPy at e
        simp only [e1] at e
        cases o with
        | lst xs =>
          obtain ⟨vs, hv, r⟩ := rl.obj l a _ h e1
          have e : (toPys (toPy st n) xs).map PyData.list = some p := e
          cases e2 : toPys (toPy st n) xs with
          | none => rw [e2] at e; cases e
          | some ps =>
            rw [e2] at e
            cases e
            exact .lst (SqL.of hv) (dpAll_of (fun d v p => dp_of rl n d v p) _ _ _ e2 r)
        | dct _ => cases e
        | ins _ _ => cases e
    | scr => cases e
theorem post_py {α : Type} {d : D} {f : PyData → M α} {k : α → Sto → List Addr → Hp → Prop} (q : Post c ex (bnd (py d) f st) bs H k) (rl : Rel c bs H st) {v : V} (r : RD c bs H v d) : ∃ p, toPy st 60 d = some p ∧ Dp c.K H v p ∧ Post c ex (f p st) bs H k := by
  unfold bnd py at q
  cases e : toPy st 60 d with
  | none => rw [e] at q; exact q.elim
  | some p =>
    rw [e] at q
    exact ⟨p, rfl, dp_of rl 60 d v p e r, q⟩
theorem scal_of {v w : V} {d e : D} (r : RD c bs H v d) (r' : RD c bs H w e) (h : scD d e = true) : scal v w = true ∧ decide (v = w) = decide (d = e) := by
  cases r <;> cases r' <;> first | (simp [scD] at h; done) | (refine ⟨rfl, ?_⟩; simp)
def rEqA (K : PySem.W.Frag) : R2 := fun x y H Q => rEq x y H Q ∨ rEqD K x y H Q
def rNeA (K : PySem.W.Frag) : R2 := fun x y H Q => rNe x y H Q ∨ rNeD K x y H Q
theorem s2_eq : S2 c ex opEq (rEqA c.K) := by
  intro x y d e bs H st Q rx ry rl p
  unfold opEq at p
  by_cases h : scD d e = true
  · rw [if_pos h] at p
    obtain ⟨h1, h2⟩ := scal_of rx ry h
    exact .inl ⟨h1, by rw [h2]; exact p.now rl _ (.bl _)⟩
  · rw [if_neg h] at p
    obtain ⟨u, _, du, p⟩ := post_py p rl rx
    obtain ⟨w, _, dw, p⟩ := post_py p rl ry
    obtain ⟨hs, p⟩ := Post.iff (m := ret _) p
    rw [Bool.and_eq_true] at hs
    exact .inr ⟨u, w, du, dw, hs.1, hs.2, p.now rl _ (.bl _)⟩
theorem s2_ne : S2 c ex opNe (rNeA c.K) := by
  intro x y d e bs H st Q rx ry rl p
  unfold opNe at p
  by_cases h : scD d e = true
  · rw [if_pos h] at p
    obtain ⟨h1, h2⟩ := scal_of rx ry h
    exact .inl ⟨h1, by rw [h2]; exact p.now rl _ (.bl _)⟩
  · rw [if_neg h] at p
    obtain ⟨u, _, du, p⟩ := post_py p rl rx
    obtain ⟨w, _, dw, p⟩ := post_py p rl ry
    obtain ⟨hs, p⟩ := Post.iff (m := ret _) p
    rw [Bool.and_eq_true] at hs
    exact .inr ⟨u, w, du, dw, hs.1, hs.2, p.now rl _ (.bl _)⟩
def opLt : D → D → M D := opI0 fun i j => .bl (decide (i < j))
def opLe : D → D → M D := opI0 fun i j => .bl (decide (i ≤ j))
def opGt : D → D → M D := opI0 fun i j => .bl (decide (j < i))
def opGe : D → D → M D := opI0 fun i j => .bl (decide (j ≤ i))
/-- a comparison's rule: its reading, its meaning -/
structure CO (X : Cx) (c : Ct) (ex : Wh) (op : CmpOp) (g : D → D → M D) : Prop where
  ex : ∃ r, OpR X (compareOp op) r ∧ S2 c ex g r
theorem co_eq (hK : X.K = c.K) (hu : X.A.units + 64 < cLine) : CO X c ex .Eq opEq := ⟨_, op_eq.or (op_eqD hu), by rw [hK]; exact s2_eq⟩
theorem co_ne (hK : X.K = c.K) (hu : X.A.units + 64 < cLine) : CO X c ex .NotEq opNe := ⟨_, op_ne.or (op_neD hu), by rw [hK]; exact s2_ne⟩
theorem co_lt : CO X c ex .Lt opLt := ⟨_, op_lt, s2_I0 fun _ _ _ _ => .bl _⟩
theorem co_le : CO X c ex .LtE opLe := ⟨_, op_le, s2_I0 fun _ _ _ _ => .bl _⟩
theorem co_gt : CO X c ex .Gt opGt := ⟨_, op_gt, s2_I0 fun _ _ _ _ => .bl _⟩
theorem co_ge : CO X c ex .GtE opGe := ⟨_, op_ge, s2_I0 fun _ _ _ _ => .bl _⟩
/-- is None -/
def opIs : D → D → M D
  | d, .non => ret (.bl (decide (d = .non)))
  | .bl a, .bl b => ret (.bl (decide (a = b)))
  | _, _ => no
def opIsNot : D → D → M D
  | d, .non => ret (.bl (!decide (d = .non)))
  | .bl a, .bl b => ret (.bl (!decide (a = b)))
  | _, _ => no
theorem non_iff {v : V} {d : D} (r : RD c bs H v d) : decide (v = .non) = decide (d = .non) := by cases r <;> simp
theorem co_is : CO X c ex .Is opIs := ⟨_, op_isN.or op_isBl, by
  intro x y d e bs H st Q rx ry rl p
  cases ry with
  | non =>
    have p : Post c ex (ret (D.bl (decide (d = .non))) st) bs H (fun z _ bs' H' => ∀ v, RD c bs' H' v z → Q v H') := by cases d <;> exact p
    exact .inl ⟨rfl, by rw [non_iff rx]; exact p.now rl _ (.bl _)⟩
  | bl k =>
    cases rx with
    | bl j => exact .inr ⟨j, k, rfl, rfl, p.now rl _ (.bl _)⟩
    | _ => exact p.elim
  | _ => cases rx <;> exact p.elim⟩
theorem co_isnot : CO X c ex .IsNot opIsNot := ⟨_, op_notN.or op_notBl, by
  intro x y d e bs H st Q rx ry rl p
  cases ry with
  | non =>
    have p : Post c ex (ret (D.bl (!decide (d = .non))) st) bs H (fun z _ bs' H' => ∀ v, RD c bs' H' v z → Q v H') := by cases d <;> exact p
    exact .inl ⟨rfl, by rw [non_iff rx]; exact p.now rl _ (.bl _)⟩
  | bl k =>
    cases rx with
    | bl j => exact .inr ⟨j, k, rfl, rfl, p.now rl _ (.bl _)⟩
    | _ => exact p.elim
  | _ => cases rx <;> exact p.elim⟩
theorem md_cmp {op : CmpOp} {g : D → D → M D} (h : CO X c ex op g) (ha : PE X a (tE c ex fa)) (hb : PE X b (tE c ex fb)) (hm : behindInMarks op b = false := by first | rfl | exact nomark _) : PE X (.Compare a [op] [b] pos) (tE c ex (bin fa fb g)) := by
  obtain ⟨r, ho, s⟩ := h.ex
  exact PE_imp (pe_cmpR ho ha hb hm) fun _ _ _ => tE_bin s
theorem mt_cmp {op : CmpOp} {g : D → D → M D} (h : CO X c ex op g) (ha : PE X a (tE c ex fa)) (hb : PE X b (tE c ex fb)) (hm : behindInMarks op b = false := by first | rfl | exact nomark _) : PT X (.Compare a [op] [b] pos) (tT c ex (tstB (bin fa fb g))) := by
  obtain ⟨r, ho, s⟩ := h.ex
  refine PT_imp (pt_cmpR ho ha hb hm) fun σ H Q q => ?_
  have q := tT_B q
  exact tE_bin s q
/-- a < b < c -/
def chn (f g h : ME) (op op' : D → D → M D) : ME := fun ρ => bnd (f ρ) fun x => bnd (g ρ) fun y => bnd (op x y) fun z => bnd (asB z) fun k => if k = true then bnd (h ρ) fun w => op' y w else ret (.bl false)
theorem tE_chn {h : ME} {g1 g2 : D → D → M D} {r r' : R2} (s : S2 c ex g1 r) (s' : S2 c ex g2 r') {σ : L2.St} {Q : VK} (q : tE c ex (chn f g h g1 g2) σ H Q) : tChain r r' (tE c ex f) (tE c ex g) (tE c ex h) σ H Q := by
  obtain ⟨ρ, st, bs, rl, re, p⟩ := q
  refine ⟨ρ, st, bs, rl, re, p.bnd.imp fun d st1 bs1 H1 e1 rl1 p1 v rv => ?_⟩
  refine ⟨ρ, st1, bs1, rl1, re.ext e1, p1.bnd.imp fun d2 st2 bs2 H2 e2 rl2 p2 w rw' => ?_⟩
  refine s _ _ _ _ _ _ _ _ (rv.ext e2) rw' rl2 (p2.bnd.imp fun z st3 bs3 H3 e3 rl3 p3 u ru => ?_)
  cases ru with
  | bl k =>
    have p4 := p3.bnd.now rl3
    refine ⟨k, rfl, ?_⟩
    cases k with
    | true => exact iteT ⟨ρ, st3, bs3, rl3, ((re.ext e1).ext e2).ext e3, p4.bnd.imp fun d5 st5 bs5 H5 e5 rl5 p5 w5 rw5 => s' _ _ _ _ _ _ _ _ ((rw'.ext e3).ext e5) rw5 rl5 p5⟩
    | false => exact iteF (p4.now rl3 _ (.bl _))
  | _ => exact p3.bnd.elim
theorem md_chain {op op' : CmpOp} {e : Expr} {h : ME} {g1 g2 : D → D → M D} (o : CO X c ex op g1) (o' : CO X c ex op' g2) (ha : PE X a (tE c ex f)) (hb : PE X b (tE c ex g)) (hc : PE X e (tE c ex h))
    (hm : lastMarks [op, op'] [b, e] = false := by with_unfolding_all rfl) : PE X (.Compare a [op, op'] [b, e] pos) (tE c ex (chn f g h g1 g2)) := by
  obtain ⟨r, ho, s⟩ := o.ex
  obtain ⟨r', ho', s'⟩ := o'.ex
  exact PE_imp (pe_chain ho ho' ha hb hc hm) fun _ _ _ => tE_chn s s'
theorem mt_chain {op op' : CmpOp} {e : Expr} {h : ME} {g1 g2 : D → D → M D} (o : CO X c ex op g1) (o' : CO X c ex op' g2) (ha : PE X a (tE c ex f)) (hb : PE X b (tE c ex g)) (hc : PE X e (tE c ex h))
    (hm : lastMarks [op, op'] [b, e] = false := by with_unfolding_all rfl) : PT X (.Compare a [op, op'] [b, e] pos) (tT c ex (tstB (chn f g h g1 g2))) := by
  obtain ⟨r, ho, s⟩ := o.ex
  obtain ⟨r', ho', s'⟩ := o'.ex
  refine PT_imp (pt_chain ho ho' ha hb hc hm) fun σ H Q q => ?_
  exact tE_chn s s' (tT_B q)
end
end Pm
end
section
set_option Elab.async false
set_option linter.all false
set_option maxRecDepth 100000
set_option maxHeartbeats 2000000
namespace Pm
open PySem PySem.Spec PyProof.Rows L2

/-! ### sorted(t), t a tuple -/
/-- the heap with a new list of these -/
def heapC (h : Heap) (items : Array Value) : Heap := (h.push { cls := .type "list", data := .seq ([] : List Value).toArray }).update h.objs.size (Obj.mapSeq (· ++ items))
section
variable {prog : Program} {w : World} {A : Around} {E : Value → Shared → Prop} {s : Shared}
theorem collectC {t : Addr} {items : Array Value} {Q : List Value → Shared → Prop} (ht : IsTup s.heap t items) (hz : items.size ≤ sizeLine) (h : Q items.toList { s with heap := heapC s.heap items }) : wpAny (model prog w) A (collect (.ref t)) Q E s := by
  obtain ⟨o, ho, hc, n, hd⟩ := ht
  unfold collect
  refine wpAny_bind (wpAny_runValue (codeAny_builtin F.entry_proto_collect (by
    rw [Around.under_plainId F.plain_proto_collect _]
    (show wpAny _ A.in1 (newList [] >>= fun l => again (.builtin "list.__iadd__" ⟨[l, .ref t], []⟩)) _ _ s; refine wpAny_bind (wpAny_newObj_type ?_); refine wpAny_pure ⟨plainId_quiet F.plain_list_iadd _, codeAny_builtin F.entry_list_iadd ?_⟩)
    rw [Around.under_plainId F.plain_list_iadd _]
    have hS : (s.heap.push { cls := .type "list", data := .seq ([] : List Value).toArray }).get? s.heap.objs.size = some { cls := .type "list", data := .seq #[] 0 } := by exact Heap.get?_push_size _ rfl
    have hU : (heapC s.heap items).get? s.heap.objs.size = _ := Heap.get?_update_self (Obj.mapSeq (· ++ items)) hS rfl
    have last : wpAny (model prog w) A (load s.heap.objs.size >>= fun o => match o.data with
        | Data.seq xs _ => pure xs.toList
        | _ => unsupported "internal:collect") Q E { s with heap := heapC s.heap items } := by
      refine wpAny_bind (wpAny_load hU (wpAny_pure ?_))
      have e : ((#[] : Array Value) ++ items).toList = items.toList := by simp
      exact (show Q ((#[] : Array Value) ++ items).toList _ from by rw [e]; exact h)
    refine wpAny_mono (wpAny_extend_seq (hsz := hz) (A := A) (R := fun r s' => r = .ok (.ret (.ref s.heap.objs.size)) ∧ s' = { s with heap := heapC s.heap items }) (s := { s with heap := s.heap.push { cls := .type "list", data := .seq ([] : List Value).toArray } }) _ t _ 0 (.inr rfl) hS (Heap.get?_push_of_some _ ho) hc hd ⟨rfl, rfl⟩) (fun fin s' z => ?_) (fun e s' z => ?_)
    · match fin, z with
      | .done f, ⟨e, e2⟩ => cases e; subst e2; exact last
      | .again c', ⟨z1, z2⟩ => exact ⟨z1, codeAny_mono z2 fun r s'' hr => by obtain ⟨rfl, rfl⟩ := hr; exact last⟩
    · exact absurd z.1 (by simp))))
theorem sortedC {t : Addr} {vs : List Value} {lt : Value → Value → Bool} {Q : Value → Shared → Prop} (O : SrtO.Swo lt) (ht : IsTup s.heap t vs.toArray) (hz : vs.length ≤ sizeLine)
    (hS : 2 ≤ vs.length → ∀ (g : Heap) (a : Addr), SrtO.SortableO prog w A.in1.in1 { s with heap := g } a vs lt) (h : ∀ out : List Value, SrtO.Srtd lt out → SrtO.Stb lt out vs → Q (.ref (s.heap.objs.size + 1)) { s with heap := PyProof.Rows.sortedAll s.heap vs out.toArray }) :
    wpAny (model prog w) A (call (.builtin "sorted") [.ref t]) Q E s := by
  refine Calls.call_function_entry PyProof.Rows.kind_sorted PyProof.Rows.plain_sorted PyProof.Rows.entry_sorted (PyProof.Rows.args_sorted1 _) (by
    unfold Builtin.«sorted»
    refine wpAny_bind (m := checkCount "sorted" 1 1 _) (wpAny_pure (wpAny_bind (collectC ht (by simpa using hz) (wpAny_bind (wpAny_newList ?_ hz)))))
    have z : (heapC s.heap vs.toArray).objs.size = s.heap.objs.size + 1 := by
      unfold heapC
      rw [Heap.size_update, Heap.size_push]
    have hoL : ((heapC s.heap vs.toArray).push (PyProof.Rows.seqObj "list" vs.toArray 0)).get? (s.heap.objs.size + 1) = some (PyProof.Rows.seqObj "list" vs.toArray 0) := by
      rw [← z]
      exact Heap.get?_push_size _ rfl
    show wpAny _ _ _ _ _ { s with heap := (heapC s.heap vs.toArray).push (PyProof.Rows.seqObj "list" vs.toArray 0) }
    rw [z]
    exact wpAny_bind (wpAny_holding (wpAny_call_entry PyProof.Rows.slot_list_sort ⟨_, hoL, rfl⟩ PyProof.Rows.entry_list_sort (SrtO.list_sort_ord O hoL hz (fun h2 => hS h2 _ _) fun out hs hb => ⟨_, rfl, wpAny_pure ⟨_, rfl, h out hs hb⟩⟩) (PyProof.Rows.args_list_sort _))))
end
/-- ints -/
def rSortedIT (K : PySem.W.Frag) : List V → Hp → VK → Prop := fun vs H Q => ∃ (a : Addr) (ns : List Int), vs = [V.ref a] ∧ SqT K H a (ns.map V.int) ∧
  ∀ (ns' : List Int) (p : Addr), List.Perm ns' ns → List.Pairwise (· ≤ ·) ns' → H p = none → Q (.ref p) (upd H p (.lst (ns'.map V.int)))
theorem cr_sortedIT {X : Cx} : CallR X (.builtin "sorted") (rSortedIT X.K) := by
  intro pins s σ H vs us Q I r h
  obtain ⟨a, ns, rfl, hs, q⟩ := h
  obtain ⟨its, rv, ht, hz⟩ := I.tuple hs
  rw [Vals.ref1 r]
  have hi := rv.ints
  refine sortedC SrtO.swo_int ht (by rw [← rv.length]; exact hz) (fun h2 g a' => SrtO.ints_sortable hi h2) fun out h1 h2 => ?_
  obtain ⟨k1, k2, k3⟩ := SrtO.ints_out hi h1 h2
  obtain ⟨ep, he⟩ := PyProof.Rows.sortedAll_at s.heap its out.toArray
  have hl : ((out.map SrtO.iv).map V.int).length ≤ sizeLine := by
    rw [List.length_map] at hz
    rw [List.length_map, k2.length_eq]
    exact hz
  have J := I.laid (t' := s.toks) (a := s.heap.objs.size + 1) (o := .lst ((out.map SrtO.iv).map V.int)) (fun _ _ => PyProof.Rows.sortedAll_old (out := out.toArray)) (Nat.le_succ _) ⟨hl, out, ep, vals_of_ints k1, he⟩
  exact ⟨.ref _, _, J, rfl, q _ _ k2 k3 (I.hok.fresh (Nat.le_succ _))⟩
end Pm
end
section
set_option Elab.async false
set_option linter.all false
set_option maxRecDepth 100000
namespace Pm
open PySem PySem.Spec PyProof.Rows L2

/-! ### arguments, displays -/
def nilA : MA := fun _ => ret []
def conA (f : ME) (g : MA) : MA := fun ρ => bnd (f ρ) fun x => bnd (g ρ) fun xs => ret (x :: xs)
def tupE (g : MA) : ME := fun ρ => bnd (g ρ) fun xs => if xs.length ≤ sizeLine then ret (.tup xs) else no
def lstE (g : MA) : ME := fun ρ => bnd (g ρ) fun xs => if xs.length ≤ sizeLine then alloc xs else no
section
variable {X : Cx} {c : Ct} {ex : Wh} {pos : Pos} {a b e : Expr} {es : List Expr} {fa fb f : ME} {g : MA} {bs : List Addr} {H : Hp} {st : Sto}
theorem ma_nil : PA X [] (tA c ex nilA) := PA_imp pa_nil fun σ H Q q => by
  obtain ⟨ρ, st, bs, rl, re, p⟩ := q
  exact p.now rl [] .nil
theorem ma_cons (ha : PE X e (tE c ex f)) (hr : PA X es (tA c ex g)) (hs : starEach (e :: es) X.env = (false, eval e X.env) :: starEach es X.env := by rfl) : PA X (e :: es) (tA c ex (conA f g)) := PA_imp (pa_cons ha hr hs) fun σ H Q q => by
  obtain ⟨ρ, st, bs, rl, re, p⟩ := q
  refine ⟨ρ, st, bs, rl, re, p.bnd.imp fun d st1 bs1 H1 e1 rl1 p1 v rv => ?_⟩
  exact ⟨ρ, st1, bs1, rl1, re.ext e1, p1.bnd.imp fun ds st2 bs2 H2 e2 rl2 p2 vs rvs => p2.now rl2 _ (.cons (rv.ext e2) rvs)⟩
theorem md_tup {x1} (h : PA X es (tA c ex g)) : PE X (.Tuple es x1 pos) (tE c ex (tupE g)) := PE_imp (pe_tupF h) fun σ H Q q => by
  obtain ⟨ρ, st, bs, rl, re, p⟩ := q
  refine ⟨ρ, st, bs, rl, re, p.bnd.imp fun ds st1 bs1 H1 e1 rl1 p1 vs rvs => ?_⟩
  obtain ⟨h, p1⟩ := Post.iff (m := ret _) p1
  refine ⟨by rw [rvs.length]; exact h, fun q us hq => ?_⟩
  obtain ⟨e2, rl2⟩ := rl1.fresh hq (frT us vs)
  exact p1.at e2 rl2 _ (.tup sqF dlF (rvs.ext e2))
theorem md_lst (h : PA X es (tA c ex g)) : PE X (.List es pos) (tE c ex (lstE g)) := PE_imp (pe_lst h) fun σ H Q q => by
  obtain ⟨ρ, st, bs, rl, re, p⟩ := q
  refine ⟨ρ, st, bs, rl, re, p.bnd.imp fun ds st1 bs1 H1 e1 rl1 p1 vs rvs => ?_⟩
  obtain ⟨h, p1⟩ := Post.iff (m := alloc _) p1
  refine ⟨by rw [rvs.length]; exact h, fun q hq => ?_⟩
  obtain ⟨k, r⟩ := post_alloc p1 rl1 hq rvs
  exact k _ r

/-! ### calls of built-ins, by values -/
def SC (c : Ct) (ex : Wh) (g : List D → M D) (r : List V → Hp → VK → Prop) : Prop := ∀ vs ds bs H st Q, RDs c bs H vs ds → Rel c bs H st → Post c ex (g ds st) bs H (fun z _ bs' H' => ∀ v, RD c bs' H' v z → Q v H') → r vs H Q
def appA (g : MA) (op : List D → M D) : ME := fun ρ => bnd (g ρ) op
/-- a built-in's rule, its meaning -/
structure CB (X : Cx) (c : Ct) (ex : Wh) (f : Value) (g : List D → M D) : Prop where
  ex : ∃ r, CallR X f r ∧ SC c ex g r
theorem tE_app {op : List D → M D} {r : List V → Hp → VK → Prop} (s : SC c ex op r) {σ : L2.St} {H : Hp} {Q : VK} (h : tE c ex (appA g op) σ H Q) : tCB r (tA c ex g) σ H Q := by
  obtain ⟨ρ, st, bs, rl, re, p⟩ := h
  exact ⟨ρ, st, bs, rl, re, p.bnd.imp fun ds st1 bs1 H1 e1 rl1 p1 vs rvs => s _ _ _ _ _ _ rvs rl1 p1⟩
theorem md_callB {x id : _} {p : Pos} {op : List D → M D} (h : CB X c ex (.builtin id) op) (hg : Gl X x) (hm : X.mg x = none) (hv : bootBuiltins x = some (.builtin id)) (ha : PA X (e :: es) (tA c ex g)) (hn : x ≠ "__name__" := by decide) (hdb : (x == ("__debug__" : Str)) = false := by decide)
    (he : starEach (e :: es) X.env = (false, eval e X.env) :: starEach es X.env := by rfl) (hpl : (backTo pos (starEach es X.env)).any (·.1) = false := by rfl) : PE X (.Call (.Name x p) (e :: es) [] pos) (tE c ex (appA g op)) := by
  obtain ⟨r, hc, s⟩ := h.ex
  exact PE_imp (pe_callB hc hg hm hv ha hn hdb he hpl) fun _ _ _ => tE_app s
theorem md_callTy {x T : _} {p : Pos} {op : List D → M D} (h : CB X c ex (.type T) op) (hg : Gl X x) (hm : X.mg x = none) (hv : bootBuiltins x = some (.type T)) (ha : PA X (e :: es) (tA c ex g)) (hn : x ≠ "__name__" := by decide) (hdb : (x == ("__debug__" : Str)) = false := by decide)
    (he : starEach (e :: es) X.env = (false, eval e X.env) :: starEach es X.env := by rfl) (hpl : (backTo pos (starEach es X.env)).any (·.1) = false := by rfl) : PE X (.Call (.Name x p) (e :: es) [] pos) (tE c ex (appA g op)) := by
  obtain ⟨r, hc, s⟩ := h.ex
  exact PE_imp (pe_callTy hc hg hm hv ha hn hdb he hpl) fun _ _ _ => tE_app s
end

def bLen (ns : List Int) : List D → M D
  | [.str y] => if y.length ≤ sizeLine then ret (.int y.length) else no
  | [.tup xs] => ret (.int xs.length)
  | [.loc l] => bnd (obj l) fun o => match o with
    | .lst xs => ret (.int xs.length)
    | .dct kvs => ret (.int kvs.length)
    | .ins _ _ => no
  | [.scr] => ret (.int ns.length)
  | _ => no
def bAbs : List D → M D
  | [.int i] => ret (.int (if i < 0 then -i else i))
  | _ => no
def bInt : List D → M D
  | [.int i] => ret (.int i)
  | [.bl k] => ret (.int (if k then 1 else 0))
  | _ => no
def bStr : List D → M D
  | [.int i] => if i.natAbs.log2 < 1920 then ret (.str (toString i)) else no
  | _ => no
def bMax : List D → M D
  | [.int i, .int j] => ret (.int (if j > i then j else i))
  | _ => no
def bMin : List D → M D
  | [.int i, .int j] => ret (.int (if j < i then j else i))
  | _ => no
/-- ints alone, bools alone -/
def intsOf : List D → Option (List Int)
  | [] => some []
  | .int i :: xs => (intsOf xs).map (i :: ·)
  | _ :: _ => none
def blsOf : List D → Option (List Bool)
  | [] => some []
  | .bl i :: xs => (blsOf xs).map (i :: ·)
  | _ :: _ => none
def bSum : List D → M D
  | [.loc l] => bnd (lst l) fun xs => match intsOf xs with
    | some ns => ret (.int ns.sum)
    | none => no
  | _ => no
def bAll : List D → M D
  | [.loc l] => bnd (lst l) fun xs => match blsOf xs with
    | some ks => ret (.bl (ks.all id))
    | none => no
  | _ => no
def bAny : List D → M D
  | [.loc l] => bnd (lst l) fun xs => match blsOf xs with
    | some ks => ret (.bl (ks.any id))
    | none => no
  | _ => no
def ins (n : Int) : List Int → List Int
  | [] => [n]
  | m :: r => if n ≤ m then n :: m :: r else m :: ins n r
def isort : List Int → List Int
  | [] => []
  | n :: r => ins n (isort r)
def bSorted : List D → M D
  | [.loc l] => bnd (lst l) fun xs => match intsOf xs with
    | some ns => alloc ((isort ns).map .int)
    | none => no
  | [.tup xs] => match intsOf xs with
    | some ns => alloc ((isort ns).map .int)
    | none => no
  | _ => no
def bTuple : List D → M D
  | [.loc l] => bnd (lst l) fun xs => ret (.tup xs)
  | [.tup xs] => ret (.tup xs)
  | _ => no
def bList (ns : List Int) : List D → M D
  | [.loc l] => bnd (lst l) fun xs => alloc xs
  | [.tup xs] => alloc xs
  | [.scr] => alloc (ns.map .int)
  | _ => no
def bRepr : List D → M D
  | [d] => bnd (py d) fun p => if p.showable = true ∧ p.hasDict = false ∧ p.depth ≤ 60 ∧ p.shown.length ≤ 100000 then ret (.str p.shown) else no
  | _ => no
theorem ins_perm (n : Int) : ∀ r : List Int, (ins n r).Perm (n :: r)
  | [] => .refl _
  | m :: r => by
    unfold ins
    split
    · exact .refl _
    · exact ((ins_perm n r).cons m).trans (.swap n m r)
theorem isort_perm : ∀ r : List Int, (isort r).Perm r
  | [] => .refl _
  | n :: r => (ins_perm n (isort r)).trans ((isort_perm r).cons n)
theorem ins_sorted (n : Int) : ∀ r : List Int, r.Pairwise (· ≤ ·) → (ins n r).Pairwise (· ≤ ·)
  | [], _ => by simp [ins]
  | m :: r, h => by
    unfold ins
    rw [List.pairwise_cons] at h
    split
    · rename_i hn
      rw [List.pairwise_cons, List.pairwise_cons]
      refine ⟨fun x hx => ?_, h⟩
      rcases List.mem_cons.mp hx with rfl | hx
      · exact hn
      · exact Int.le_trans hn (h.1 x hx)
    · rename_i hn
      rw [List.pairwise_cons]
      refine ⟨fun x hx => ?_, ins_sorted n r h.2⟩
      rcases List.mem_cons.mp ((ins_perm n r).mem_iff.mp hx) with rfl | hx
      · omega
      · exact h.1 x hx
theorem isort_sorted : ∀ r : List Int, (isort r).Pairwise (· ≤ ·)
  | [] => .nil
  | n :: r => ins_sorted n _ (isort_sorted r)
theorem intsOf_map : ∀ {xs : List D} {ns : List Int}, intsOf xs = some ns → xs = ns.map D.int
  | [], ns, h => by cases h; rfl
  | .int i :: xs, ns, h => by
    unfold intsOf at h
    cases e : intsOf xs with
    | none => rw [e] at h; cases h
    | some ms =>
      rw [e] at h
      cases h
      rw [intsOf_map e]
      rfl
  | .non :: _, _, h => by cases h
  | .bl _ :: _, _, h => by cases h
  | .str _ :: _, _, h => by cases h
  | .tup _ :: _, _, h => by cases h
  | .loc _ :: _, _, h => by cases h
  | .scr :: _, _, h => by cases h
theorem intsOf_ints (ns : List Int) : intsOf (ns.map D.int) = some ns := by
  induction ns with
  | nil => rfl
  | cons n r ih => simp [intsOf, ih]
theorem blsOf_map : ∀ {xs : List D} {ns : List Bool}, blsOf xs = some ns → xs = ns.map D.bl
  | [], ns, h => by cases h; rfl
  | .bl i :: xs, ns, h => by
    unfold blsOf at h
    cases e : blsOf xs with
    | none => rw [e] at h; cases h
    | some ms =>
      rw [e] at h
      cases h
      rw [blsOf_map e]
      rfl
  | .non :: _, _, h => by cases h
  | .int _ :: _, _, h => by cases h
  | .str _ :: _, _, h => by cases h
  | .tup _ :: _, _, h => by cases h
  | .loc _ :: _, _, h => by cases h
  | .scr :: _, _, h => by cases h
theorem blsOf_bls (ns : List Bool) : blsOf (ns.map D.bl) = some ns := by
  induction ns with
  | nil => rfl
  | cons n r ih => simp [blsOf, ih]
section
variable {X : Cx} {c : Ct} {ex : Wh} {bs : List Addr} {H : Hp} {st : Sto}
theorem RDs.toInts : ∀ {vs : List V} {ns : List Int}, RDs c bs H vs (ns.map D.int) → vs = ns.map V.int
  | _, [], .nil => rfl
  | _, n :: ns, .cons (.int _) t => by rw [RDs.toInts t]; rfl
theorem RDs.toBls : ∀ {vs : List V} {ns : List Bool}, RDs c bs H vs (ns.map D.bl) → vs = ns.map V.bl
  | _, [], .nil => rfl
  | _, n :: ns, .cons (.bl _) t => by rw [RDs.toBls t]; rfl
theorem cb_len (hK : X.K = c.K) : CB X c ex (.builtin "len") (bLen c.ns) := ⟨_, call_len.or call_lenD, by
  intro vs ds bs H st Q r rl p
  cases r with
  | nil => exact p.elim
  | cons r t =>
    cases t with
    | cons _ _ => cases r <;> exact p.elim
    | nil =>
      cases r with
      | str y =>
        obtain ⟨h, p⟩ := Post.iff (m := ret _) p
        exact .inl ⟨_, _, rfl, ⟨h, rfl⟩, p.now rl _ (.int _)⟩
      | tup s tl r => exact .inl ⟨_, _, rfl, .inr ⟨_, by rw [hK]; exact s, rfl⟩, by rw [r.length]; exact p.now rl _ (.int _)⟩
      | loc h =>
        obtain ⟨a, o, e, hb, hl, ro, p⟩ := post_obj p rl (RD.loc h)
        cases e
        cases o with
        | lst xs =>
          obtain ⟨vs, hv, r⟩ := ro
          exact .inl ⟨_, _, rfl, .inl ⟨_, SqL.of hv, rfl⟩, by rw [r.length]; exact Post.now p rl _ (.int _)⟩
        | dct kvs =>
          obtain ⟨vks, hv, e, r⟩ := ro
          have el : vks.length = kvs.length := by
            have := congrArg List.length e
            simpa using this
          exact .inr ⟨_, vks, rfl, hv, by rw [el]; exact Post.now p rl _ (.int _)⟩
        | ins _ _ => exact p.elim
      | scr => exact .inl ⟨_, _, rfl, .inl ⟨_, by rw [hK]; exact rl.scr.sq, rfl⟩, by rw [List.length_map]; exact p.now rl _ (.int _)⟩
      | _ => exact p.elim⟩
theorem cb_abs : CB X c ex (.builtin "abs") bAbs := ⟨_, call_abs, by
  intro vs ds bs H st Q r rl p
  match ds, r, p with
  | [.int i], .cons (.int _) .nil, p => exact ⟨_, rfl, p.now rl _ (.int _)⟩⟩
theorem cb_int : CB X c ex (.type "int") bInt := ⟨_, call_int1, by
  intro vs ds bs H st Q r rl p
  match ds, r, p with
  | [.int i], .cons (.int _) .nil, p => exact .inl ⟨_, rfl, p.now rl _ (.int _)⟩
  | [.bl i], .cons (.bl _) .nil, p => exact .inr ⟨_, rfl, p.now rl _ (.int _)⟩⟩
theorem cb_str : CB X c ex (.type "str") bStr := ⟨_, call_str_int, by
  intro vs ds bs H st Q r rl p
  match ds, r, p with
  | [.int i], .cons (.int _) .nil, p =>
    obtain ⟨h, p⟩ := Post.iff (m := ret _) p
    exact ⟨_, rfl, h, p.now rl _ (.str _)⟩⟩
theorem cb_max (hc : X.calm = true) : CB X c ex (.builtin "max") bMax := ⟨_, call_max2 hc, by
  intro vs ds bs H st Q r rl p
  match ds, r, p with
  | [.int i, .int j], .cons (.int _) (.cons (.int _) .nil), p => exact ⟨_, _, rfl, p.now rl _ (.int _)⟩⟩
theorem cb_min (hc : X.calm = true) : CB X c ex (.builtin "min") bMin := ⟨_, call_min2 hc, by
  intro vs ds bs H st Q r rl p
  match ds, r, p with
  | [.int i, .int j], .cons (.int _) (.cons (.int _) .nil), p => exact ⟨_, _, rfl, p.now rl _ (.int _)⟩⟩
theorem cb_sum (hK : X.K = c.K) (hc : X.calm = true) : CB X c ex (.builtin "sum") bSum := ⟨_, cr_sum hc, by
  intro vs ds bs H st Q r rl p
  match ds, r, p with
  | [.loc l], .cons (.loc h) .nil, p =>
    obtain ⟨a, vs, xs, e, hb, hl, hv, r, p⟩ := post_lst (k := fun _ _ _ _ => True) p rl (RD.loc h)
    cases e
    cases e1 : intsOf xs with
    | none => simp only [e1] at p; exact p.elim
    | some ns =>
      simp only [e1] at p
      rw [intsOf_map e1] at r
      rw [r.toInts] at hv
      exact ⟨_, _, rfl, SqL.of hv, p.now rl _ (.int _)⟩⟩
theorem cb_all (hK : X.K = c.K) (hc : X.calm = true) : CB X c ex (.builtin "all") bAll := ⟨_, cr_all hc, by
  intro vs ds bs H st Q r rl p
  match ds, r, p with
  | [.loc l], .cons (.loc h) .nil, p =>
    obtain ⟨a, vs, xs, e, hb, hl, hv, r, p⟩ := post_lst (k := fun _ _ _ _ => True) p rl (RD.loc h)
    cases e
    cases e1 : blsOf xs with
    | none => simp only [e1] at p; exact p.elim
    | some ns =>
      simp only [e1] at p
      rw [blsOf_map e1] at r
      rw [r.toBls] at hv
      exact ⟨_, _, rfl, SqL.of hv, p.now rl _ (.bl _)⟩⟩
theorem cb_any (hK : X.K = c.K) (hc : X.calm = true) : CB X c ex (.builtin "any") bAny := ⟨_, cr_any hc, by
  intro vs ds bs H st Q r rl p
  match ds, r, p with
  | [.loc l], .cons (.loc h) .nil, p =>
    obtain ⟨a, vs, xs, e, hb, hl, hv, r, p⟩ := post_lst (k := fun _ _ _ _ => True) p rl (RD.loc h)
    cases e
    cases e1 : blsOf xs with
    | none => simp only [e1] at p; exact p.elim
    | some ns =>
      simp only [e1] at p
      rw [blsOf_map e1] at r
      rw [r.toBls] at hv
      exact ⟨_, _, rfl, SqL.of hv, p.now rl _ (.bl _)⟩⟩
theorem cb_sorted (hK : X.K = c.K) : CB X c ex (.builtin "sorted") bSorted := ⟨_, cr_sortedI.or cr_sortedIT, by
  intro vs ds bs H st Q r rl p
  match ds, r, p with
  | [.loc l], .cons (.loc h) .nil, p =>
    obtain ⟨a, vs, xs, e, hb, hl, hv, r, p⟩ := post_lst (k := fun _ _ _ _ => True) p rl (RD.loc h)
    cases e
    cases e1 : intsOf xs with
    | none => simp only [e1] at p; exact p.elim
    | some ns =>
      simp only [e1] at p
      rw [intsOf_map e1] at r
      rw [r.toInts] at hv
      refine .inl ⟨_, _, rfl, SqL.of hv, fun ns' q hp hs hq => ?_⟩
      have e2 : ns' = isort ns := PySem.W.ksm_same (hp.trans (isort_perm ns).symm) hs (isort_sorted ns)
      subst e2
      obtain ⟨k, r⟩ := post_alloc p rl hq (RDs.ints _)
      exact k _ r
  | [.tup xs], .cons (.tup s tl r) .nil, p =>
    cases e1 : intsOf xs with
    | none => simp only [bSorted, e1] at p; exact p.elim
    | some ns =>
      simp only [bSorted, e1] at p
      rw [intsOf_map e1] at r
      rw [r.toInts] at s
      refine .inr ⟨_, _, rfl, by rw [hK]; exact s, fun ns' q hp hs hq => ?_⟩
      have e2 : ns' = isort ns := PySem.W.ksm_same (hp.trans (isort_perm ns).symm) hs (isort_sorted ns)
      subst e2
      obtain ⟨k, r⟩ := post_alloc p rl hq (RDs.ints _)
      exact k _ r⟩
theorem cb_tuple (hK : X.K = c.K) : CB X c ex (.type "tuple") bTuple := ⟨_, call_tupleF, by
  intro vs ds bs H st Q r rl p
  match ds, r, p with
  | [.loc l], .cons (.loc h) .nil, p =>
    obtain ⟨a, vs, xs, e, hb, hl, hv, r, p⟩ := post_lst (k := fun _ _ _ _ => True) p rl (RD.loc h)
    cases e
    refine ⟨_, _, rfl, .inl ⟨SqL.of hv, fun q us hq => ?_⟩⟩
    obtain ⟨e2, rl2⟩ := rl.fresh hq (frT us vs)
    exact p.at e2 rl2 _ (.tup sqF dlF (r.ext e2))
  | [.tup xs], .cons (.tup s tl r) .nil, p => exact ⟨_, _, rfl, .inr ⟨by rw [hK]; exact s, p.now rl _ (.tup s tl r)⟩⟩⟩
theorem cb_list (hK : X.K = c.K) : CB X c ex (.type "list") (bList c.ns) := ⟨_, call_list_of, by
  intro vs ds bs H st Q r rl p
  match ds, r, p with
  | [.loc l], .cons (.loc h) .nil, p =>
    obtain ⟨a, vs, xs, e, hb, hl, hv, r, p⟩ := post_lst (k := fun _ _ _ _ => True) p rl (RD.loc h)
    cases e
    refine ⟨_, _, rfl, .inl (SqL.of hv), fun q hq => ?_⟩
    obtain ⟨k, r⟩ := post_alloc p rl hq r
    exact k _ r
  | [.tup xs], .cons (.tup s tl r) .nil, p =>
    refine ⟨_, _, rfl, .inr (by rw [hK]; exact s), fun q hq => ?_⟩
    obtain ⟨k, r⟩ := post_alloc p rl hq r
    exact k _ r
  | [.scr], .cons .scr .nil, p =>
    refine ⟨_, _, rfl, .inl (by rw [hK]; exact rl.scr.sq), fun q hq => ?_⟩
    obtain ⟨k, r⟩ := post_alloc p rl hq (RDs.ints _)
    exact k _ r⟩
end
end Pm
end
section
set_option Elab.async false
set_option linter.all false
set_option maxRecDepth 100000
namespace Pm
open PySem PySem.Spec PyProof.Rows L2

/-! ### repr of data -/
section
variable {X : Cx} {c : Ct} {ex : Wh} {bs : List Addr} {H : Hp} {st : Sto} {pos : Pos} {a b e : Expr} {es : List Expr} {fa fb f : ME} {g : MA}
def rRepr (K : PySem.W.Frag) : List V → Hp → VK → Prop := fun xs H Q => ∃ v p, xs = [v] ∧ Dp K H v p ∧ p.showable = true ∧ p.hasDict = false ∧ p.depth ≤ 60 ∧ p.shown.length ≤ 100000 ∧ Q (.str p.shown) H
theorem cr_repr (hg : X.A.guards = some []) (hu : X.A.units + 64 < cLine) : CallR X (.builtin "repr") (rRepr X.K) := by
  intro pins s σ H xs us Q I r h
  obtain ⟨v, p, rfl, hd, hs, hn, hdp, hz, q⟩ := h
  obtain ⟨u, rfl, r1⟩ := vals1 r
  have hz' : p.shown.length ≤ sizeLine := Nat.le_trans hz (by rw [sizeLine_eq]; decide)
  have big : ∀ {y : Addr}, u = Value.ref y → wpAny (model X.prog X.w) X.A (call (.builtin "repr") [u]) (EP X pins σ Q) X.xe s := fun {y} e => by
    subst e
    obtain ⟨as, hr⟩ := Dp.reads I p v _ hd r1
    exact repr_of_reads' (h₀ := s.heap) hr hs (fun z => by rw [hn] at z; cases z) hg (by omega) (fun _ _ z => z) (fun h' w tk hk => ⟨.str p.shown, H, I.kept (t' := tk) hk, ⟨w, rfl⟩, q⟩) hz'
  cases hd with
  | non => cases r1; exact PySem.P.repr_of_none ⟨.str _, H, I.tok _, ⟨_, rfl⟩, q⟩
  | bl b => cases r1; exact PySem.P.repr_of_bool ⟨.str _, H, I.tok _, ⟨_, rfl⟩, by cases b <;> exact q⟩
  | int i => obtain ⟨t, rfl⟩ := r1; exact PySem.P.repr_of_int (of_decide_eq_true hs) ⟨.str _, H, I.tok _, ⟨_, rfl⟩, q⟩
  | str x => obtain ⟨t, rfl⟩ := r1; exact PySem.P.repr_of_str (⟨.str _, H, I.tok _, ⟨_, rfl⟩, q⟩) hz'
  | lst _ _ => exact big r1
  | tup _ _ => exact big r1
theorem cb_repr (hK : X.K = c.K) (hg : X.A.guards = some []) (hu : X.A.units + 64 < cLine) : CB X c ex (.builtin "repr") bRepr := ⟨_, cr_repr hg hu, by
  intro vs ds bs H st Q r rl p
  match ds, r, p with
  | [d], .cons r .nil, p =>
    obtain ⟨u, _, hd, p⟩ := post_py p rl r
    obtain ⟨⟨h1, h2, h3, h4⟩, p⟩ := Post.iff (m := ret _) p
    exact ⟨_, u, rfl, by rw [hK]; exact hd, h1, h2, h3, h4, p.now rl _ (.str _)⟩⟩

/-! ### isinstance -/
def isT (t T : String) : Bool := t == T || (t == "bool" && T == "int")
def okT (T : String) : Bool := ["NoneType", "bool", "int", "str", "tuple", "list", "dict"].all fun t => kitB t T == some (isT t T)
def isi (T : String) : D → M D
  | .non => ret (.bl (isT "NoneType" T))
  | .bl _ => ret (.bl (isT "bool" T))
  | .int _ => ret (.bl (isT "int" T))
  | .str _ => ret (.bl (isT "str" T))
  | .tup _ => ret (.bl (isT "tuple" T))
  | .loc l => bnd (obj l) fun o => match o with
    | .lst _ => ret (.bl (isT "list" T))
    | .dct _ => ret (.bl (isT "dict" T))
    | .ins _ _ => no
  | .scr => no
theorem tyT {t T : String} (h : okT T = true) (ht : t ∈ ["NoneType", "bool", "int", "str", "tuple", "list", "dict"]) : PySem.W.kitOne c.K (.type t) (.type T) = some (isT t T) :=
  kit_ty (eq_of_beq (List.all_eq_true.mp h t ht))
theorem isi_ok {T : String} (hT : okT T = true) {v : V} {d : D} {Q : VK} (r : RD c bs H v d) (rl : Rel c bs H st) (p : Post c ex (isi T d st) bs H (fun z _ bs' H' => ∀ v, RD c bs' H' v z → Q v H')) : rIsi c.K [v, .ty T] H Q := by
  have fin : ∀ (t : String) (ht : t ∈ ["NoneType", "bool", "int", "str", "tuple", "list", "dict"]), TyX c.K H v (.type t) → Post c ex (ret (D.bl (isT t T)) st) bs H (fun z _ bs' H' => ∀ v, RD c bs' H' v z → Q v H') → rIsi c.K [v, .ty T] H Q := fun t ht ty p =>
    ⟨v, .ty T, .type t, .type T, isT t T, rfl, .ty T, ty, tyT hT ht, p.now rl _ (.bl _)⟩
  cases r with
  | non => exact fin "NoneType" (by simp) (.base .non) p
  | bl b => exact fin "bool" (by simp) (.base (.bl b)) p
  | int i => exact fin "int" (by simp) (.base (.int i)) p
  | str x => exact fin "str" (by simp) (.base (.str x)) p
  | @tup a vs ds s tl r =>
    refine fin "tuple" (by simp) ?_ p
    rcases s with (s | ⟨o, s⟩) | ⟨o, its, n, hk, hc, _⟩
    · exact .base (.tup s)
    · exact .fTuple s
    · exact .kTuple hk hc
  | loc h =>
    obtain ⟨a, o, e, hb, hl, ro, p⟩ := post_obj p rl (RD.loc h)
    cases e
    cases o with
    | lst xs =>
      obtain ⟨vs, hv, r⟩ := ro
      exact fin "list" (by simp) (.base (.lst hv)) p
    | dct kvs =>
      obtain ⟨vks, hv, e, r⟩ := ro
      exact fin "dict" (by simp) (.base (.dK hv)) p
    | ins _ _ => exact p.elim
  | scr => exact p.elim
theorem md_isi {T x : _} {p1 p2 : Pos} (hK : X.K = c.K) (hT : okT T = true) (hg : Gl X "isinstance") (hm : X.mg "isinstance" = none) (hv : bootBuiltins "isinstance" = some (.builtin "isinstance")) (ha : PE X a (tE c ex f)) (hg2 : Gl X x) (hm2 : X.mg x = none) (hv2 : bootBuiltins x = some (.type T))
    (hn : x ≠ "__name__" := by decide) (hdb : (x == ("__debug__" : Str)) = false := by decide)
    (he : starEach [a, .Name x p2] X.env = (false, eval a X.env) :: starEach [.Name x p2] X.env := by rfl) (he2 : starEach [.Name x p2] X.env = (false, eval (.Name x p2) X.env) :: starEach [] X.env := by rfl) (hpl : (backTo pos (starEach [.Name x p2] X.env)).any (·.1) = false := by rfl) :
    PE X (.Call (.Name "isinstance" p1) [a, .Name x p2] [] pos) (tE c ex (una f (isi T))) :=
  PE_imp (pe_callB call_isi hg hm hv (pa_cons ha (pa_cons (pe_bltn (v := .ty T) hg2 hm2 hv2 rfl hn hdb) pa_nil he2) he) (by decide) (by decide) he hpl) fun σ H Q q => by
    obtain ⟨ρ, st, bs, rl, re, p⟩ := q
    refine ⟨ρ, st, bs, rl, re, p.bnd.imp fun d st1 bs1 H1 e1 rl1 p1 v rv => ?_⟩
    rw [hK]
    exact isi_ok hT rv rl1 p1

/-! ### items, slices -/
def ofO (o : Option D) : M D := match o with
  | some d => ret d
  | none => no
def opIx (ns : List Int) : D → D → M D
  | .tup xs, .int i => ofO (atI xs i)
  | .loc l, y => bnd (obj l) fun o => match o with
    | .lst xs => match y with
      | .int i => ofO (atI xs i)
      | _ => no
    | .dct kvs => ofO ((dkey y).bind (getK kvs))
    | .ins _ _ => no
  | .scr, .int i => ofO (atI (ns.map D.int) i)
  | .str z, .int i => if z.length ≤ sizeLine then ofO ((atI z.cps.toList i).map fun k => .str ⟨#[k]⟩) else no
  | _, _ => no
theorem post_ofO {o : Option D} {k : D → Sto → List Addr → Hp → Prop} (p : Post c ex (ofO o st) bs H k) (rl : Rel c bs H st) : ∃ d, o = some d ∧ k d st bs H := by
  cases o with
  | none => exact p.elim
  | some d => exact ⟨d, rfl, p.now rl⟩
/-- d[y] -/
def rIxD : R2 := fun x y H Q => ∃ a v, x = .ref a ∧ DGet H a y (some v) ∧ Q v H
theorem ix_dict (hu : X.A.units + 1 < cLine) : IxR X rIxD := by
  intro value slice pins s σ H x y v u Q I rx ry h hs
  obtain ⟨a, z, rfl, g, q⟩ := h
  obtain rfl : v = Value.ref a := rx
  have hT := dict_typeIs I g
  unfold subscriptTail
  refine wpAny_bind ?_
  rw [getitemInPython_of_ne hT.not_modules]
  refine wpAny_bind (wpAny_specialOf hT PySem.F.slot_dict_getitem.lookup ?_)
  have fin : wpAny (model X.prog X.w) X.A (subscripted slice false (.ref a) u) (fun r s₃ => wpAny (model X.prog X.w) X.A (letTemporaryGo value (.ref a) r >>= fun _ => pure r) (EP X pins σ Q) X.xe s₃) X.xe s := by
    rw [hs]
    exact wpAny_operating (wpAny_mono (d_getItem (Q := EP X pins σ Q) hu I g ry fun w' s3 I3 rw' => ⟨z, H, I3, rw', q⟩) (fun r s₃ h₃ => wpAny_bind (wpAny_letTemporaryGo (wpAny_pure h₃))) fun _ _ x => x)
  first
    | exact wpAny_pure (wpAny_bind fin)
    | exact wpAny_bind (wpAny_pure (wpAny_bind fin))
    | exact wpAny_bind fin
def rIxA (K : PySem.W.Frag) : R2 := fun x y H Q => rIx K x y H Q ∨ rIxD x y H Q
theorem dkey_v {y : V} {d : D} {k : Key} (r : RD c bs H y d) (e : dkey d = some k) : y = kV k := by
  cases r with
  | int i => cases e; rfl
  | str x => cases e; rfl
  | _ => cases e
theorem s2_ix : S2 c ex (opIx c.ns) (rIxA c.K) := by
  intro x y d e bs H st Q rx ry rl p
  cases rx with
  | @tup a vs xs s tl r =>
    cases ry with
    | int i =>
      obtain ⟨d, e, q⟩ := post_ofO p rl
      obtain ⟨v, h1, h2⟩ := r.atI e
      exact .inl (.inr (.inl ⟨_, _, _, _, rfl, rfl, s, h1, q _ h2⟩))
    | _ => exact p.elim
  | loc h =>
    obtain ⟨a, o, e, hb, hl, ro, p⟩ := post_obj p rl (RD.loc h)
    cases e
    cases o with
    | lst xs =>
      obtain ⟨vs, hv, r⟩ := ro
      cases ry with
      | int i =>
        obtain ⟨d, e, q⟩ := post_ofO p rl
        obtain ⟨v, h1, h2⟩ := r.atI e
        exact .inl (.inl ⟨_, _, _, _, rfl, rfl, SqL.of hv, h1, q _ h2⟩)
      | _ => exact p.elim
    | dct kvs =>
      obtain ⟨vks, hv, ek, r⟩ := ro
      obtain ⟨d, e, q⟩ := post_ofO p rl
      obtain ⟨k, e1, e2⟩ := Option.bind_eq_some_iff.mp e
      obtain ⟨v, h1, h2⟩ := rdk_get ek r e2
      refine .inr ⟨_, v, rfl, ?_, q _ h2⟩
      rw [← h1, dkey_v ry e1]
      exact DGet.k hv
    | ins _ _ => exact p.elim
  | scr =>
    cases ry with
    | int i =>
      obtain ⟨d, e, q⟩ := post_ofO p rl
      obtain ⟨v, h1, h2⟩ := (RDs.ints (c := c) (bs := bs) (H := H) c.ns).atI e
      exact .inl (.inl ⟨_, _, _, _, rfl, rfl, rl.scr.sq, h1, q _ h2⟩)
    | _ => exact p.elim
  | str z =>
    cases ry with
    | int i =>
      obtain ⟨h, p⟩ := Post.iff (m := ofO _) p
      obtain ⟨d, e, q⟩ := post_ofO p rl
      cases e1 : atI z.cps.toList i with
      | none => rw [e1] at e; cases e
      | some k =>
        rw [e1] at e
        cases e
        exact .inl (.inr (.inr ⟨_, _, _, rfl, rfl, h, e1, q _ (.str _)⟩))
    | _ => exact p.elim
  | _ => cases ry <;> exact p.elim
theorem md_ix (hK : X.K = c.K) (hu : X.A.units + 64 < cLine) (ha : PE X a (tE c ex fa)) (hb : PE X b (tE c ex fb)) (hs : PlainIx b := by intro _ _; rfl) : PE X (.Subscript a b pos) (tE c ex (bin fa fb (opIx c.ns))) :=
  PE_imp (pe_ix (ix_seq.or (ix_dict (by omega))) ha hb hs) fun _ _ _ q => tE_bin (by rw [hK]; exact s2_ix) q
/-- the ends of a slice -/
abbrev MO := En → M (Option Int)
def noP : MO := fun _ => ret none
def som (f : ME) : MO := fun ρ => bnd (f ρ) fun x => match x with
  | .int i => ret (some i)
  | _ => no
def tO (c : Ct) (ex : Wh) (f : MO) : TO := fun σ H Q => ∃ ρ st bs, Rel c bs H st ∧ RE c bs H ρ σ ∧ Post c ex (f ρ st) bs H fun o _ _ H' => Q o H'
theorem PO_imp {X : Cx} {e : Option Expr} {t t' : TO} (h : PO X e t) (i : ∀ σ H Q, t' σ H Q → t σ H Q) : PO X e t' := ⟨fun pins s σ H Q I q => h.run pins s σ H Q I (i σ H Q q)⟩
theorem mo_none : PO X none (tO c ex noP) := PO_imp po_none fun σ H Q q => by
  obtain ⟨ρ, st, bs, rl, re, p⟩ := q
  exact p.now rl
theorem mo_some (h : PE X e (tE c ex f)) : PO X (some e) (tO c ex (som f)) := PO_imp (po_some h) fun σ H Q q => by
  obtain ⟨ρ, st, bs, rl, re, p⟩ := q
  refine ⟨ρ, st, bs, rl, re, p.bnd.imp fun d st1 bs1 H1 e1 rl1 p1 v rv => ?_⟩
  cases rv with
  | int i => exact ⟨i, rfl, p1.now rl1⟩
  | _ => exact p1.elim
def cutD {α : Type} (xs : List α) (lo hi : Option Int) : List α := (xs.drop (HT.sIx xs.length 0 lo)).take (HT.sIx xs.length xs.length hi - HT.sIx xs.length 0 lo)
theorem RDs.cut {vs : List V} {xs : List D} (r : RDs c bs H vs xs) (lo hi : Option Int) : RDs c bs H (cutV vs lo hi) (cutD xs lo hi) := by
  unfold cutV cutD
  rw [r.length]
  exact (r.drop _).take _
def opSl (ns : List Int) : D → Option Int → Option Int → M D
  | .tup xs, lo, hi => ret (.tup (cutD xs lo hi))
  | .loc l, lo, hi => bnd (lst l) fun xs => alloc (cutD xs lo hi)
  | .scr, lo, hi => alloc (cutD (ns.map D.int) lo hi)
  | .str z, lo, hi => if z.length ≤ sizeLine then ret (.str (cutS z lo hi)) else no
  | _, _, _ => no
def sli (f : ME) (g h : MO) (op : D → Option Int → Option Int → M D) : ME := fun ρ => bnd (f ρ) fun x => bnd (g ρ) fun lo => bnd (h ρ) fun hi => op x lo hi
def rSlA (K : PySem.W.Frag) : V → Option Int → Option Int → Hp → VK → Prop := fun x lo hi H Q => rSlL K x lo hi H Q ∨ rSlF K x lo hi H Q ∨ rSlS x lo hi H Q
theorem s3_sl {x : V} {d : D} {lo hi : Option Int} {Q : VK} (rx : RD c bs H x d) (rl : Rel c bs H st) (p : Post c ex (opSl c.ns d lo hi st) bs H (fun z _ bs' H' => ∀ v, RD c bs' H' v z → Q v H')) : Pm.rSlA c.K x lo hi H Q := by
  cases rx with
  | @tup a1 vs xs s tl r =>
    refine .inr (.inl ⟨_, vs, rfl, s, fun hw => ?_, fun _ q us hq => ?_⟩)
    · have e : cutD xs lo hi = xs := by
        rw [r.length] at hw
        unfold cutD
        rw [hw.1, hw.2]
        simp
      have p : Post c ex (ret (D.tup (cutD xs lo hi)) st) bs H _ := p
      rw [e] at p
      exact p.now rl _ (.tup s tl r)
    obtain ⟨e, rl'⟩ := rl.fresh hq (frT us (cutV vs lo hi))
    exact p.at e rl' _ (.tup sqF dlF ((r.cut lo hi).ext e))
  | loc h =>
    obtain ⟨a, vs, xs, e, hb, hl, hv, r, p⟩ := post_lst (k := fun _ _ _ _ => True) p rl (RD.loc h)
    cases e
    refine .inl ⟨_, vs, rfl, SqL.of hv, fun q hq => ?_⟩
    obtain ⟨k, r⟩ := post_alloc p rl hq (r.cut lo hi)
    exact k _ r
  | scr =>
    refine .inl ⟨_, _, rfl, rl.scr.sq, fun q hq => ?_⟩
    obtain ⟨k, r⟩ := post_alloc p rl hq ((RDs.ints c.ns).cut lo hi)
    exact k _ r
  | str z =>
    obtain ⟨h, p⟩ := Post.iff (m := ret _) p
    exact .inr (.inr ⟨z, rfl, h, p.now rl _ (.str _)⟩)
  | _ => exact p.elim
theorem md_sl {lo hi : Option Expr} {g h : MO} {p2 : Pos} (hK : X.K = c.K) (ha : PE X a (tE c ex f)) (hl : PO X lo (tO c ex g)) (hh : PO X hi (tO c ex h)) : PE X (.Subscript a (.Slice lo hi none p2) pos) (tE c ex (sli f g h (opSl c.ns))) :=
  PE_imp (pe_slice (sl_list.or (sl_tupF.or sl_str)) ha hl hh) fun σ H Q q => by
    obtain ⟨ρ, st, bs, rl, re, p⟩ := q
    refine ⟨ρ, st, bs, rl, re, p.bnd.imp fun d st1 bs1 H1 e1 rl1 p1 v rv => ?_⟩
    refine ⟨ρ, st1, bs1, rl1, re.ext e1, p1.bnd.imp fun lo st2 bs2 H2 e2 rl2 p2 => ?_⟩
    refine ⟨ρ, st2, bs2, rl2, (re.ext e1).ext e2, p2.bnd.imp fun hi st3 bs3 H3 e3 rl3 p3 => ?_⟩
    rw [hK]
    exact s3_sl ((rv.ext e2).ext e3) rl3 p3

/-! ### list(range(..)) -/
def bRg1 : D → M D
  | .int n => if -(2 ^ 62) ≤ n ∧ n ≤ 2 ^ 24 then alloc ((List.range n.toNat).map fun i => .int (0 + (i : Nat))) else no
  | _ => no
theorem RDs.mapI (f : Nat → Int) : ∀ l : List Nat, RDs c bs H (l.map fun i => V.int (f i)) (l.map fun i => D.int (f i))
  | [] => .nil
  | _ :: l => .cons (.int _) (RDs.mapI f l)
theorem md_listRg {p p' : Pos} (hc : X.calm = true) (hg : Gl X "list") (hm : X.mg "list" = none) (hg' : Gl X "range") (hm' : X.mg "range" = none) (ha : PE X a (tE c ex f))
    (na : starEach [a] X.env = (false, eval a X.env) :: starEach [] X.env := by rfl) (na' : starEach [.Call (.Name "range" p') [a] [] pos] X.env = (false, eval (.Call (.Name "range" p') [a] [] pos) X.env) :: starEach [] X.env := by rfl) {pos2 : Pos} :
    PE X (.Call (.Name "list" p) [.Call (.Name "range" p') [a] [] pos] [] pos2) (tE c ex (una f bRg1)) :=
  PE_imp (pe_listRg hc hg hm (prg_1 hg' hm' ha na) na') fun σ H Q q => by
    obtain ⟨ρ, st, bs, rl, re, p⟩ := q
    refine ⟨ρ, st, bs, rl, re, p.bnd.imp fun d st1 bs1 H1 e1 rl1 p1 v rv => ?_⟩
    cases rv with
    | int n =>
      obtain ⟨⟨h1, h2⟩, p1⟩ := Post.iff (m := alloc _) p1
      refine ⟨n, rfl, ⟨by decide, by decide, h1, by omega, by omega⟩, fun q hq => ?_⟩
      have e : rgV 0 n = (List.range n.toNat).map fun i => V.int (0 + (i : Nat)) := by
        unfold rgV
        rw [Int.sub_zero]
      rw [e]
      obtain ⟨k, r⟩ := post_alloc p1 rl1 hq (RDs.mapI (fun i => 0 + (i : Nat)) _)
      exact k _ r
    | _ => exact p1.elim
end
end Pm
end
section
set_option Elab.async false
set_option linter.all false
set_option maxRecDepth 100000
namespace Pm
open PySem PySem.Spec PyProof.Rows L2

/-! ### patterns of targets -/
inductive Pat where
  | nm (i : Nat) | tp (ps : List Pat)
mutual
def gP (K : PySem.W.Frag) : Pat → TG
  | .nm i => gName i
  | .tp ps => gTup K ps.length (gPs K ps)
def gPs (K : PySem.W.Frag) : List Pat → TGs
  | [] => gNil
  | p :: ps => gCons (gP K p) (gPs K ps)
def slots : Pat → List Nat
  | .nm i => [i]
  | .tp ps => slotss ps
def slotss : List Pat → List Nat
  | [] => []
  | p :: ps => slots p ++ slotss ps
/-- what a pattern binds -/
def bindP : Pat → D → En → Option En
  | .nm i, d, ρ => some (ρ.set i (some d))
  | .tp ps, .tup xs, ρ => bindPs ps xs ρ
  | .tp _, _, _ => none
def bindPs : List Pat → List D → En → Option En
  | [], [], ρ => some ρ
  | p :: ps, x :: xs, ρ => (bindP p x ρ).bind fun ρ' => bindPs ps xs ρ'
  | _, _, _ => none
end
section
variable {X : Cx} {c : Ct} {ex : Wh} {bs : List Addr} {H : Hp} {st : Sto} {pos : Pos} {es : List Expr} {e : Expr}
theorem mg_name {i : Nat} {x : Str} (hN : X.N.Nodup) (hi : X.N[i]? = some x := by rfl) (hx : Loc X.env.scope x := by first | exact Or.inl rfl | exact Or.inr rfl) (hf : X.fn x = true ∨ X.env.scope.names.lookup x = some .local := by first | exact .inl rfl | exact .inr rfl) : PG X (.Name x pos) (gP c.K (.nm i)) := by
  unfold gP
  exact pg_name hN hi hx hf
theorem mg_nil : PGs X [] (gPs c.K []) := by
  unfold gPs
  exact pgs_nil
theorem mg_cons {p : Pat} {ps : List Pat} (h1 : PG X e (gP c.K p)) (h2 : PGs X es (gPs c.K ps)) (hs : (assignEach (e :: es) X.env).map (·.2) = assign e X.env :: (assignEach es X.env).map (·.2) := by rfl) : PGs X (e :: es) (gPs c.K (p :: ps)) := by
  unfold gPs
  exact pgs_cons h1 h2 hs
theorem mg_tup {k : Nat} {ps : List Pat} (hK : X.K = c.K) (hc : X.calm = true) (h : PGs X es (gPs c.K ps)) (hn : (assignEach es X.env).length = ps.length := by rfl) (hst : (assignEach es X.env).findIdx? (·.1) = none := by rfl) : PG X (.Tuple es k pos) (gP c.K (.tp ps)) := by
  unfold gP
  rw [← hK] at h ⊢
  exact pg_tup hc h hn hst
theorem wipe_out_set : ∀ {vs : List Nat} {i : Nat} {v : Option V} {σ : L2.St}, i ∉ vs → wipe (σ.set i v) vs = (wipe σ vs).set i v
  | [], _, _, _, _ => rfl
  | w :: vs, i, v, σ, h => by
    unfold wipe
    rw [wipe_out_set fun z => h (List.mem_cons_of_mem _ z), List.set_comm _ _ fun z => h (by rw [z]; exact List.mem_cons_self)]
theorem wipe_set : ∀ {vs : List Nat} {i : Nat} {v : Option V}, i ∈ vs → ∀ σ : L2.St, wipe (σ.set i v) vs = wipe σ vs
  | [], _, _, h, _ => by cases h
  | w :: vs, i, v, h, σ => by
    unfold wipe
    by_cases hw : i ∈ vs
    · rw [wipe_set hw]
    · have hi : i = w := by
        rcases List.mem_cons.mp h with q | q
        · exact q
        · exact absurd q hw
      subst hi
      rw [wipe_out_set hw, List.set_set]
mutual
theorem bindP_ok : ∀ (p : Pat) (d : D) (v : V) (ρ ρ' : En) (σ : L2.St) (Q : L2.St → Hp → Prop), RD c bs H v d → RE c bs H ρ σ → bindP p d ρ = some ρ' → (∀ σ', RE c bs H ρ' σ' → (∀ vs : List Nat, (∀ i ∈ slots p, i ∈ vs) → wipe σ' vs = wipe σ vs) → Q σ' H) → gP c.K p v σ H Q
  | .nm i, d, v, ρ, ρ', σ, Q, r, re, e, q => by
    unfold bindP at e
    cases e
    unfold gP gName
    refine q _ (re.set r i) fun vs hv => ?_
    exact wipe_set (hv i (by unfold slots; simp)) σ
  | .tp ps, .tup xs, v, ρ, ρ', σ, Q, r0, re, e, q => by
    cases r0 with
    | tup s tl r =>
    unfold bindP at e
    unfold gP gTup
    have hl : xs.length = ps.length := bindPs_len ps xs ρ ρ' e
    refine ⟨_, _, rfl, s, by rw [r.length, hl], bindPs_ok ps xs _ ρ ρ' σ Q r re e fun σ' a b => q σ' a fun vs hv => b vs fun i hi => hv i (by unfold slots; exact hi)⟩
  | .tp _, .non, _, _, _, _, _, _, _, e, _ => by unfold bindP at e; cases e
  | .tp _, .bl _, _, _, _, _, _, _, _, e, _ => by unfold bindP at e; cases e
  | .tp _, .int _, _, _, _, _, _, _, _, e, _ => by unfold bindP at e; cases e
  | .tp _, .str _, _, _, _, _, _, _, _, e, _ => by unfold bindP at e; cases e
  | .tp _, .loc _, _, _, _, _, _, _, _, e, _ => by unfold bindP at e; cases e
  | .tp _, .scr, _, _, _, _, _, _, _, e, _ => by unfold bindP at e; cases e
theorem bindPs_ok : ∀ (ps : List Pat) (xs : List D) (vs : List V) (ρ ρ' : En) (σ : L2.St) (Q : L2.St → Hp → Prop), RDs c bs H vs xs → RE c bs H ρ σ → bindPs ps xs ρ = some ρ' → (∀ σ', RE c bs H ρ' σ' → (∀ ws : List Nat, (∀ i ∈ slotss ps, i ∈ ws) → wipe σ' ws = wipe σ ws) → Q σ' H) → gPs c.K ps vs σ H Q
  | [], [], _, ρ, ρ', σ, Q, .nil, re, e, q => by
    unfold bindPs at e
    cases e
    unfold gPs gNil
    exact ⟨rfl, q σ re fun _ _ => rfl⟩
  | p :: ps, x :: xs, _, ρ, ρ', σ, Q, .cons r t, re, e, q => by
    unfold bindPs at e
    cases e1 : bindP p x ρ with
    | none => rw [e1] at e; cases e
    | some ρ1 =>
      rw [e1] at e
      have e : bindPs ps xs ρ1 = some ρ' := e
      unfold gPs gCons
      refine ⟨_, _, rfl, bindP_ok p x _ ρ ρ1 σ _ r re e1 fun σ1 re1 w1 => bindPs_ok ps xs _ ρ1 ρ' σ1 Q t re1 e fun σ2 re2 w2 => q σ2 re2 fun ws hw => ?_⟩
      rw [w2 ws fun i hi => hw i (by unfold slotss; exact List.mem_append_right _ hi), w1 ws fun i hi => hw i (by unfold slotss; exact List.mem_append_left _ hi)]
  | [], _ :: _, _, _, _, _, _, _, _, e, _ => by unfold bindPs at e; cases e
  | _ :: _, [], _, _, _, _, _, _, _, e, _ => by unfold bindPs at e; cases e
theorem bindPs_len : ∀ (ps : List Pat) (xs : List D) (ρ ρ' : En), bindPs ps xs ρ = some ρ' → xs.length = ps.length
  | [], [], _, _, _ => rfl
  | p :: ps, x :: xs, ρ, ρ', e => by
    unfold bindPs at e
    cases e1 : bindP p x ρ with
    | none => rw [e1] at e; cases e
    | some ρ1 =>
      rw [e1] at e
      simp [bindPs_len ps xs ρ1 ρ' e]
  | [], _ :: _, _, _, e => by unfold bindPs at e; cases e
  | _ :: _, [], _, _, e => by unfold bindPs at e; cases e
end
end

/-! ### statements -/
def nxS : MS := fun ρ => ret (.nx, ρ)
def bkS : MS := fun ρ => ret (.bk, ρ)
def ctS : MS := fun ρ => ret (.ct, ρ)
def seqS (f g : MS) : MS := fun ρ => bnd (f ρ) fun x => match x.1 with
  | .nx => g x.2
  | _ => ret x
def retS (f : ME) : MS := fun ρ => bnd (f ρ) fun d => ret (.rt d, ρ)
def retN : MS := fun ρ => ret (.rt .non, ρ)
def dropS (f : ME) : MS := fun ρ => bnd (f ρ) fun _ => ret (.nx, ρ)
def ifS (t : MT) (f g : MS) : MS := fun ρ => bnd (t ρ) fun k => if k = true then f ρ else g ρ
def ofE (o : Option En) : M En := match o with
  | some ρ => ret ρ
  | none => no
def setS (p : Pat) (f : ME) : MS := fun ρ => bnd (f ρ) fun d => bnd (ofE (bindP p d ρ)) fun ρ' => ret (.nx, ρ')
section
variable {X : Cx} {c : Ct} {ex : Wh} {bs : List Addr} {H : Hp} {st : Sto} {pos : Pos} {es : List Expr} {e : Expr} {f : ME} {s : Stmt} {ss : List Stmt} {m n : MS} {t : MT}
theorem tS_nx {E : Ends} {σ : L2.St} (q : tS c ex nxS E σ H) : E.nx σ H := by
  obtain ⟨ρ, st, bs, rl, re, p⟩ := q
  exact p.now rl σ re
theorem mss_nil : PSs X [] (tS c ex nxS) := PSs_imp pss_nil fun _ _ _ q => tS_nx q
theorem ms_pass : PS X (.Pass pos) (tS c ex nxS) := PS_imp ps_pass fun _ _ _ q => tS_nx q
theorem ms_doc {x j} {pos' : Pos} : PS X (.Expr (.Constant (.str x) j pos) pos') (tS c ex nxS) := PS_imp ps_doc fun _ _ _ q => tS_nx q
theorem ms_break : PS X (.Break pos) (tS c ex bkS) := PS_imp ps_break fun E σ H q => by
  obtain ⟨ρ, st, bs, rl, re, p⟩ := q
  exact p.now rl σ re
theorem ms_continue : PS X (.Continue pos) (tS c ex ctS) := PS_imp ps_continue fun E σ H q => by
  obtain ⟨ρ, st, bs, rl, re, p⟩ := q
  exact p.now rl σ re
theorem mss_one (h : PS X s (tS c ex m)) : PSs X [s] (tS c ex m) := pss_one h
theorem tS_seq {E : Ends} {σ : L2.St} (q : tS c ex (seqS m n) E σ H) : tSeq (tS c ex m) (tS c ex n) E σ H := by
  obtain ⟨ρ, st, bs, rl, re, p⟩ := q
  refine ⟨ρ, st, bs, rl, re, p.bnd.imp fun x st1 bs1 H1 e1 rl1 p1 σ1 re1 => ?_⟩
  obtain ⟨fl, ρ1⟩ := x
  cases fl with
  | nx => exact ⟨ρ1, st1, bs1, rl1, re1, p1⟩
  | bk => exact p1.now rl1 σ1 re1
  | ct => exact p1.now rl1 σ1 re1
  | rt d => exact p1.now rl1 σ1 re1
theorem mss_cons (h1 : PS X s (tS c ex m)) (h2 : PSs X ss (tS c ex n)) : PSs X (s :: ss) (tS c ex (seqS m n)) := PSs_imp (pss_cons h1 h2) fun _ _ _ q => tS_seq q
theorem ms_ret (h : PE X e (tE c ex f)) : PS X (.Return (some e) pos) (tS c ex (retS f)) := PS_imp (ps_ret h) fun E σ H q => by
  obtain ⟨ρ, st, bs, rl, re, p⟩ := q
  exact ⟨ρ, st, bs, rl, re, p.bnd.imp fun d st1 bs1 H1 e1 rl1 p1 v rv => p1.now rl1 σ (re.ext e1) v rv⟩
theorem ms_retN : PS X (.Return none pos) (tS c ex retN) := PS_imp ps_retN fun E σ H q => by
  obtain ⟨ρ, st, bs, rl, re, p⟩ := q
  exact p.now rl σ re .non .non
theorem ms_expr (h : PE X e (tE c ex f)) (hs : swapsWith e none pos.line X.env = pure false := by rfl) : PS X (.Expr e pos) (tS c ex (dropS f)) := PS_imp (ps_expr h hs) fun E σ H q => by
  obtain ⟨ρ, st, bs, rl, re, p⟩ := q
  exact ⟨ρ, st, bs, rl, re, p.bnd.imp fun d st1 bs1 H1 e1 rl1 p1 v rv => p1.now rl1 σ (re.ext e1)⟩
theorem ms_if {x : Expr} {a b : List Stmt} (ht : PT X x (tT c ex t)) (ha : PSs X a (tS c ex m)) (hb : PSs X b (tS c ex n)) : PS X (.If x a b pos) (tS c ex (ifS t m n)) := PS_imp (ps_if ht ha hb) fun E σ H q => by
  obtain ⟨ρ, st, bs, rl, re, p⟩ := q
  refine ⟨ρ, st, bs, rl, re, p.bnd.imp fun k st1 bs1 H1 e1 rl1 p1 => ?_⟩
  cases k with
  | true => exact iteT ⟨ρ, st1, bs1, rl1, re.ext e1, p1⟩
  | false => exact iteF ⟨ρ, st1, bs1, rl1, re.ext e1, p1⟩
theorem tS_set {p : Pat} {E : Ends} {σ : L2.St} (q : tS c ex (setS p f) E σ H) : tAsg (tE c ex f) (gP c.K p) E σ H := by
  obtain ⟨ρ, st, bs, rl, re, p1⟩ := q
  refine ⟨ρ, st, bs, rl, re, p1.bnd.imp fun d st1 bs1 H1 e1 rl1 p2 v rv => ?_⟩
  cases e2 : bindP p d ρ with
  | none => rw [e2] at p2; exact p2.bnd.elim
  | some ρ' =>
    rw [e2] at p2
    exact bindP_ok p d v ρ ρ' σ _ rv (re.ext e1) e2 fun σ' re' _ => Post.now (Post.now p2.bnd rl1) rl1 σ' re'
theorem ms_set {i : Nat} {x : Str} {pos' : Pos} (hN : X.N.Nodup) (h : PE X e (tE c ex f)) (hi : X.N[i]? = some x := by rfl) (hx : Loc X.env.scope x := by first | exact Or.inl rfl | exact Or.inr rfl) (hs : swapsWith e (some (.Name x pos')) pos.line X.env = pure false := by rfl)
    (hf : X.fn x = true ∨ X.env.scope.names.lookup x = some .local := by first | exact .inl rfl | exact .inr rfl) : PS X (.Assign [.Name x pos'] e pos) (tS c ex (setS (.nm i) f)) :=
  PS_imp (ps_set hN hi hx h hs hf) fun E σ H q => by
    have q := tS_set q
    unfold gP at q
    exact q
theorem ms_asg {p : Pat} {tg : Expr} (h : PE X e (tE c ex f)) (hg : PG X tg (gP c.K p)) (hs : swapsWithSole [tg] e pos.line X.env = pure false := by rfl) (hw : swappedStores [tg] e X.env = pure none := by rfl) (h1 : (assignEach [tg] X.env).map (·.2) = [assign tg X.env] := by rfl) :
    PS X (.Assign [tg] e pos) (tS c ex (setS p f)) := PS_imp (ps_asg h hg hs hw h1) fun E σ H q => tS_set q
/-- a, b = x, y -/
def parS (i j : Nat) (g : MA) : MS := fun ρ => bnd (g ρ) fun ds => match ds with
  | [d, e] => ret (.nx, (ρ.set i (some d)).set j (some e))
  | _ => no
theorem ms_par {i j : Nat} {x y : Str} {a b : Expr} {g : MA} {px py pt : Pos} {kt k2 pt2} (hc : X.calm = true) (hN : X.N.Nodup) (hij : i ≠ j) (ha : PA X [a, b] (tA c ex g)) (hi : X.N[i]? = some x := by rfl) (hj : X.N[j]? = some y := by rfl)
    (hx : X.env.scope.names.lookup x = some .local := by rfl) (hy : X.env.scope.names.lookup y = some .local := by rfl) (hw : swappedStores [.Tuple [.Name x px, .Name y py] kt pt] (.Tuple [a, b] k2 pt2) X.env = pure (some [x, y]) := by rfl) (hs : swapsWithSole [.Tuple [.Name x px, .Name y py] kt pt] (.Tuple [a, b] k2 pt2) pos.line X.env = pure false := by rfl) :
    PS X (.Assign [.Tuple [.Name x px, .Name y py] kt pt] (.Tuple [a, b] k2 pt2) pos) (tS c ex (parS i j g)) := PS_imp (ps_par hc hN hi hj hij hx hy ha hw hs) fun E σ H q => by
  obtain ⟨ρ, st, bs, rl, re, p⟩ := q
  refine ⟨ρ, st, bs, rl, re, p.bnd.imp fun ds st1 bs1 H1 e1 rl1 p1 vs rvs => ?_⟩
  match ds, rvs, p1 with
  | [d, e], .cons r1 (.cons r2 .nil), p1 => exact ⟨_, _, rfl, p1.now rl1 _ (((re.ext e1).set r1 i).set r2 j)⟩
/-- xs[i] = v -/
def setI : D → D → D → M Unit
  | .loc l, y, d => bnd (obj l) fun o => match o with
    | .lst xs => match y with
      | .int i => match ixN xs.length i with
        | some j => put l (xs.set j d)
        | none => no
      | _ => no
    | .dct kvs => match dkey y with
      | some k => if kvs.length < sizeLine then putO l (.dct (setK kvs k d)) else no
      | none => no
    | .ins _ _ => no
  | _, _, _ => no
/-- d[y] = v -/
def rSetD : V → V → V → Hp → (Hp → Prop) → Prop := fun o i v H Q => ∃ a H', o = .ref a ∧ DPut H a i v H' ∧ Q H'
theorem set_dict {X : Cx} (hu : X.A.units + 1 < cLine) : PSet X rSetD := by
  intro pins s σ H o i v ov iv u Q I ro ri rv h
  obtain ⟨a, H', rfl, g, q⟩ := h
  obtain rfl : ov = Value.ref a := ro
  exact d_setItem hu I g ri rv fun s' I' => ⟨H', I', q⟩
def rSetA : V → V → V → Hp → (Hp → Prop) → Prop := fun o i v H Q => rSetL o i v H Q ∨ rSetD o i v H Q
theorem set_any {X : Cx} (hu : X.A.units + 1 < cLine) : PSet X rSetA := by
  intro pins s σ H o i v ov iv u Q I ro ri rv h
  rcases h with h | h
  · exact set_list pins s σ H o i v ov iv u Q I ro ri rv h
  · exact set_dict hu pins s σ H o i v ov iv u Q I ro ri rv h
def subS (fv fo fi : ME) : MS := fun ρ => bnd (fv ρ) fun v => bnd (fo ρ) fun o => bnd (fi ρ) fun i => bnd (setI o i v) fun _ => ret (.nx, ρ)
theorem ms_sub {o i : Expr} {fv fo fi : ME} {p2 : Pos} (hu : X.A.units + 64 < cLine) (hv : PE X e (tE c ex fv)) (ho : PE X o (tE c ex fo)) (hi : PE X i (tE c ex fi)) (ha : ∀ v, assign (.Subscript o i p2) X.env v = (do { let ov ← holding [v] (eval o X.env); let iv ← holding [v, ov] (eval i X.env); standAt p2; holding [v, ov, iv] (setItem ov iv v); release [v, ov, iv] [] }) := by intro _; rfl) (hs : swapsWithSole [.Subscript o i p2] e pos.line X.env = pure false := by rfl) (hw : swappedStores [.Subscript o i p2] e X.env = pure none := by rfl)
    (h1 : (assignEach [.Subscript o i p2] X.env).map (·.2) = [assign (.Subscript o i p2) X.env] := by rfl) : PS X (.Assign [.Subscript o i p2] e pos) (tS c ex (subS fv fo fi)) :=
  PS_imp (ps_asg hv (pg_sub ho hi (set_any (by omega)) ha) hs hw h1) fun E σ H q => by
    obtain ⟨ρ, st, bs, rl, re, p⟩ := q
    refine ⟨ρ, st, bs, rl, re, p.bnd.imp fun d st1 bs1 H1 e1 rl1 p1 v rv => ?_⟩
    refine ⟨ρ, st1, bs1, rl1, re.ext e1, p1.bnd.imp fun o st2 bs2 H2 e2 rl2 p2 vo rvo => ?_⟩
    refine ⟨ρ, st2, bs2, rl2, (re.ext e1).ext e2, p2.bnd.imp fun i st3 bs3 H3 e3 rl3 p3 vi rvi => ?_⟩
    have rvo := rvo.ext e3
    have rv := (rv.ext e2).ext e3
    cases rvo with
    | loc h =>
      obtain ⟨a, ob, ee, hb, hl, ro, p4⟩ := post_obj p3.bnd rl3 (RD.loc h)
      cases ee
      cases ob with
      | lst xs =>
        obtain ⟨vs, hv, r⟩ := ro
        cases rvi with
        | int k =>
          cases e5 : ixN xs.length k with
          | none => simp only [e5] at p4; exact p4.elim
          | some j =>
            simp only [e5] at p4
            obtain ⟨e6, rl6⟩ := rl3.put hb hl (r.set rv j)
            have p7 := Post.at (st := st3.set _ _) p4 e6 rl6
            exact .inl ⟨_, _, _, _, rfl, rfl, hv, by rw [r.length]; exact e5, Post.now p7 rl6 σ ((((re.ext e1).ext e2).ext e3).ext e6)⟩
        | _ => exact p4.elim
      | dct kvs =>
        obtain ⟨vks, hv, ek, r⟩ := ro
        cases e5 : dkey i with
        | none => simp only [e5] at p4; exact p4.elim
        | some k =>
          simp only [e5] at p4
          obtain ⟨hz, p5⟩ := Post.iff (m := putO _ _) p4
          obtain ⟨i1, i2⟩ := rdk_put (k := k) ek r rv
          obtain ⟨e6, rl6⟩ := rl3.chg (o := .dK (putK vks k v)) (u0 := .dct (setK kvs k d)) hb fun m => ⟨_, upd_same, i1, i2.mono m⟩
          have p7 := Post.at (st := st3.set _ _) p5 e6 rl6
          have el : vks.length = kvs.length := by
            have := congrArg List.length ek
            simpa using this
          rw [dkey_v rvi e5]
          exact .inr ⟨_, _, rfl, DPut.k hv (by rw [el]; exact hz), Post.now p7 rl6 σ ((((re.ext e1).ext e2).ext e3).ext e6)⟩
      | ins _ _ => exact p4.elim
    | _ => exact p3.bnd.elim
end

/-! ### methods of lists -/
def SM (c : Ct) (ex : Wh) (T : String) (g : D → List D → M D) (r : V → List V → Hp → VK → Prop) : Prop := ∀ x d bs H st, RD c bs H x d → Rel c bs H st → (∀ ds k, Post c ex (g d ds st) bs H k → True) → True
def mAppend : D → List D → M D
  | .loc l, [d] => bnd (lst l) fun xs => if xs.length < sizeLine then bnd (put l (xs ++ [d])) fun _ => ret .non else no
  | _, _ => no
def mPop : D → List D → M D
  | .loc l, [] => bnd (lst l) fun xs => match xs[xs.length - 1]? with
    | some d => bnd (put l xs.dropLast) fun _ => ret d
    | none => no
  | _, _ => no
def mExtend : D → List D → M D
  | .loc l, [.loc m] => bnd (lst l) fun xs => bnd (lst m) fun ys => if xs.length + ys.length ≤ sizeLine then bnd (put l (xs ++ ys)) fun _ => ret .non else no
  | _, _ => no
def isL : D → M Unit
  | .loc l => bnd (lst l) fun _ => ret ()
  | _ => no
def meth (fo : ME) (g : MA) (op : D → List D → M D) : ME := fun ρ => bnd (fo ρ) fun o => bnd (isL o) fun _ => bnd (g ρ) fun ds => op o ds
def meth0 (fo : ME) (op : D → List D → M D) : ME := fun ρ => bnd (fo ρ) fun o => bnd (isL o) fun _ => op o []
section
variable {X : Cx} {c : Ct} {ex : Wh} {bs : List Addr} {H : Hp} {st : Sto} {pos apos : Pos} {o e : Expr} {es : List Expr} {fo : ME} {g : MA}
theorem post_isL {α : Type} {d : D} {f : Unit → M α} {k : α → Sto → List Addr → Hp → Prop} (q : Post c ex (bnd (isL d) f st) bs H k) (rl : Rel c bs H st) {v : V} (r : RD c bs H v d) : (∃ a xs l, v = .ref a ∧ SqL c.K H a xs ∧ d = .loc l) ∧ Post c ex (f () st) bs H k := by
  cases r with
  | @loc a l h =>
    have q1 : Post c ex (bnd (bnd (lst l) fun _ => ret ()) f st) bs H k := q
    unfold bnd lst at q1
    cases e : st[l]? with
    | none => rw [e] at q1; exact q1.elim
    | some o =>
      cases o with
      | lst xs =>
        rw [e] at q1
        obtain ⟨vs, h1, h2⟩ := rl.obj l a _ h e
        exact ⟨⟨a, vs, _, rfl, SqL.of h1, rfl⟩, q1⟩
      | dct _ => rw [e] at q1; exact q1.elim
      | ins _ _ => rw [e] at q1; exact q1.elim
  | _ => exact q.elim
theorem md_append (hK : X.K = c.K) (ho : PE X o (tE c ex fo)) (ha : PA X [e] (tA c ex g)) (hbase : attributeBase o "append" X.env (eval o X.env) = eval o X.env := by rfl)
    (hfew : ((backTo pos (starEach [e] X.env)).all (fun x => !x.1) && (backToKw pos (keywordEach [] X.env)).all (fun x => x.1.isSome) && decide ([e].length + ([] : List Keyword).length + (if ([] : List Keyword).isEmpty then 0 else 1) < 30)) = true := by rfl)
    (hline : (apos.endLine == pos.line) = true := by rfl) (hs : starEach [e] X.env = (false, eval e X.env) :: starEach [] X.env := by rfl) (hplain : (backTo pos (starEach [] X.env)).any (·.1) = false := by rfl) :
    PE X (.Call (.Attribute o "append" apos) [e] [] pos) (tE c ex (meth fo g mAppend)) :=
  PE_imp (pe_bm PySem.F.plainAttrs_list PySem.F.slot_list_append PySem.F.type_list_append mt_append ho ha hbase hfew hline hs hplain) fun σ H Q q => by
    obtain ⟨ρ, st, bs, rl, re, p⟩ := q
    refine ⟨ρ, st, bs, rl, re, p.bnd.imp fun d st1 bs1 H1 e1 rl1 p1 v rv => ?_⟩
    obtain ⟨⟨a, xs, l, rfl, sl, rfl⟩, p1⟩ := post_isL p1 rl1 rv
    refine ⟨.inl ⟨rfl, xs, by rw [hK]; exact sl⟩, ρ, st1, bs1, rl1, re.ext e1, p1.bnd.imp fun ds st2 bs2 H2 e2 rl2 p2 vs rvs => ?_⟩
    have rv := rv.ext e2
    cases rv with
    | loc h =>
      match ds, rvs, p2 with
      | [d], .cons r .nil, p2 =>
        obtain ⟨a, ws, ys, ee, hb, hl, hv, r5, p4⟩ := post_lst (k := fun _ _ _ _ => True) p2 rl2 (RD.loc h)
        cases ee
        obtain ⟨hz, p5⟩ := Post.iff (m := bnd _ _) p4
        obtain ⟨rl6, e6, p6⟩ := post_put (k := fun _ _ _ _ => True) p5 rl2 hb hl (r5.append (.cons r .nil))
        exact ⟨_, _, _, rfl, rfl, hv, by rw [r5.length]; exact hz, p6.now rl6 _ .non⟩
theorem md_extend (hK : X.K = c.K) (ho : PE X o (tE c ex fo)) (ha : PA X [e] (tA c ex g)) (hbase : attributeBase o "extend" X.env (eval o X.env) = eval o X.env := by rfl)
    (hfew : ((backTo pos (starEach [e] X.env)).all (fun x => !x.1) && (backToKw pos (keywordEach [] X.env)).all (fun x => x.1.isSome) && decide ([e].length + ([] : List Keyword).length + (if ([] : List Keyword).isEmpty then 0 else 1) < 30)) = true := by rfl)
    (hline : (apos.endLine == pos.line) = true := by rfl) (hs : starEach [e] X.env = (false, eval e X.env) :: starEach [] X.env := by rfl) (hplain : (backTo pos (starEach [] X.env)).any (·.1) = false := by rfl) :
    PE X (.Call (.Attribute o "extend" apos) [e] [] pos) (tE c ex (meth fo g mExtend)) :=
  PE_imp (pe_bm PySem.F.plainAttrs_list PySem.F.slot_list_extend PySem.F.type_list_extend mt_extend ho ha hbase hfew hline hs hplain) fun σ H Q q => by
    obtain ⟨ρ, st, bs, rl, re, p⟩ := q
    refine ⟨ρ, st, bs, rl, re, p.bnd.imp fun d st1 bs1 H1 e1 rl1 p1 v rv => ?_⟩
    obtain ⟨⟨a, xs, l, rfl, sl, rfl⟩, p1⟩ := post_isL p1 rl1 rv
    refine ⟨.inl ⟨rfl, xs, by rw [hK]; exact sl⟩, ρ, st1, bs1, rl1, re.ext e1, p1.bnd.imp fun ds st2 bs2 H2 e2 rl2 p2 vs rvs => ?_⟩
    have rv := rv.ext e2
    cases rv with
    | loc h =>
      match ds, rvs, p2 with
      | [.loc m], .cons (.loc h') .nil, p2 =>
        obtain ⟨a, ws, ys, ee, hb, hl, hv, r5, p4⟩ := post_lst (k := fun _ _ _ _ => True) p2 rl2 (RD.loc h)
        cases ee
        obtain ⟨a', ws', ys', ee', hb', hl', hv', r5', p4⟩ := post_lst (k := fun _ _ _ _ => True) p4 rl2 (RD.loc h')
        cases ee'
        obtain ⟨hz, p5⟩ := Post.iff (m := bnd _ _) p4
        obtain ⟨rl6, e6, p6⟩ := post_put (k := fun _ _ _ _ => True) p5 rl2 hb hl (r5.append r5')
        exact ⟨_, _, _, _, rfl, rfl, hv, hv', by rw [r5.length, r5'.length]; exact hz, p6.now rl6 _ .non⟩
theorem md_pop (hK : X.K = c.K) (ho : PE X o (tE c ex fo)) (hbase : attributeBase o "pop" X.env (eval o X.env) = eval o X.env := by rfl) (hline : (apos.endLine == pos.line) = true := by rfl) :
    PE X (.Call (.Attribute o "pop" apos) [] [] pos) (tE c ex (meth0 fo mPop)) :=
  PE_imp (pe_bm0 PySem.F.plainAttrs_list PySem.F.slot_list_pop PySem.F.type_list_pop mt_pop ho hbase hline) fun σ H Q q => by
    obtain ⟨ρ, st, bs, rl, re, p⟩ := q
    refine ⟨ρ, st, bs, rl, re, p.bnd.imp fun d st1 bs1 H1 e1 rl1 p1 v rv => ?_⟩
    obtain ⟨⟨a, xs, l, rfl, sl, rfl⟩, p1⟩ := post_isL p1 rl1 rv
    refine ⟨.inl ⟨rfl, xs, by rw [hK]; exact sl⟩, ?_⟩
    cases rv with
    | loc h =>
      obtain ⟨a, ws, ys, ee, hb, hl, hv, r5, p4⟩ := post_lst (k := fun _ _ _ _ => True) p1 rl1 (RD.loc h)
      cases ee
      cases e5 : ys[ys.length - 1]? with
      | none => simp only [e5] at p4; exact p4.elim
      | some d =>
        simp only [e5] at p4
        obtain ⟨y, hy, ry⟩ := r5.get e5
        have r6 : RDs c bs1 H1 ws.dropLast ys.dropLast := by
          rw [List.dropLast_eq_take, List.dropLast_eq_take, r5.length]
          exact r5.take _
        obtain ⟨rl6, e6, p6⟩ := post_put (k := fun _ _ _ _ => True) p4 rl1 hb hl r6
        exact ⟨_, _, _, rfl, rfl, hv, by rw [r5.length]; exact hy, p6.now rl6 _ (ry.ext e6)⟩
end
end Pm
end
section
set_option Elab.async false
set_option linter.all false
set_option maxRecDepth 100000
namespace Pm
open PySem PySem.Spec PyProof.Rows L2

/-! ### what is walked -/
structure Itm where
  xs : List D
  ok : Sto → Bool
abbrev MI := En → M Itm
/-- J walks it, from here on -/
def Wk (c : Ct) (it : Itm) (bs0 : List Addr) (H0 : Hp) (J : It) : Prop :=
  Walk J it.xs.length (fun H => ∃ st bs, Ext bs0 H0 bs H ∧ Rel c bs H st ∧ it.ok st = true)
    (fun i H v H' => ∀ st bs, Ext bs0 H0 bs H → Rel c bs H st → it.ok st = true → Ext bs H bs H' ∧ Rel c bs H' st ∧ ∃ d, it.xs[i]? = some d ∧ RD c bs H' v d)
/-! ### an object that nothing tells of, hidden -/
def hid (H : Hp) (a : Addr) : Hp := fun b => if b = a then none else H b
section
variable {c : Ct} {ex : Wh} {α : Type} {bs bs' : List Addr} {H H' : Hp} {st : Sto} {q : Addr} {vs : List V}
theorem hid_same : hid H q q = none := if_pos rfl
theorem hid_ne {b : Addr} (h : b ≠ q) : hid H q b = H b := if_neg h
theorem hid_none (h : H q = none) : hid H q = H := by
  funext b
  by_cases e : b = q
  · rw [e, hid_same, h]
  · rw [hid_ne e]
theorem hid_pre (h : H q = some (.lst vs)) : Pre c bs H bs (hid H q) := by
  refine ⟨fun _ _ h => h, fun a ws s => ?_, fun a s => ?_⟩
  · rcases s with (s | ⟨o, s⟩) | s
    · exact .inl (.inl (by rw [hid_ne (ne_of s h (by intro z; cases z))]; exact s))
    · exact .inl (.inr ⟨o, by rw [hid_ne (ne_of s h (by intro z; cases z))]; exact s⟩)
    · exact .inr s
  · rcases s with ⟨o, u, h1, h2⟩ | s
    · exact .inl ⟨o, u, by rw [hid_ne (ne_of h1 h (by intro z; cases z))]; exact h1, h2⟩
    · exact .inr s
end
/-- .. also where a list that nothing tells of is hidden -/
def Wks (c : Ct) (it : Itm) (bs0 : List Addr) (H0 : Hp) (J : It) : Prop := Wk c it bs0 H0 J ∧ ∀ q vs, H0 q = some (.lst vs) → q ∉ bs0 → Wk c it bs0 (hid H0 q) J
def tI (c : Ct) (ex : Wh) (f : MI) : TI := fun σ H R => ∃ ρ st bs, Rel c bs H st ∧ RE c bs H ρ σ ∧ Post c ex (f ρ st) bs H fun it _ bs' H' => ∀ J, Wks c it bs' H' J → R J H'
theorem PI_imp {X : Cx} {tg e : Expr} {t t' : TI} (h : PI X tg e t) (i : ∀ σ H R, t' σ H R → t σ H R) : PI X tg e t' := ⟨fun pins s σ H R I q => h.run pins s σ H R I (i σ H R q)⟩

/-! ### for -/
def forL (ok : Sto → Bool) (p : Pat) (body : MS) : List D → MS
  | [], ρ => fun st => if ok st = true then .ok (.nx, ρ) st else .stuck
  | x :: r, ρ => fun st => if ok st = true then
      (bnd (ofE (bindP p x ρ)) fun ρ1 => bnd (body ρ1) fun y => match y.1 with
        | .nx => forL ok p body r y.2
        | .ct => forL ok p body r y.2
        | .bk => ret (.nx, y.2)
        | .rt d => ret (.rt d, y.2)) st
    else .stuck
def forS (it : MI) (p : Pat) (body : MS) : MS := fun ρ => bnd (it ρ) fun I => forL I.ok p body I.xs ρ
section
variable {X : Cx} {c : Ct} {ex : Wh} {pos : Pos} {iter tg : Expr} {bd : List Stmt} {it : MI} {p : Pat} {body : MS}
theorem ms_for (hp : PassesOwn (model X.prog X.w) X.A X.env X.xe) (hc : X.calm = true) (hi : PI X tg iter (tI c ex it)) (hg : PG X tg (gP c.K p)) (hb : PSs X bd (tS c ex body)) (hs : ∀ x, foldedSetIterable iter X.env x = pure x := by intro _; rfl) :
    PS X (.For tg iter bd [] pos) (tS c ex (forS it p body)) := PS_imp (ps_for hp hc hi hg hb hs) fun E σ H q => by
  obtain ⟨ρ, st, bs, rl, re, q⟩ := q
  refine ⟨ρ, st, bs, rl, re, q.bnd.imp fun I st1 bs1 H1 e1 rl1 q1 J wk => ?_⟩
  refine for_it wk.1 (fun i σ H => ∃ ρ st bs, Ext bs1 H1 bs H ∧ Rel c bs H st ∧ RE c bs H ρ σ ∧ Post c ex (forL I.ok p body (I.xs.drop i) ρ st) bs H fun x _ bs' H' => ∀ σ', RE c bs' H' x.2 σ' → Fin c E bs' H' σ' x.1)
    ⟨ρ, st1, bs1, Ext.refl, rl1, re.ext e1, q1⟩ (fun i σ H hi ⟨ρ, st, bs, e, rl, re, q⟩ => ⟨st, bs, e, rl, ?_⟩) (fun i v σ H H' hi ⟨ρ, st, bs, e, rl, re, q⟩ y => ?_) (fun σ H ⟨ρ, st, bs, e, rl, re, q⟩ => ?_)
  · cases e5 : I.xs.drop i with
    | nil =>
      rw [e5] at q
      unfold forL at q
      by_cases h : I.ok st = true
      · exact h
      · rw [if_neg h] at q; exact q.elim
    | cons x r =>
      rw [e5] at q
      unfold forL at q
      by_cases h : I.ok st = true
      · exact h
      · rw [if_neg h] at q; exact q.elim
  · have e5 : I.xs.drop i = I.xs[i] :: I.xs.drop (i + 1) := List.drop_eq_getElem_cons hi
    rw [e5] at q
    unfold forL at q
    by_cases h : I.ok st = true
    · rw [if_pos h] at q
      obtain ⟨e6, rl6, d, hd, rd6⟩ := y st bs e rl h
      rw [List.getElem?_eq_getElem hi] at hd
      cases hd
      cases e8 : bindP p I.xs[i] ρ with
      | none => rw [e8] at q; exact q.bnd.elim
      | some ρ1 =>
        rw [e8] at q
        have q2 : Post c ex (bnd (body ρ1) (fun y => match y.1 with
          | .nx => forL I.ok p body (I.xs.drop (i + 1)) y.2
          | .ct => forL I.ok p body (I.xs.drop (i + 1)) y.2
          | .bk => ret (.nx, y.2)
          | .rt d => ret (.rt d, y.2)) st) bs H fun x _ bs' H' => ∀ σ', RE c bs' H' x.2 σ' → Fin c E bs' H' σ' x.1 := q
        refine bindP_ok p _ v ρ ρ1 σ _ rd6 (re.ext e6) e8 fun σ2 re2 _ => ?_
        refine ⟨ρ1, st, bs, rl6, re2, (q2.bnd.far e6).imp fun y st7 bs7 H7 e9 rl7 q7 σ7 re7 => ?_⟩
        obtain ⟨fl, ρ7⟩ := y
        cases fl with
        | nx => exact ⟨ρ7, st7, bs7, (e.trans e6).trans e9, rl7, re7, q7⟩
        | ct => exact ⟨ρ7, st7, bs7, (e.trans e6).trans e9, rl7, re7, q7⟩
        | bk => exact q7.now rl7 σ7 re7
        | rt d => exact q7.now rl7 σ7 re7
    · rw [if_neg h] at q; exact q.elim
  · rw [List.drop_length] at q
    unfold forL at q
    by_cases h : I.ok st = true
    · rw [if_pos h] at q
      exact Post.of q rl σ re
    · rw [if_neg h] at q; exact q.elim
end

/-! ### what is walked: tuples, lists, ranges -/
section
variable {X : Cx} {c : Ct} {ex : Wh} {pos : Pos} {tg e a b : Expr} {f g : ME} {bs : List Addr} {H : Hp} {st : Sto}
def seqI : D → M Itm
  | .tup xs => ret ⟨xs, fun _ => true⟩
  | .loc l => bnd (lst l) fun xs => ret ⟨xs, fun st => decide (st[l]? = some (.lst xs))⟩
  | _ => no
def iter (f : ME) : MI := fun ρ => bnd (f ρ) seqI
theorem wk_tup {a : Addr} {vs : List V} {xs : List D} (s : SqT c.K H a vs) (r : RDs c bs H vs xs) : Wk c ⟨xs, fun _ => true⟩ bs H (Itt c.K a) := by
  refine ⟨fun i H' hi ⟨st, bs', e, _, _⟩ => ?_, fun H' ⟨st, bs', e, _, _⟩ => ?_, fun i H' v H2 hi ⟨st0, bs0, e0, _, _⟩ y st bs' e rl _ => ?_⟩
  · have hi : i < vs.length := by rw [r.length]; exact hi
    exact ⟨vs, vs[i], e.sqT s, List.getElem?_eq_getElem hi⟩
  · exact ⟨vs, e.sqT s, by rw [r.length]; exact Nat.le_refl _⟩
  · obtain ⟨rfl, y⟩ := y
    obtain ⟨d, hd, rd⟩ := r.getV (y vs (e.sqT s))
    exact ⟨Ext.refl, rl, d, hd, rd.ext e⟩
theorem wk_loc {a : Addr} {l : Nat} {xs : List D} (hb : bs[l]? = some a) : Wk c ⟨xs, fun st => decide (st[l]? = some (.lst xs))⟩ bs H (Itl c.K a) := by
  have at_ : ∀ {H' : Hp} {bs' : List Addr} {st : Sto}, Ext bs H bs' H' → Rel c bs' H' st → decide (st[l]? = some (O.lst xs)) = true → ∃ vs, SqL c.K H' a vs ∧ RDs c bs' H' vs xs := fun {H' bs' st} e rl h => by
    obtain ⟨vs, hv, r⟩ := rl.obj l a _ (e.get hb) (of_decide_eq_true h)
    exact ⟨vs, SqL.of hv, r⟩
  refine ⟨fun i H' hi ⟨st, bs', e, rl, h⟩ => ?_, fun H' ⟨st, bs', e, rl, h⟩ => ?_, fun i H' v H2 hi ⟨st0, bs0, e0, _, _⟩ y st bs' e rl h => ?_⟩
  · obtain ⟨vs, s, r⟩ := at_ e rl h
    have hi : i < vs.length := by rw [r.length]; exact hi
    exact ⟨vs, vs[i], s, List.getElem?_eq_getElem hi⟩
  · obtain ⟨vs, s, r⟩ := at_ e rl h
    exact ⟨vs, s, by rw [r.length]; exact Nat.le_refl _⟩
  · obtain ⟨rfl, y⟩ := y
    obtain ⟨vs, s, r⟩ := at_ e rl h
    obtain ⟨d, hd, rd⟩ := r.getV (y vs s)
    exact ⟨Ext.refl, rl, d, hd, rd⟩
theorem wks_tup {a : Addr} {vs : List V} {xs : List D} (s : SqT c.K H a vs) (r : RDs c bs H vs xs) : Wks c ⟨xs, fun _ => true⟩ bs H (Itt c.K a) := ⟨wk_tup s r, fun _ _ h _ => wk_tup ((hid_pre (c := c) (bs := bs) h).sqT _ _ s) (r.mono (hid_pre h))⟩
theorem wks_loc {a : Addr} {l : Nat} {xs : List D} (hb : bs[l]? = some a) : Wks c ⟨xs, fun st => decide (st[l]? = some (.lst xs))⟩ bs H (Itl c.K a) := ⟨wk_loc hb, fun _ _ _ _ => wk_loc hb⟩
/-- a tuple, a list, a text -/
def rSeqI (K : PySem.W.Frag) (te : TE) : TI := fun σ H R => te σ H fun x H1 => (∃ a, x = .ref a ∧ (∃ xs, SqL K H1 a xs) ∧ R (Itl K a) H1) ∨ (∃ a, x = .ref a ∧ (∃ xs, SqT K H1 a xs) ∧ R (Itt K a) H1) ∨ ∃ z, x = .str z ∧ R (Its z) H1
theorem pi_seq {te : TE} (he : PE X e te) : PI X tg e (rSeqI X.K te) := by
  refine ⟨fun pins s σ H R I q => ?_⟩
  refine thn (he.run pins s σ H _ I q) fun u s1 ⟨x, H1, I1, r1, q1⟩ => ?_
  rcases q1 with ⟨a, rfl, ⟨xs, hs⟩, hr⟩ | ⟨a, rfl, ⟨xs, hs⟩, hr⟩ | ⟨z, rfl, hr⟩
  · cases r1
    obtain ⟨its, rv, p, hz⟩ := I1.list hs
    exact wpAny_pyIter_list p.isList (pi_one (tk := s1.toks) I1 _ (turn_list a _) ⟨_, Heap.get?_push_size _ rfl, rfl, rfl⟩ hr)
  · cases r1
    obtain ⟨its, rv, p, hz⟩ := I1.tuple hs
    exact wpAny_pyIter_tuple (show s1.heap.IsTuple a its.toArray from p) (pi_one (tk := s1.toks) I1 _ (turn_tuple a _) ⟨_, Heap.get?_push_size _ rfl, rfl, rfl⟩ hr)
  · obtain ⟨t, rfl⟩ := r1
    cases ha : z.cps.all (· < 128)
    · exact wpAny_pyIter_wide ha (pi_one (tk := s1.toks) I1 _ (turn_str _ z t "str_iterator" (.inr rfl)) ⟨_, Heap.get?_push_size _ rfl, rfl, rfl⟩ hr)
    · exact wpAny_pyIter_ascii ha (pi_one (tk := s1.toks) I1 _ (turn_str _ z t "str_ascii_iterator" (.inl rfl)) ⟨_, Heap.get?_push_size _ rfl, rfl, rfl⟩ hr)
def signs (z : Str) : List D := z.cps.toList.map fun k => .str ⟨#[k]⟩
def seqA : D → M Itm
  | .tup xs => ret ⟨xs, fun _ => true⟩
  | .loc l => bnd (lst l) fun xs => ret ⟨xs, fun st => decide (st[l]? = some (.lst xs))⟩
  | .str z => ret ⟨signs z, fun _ => true⟩
  | _ => no
def iterA (f : ME) : MI := fun ρ => bnd (f ρ) seqA
theorem wk_str {z : Str} : Wk c ⟨signs z, fun _ => true⟩ bs H (Its z) := by
  have hl : (signs z).length = z.cps.size := by unfold signs; simp
  refine ⟨fun i H' hi _ => ?_, fun H' _ => ?_, fun i H' v H2 hi _ y st bs' e rl _ => ?_⟩
  · show i < z.cps.size
    rw [← hl]; exact hi
  · show z.cps.size ≤ (signs z).length
    rw [hl]; exact Nat.le_refl _
  · obtain ⟨rfl, k, hk, rfl⟩ := y
    exact ⟨Ext.refl, rl, .str ⟨#[k]⟩, by unfold signs; rw [List.getElem?_map, Array.getElem?_toList, hk]; rfl, .str _⟩
theorem mi_seq (hK : X.K = c.K) (h : PE X e (tE c ex f)) : PI X tg e (tI c ex (iterA f)) := PI_imp (pi_seq h) fun σ H R q => by
  obtain ⟨ρ, st, bs, rl, re, p⟩ := q
  refine ⟨ρ, st, bs, rl, re, p.bnd.imp fun d st1 bs1 H1 e1 rl1 p1 v rv => ?_⟩
  rw [hK]
  cases rv with
  | tup s tl r => exact .inr (.inl ⟨_, rfl, ⟨_, s⟩, p1.now rl1 _ (wks_tup s r)⟩)
  | loc h =>
    obtain ⟨a, vs, xs, ee, hb, hl, hv, r, p2⟩ := post_lst (k := fun _ _ _ _ => True) p1 rl1 (RD.loc h)
    cases ee
    exact .inl ⟨_, rfl, ⟨_, SqL.of hv⟩, p2.now rl1 _ (wks_loc hb)⟩
  | str z => exact .inr (.inr ⟨_, rfl, p1.now rl1 _ ⟨wk_str, fun _ _ _ _ => wk_str⟩⟩)
  | _ => exact p1.elim
def rngI (lo hi : Int) : Itm := ⟨(List.range (hi - lo).toNat).map fun i => .int (lo + (i : Nat)), fun _ => true⟩
theorem wk_rng {lo : Int} {n : Nat} : Wk c ⟨(List.range n).map fun i => .int (lo + (i : Nat)), fun _ => true⟩ bs H (Itr lo n) := by
  refine ⟨fun i H' hi _ => ?_, fun H' _ => ?_, fun i H' v H2 hi _ y st bs' e rl _ => ?_⟩
  · show i < n
    simpa using hi
  · show n ≤ _
    simp
  · obtain ⟨rfl, rfl⟩ := y
    have hi : i < n := by simpa using hi
    exact ⟨Ext.refl, rl, .int (lo + i), by simp [hi], .int _⟩
/-- (so that the kernel, asked of a number that it doesn't know, stops at once) -/
@[irreducible] def okR (i : Int) : Bool := decide (i.natAbs.log2 < 62)
theorem okR_of {i : Int} (h : okR i = true) : -(2 ^ 62) ≤ i ∧ i < 2 ^ 62 := by
  unfold okR at h
  have h := of_decide_eq_true h
  rcases Nat.eq_zero_or_pos i.natAbs with z | z
  · omega
  · have := (Nat.log2_lt (by omega)).mp h
    omega
def rng1 (f : ME) : MI := fun ρ => bnd (f ρ) fun d => match d with
  | .int j => if okR j then ret (rngI 0 j) else no
  | _ => no
def rng2 (f g : ME) : MI := fun ρ => bnd (f ρ) fun d => bnd (g ρ) fun d' => match d, d' with
  | .int i, .int j => if okR i && okR j then ret (rngI i j) else no
  | _, _ => no
theorem mi_rng1 {p : Pos} (hg : Gl X "range") (hm : X.mg "range" = none) (ha : PE X a (tE c ex f)) (hs : starEach [a] X.env = (false, eval a X.env) :: starEach [] X.env := by rfl) (hs2 : starEach [a] X.env = [(false, eval a X.env)] := by rfl) : PI X tg (.Call (.Name "range" p) [a] [] pos) (tI c ex (rng1 f)) :=
  PI_imp (pi_range1 hg hm (pa_cons ha pa_nil hs) hs2) fun σ H R q => by
    obtain ⟨ρ, st, bs, rl, re, p⟩ := q
    refine ⟨ρ, st, bs, rl, re, p.bnd.imp fun d st1 bs1 H1 e1 rl1 p1 v rv => ?_⟩
    cases rv with
    | int j =>
      obtain ⟨h, p1⟩ := Post.iff (m := ret _) p1
      have h := okR_of h
      refine ⟨j, rfl, h.1, h.2, p1.now rl1 _ ?_⟩
      have := fun H => wk_rng (c := c) (lo := 0) (n := j.toNat) (bs := bs1) (H := H)
      unfold rngI
      rw [Int.sub_zero]
      exact ⟨this H1, fun _ _ _ _ => this _⟩
    | _ => exact p1.elim
theorem mi_rng2 {p : Pos} (hg : Gl X "range") (hm : X.mg "range" = none) (ha : PE X a (tE c ex f)) (hb : PE X b (tE c ex g)) (hs : starEach [a, b] X.env = (false, eval a X.env) :: starEach [b] X.env := by rfl) (hs2 : starEach [b] X.env = (false, eval b X.env) :: starEach [] X.env := by rfl)
    (hs3 : starEach [a, b] X.env = [(false, eval a X.env), (false, eval b X.env)] := by rfl) (hs4 : starEach [b] X.env = [(false, eval b X.env)] := by rfl) : PI X tg (.Call (.Name "range" p) [a, b] [] pos) (tI c ex (rng2 f g)) :=
  PI_imp (pi_range2 hg hm (pa_cons ha (pa_cons hb pa_nil hs2) hs) hs3 hs4) fun σ H R q => by
    obtain ⟨ρ, st, bs, rl, re, p⟩ := q
    refine ⟨ρ, st, bs, rl, re, p.bnd.imp fun d st1 bs1 H1 e1 rl1 p1 v rv => ?_⟩
    refine ⟨ρ, st1, bs1, rl1, re.ext e1, p1.bnd.imp fun d2 st2 bs2 H2 e2 rl2 p2 v2 rv2 => ?_⟩
    have rv := rv.ext e2
    cases rv with
    | int i =>
      cases rv2 with
      | int j =>
        obtain ⟨h, p2⟩ := Post.iff (m := ret _) p2
        rw [Bool.and_eq_true] at h
        have h1 := okR_of h.1
        have h2 := okR_of h.2
        exact ⟨i, j, rfl, ⟨h1.1, h1.2, h2.1, h2.2⟩, p2.now rl2 _ ⟨wk_rng, fun _ _ _ _ => wk_rng⟩⟩
      | _ => exact p2.elim
    | _ => cases rv2 <;> exact p2.elim
end
end Pm
end
section
set_option Elab.async false
set_option linter.all false
set_option maxRecDepth 100000
namespace Pm
open PySem PySem.Spec PyProof.Rows L2

/-! ### an object that nothing tells of, hidden -/
section
variable {c : Ct} {ex : Wh} {α : Type} {bs bs' : List Addr} {H H' : Hp} {st : Sto} {q : Addr} {vs : List V}
theorem upd_hid {o : HO} (h : H q = some o) : upd (hid H q) q o = H := by
  funext b
  by_cases e : b = q
  · rw [e, upd_same, h]
  · rw [upd_ne e, hid_ne e]
theorem hid_upd {o : HO} : hid (upd H q o) q = hid H q := by
  funext b
  by_cases e : b = q
  · rw [e, hid_same, hid_same]
  · rw [hid_ne e, hid_ne e, upd_ne e]
theorem hid_ext (h : q ∉ bs) : Ext bs (hid H q) bs H := by
  refine ⟨⟨[], by simp⟩, fun b o e _ => ?_, fun b h n => absurd h n⟩
  by_cases z : b = q
  · rw [z, hid_same] at e; cases e
  · rw [hid_ne z] at e; exact e
theorem Rel.hid (rl : Rel c bs H st) (h : H q = some (.lst vs)) (nb : q ∉ bs) : Rel c bs (hid H q) st := by
  refine ⟨rl.len, fun l b o h1 h2 => ?_, rl.nd, ?_⟩
  · have n : b ≠ q := fun z => nb (z ▸ List.mem_of_getElem? h1)
    exact (rl.obj l b o h1 h2).same (hid_pre h) (hid_ne n)
  · rcases rl.scr with ⟨o, e⟩ | e
    · exact .inl ⟨o, by rw [hid_ne (ne_of e h (by intro z; cases z))]; exact e⟩
    · exact .inr e
theorem Ext.hid (e : Ext bs H bs' H') (h : H q = some (.lst vs)) (nb : q ∉ bs) : Ext bs (hid H q) bs' (hid H' q) ∧ H' q = some (.lst vs) ∧ q ∉ bs' := by
  refine ⟨⟨e.pre, fun a o h1 h2 => ?_, fun a h1 h2 => ?_⟩, e.keep q _ h (.inl nb), fun z => ?_⟩
  · by_cases y : a = q
    · rw [y, hid_same] at h1; cases h1
    · rw [hid_ne y] at h1 ⊢
      exact e.keep a o h1 h2
  · by_cases y : a = q
    · rw [y]; exact hid_same
    · rw [hid_ne y]; exact e.fresh a h1 h2
  · have := e.fresh q z nb
    rw [h] at this; cases this
/-- no exception -/
def exF : Wh := fun _ _ _ _ => False
def nox (m : M α) : M α := fun st => match m st with
  | .exc _ _ _ => .stuck
  | r => r
theorem Post.nox {m : M α} {k : α → Sto → List Addr → Hp → Prop} (p : Post c ex (nox m st) bs H k) : Post c exF (m st) bs H k := by
  unfold Pm.nox at p
  cases e : m st with
  | ok a st' => rw [e] at p; exact p
  | exc n d st' => rw [e] at p; exact p.elim
  | stuck => rw [e] at p; exact p
theorem Post.hide {r : Res α} {k : α → Sto → List Addr → Hp → Prop} (p : Post c exF r bs (hid H q) k) (h : H q = some (.lst vs)) (nb : q ∉ bs) : Post c exF r bs H fun a st' bs' H' => k a st' bs' (hid H' q) := by
  cases r with
  | ok a st' =>
    intro b' H' e rl
    obtain ⟨e2, h2, n2⟩ := e.hid h nb
    exact p b' (Pm.hid H' q) e2 (rl.hid h2 n2)
  | exc n d st' =>
    intro b' H' e rl
    obtain ⟨e2, h2, n2⟩ := e.hid h nb
    exact p b' (Pm.hid H' q) e2 (rl.hid h2 n2)
  | stuck => exact p
end

/-! ### [e for x in xs if t] -/
def wipeE (ρ : En) : List Nat → En
  | [] => ρ
  | v :: vs => (wipeE ρ vs).set v none
theorem wipe_RE {c : Ct} {bs : List Addr} {H : Hp} {ρ : En} {σ : L2.St} (r : RE c bs H ρ σ) : ∀ vs : List Nat, RE c bs H (wipeE ρ vs) (wipe σ vs)
  | [] => r
  | v :: vs => by
    have ih := wipe_RE r vs
    unfold wipeE wipe
    refine ⟨by rw [List.length_set, List.length_set, ih.len], fun i d e => ?_⟩
    by_cases hi : v = i
    · subst hi
      by_cases hv : v < (wipeE ρ vs).length
      · rw [List.getElem?_set_self hv] at e; cases e
      · rw [List.getElem?_eq_none (by simpa using hv)] at e; cases e
    · rw [List.getElem?_set_ne hi] at e ⊢
      exact ih.val i d e
def yesT : MT := fun _ => ret true
def lcL (ok : Sto → Bool) (p : Pat) (t : MT) (e : ME) (ρ : En) : List D → List D → M (List D)
  | [], acc => fun st => if ok st = true then .ok acc st else .stuck
  | x :: r, acc => fun st => if ok st = true then
      (bnd (ofE (bindP p x ρ)) fun ρ1 => bnd (nox (t ρ1)) fun k => if k = true then bnd (nox (e ρ1)) fun y => if acc.length < sizeLine then lcL ok p t e ρ r (acc ++ [y]) else no else lcL ok p t e ρ r acc) st
    else .stuck
def lcE (it : MI) (p : Pat) (t : MT) (e : ME) (vs : List Nat) : ME := fun ρ => bnd (it ρ) fun I => bnd (lcL I.ok p t e (wipeE ρ vs) I.xs []) alloc
section
variable {X : Cx} {c : Ct} {ex : Wh} {it : MI} {p : Pat} {t : MT} {e : ME} {vs : List Nat} {H : Hp}
theorem lcL_ok {ok : Sto → Bool} {ρ : En} {xs acc : List D} {st : Sto} {bs : List Addr} {k : List D → Sto → List Addr → Hp → Prop} (q : Post c ex (lcL ok p t e ρ xs acc st) bs H k) : ok st = true := by
  cases xs with
  | nil =>
    unfold lcL at q
    by_cases h : ok st = true
    · exact h
    · rw [if_neg h] at q; exact q.elim
  | cons x r =>
    unfold lcL at q
    by_cases h : ok st = true
    · exact h
    · rw [if_neg h] at q; exact q.elim
theorem wipe_wipe : ∀ (σ : L2.St) (vs : List Nat), wipe (wipe σ vs) vs = wipe σ vs
  | _, [] => rfl
  | σ, v :: vs => by
    show wipe ((wipe σ vs).set v none) (v :: vs) = (wipe σ vs).set v none
    rw [wipe_set List.mem_cons_self]
    show (wipe (wipe σ vs) vs).set v none = _
    rw [wipe_wipe σ vs]
theorem rel_show {bs : List Addr} {st : Sto} {D : Addr} (rl : Rel c bs (hid H D) st) (nb : D ∉ bs) : Rel c bs H st := by
  have e3 := hid_ext (H := H) nb
  refine ⟨rl.len, fun l b o h1 h2 => ?_, rl.nd, e3.scr rl.scr⟩
  have n : b ≠ D := fun z => nb (z ▸ List.mem_of_getElem? h1)
  exact (rl.obj l b o h1 h2).same e3.mov (hid_ne n).symm
theorem tE_lc (hs : ∀ i ∈ slots p, i ∈ vs) {σ : L2.St} {Q : VK} (q : tE c ex (lcE it p t e vs) σ H Q) : tLc (tI c ex it) (gP c.K p) (tT c exF t) (tE c exF e) vs σ H Q := by
  obtain ⟨ρ, st, bs, rl, re, q⟩ := q
  refine ⟨ρ, st, bs, rl, re, q.bnd.imp fun I st1 bs1 H1 e1 rl1 q1 J wk => ?_⟩
  intro D hD
  have reW := wipe_RE (re.ext e1) vs
  refine lc_it wk.1 (fun i H => ∃ st bs acc vacc, Ext bs1 H1 bs (hid H D) ∧ Rel c bs (hid H D) st ∧ D ∉ bs ∧ H D = some (.lst vacc) ∧ RDs c bs (hid H D) vacc acc ∧ Post c ex (lcL I.ok p t e (wipeE ρ vs) (I.xs.drop i) acc st) bs (hid H D) fun a st1 bs1 H1 => Post c ex (alloc a st1) bs1 H1 fun d _ bs' H' => ∀ v, RD c bs' H' v d → Q v H')
    ?_ (fun i H hi ⟨st, bs, acc, vacc, ee, rl, nb, hv, rr, q⟩ => ?_) (fun i v H H' hi ⟨st, bs, acc, vacc, ee, rl, nb, hv, rr, q⟩ y => ?_) (fun H ⟨st, bs, acc, vacc, ee, rl, nb, hv, rr, q⟩ => ?_)
  · have z : hid (upd H1 D (.lst [])) D = H1 := by rw [hid_upd, hid_none hD]
    refine ⟨st1, bs1, [], [], by rw [z]; exact Ext.refl, by rw [z]; exact rl1, fun h => ?_, upd_same, .nil, by rw [z]; exact q1.bnd⟩
    obtain ⟨o, ho, _⟩ := rl1.here h
    rw [hD] at ho; cases ho
  · exact ⟨st, bs, ee.trans (hid_ext nb), rel_show rl nb, lcL_ok q⟩
  · have e3 := hid_ext (H := H) nb
    have rlH : Rel c bs H st := rel_show rl nb
    have hok := lcL_ok q
    obtain ⟨e6, rl6, d, hd, rd6⟩ := y st bs (ee.trans e3) rlH hok
    rw [List.getElem?_eq_getElem hi] at hd
    cases hd
    have e5 : I.xs.drop i = I.xs[i] :: I.xs.drop (i + 1) := List.drop_eq_getElem_cons hi
    rw [e5] at q
    unfold lcL at q
    rw [if_pos hok] at q
    cases e8 : bindP p I.xs[i] (wipeE ρ vs) with
    | none => rw [e8] at q; exact q.bnd.elim
    | some ρ1 =>
      rw [e8] at q
      obtain ⟨e6', hv6, nb6⟩ := e6.hid hv nb
      have q3 := Post.now q.bnd rl
      have q4 := (q3.bnd.far e6').nox
      refine bindP_ok p _ v _ ρ1 (wipe σ vs) _ rd6 (((reW.ext ee).ext e3).ext e6) e8 fun σ2 re2 w2 => ⟨?_, ?_⟩
      · rw [w2 vs hs]
        exact wipe_wipe σ vs
      · refine ⟨ρ1, st, bs, rl6, re2, (q4.hide hv6 nb6).imp fun k st7 bs7 H7 e7 rl7 q7 => ?_⟩
        obtain ⟨e7', hv7, nb7⟩ := e7.hid hv6 nb6
        have ee7 := (ee.trans e6').trans e7'
        have rr7 := (rr.ext e6').ext e7'
        cases k with
        | false => exact iteF ⟨st7, bs7, acc, vacc, ee7, rl7.hid hv7 nb7, nb7, hv7, rr7, q7⟩
        | true =>
          refine iteT ?_
          have q8 := q7.bnd.nox
          refine ⟨ρ1, st7, bs7, rl7, re2.ext e7, (q8.hide hv7 nb7).imp fun y st9 bs9 H9 e9 rl9 q9 v9 rv9 => ?_⟩
          obtain ⟨e9', hv9, nb9⟩ := e9.hid hv7 nb7
          obtain ⟨hz, q10⟩ := Post.iff (m := lcL _ _ _ _ _ _ _) q9
          have rr9 := rr7.ext e9'
          refine ⟨vacc, hv9, by rw [rr9.length]; exact hz, ?_⟩
          have z : hid (upd H9 D (.lst (vacc ++ [v9]))) D = hid H9 D := hid_upd
          refine ⟨st9, bs9, acc ++ [y], vacc ++ [v9], by rw [z]; exact ee7.trans e9', by rw [z]; exact rl9.hid hv9 nb9, nb9, upd_same, by rw [z]; exact rr9.append (.cons (rv9.mono (hid_pre hv9)) .nil), by rw [z]; exact q10⟩
  · rw [List.drop_length] at q
    have hok := lcL_ok q
    unfold lcL at q
    rw [if_pos hok] at q
    have q3 := Post.of q rl
    obtain ⟨k, r⟩ := post_alloc q3 rl hid_same rr
    rw [upd_hid hv] at k r
    exact k _ r
/-- [e for x in xs if t] -/
theorem md_lc {elt tg iter : Expr} {ifs : List Expr} {scope : Scope} {own : List (Str × Nat)} {pos : Pos} (hc : X.calm = true) (hN : X.N.Nodup) (hi : PI X tg iter (tI c ex it)) (ok : BlkOk X.N X.env.scope scope own)
    (hg : ∀ (s : Shared) (H : Hp) (C : Addr) (cl : List (Str × Addr)) (fp : List Addr), PG (X.blk s H scope (compEnvC scope cl C X.env) fp) tg (gP c.K p)) (ht : ∀ (s : Shared) (H : Hp) (C : Addr) (cl : List (Str × Addr)) (fp : List Addr), PTs (X.blk s H scope (compEnvC scope cl C X.env) fp) ifs (tT c exF t))
    (he : ∀ (s : Shared) (H : Hp) (C : Addr) (cl : List (Str × Addr)) (fp : List Addr), PE (X.blk s H scope (compEnvC scope cl C X.env) fp) elt (tE c exF e)) (hs : ∀ x, foldedSetIterable iter X.env x = pure x := by intro _; rfl) (hsl : ∀ i ∈ slots p, i ∈ vs := by decide) (hvs : own.map (·.2) = vs := by rfl) :
    PE X (.ListComp elt [⟨tg, iter, ifs, 0⟩] scope pos) (tE c ex (lcE it p t e vs)) :=
  PE_imp (pe_lc hc hN hi ok hg ht he hs) fun σ H Q q => by rw [hvs]; exact tE_lc hsl q
theorem mts_nil : PTs X [] (tT c ex yesT) := ⟨fun pins s σ H Q I q => by
  obtain ⟨ρ, st, bs, rl, re, p⟩ := q
  exact pts_nil.run pins s σ H Q I (p.now rl)⟩
theorem mts_one {a : Expr} (h : PT X a (tT c ex t)) : PTs X [a] (tT c ex t) := pts_one h
/-- name = [..] -/
theorem ms_setLc {i : Nat} {y : Str} {py : Pos} {elt tg iter : Expr} {ifs : List Expr} {scope : Scope} {own : List (Str × Nat)} {pos spos : Pos} (hc : X.calm = true) (hN : X.N.Nodup) (hi : PI X tg iter (tI c ex it)) (ok : BlkOk X.N X.env.scope scope own)
    (hg : ∀ (s : Shared) (H : Hp) (C : Addr) (cl : List (Str × Addr)) (fp : List Addr), PG (X.blk s H scope (compEnvC scope cl C X.env) fp) tg (gP c.K p)) (ht : ∀ (s : Shared) (H : Hp) (C : Addr) (cl : List (Str × Addr)) (fp : List Addr), PTs (X.blk s H scope (compEnvC scope cl C X.env) fp) ifs (tT c exF t))
    (he : ∀ (s : Shared) (H : Hp) (C : Addr) (cl : List (Str × Addr)) (fp : List Addr), PE (X.blk s H scope (compEnvC scope cl C X.env) fp) elt (tE c exF e))
    (hsw : swapsWith (.ListComp elt [⟨tg, iter, ifs, 0⟩] scope pos) (some (.Name y py)) spos.line X.env = pure true) (hy : X.N[i]? = some y := by rfl) (hyl : X.env.scope.names.lookup y = some .local := by rfl) (hs : ∀ x, foldedSetIterable iter X.env x = pure x := by intro _; rfl) (hsl : ∀ i ∈ slots p, i ∈ vs := by decide) (hvs : own.map (·.2) = vs := by rfl) :
    PS X (.Assign [.Name y py] (.ListComp elt [⟨tg, iter, ifs, 0⟩] scope pos) spos) (tS c ex (setS (.nm i) (lcE it p t e vs))) :=
  PS_imp (ps_setLc hc hN hy hyl hsw hi ok hg ht he hs) fun E σ H q => by
    have q := tS_set q
    unfold gP at q
    rw [hvs]
    exact tE_lc hsl q
end
end Pm
end
section
set_option Elab.async false
set_option linter.all false
set_option maxRecDepth 100000
namespace Pm
open PySem PySem.Spec PyProof.Rows L2

/-! ### defs, where no repr is running -/
structure FnG (P : Program) (w : World) (K : PySem.W.Frag) (mg : Str → Option Value) (base : Heap) (CX : CXT) (k : Nat) (f : Addr) (fd : FuncData) (ps : List Str) (sp : Sp) : Prop where
  ln : ∀ vs H Q E, sp vs H Q E → vs.length = ps.length
  go : ∀ (A : Around) (out : List Env) (s : Shared) (H : Hp) (ar : Args) (us : List Value) (vs : List V) (Q : VK) (E : XK), Room k A → A.guards = some [] → Env0 P w K mg base A out s H → BindsTo s fd ar (ps.zip us) → Vals vs us → sp vs H Q E → codeAny (model P w) A (.call (.ref f) ar) (CR CX out P w H s Q E) s
theorem FnOk.gu {P : Program} {w : World} {K : PySem.W.Frag} {mg : Str → Option Value} {base : Heap} {CX : CXT} {k : Nat} {f : Addr} {fd : FuncData} {ps : List Str} {sp : Sp} (F : FnOk P w K mg base CX k f fd ps sp) : FnG P w K mg base CX k f fd ps sp :=
  ⟨F.len, fun A out s H ar us vs Q E hr _ => F.run A out s H ar us vs Q E hr⟩
theorem FnG.mono {P : Program} {w : World} {K : PySem.W.Frag} {mg : Str → Option Value} {base : Heap} {CX : CXT} {j k : Nat} {f : Addr} {fd : FuncData} {ps : List Str} {sp : Sp} (F : FnG P w K mg base CX j f fd ps sp) (h : j ≤ k) : FnG P w K mg base CX k f fd ps sp :=
  ⟨F.ln, fun A out s H ar us vs Q E hr => F.go A out s H ar us vs Q E (hr.mono h)⟩
section
variable {X : Cx} {CX : CXT} {k : Nat} {f : Addr} {fd : FuncData} {ps : List Str} {sp : Sp} {dvs : List V} {ds : List Value} {E : XK} {x : Str} {p pos : Pos} {e : Expr} {es : List Expr} {t : TA}
theorem gRun {pins : List (Addr × Obj)} {σ : L2.St} {H : Hp} {s : Shared} {Q : VK} {us : List Value} {vs : List V} (F : FnG X.prog X.w X.K X.mg X.base CX k f fd ps sp) (hr : Room k X.A) (hgd : X.A.guards = some []) (hb : Binds X.K fd ps ds) (hd : Vals dvs ds) (hx : Passes CX X E)
    (I : Inv X pins σ H s) (r : Vals vs us) (h : sp (vs ++ dvs) H Q E) : wpAny (model X.prog X.w) X.A (call (.ref f) us) (EP X pins σ Q) X.xe s := by
  have r2 := r.append hd
  have hl : (us ++ ds).length = ps.length := r2.length.symm.trans (F.ln _ _ _ _ h)
  have run := F.go X.A X.stack s H ⟨us, []⟩ (us ++ ds) (vs ++ dvs) Q E hr hgd I.env0 (hb s us I.kIn hl) r2 h
  refine wpAny_call (codeAny_mono run fun r s' hq => ?_)
  match r, hq with
  | .error e, hq => exact hx pins σ H s e s' I hq
  | .ok (.ret u), hq => exact I.after hq
theorem pe_callG (F : FnG X.prog X.w X.K X.mg X.base CX k f fd ps sp) (hr : Room k X.A) (hgd : X.A.guards = some []) (hg : Gl X x) (hm : X.mg x = some (.ref f)) (hk : PySem.W.keepIn X.K (.ref f) = true) (hb : Binds X.K fd ps ds) (hd : Vals dvs ds) (hx : Passes CX X E)
    (ha : PA X (e :: es) t) (hdb : (x == ("__debug__" : Str)) = false := by decide) (he : starEach (e :: es) X.env = (false, eval e X.env) :: starEach es X.env := by rfl) (hpl : (backTo pos (starEach es X.env)).any (·.1) = false := by rfl) :
    PE X (.Call (.Name x p) (e :: es) [] pos) (tCall sp dvs E t) := ⟨fun pins s σ H Q I h =>
  wpAny_Call_Name_kw (ld_glob I hg hm (PySem.W.callWith_K (h₀ := X.base) I.ok.mod.kin hk (thn (ha.run pos pins s σ H _ I h) fun us s1 ⟨vs, H1, I1, r, q⟩ => ⟨I1.kIn, gRun F hr hgd hb hd hx I1 r q⟩) he hpl) hdb)⟩
theorem pe_callG0 (F : FnG X.prog X.w X.K X.mg X.base CX k f fd ps sp) (hr : Room k X.A) (hgd : X.A.guards = some []) (hg : Gl X x) (hm : X.mg x = some (.ref f)) (hk : PySem.W.keepIn X.K (.ref f) = true) (hb : Binds X.K fd ps ds) (hd : Vals dvs ds) (hx : Passes CX X E)
    (hdb : (x == ("__debug__" : Str)) = false := by decide) : PE X (.Call (.Name x p) [] [] pos) (tCall sp dvs E tNil) := ⟨fun pins s σ H Q I h =>
  wpAny_Call_Name_kw (ld_glob I hg hm (PySem.W.callWith_K0 I.kIn hk (gRun (us := []) F hr hgd hb hd hx I .nil h)) hdb)⟩
end

/-! ### a def by its meaning -/
def startE (n : Nat) (ds : List D) : En := ds.map some ++ List.replicate (n - ds.length) none
def runB (n : Nat) (b : MS) : List D → M D := fun ds => bnd (b (startE n ds)) fun x => match x.1 with
  | .nx => ret .non
  | .rt d => ret d
  | _ => no
def spM (c : Ct) (wx : XK → Wh) (n : Nat) (m : List D → M D) : Sp := fun vs H Q E => vs.length = n ∧ ∃ ds st bs, Rel c bs H st ∧ RDs c bs H vs ds ∧ Post c (wx E) (m ds st) bs H fun d _ bs' H' => ∀ v, RD c bs' H' v d → Q v H'
theorem start_RE {c : Ct} {bs : List Addr} {H : Hp} {vs : List V} {ds : List D} (N : List Str) (r : RDs c bs H vs ds) : RE c bs H (startE N.length ds) (L2.start N vs) := by
  unfold startE L2.start
  refine ⟨by simp [r.length], fun i d h => ?_⟩
  by_cases hi : i < ds.length
  · rw [List.getElem?_append_left (by simpa using hi), List.getElem?_map] at h
    cases e : ds[i]? with
    | none => rw [e] at h; cases h
    | some d' =>
      rw [e] at h
      cases h
      obtain ⟨v, h1, h2⟩ := r.get e
      exact ⟨v, by rw [List.getElem?_append_left (by simpa [r.length] using hi), List.getElem?_map, h1]; rfl, h2⟩
  · rw [List.getElem?_append_right (by simpa using hi), List.getElem?_replicate] at h
    split at h <;> cases h
section
variable {P : Program} {w : World} {K : PySem.W.Frag} {mg : Str → Option Value} {base : Heap} {CX : CXT} {k : Nat} {f : Addr} {fd : FuncData} {N ps : List Str} {c : Ct} {wx : XK → Wh} {b : MS} {x qual : Str} {params : Arguments} {body : List Stmt} {scope : Scope} {dvs : List V} {kws : List (Str × V)}
theorem fnG_of {sp : Sp} (F : FunD K x qual params body scope dvs kws f fd) (S : FnScope N ps scope) (hln : ∀ vs H Q E, sp vs H Q E → vs.length = ps.length)
    (hb : ∀ (cdv : Value) (A : Around) (out : List Env) (s : Shared) (H : Hp) (vs : List V) (Q : VK) (E : XK), Room k (A.deeper (envOfC qual scope s.heap.objs.size f cdv)) → A.guards = some [] → sp vs H Q E →
      ∃ t, PSs (cxOf CX P w K mg base N qual scope f cdv A out s H E) body t ∧ t { nx := fun _ H' => Q .non H', rt := Q } (L2.start N vs) H) : FnG P w K mg base CX (k + 1) f fd ps sp := by
  obtain ⟨oc, od, dV, kV, doc, pm, an, cdv, ct, osl, rfl, lk, hcd, _, _⟩ := F.ex
  refine ⟨hln, fun A out s H ar us vs Q E hr hgd e0 hbd r hsp => ?_⟩
  have hl := hln _ _ _ _ hsp
  have kk : ∀ (b : Addr) (o : Obj), base.get? b = some o → s.heap.get? b = some o := fun b o e => (e0.bs b o e).1
  have KX : K.In s.heap := e0.mod.kin.keeps kk
  have lim := e0.mod.nolimit.keeps kk
  refine codeAny_call_function hr.depth (KX _ _ lk) rfl S.co S.gen rfl (PySem.W.codeRec_of KX hcd) (hbd _ _ _ _ ?_)
  refine wpAny_newFunctionEnv_cells S.kind (fun ⟨n, v⟩ hy => ?_) fun env he s1 hx => ?_
  · rcases S.par n (List.of_mem_zip hy).1 with z | z
    · exact .inl z
    · exact .inr ⟨z, PySem.W.cellsFrom_some _ _ _ (.inl z)⟩
  · subst he
    refine ⟨lim.keeps hx.toInCall.keep, codeAny_func ?_⟩
    obtain ⟨t, ht, hq⟩ := hb cdv A out s H vs Q E (hr.deeper _) hgd hsp
    have I : Inv (cxOf CX P w K mg base N qual scope f cdv A out s H E) [] (L2.start N vs) H s1 := inv_start S hr.hd e0 hl r hx
    refine wpAny_mono (ht.run [] s1 (L2.start N vs) H _ I hq) (fun fl s' hs => ?_) fun _ _ z => z
    match fl, hs with
    | .ret u, ⟨v, _, H', J, rv, q⟩ => exact ⟨v, H', J.os, J.bare, J.base, J.hok, rv, q⟩
    | .next, ⟨_, H', J, q⟩ => exact ⟨V.non, H', J.os, J.bare, J.base, J.hok, rfl, q⟩
    | .brk, ⟨_, _, _, q⟩ => exact False.elim q
    | .cont, ⟨_, _, _, q⟩ => exact False.elim q
/-- THE RULE: a def of the text, by its body's meaning -/
theorem fn_m (F : FunD K x qual params body scope dvs kws f fd) (S : FnScope N ps scope) (hb : ∀ (cdv : Value) (A : Around) (out : List Env) (s : Shared) (H : Hp) (E : XK), Room k (A.deeper (envOfC qual scope s.heap.objs.size f cdv)) → A.guards = some [] →
      PSs (cxOf CX P w K mg base N qual scope f cdv A out s H E) body (tS c (wx E) b)) : FnG P w K mg base CX (k + 1) f fd ps (spM c wx ps.length (runB N.length b)) := by
  refine fnG_of F S (fun vs H Q E h => h.1) fun cdv A out s H vs Q E hr hgd h => ⟨_, hb cdv A out s H E hr hgd, ?_⟩
  obtain ⟨_, ds, st, bs, rl, r, p⟩ := h
  refine ⟨startE N.length ds, st, bs, rl, start_RE N r, p.bnd.imp fun y st1 bs1 H1 e1 rl1 p1 σ1 re1 => ?_⟩
  obtain ⟨fl, ρ1⟩ := y
  cases fl with
  | nx => exact p1.now rl1 _ .non
  | rt d => exact fun v rv => p1.now rl1 v rv
  | bk => exact p1.elim
  | ct => exact p1.elim
end
/-- a call of a def -/
def calE (g : MA) (m : List D → M D) : ME := fun ρ => bnd (g ρ) m
section
variable {X : Cx} {CX : CXT} {k n : Nat} {f : Addr} {fd : FuncData} {ps : List Str} {E : XK} {x : Str} {p pos : Pos} {e : Expr} {es : List Expr} {c : Ct} {wx : XK → Wh} {ex : Wh} {g : MA} {m : List D → M D}
theorem RDs.len2 {bs : List Addr} {H : Hp} {vs : List V} {ds : List D} (r : RDs c bs H vs ds) : vs.length = ds.length := r.length
/-- as many as it takes -/
def ofLen (n : Nat) (m : List D → M D) : List D → M D := fun ds => if ds.length = n then m ds else no
theorem md_call (F : FnG X.prog X.w X.K X.mg X.base CX k f fd ps (spM c wx n m)) (hr : Room k X.A) (hgd : X.A.guards = some []) (hg : Gl X x) (hm : X.mg x = some (.ref f)) (hk : PySem.W.keepIn X.K (.ref f) = true) (hb : Binds X.K fd ps []) (hx : Passes CX X E) (hE : wx E = ex)
    (ha : PA X (e :: es) (tA c ex g)) (hdb : (x == ("__debug__" : Str)) = false := by decide) (he : starEach (e :: es) X.env = (false, eval e X.env) :: starEach es X.env := by rfl) (hpl : (backTo pos (starEach es X.env)).any (·.1) = false := by rfl) :
    PE X (.Call (.Name x p) (e :: es) [] pos) (tE c ex (calE g (ofLen n m))) := PE_imp (pe_callG F hr hgd hg hm hk hb .nil hx ha hdb he hpl) fun σ H Q q => by
  obtain ⟨ρ, st, bs, rl, re, q⟩ := q
  refine ⟨ρ, st, bs, rl, re, q.bnd.imp fun ds st1 bs1 H1 e1 rl1 q1 vs rvs => ?_⟩
  obtain ⟨hn, q1⟩ := Post.iff (m := m ds) q1
  subst hE
  rw [List.append_nil]
  exact ⟨by rw [rvs.length]; exact hn, ds, st1, bs1, rl1, rvs, q1⟩
theorem md_call0 (F : FnG X.prog X.w X.K X.mg X.base CX k f fd ps (spM c wx 0 m)) (hr : Room k X.A) (hgd : X.A.guards = some []) (hg : Gl X x) (hm : X.mg x = some (.ref f)) (hk : PySem.W.keepIn X.K (.ref f) = true) (hb : Binds X.K fd ps []) (hx : Passes CX X E) (hE : wx E = ex)
    (hdb : (x == ("__debug__" : Str)) = false := by decide) : PE X (.Call (.Name x p) [] [] pos) (tE c ex (calE nilA m)) := PE_imp (pe_callG0 F hr hgd hg hm hk hb .nil hx hdb) fun σ H Q q => by
  obtain ⟨ρ, st, bs, rl, re, q⟩ := q
  subst hE
  refine q.bnd.now rl |> fun q1 => ?_
  exact ⟨rfl, [], st, bs, rl, .nil, q1⟩
end
/-- what is never reached -/
def nevS : MS := fun _ => no
theorem ms_never {X : Cx} {c : Ct} {ex : Wh} {s : Stmt} : PS X s (tS c ex nevS) := PS_imp ps_never fun E σ H q => by
  obtain ⟨ρ, st, bs, rl, re, p⟩ := q
  exact p.elim
end Pm
end
section
set_option Elab.async false
set_option linter.all false
set_option maxRecDepth 100000
set_option maxHeartbeats 2000000
namespace Pm
open PySem PySem.Spec PyProof.Rows L2

/-! ### the law's end, where the caller has no repr running -/
theorem endG {P : Program} {w : World} {K : PySem.W.Frag} {mg mb : Str → Option Value} {CX : CXT} {k : Nat} {fa a : Addr} {fd : FuncData} {x : Str} {sp : Sp} {s1 : Shared} {vs : List Value} {ns : List Int} (KX : K.In s1.heap) (hns : s1.heap.Ns mainGlobals mg)
    (hb : s1.heap.Ns builtinsNs mb) (hbb : ∀ x : Str, x ≠ "__name__" → mb x = bootBuiltins x) (hlim : s1.heap.NoLimit) (hg : s1.gens = #[]) (ha : s1.heap.get? a = some { cls := .type "list", data := .seq vs.toArray }) (hi : IntsAre vs ns) (hl : ns.length ≤ sizeLine) (hr : Room k callerA)
    (F : ∀ base : Heap, K.In base → base.Ns mainGlobals mg → FnG P w K mg base CX k fa fd [x] sp) (hbind : ∀ (s : Shared) (u : Value), BindsTo s fd ⟨[u], []⟩ [(x, u)]) (hsp : ∀ H : Hp, (∀ o, H a = some o → ∃ ob, o = .frz ob (.lst (ns.map V.int))) → (∀ b, b ≠ a → H b = none) → SqL K H a (ns.map V.int) → ((H a = none) → ∀ H', SqL K H' a (ns.map V.int)) → sp [.ref a] H (fun v _ => v = .bl true) fun _ _ _ => False)
    (hCX : ∀ H e s', CX [] H s1 (fun _ _ _ => False) e s' → False) :
    codeAny (model P w) callerA (.call (.ref fa) ⟨[.ref a], []⟩) (fun r s' => r = .ok (.ret (.bool true)) ∧ OldK s1.heap s'.heap ∧ s'.os = s1.os ∧ AllBare s'.gens) s1 := by
  have rv := vals_ints hi
  have hv := hi.length
  have main : ∀ H : Hp, (∀ o, H a = some o → ∃ ob, o = HO.frz ob (.lst (ns.map V.int))) → (∀ b, b ≠ a → H b = none) → SqL K H a (ns.map V.int) → ((H a = none) → ∀ H', SqL K H' a (ns.map V.int)) → HOk P w H s1.heap → (H a ≠ none → K.lookup a = none) →
      codeAny (model P w) callerA (.call (.ref fa) ⟨[.ref a], []⟩) (fun r s' => r = .ok (.ret (.bool true)) ∧ OldK s1.heap s'.heap ∧ s'.os = s1.os ∧ AllBare s'.gens) s1 := by
    intro H hf hA hS hS2 hok hK
    have only : ∀ {b : Addr} {u : HO}, H b = some u → b = a := fun {b u} e => Classical.byContradiction fun n => by rw [hA b n] at e; cases e
    have dn : ∀ {b : Addr} {o : Obj} {es : Array DictEntry} {ep : Nat}, s1.heap.get? b = some o → o.data = .dict es ep → H b = none := fun {b o es ep} e d => by
      cases q : H b with
      | none => rfl
      | some u =>
        have z := only q
        subst z
        rw [ha] at e; cases e; cases d
    have nsK : ∀ {b : Addr} {m : Str → Option Value}, s1.heap.Ns b m → (hidT s1.heap H).Ns b m := fun {b m} ⟨o, es, ep, e, d, r⟩ => ⟨o, es, ep, hidT_get e (dn e d), d, r⟩
    have hKb : K.In (hidT s1.heap H) := fun b o e => hidT_get (KX b o e) (by
      cases q : H b with
      | none => rfl
      | some u =>
        have z := only q
        subst z
        rw [hK (by rw [q]; simp)] at e; cases e)
    have hM : Mod K mg (hidT s1.heap H) := ⟨hKb, nsK hns, ⟨mb, nsK hb, hbb⟩, let ⟨mc, h1, h2⟩ := hlim; ⟨mc, nsK h1, h2⟩⟩
    have e0 : Env0 P w K mg (hidT s1.heap H) callerA [] s1 H := ⟨rfl, hM, fun b o e => of_hidT e, Nat.le_of_eq (hidT_size _ _), trivial, (fun b hb => by cases hb), hok, .of_eq hg⟩
    have run := (F _ hKb (nsK hns)).go callerA [] s1 H ⟨[.ref a], []⟩ [.ref a] [.ref a] _ _ hr rfl e0 (hbind s1 (.ref a)) (.cons rfl .nil) (hsp H hf hA hS hS2)
    refine codeAny_mono run fun r s' h => ?_
    match r, h with
    | .error e, h => exact (hCX H e s' h).elim
    | .ok (.ret u), ⟨v, H', os, bare, un, hok', r', q⟩ =>
      have q : v = .bl true := q
      subst q
      have r' : u = Value.bool true := r'
      subst r'
      refine ⟨rfl, OldK.of_keep fun b o e => ?_, os, bare⟩
      cases q : H b with
      | none => exact un.keep b o e q (fun z => nomatch z) (by simp)
      | some u =>
        have z := only q
        subst z
        obtain ⟨ob, rfl⟩ := hf u q
        have z2 := un.frzs b ob _ q
        have e1 := (hok b _ q).1
        have e2 := (hok' b _ z2).1
        rw [e] at e1; cases e1
        exact e2
  cases hk : K.lookup a with
  | some o =>
    have e := KX a o hk
    rw [ha] at e
    cases e
    have sq : ∀ H' : Hp, SqL K H' a (ns.map V.int) := fun H' => .inr ⟨_, vs.toArray, _, hk, rfl, rfl, rfl, by rw [List.size_toArray, hv]; exact hl, by simpa using rv⟩
    exact main (fun _ => none) (fun o z => by cases z) (fun _ _ => rfl) (sq _) (fun _ => sq) (fun b u z => by cases z) fun z => absurd rfl z
  | none =>
    have at_ : (fun b => if b = a then some (HO.frz { cls := .type "list", data := .seq vs.toArray } (.lst (ns.map V.int))) else none) a = some (HO.frz { cls := .type "list", data := .seq vs.toArray } (.lst (ns.map V.int))) := if_pos rfl
    refine main (fun b => if b = a then some (HO.frz { cls := .type "list", data := .seq vs.toArray } (.lst (ns.map V.int))) else none) (fun o z => ?_) (fun b n => if_neg n) (.inl (.inr ⟨_, at_⟩)) (fun z => ?_) (fun b u z => ?_) fun _ => hk
    · have z := at_.symm.trans z
      cases z
      exact ⟨_, rfl⟩
    · have z := at_.symm.trans z
      cases z
    · by_cases hb : b = a
      · have z := (if_pos hb).symm.trans z
        cases z
        subst hb
        exact ⟨ha, by rw [List.length_map]; exact hl, vs, _, rv, ha⟩
      · have z := (if_neg hb).symm.trans z
        cases z
/-- a law by its meaning -/
theorem walkG {l : PySem.W.OpenLaw} {n k : Nat} {q : Program} {loose : List Str} {XP : (Str → Option Value) → Heap → Prop} {YP : World → Heap → Prop} {d : DefRec} {CX : World → CXT} {x : Str} {m : List Int → List D → M D} (hn : l.most = some n) (hn2 : n ≤ sizeLine) (hdf : d.params.defaults = []) (hr : Room k callerA)
    (F : ∀ (w : World) (mg : Str → Option Value) (fa : Addr) (h : Heap), YP w h → h.Ns mainGlobals mg → mg d.name = some (.ref fa) → ∃ (K : PySem.W.Frag) (fd : FuncData) (cl : Str → Option Addr), K.In h ∧ (∀ (s : Shared) (u : Value), BindsTo s fd ⟨[u], []⟩ [(x, u)]) ∧
        ∀ (sa : Addr) (ns : List Int) (base : Heap), K.In base → base.Ns mainGlobals mg → FnG l.prog w K mg base (CX w) k fa fd [x] (spM ⟨K, sa, ns, cl⟩ (fun _ => exF) 1 (m ns)))
    (hm : ∀ ns : List Int, ns.length ≤ n → ∃ st, m ns [.scr] [] = .ok (.bl true) st) (hCX : ∀ (w : World) (H : Hp) (s : Shared) (e : Value) (s' : Shared), CX w [] H s (fun _ _ _ => False) e s' → False) : PySem.W.WalkO q loose XP YP l.row.toRowW d [] (fun f vs => PySem.call f vs) := by
  refine Att.attach_call hn hdf fun w s0 s1 mg mb fa o pm cd doc a vs ns G Y ho hd hcd hmg hobj hints hlen hg => ?_
  obtain ⟨K, fd, cl, KX, hb, hF⟩ := F w mg fa _ Y G.T.g hmg
  refine endG KX G.T.g G.T.b G.T.builtins G.T.nolimit hg hobj hints (Nat.le_trans hlen hn2) hr (hF a ns) hb (fun H hf hA hS hS2 => ?_) fun H e s' => hCX w H s1 e s'
  obtain ⟨st, e⟩ := hm ns hlen
  refine ⟨rfl, [.scr], [], [], ⟨rfl, fun l a o h => by simp at h, List.nodup_nil, ?_⟩, .cons .scr .nil, ?_⟩
  · cases q : H a with
    | none => exact .inr (hS2 q)
    | some o =>
      obtain ⟨ob, rfl⟩ := hf o q
      exact .inl ⟨ob, q⟩
  · rw [e]
    intro bs' H' _ _ v r
    cases r
    rfl
end Pm
end
section
set_option Elab.async false
set_option linter.all false
set_option maxRecDepth 100000
namespace Pm
open PySem PySem.Spec PyProof.Rows L2
/-! ### keywords -/
def permL {α : Type} (ix : List Nat) (zs : List α) : List α := ix.filterMap fun i => zs[i]?
theorem permL_vals {vs : List V} {us : List Value} (r : Vals vs us) : ∀ ix : List Nat, Vals (permL ix vs) (permL ix us)
  | [] => .nil
  | i :: ix => by
    unfold permL
    rw [List.filterMap_cons, List.filterMap_cons]
    cases e : vs[i]? with
    | none =>
      rw [Vals.none_of r e]
      exact permL_vals r ix
    | some v =>
      obtain ⟨u, hu, rv⟩ := r.get e
      rw [hu]
      exact .cons rv (permL_vals r ix)
theorem permL_RDs {c : Ct} {bs : List Addr} {H : Hp} {vs : List V} {ds : List D} (r : RDs c bs H vs ds) : ∀ ix : List Nat, RDs c bs H (permL ix vs) (permL ix ds)
  | [] => .nil
  | i :: ix => by
    unfold permL
    rw [List.filterMap_cons, List.filterMap_cons]
    cases e : ds[i]? with
    | none =>
      have e2 : vs[i]? = none := by
        rw [List.getElem?_eq_none_iff] at e ⊢
        rw [r.length]; exact e
      rw [e2]
      exact permL_RDs r ix
    | some d =>
      obtain ⟨v, hv, rv⟩ := r.get e
      rw [hv]
      exact .cons rv (permL_RDs r ix)
/-- how keywords alone bind -/
def KB (K : PySem.W.Frag) (fd : FuncData) (ps ks : List Str) (ix : List Nat) : Prop := ∀ (s : Shared) (ws : List Value), K.In s.heap → ws.length = ks.length → BindsTo s fd ⟨[], ks.zip ws⟩ (ps.zip (permL ix ws))
theorem kb_of {K : PySem.W.Frag} {x qual : Str} {params : Arguments} {body : List Stmt} {scope : Scope} {kws : List (Str × V)} {f : Addr} {fd : FuncData} {ps ks : List Str} {ix : List Nat} (F : FunD K x qual params body scope [] kws f fd)
    (h : ∀ (kV doc pm : Value) (an : Option Addr) (cdv ct : Value) (ws : List Value), ws.length = ks.length → bindArgs (PySem.W.fnOf x qual params body scope .none kV doc pm an cdv ct) ⟨[], ks.zip ws⟩ = pure (ps.zip (permL ix ws))) : KB K fd ps ks ix := by
  obtain ⟨oc, od, dV, kV, doc, pm, an, cdv, ct, osl, rfl, lk, hcd, hD, hK⟩ := F.ex
  rcases hD with ⟨_, rfl⟩ | ⟨e, _⟩
  · exact fun s ws _ hl => .of_eq (h kV doc pm an cdv ct ws hl)
  · exact absurd rfl e
section
variable {X : Cx} {CX : CXT} {k n : Nat} {f : Addr} {fd : FuncData} {ps ks : List Str} {ix : List Nat} {sp : Sp} {E : XK} {x : Str} {p pos kpos : Pos} {e : Expr} {kws : List Keyword} {c : Ct} {wx : XK → Wh} {ex : Wh} {f1 : ME} {g : MA} {m : List D → M D} {nm : Option Str}
theorem mk_nil : PK X [] (tA c ex nilA) := ⟨fun pos pins s σ H Q I q => by
  obtain ⟨ρ, st, bs, rl, re, p⟩ := q
  exact pk_nil.run pos pins s σ H Q I (p.now rl [] .nil)⟩
theorem mk_cons (ha : PE X e (tE c ex f1)) (hr : PK X kws (tA c ex g)) : PK X (⟨nm, e, kpos⟩ :: kws) (tA c ex (conA f1 g)) := ⟨fun pos pins s σ H Q I q => by
  refine (pk_cons ha hr).run pos pins s σ H Q I ?_
  obtain ⟨ρ, st, bs, rl, re, p⟩ := q
  refine ⟨ρ, st, bs, rl, re, p.bnd.imp fun d st1 bs1 H1 e1 rl1 p1 v rv => ?_⟩
  exact ⟨ρ, st1, bs1, rl1, re.ext e1, p1.bnd.imp fun ds st2 bs2 H2 e2 rl2 p2 vs rvs => p2.now rl2 _ (.cons (rv.ext e2) rvs)⟩⟩
def kwE (ix : List Nat) (nk : Nat) (g : MA) (m : List D → M D) : ME := fun ρ => bnd (g ρ) fun zs => if zs.length = nk then m (permL ix zs) else no
theorem md_callK0 (F : FnG X.prog X.w X.K X.mg X.base CX k f fd ps (spM c wx n m)) (hr : Room k X.A) (hgd : X.A.guards = some []) (hg : Gl X x) (hm : X.mg x = some (.ref f)) (hk : PySem.W.keepIn X.K (.ref f) = true) (hb : KB X.K fd ps ks ix) (hx : Passes CX X E) (hE : wx E = ex)
    (hkw : PK X kws (tA c ex g)) (hix : ∀ zs : List D, zs.length = ks.length → (permL ix zs).length = n) (hn : n = ps.length) (hall : (backToKw pos (keywordEach kws X.env)).all (·.1.isSome) = true := by rfl) (hks : (backToKw pos (keywordEach kws X.env)).filterMap (·.1) = ks := by rfl) (hdb : (x == ("__debug__" : Str)) = false := by decide)
    (hpl : (backToKw pos (keywordEach kws X.env)).any (·.1.isNone) = false := by rfl) :
    PE X (.Call (.Name x p) [] kws pos) (tE c ex (kwE ix ks.length g m)) := ⟨fun pins s σ H Q I q => by
  refine wpAny_Call_Name_kw (ld_glob I hg hm ?_ hdb)
  obtain ⟨ρ, st, bs, rl, re, q⟩ := q
  have rd : tA c ex g σ H fun zs H1 => zs.length = ks.length ∧ spM c wx n m (permL ix zs) H1 Q E := by
    refine ⟨ρ, st, bs, rl, re, q.bnd.imp fun ds st1 bs1 H1 e1 rl1 q1 vs rvs => ?_⟩
    obtain ⟨hl, q1⟩ := Post.iff (m := m (permL ix ds)) q1
    have r2 := permL_RDs rvs ix
    subst hE
    exact ⟨by rw [rvs.length]; exact hl, by rw [r2.length]; exact hix ds hl, permL ix ds, st1, bs1, rl1, r2, q1⟩
  refine PySem.W.callWith_KW0 (h₀ := X.base) I.ok.mod.kin hk hall (thn (hkw.run pos pins s σ H _ I rd) fun ws s2 ⟨zs, H2, I2, rz, hz, q2⟩ => ⟨I2.kIn, ?_⟩) (by rw [hpl]; rfl)
  rw [hks]
  have r2 := permL_vals rz ix
  have hw : ws.length = ks.length := by rw [← rz.length]; exact hz
  have run := F.go X.A X.stack s2 H2 ⟨[], ks.zip ws⟩ (permL ix ws) (permL ix zs) Q E hr hgd I2.env0 (hb s2 ws I2.kIn hw) r2 q2
  refine wpAny_call (codeAny_mono run fun r s' hq => ?_)
  match r, hq with
  | .error e, hq => exact hx pins σ H2 s2 e s' I2 hq
  | .ok (.ret u), hq => exact I2.after hq⟩
end
end Pm
end
section
set_option Elab.async false
set_option linter.all false
set_option maxRecDepth 100000
namespace PySem
open AutoSeq1 (wpAny_loadPart')
theorem pm_enumT (l : Addr) (items : Array Value) (n : Nat) (dct : Option Addr) (sl : Array (Option Value)) : Meets (Builtin.«enumerate.__new__» ⟨[.type "enumerate", .ref l], []⟩) (fun _ R s => s.heap.get? l = some { cls := .type "tuple", dict := dct, data := .seq items n, slots := sl } ∧
      R (.ok (.ret (.ref (s.heap.push { cls := .type "tuple_iterator", data := .fields #[.ref l, .int 0 0] }).objs.size))) { s with heap := (s.heap.push { cls := .type "tuple_iterator", data := .fields #[.ref l, .int 0 0] }).push { cls := .type "enumerate", data := .fields #[.none, .bool false, .ref s.heap.objs.size, rawInt 0, .none, .none] } }) := .of_wp fun prog w A R s h => by
  obtain ⟨hp, g, d, tk, os⟩ := s; obtain ⟨hl, h⟩ := h
  have hsub := sub_enumerate
  have hT : Heap.IsTuple (Shared.heap ⟨hp, g, d, tk, os⟩) l items := ⟨_, hl, rfl, n, rfl⟩
  wp_walk using wpAny_loadPart' hl
  refine wpAny_stack_any fun st => wpAny_pure ?_
  split
  · rename_i c _ _ _ _ _
    cases (c == Value.type "enumerate")
    · wp_walk using wpAny_loadPart' hl, wpAny_pyIter_tuple hT
      exact ⟨_, rfl, h⟩
    · wp_walk using wpAny_loadPart' hl, wpAny_pyIter_tuple hT
      exact ⟨_, rfl, h⟩
  · wp_walk using wpAny_loadPart' hl, wpAny_pyIter_tuple hT
    exact ⟨_, rfl, h⟩
end PySem
namespace PySem
section
variable {prog : Program} {w : World} {A : Around} {E : Value → Shared → Prop} {s : Shared}
theorem pm_call_enumT {l : Addr} {items : Array Value} {Q : Value → Shared → Prop} (hL : s.heap.IsTuple l items) (h : ∀ h', IsEnum h' (s.heap.objs.size + 1) s.heap.objs.size 0 .none → h'.IsTupleIter s.heap.objs.size l 0 → (∀ b o, s.heap.get? b = some o → h'.get? b = some o) → Q (.ref (s.heap.objs.size + 1)) { s with heap := h' }) :
    wpAny (model prog w) A (call (.type "enumerate") [.ref l]) Q E s := by
  obtain ⟨⟨c, dct, dt, sl⟩, hl, hc, n, hd⟩ := hL
  have hc : c = .type "tuple" := hc
  have hd : dt = .seq items n := hd
  subst hc hd
  refine callType_new F.called_enumerate (by decide) (F.typeCall_enumerate_1 _) (F.newCall_enumerate_1 _) (fun obj => F.args_object_init_2 obj _) F.entry_enumerate_new (pm_enumT l items n dct sl) ⟨hl, ?_⟩
  have hz : (s.heap.push { cls := .type "tuple_iterator", data := .fields #[.ref l, .int 0 0] }).objs.size = s.heap.objs.size + 1 := Heap.size_push ..
  show _ ∧ _
  rw [hz]
  have he : IsEnum ((s.heap.push { cls := .type "tuple_iterator", data := .fields #[.ref l, .int 0 0] }).push { cls := .type "enumerate", data := .fields #[.none, .bool false, .ref s.heap.objs.size, rawInt 0, .none, .none] }) (s.heap.objs.size + 1) s.heap.objs.size 0 .none := by
    have z := Heap.get?_push_size (s.heap.push { cls := .type "tuple_iterator", data := .fields #[.ref l, .int 0 0] }) (o := { cls := .type "enumerate", data := .fields #[.none, .bool false, .ref s.heap.objs.size, rawInt 0, .none, .none] }) rfl
    rw [hz] at z
    exact z
  exact ⟨⟨_, he, rfl⟩, h _ he ⟨_, Heap.get?_push_of_some _ (Heap.get?_push_size _ rfl), rfl, rfl⟩ fun b o x => Heap.get?_push_of_some _ (Heap.get?_push_of_some _ x)⟩
end
end PySem
namespace Pm
open PySem PySem.Spec PyProof.Rows L2
/-- enumerate(tuple) -/
def ItT (K : PySem.W.Frag) (a : Addr) : It :=
  ⟨fun i H => ∃ xs x, SqT K H a xs ∧ xs[i]? = some x, fun i H v H' => ∃ T x us, v = .ref T ∧ H T = none ∧ H' = upd H T (frT us [.int (i : Nat), x]) ∧ ∀ xs, SqT K H a xs → xs[i]? = some x, fun i H => ∃ xs, SqT K H a xs ∧ xs.length = i⟩
theorem turnT {P : Program} {w : World} {K : PySem.W.Frag} {el : List Expr} {kk : Nat} {tp : Pos} (a e it : Addr) : Turn P w K (.Tuple el kk tp) (ItT K a) [e, it] e fun i h => (∃ old, IsEnum h e it ((i : Nat) : Int) old) ∧ h.IsTupleIter it a i ∧ e ≠ it ∧ a ≠ it ∧ a ≠ e where
  mem := List.mem_cons_self
  obj := fun i h z b hb => by
    obtain ⟨⟨old, he⟩, ⟨o, ho, hc, hd⟩, _⟩ := z
    rcases List.mem_cons.mp hb with rfl | hb
    · exact ⟨_, he, fun v q => nomatch q⟩
    · rw [List.mem_singleton.mp hb]
      exact ⟨o, ho, fun v q => by rw [hd] at q; cases q⟩
  keep := fun i h h' z k => by
    obtain ⟨⟨old, he⟩, hi, r⟩ := z
    exact ⟨⟨old, k e (by simp) _ he⟩, hi.at fun o q => k it (by simp) o q, r⟩
  item := by
    intro X hP hw hK hc i pins s σ H E I hf z hg
    subst hP hw hK
    obtain ⟨⟨old, he⟩, hit, hne, hai, hae⟩ := z
    obtain ⟨xs, x, hq, hx⟩ := hg
    obtain ⟨its, rv, p, hz⟩ := I.tuple hq
    obtain ⟨u, hu, ru⟩ := rv.get hx
    have hel := Heap.lt_size he
    have hil : it < s.heap.objs.size := by
      obtain ⟨_, q, _⟩ := hit
      exact Heap.lt_size q
    have dr : Draws X.prog X.w X.A.in1 it [it, a] its.toArray.size _ _ := Draws.tuple (A := X.A.in1) (I.ok.hd hc) it a hai its.toArray
    have hlt : i < its.toArray.size := by
      rw [List.size_toArray]
      exact (List.getElem?_eq_some_iff.mp hu).1
    refine wpAny_pyNext_enum_itemD dr he ⟨hit, p⟩ hlt hne (by simp [hne, Ne.symm hae]) fun y h1 tk hy ho hst hT hsz hk => ?_
    have ey : y = u := by
      rw [List.getElem?_toArray, hu] at hy
      exact (Option.some.inj hy).symm
    subst ey
    refine ⟨_, rfl, wpAny_letOwnedTupleGo_enum (s := { s with heap := h1, toks := tk + 1 }) ho fun h2 he2 sb => ?_⟩
    have hT2 := (sb.2 _ (Nat.ne_of_gt hel)).trans hT
    have nw : ObjOk X.prog X.w (upd H s.heap.objs.size (frT [.int i tk, y] [.int (i : Nat), x])) h2 s.heap.objs.size (frT [.int i tk, y] [.int (i : Nat), x]) := tupF_ok (by show 2 ≤ sizeLine; decide) (.cons ⟨_, rfl⟩ (.cons ru .nil)) hT2
    have I1 : Inv X pins σ (upd H s.heap.objs.size (frT [.int i tk, y] [.int (i : Nat), x])) { s with heap := h2, toks := tk + 1 } :=
      I.turnedNew (ch := [e, it]) (fun b ob hb q => by
        have n1 : b ≠ e := fun z => hb (by simp [z])
        have n2 : b ≠ it := fun z => hb (by simp [z])
        exact (sb.2 b n1).trans (hk b ob n1 n2 q)) hf (Nat.le_refl _) nw
    refine ⟨.ref s.heap.objs.size, _, I1, rfl, ⟨_, x, _, rfl, I.hok.fresh (Nat.le_refl _), rfl, fun ys hy => by rw [I.tuple_inj hy hq]; exact hx⟩, ⟨⟨y, ?_⟩, hst.1.at fun o q => (sb.2 it (Ne.symm hne)).trans q, hne, hai, hae⟩, fun b hb => ?_⟩
    · rw [show ((i + 1 : Nat) : Int) = (i : Int) + 1 by omega]
      exact he2
    · have hb' : b < s.heap.objs.size := by
        rcases List.mem_cons.mp hb with rfl | hb
        · exact hel
        · rw [List.mem_singleton.mp hb]; exact hil
      rw [upd_ne (Nat.ne_of_lt hb')]
      exact (hf b hb).1
  done := by
    intro X hP hw hK hc i pins s σ H E I hf z hg
    subst hP hw hK
    obtain ⟨⟨old, he⟩, hit, hne, hai, hae⟩ := z
    obtain ⟨xs, hq, hx⟩ := hg
    obtain ⟨its, rv, p, hz⟩ := I.tuple hq
    obtain ⟨f0, f1, f2, f3, f4, f5⟩ := hf it (by simp)
    have dr : Draws X.prog X.w X.A.in1 it [it, a] its.toArray.size _ _ := Draws.tuple (A := X.A.in1) (I.ok.hd hc) it a hai its.toArray
    have en : i = its.toArray.size := by rw [List.size_toArray, ← rv.length]; exact hx.symm
    rw [en] at hit
    exact wpAny_pyNext_enum_endD dr he ⟨hit, p⟩ fun h1 eb => ⟨rfl, I.turned (t' := s.toks) (fun b o hb q => eb b o hb q) f0 f1 f3 f4 f5⟩
  self := fun A i s Q E z h => by
    obtain ⟨⟨_, he⟩, _⟩ := z
    exact wpAny_pyIter_enum he h
def iEnT (K : PySem.W.Frag) (ta : TA) : TI := fun σ H R => ta σ H fun vs H1 => ∃ a xs, vs = [.ref a] ∧ SqT K H1 a xs ∧ R (ItT K a) H1
theorem pi_enT {X : Cx} {e : Expr} {ta : TA} {p pos tp : Pos} {el : List Expr} {kk : Nat} (hg : Gl X "enumerate") (hm : X.mg "enumerate" = none) (ha : PA X [e] ta) (hs : starEach [e] X.env = [(false, eval e X.env)] := by rfl) : PI X (.Tuple el kk tp) (.Call (.Name "enumerate" p) [e] [] pos) (iEnT X.K ta) := by
  refine ⟨fun pins s σ H R I h => ?_⟩
  refine Call_ (ld_blt I hg hm boot_enumerate (PyProof.Rows.callWith_type1 (thn (ha.run pos pins s σ H _ I h) fun us s1 ⟨vs, H1, I1, r1, a, xs, ex, hq, q⟩ => ?_) hs rfl))
  subst ex
  cases r1 with
  | cons r rr =>
    cases rr
    cases r
    obtain ⟨its, rv, p', hz⟩ := I1.tuple hq
    have hlt : a < s1.heap.objs.size := p'.lt
    have n1 : a ≠ s1.heap.objs.size := Nat.ne_of_lt hlt
    have n2 : a ≠ s1.heap.objs.size + 1 := Nat.ne_of_lt (Nat.lt_succ_of_lt hlt)
    have n3 : s1.heap.objs.size + 1 ≠ s1.heap.objs.size := Nat.succ_ne_self _
    refine pm_call_enumT p' fun h1 he hit hk => wpAny_pyIter_enum he ?_
    have I2 : Inv X pins σ H1 { s1 with heap := h1 } := I1.kept (t' := s1.toks) hk
    have t0 : (∃ old, IsEnum h1 (s1.heap.objs.size + 1) s1.heap.objs.size (((0 : Nat) : Nat) : Int) old) ∧ h1.IsTupleIter s1.heap.objs.size a 0 ∧ s1.heap.objs.size + 1 ≠ s1.heap.objs.size ∧ a ≠ s1.heap.objs.size ∧ a ≠ s1.heap.objs.size + 1 := ⟨⟨.none, he⟩, hit, n3, n1, n2⟩
    refine ⟨s1.heap.objs.size + 1, [s1.heap.objs.size + 1, s1.heap.objs.size], _, _, H1, rfl, I2, turnT a (s1.heap.objs.size + 1) s1.heap.objs.size, t0, fun b hb => ?_, q⟩
    have hle : s1.heap.objs.size ≤ b := by
      rcases List.mem_cons.mp hb with rfl | hb
      · exact Nat.le_succ _
      · rw [List.mem_singleton.mp hb]
        exact Nat.le_refl _
    exact I1.fpOk hle (I1.hok.fresh hle)

/-! ### the meaning of enumerate -/
section
variable {X : Cx} {c : Ct} {ex : Wh} {pos tp : Pos} {e : Expr} {f : ME} {bs : List Addr} {H : Hp} {el : List Expr} {kk : Nat}
def enumD (xs : List D) : List D := (List.range xs.length).filterMap fun i => (xs[i]?).map fun x => .tup [.int (i : Nat), x]
theorem enumD_get {xs : List D} {i : Nat} (h : i < xs.length) : (xs.zipIdx.map fun p => D.tup [.int (p.2 : Nat), p.1])[i]? = some (.tup [.int (i : Nat), xs[i]]) := by
  simp [h]
def enuI (f : ME) : MI := fun ρ => bnd (f ρ) fun d => match d with
  | .tup xs => ret ⟨xs.zipIdx.map fun p => .tup [.int (p.2 : Nat), p.1], fun _ => true⟩
  | _ => no
theorem wk_enT {a : Addr} {vs : List V} {xs : List D} (s : SqT c.K H a vs) (r : RDs c bs H vs xs) : Wk c ⟨xs.zipIdx.map fun p => .tup [.int (p.2 : Nat), p.1], fun _ => true⟩ bs H (ItT c.K a) := by
  refine ⟨fun i H' hi ⟨st, bs', e, _, _⟩ => ?_, fun H' ⟨st, bs', e, _, _⟩ => ?_, fun i H' v H2 hi ⟨st0, bs0, e0, _, _⟩ y st bs' e rl _ => ?_⟩
  · have hi : i < vs.length := by rw [r.length]; simpa using hi
    exact ⟨vs, vs[i], e.sqT s, List.getElem?_eq_getElem hi⟩
  · exact ⟨vs, e.sqT s, by rw [r.length]; simp⟩
  · obtain ⟨T, x, us, rfl, hT, rfl, y⟩ := y
    obtain ⟨d, hd, rd⟩ := r.getV (y vs (e.sqT s))
    obtain ⟨e2, rl2⟩ := rl.fresh hT (frT us [.int (i : Nat), x])
    have hi2 : i < xs.length := by simpa using hi
    rw [List.getElem?_eq_getElem hi2] at hd
    cases hd
    exact ⟨e2, rl2, _, enumD_get hi2, .tup sqF dlF (.cons (.int _) (.cons ((rd.ext e).ext e2) .nil))⟩
theorem mi_enu (hK : X.K = c.K) (hg : Gl X "enumerate") (hm : X.mg "enumerate" = none) (ha : PE X e (tE c ex f)) (hs : starEach [e] X.env = (false, eval e X.env) :: starEach [] X.env := by rfl) (hs2 : starEach [e] X.env = [(false, eval e X.env)] := by rfl) {p : Pos} :
    PI X (.Tuple el kk tp) (.Call (.Name "enumerate" p) [e] [] pos) (tI c ex (enuI f)) := PI_imp (pi_enT hg hm (pa_cons ha pa_nil hs) hs2) fun σ H R q => by
  obtain ⟨ρ, st, bs, rl, re, p⟩ := q
  refine ⟨ρ, st, bs, rl, re, p.bnd.imp fun d st1 bs1 H1 e1 rl1 p1 v rv => ?_⟩
  cases rv with
  | tup s tl r => exact ⟨_, _, rfl, by rw [hK]; exact s, by rw [hK]; exact p1.now rl1 _ ⟨wk_enT s r, fun _ _ h _ => wk_enT ((hid_pre (c := c) (bs := bs1) h).sqT _ _ s) (r.mono (hid_pre h))⟩⟩
  | _ => exact p1.elim
end
end Pm
end
section
set_option Elab.async false
set_option linter.all false
set_option maxRecDepth 100000
namespace Pm
open PySem PySem.Spec PyProof.Rows L2
abbrev wF : XK → Wh := fun _ => exF
/-- a def that may be called: its meaning -/
structure Cal (P : Program) (w : World) (K : PySem.W.Frag) (mg : Str → Option Value) (base : Heap) (c : Ct) (x : Str) (n k : Nat) (m : List D → M D) : Prop where
  ex : ∃ f fd ps, FnG P w K mg base (L2.CX P w) k f fd ps (spM c wF n m) ∧ mg x = some (.ref f) ∧ PySem.W.keepIn K (.ref f) = true ∧ Binds K fd ps []
/-- .. by keywords alone -/
structure CalK (P : Program) (w : World) (K : PySem.W.Frag) (mg : Str → Option Value) (base : Heap) (c : Ct) (x : Str) (n k : Nat) (m : List D → M D) (ks : List Str) (ix : List Nat) : Prop where
  ex : ∃ f fd ps, FnG P w K mg base (L2.CX P w) k f fd ps (spM c wF n m) ∧ mg x = some (.ref f) ∧ PySem.W.keepIn K (.ref f) = true ∧ KB K fd ps ks ix ∧ n = ps.length
section
variable {X : Cx} {j k n : Nat} {x : Str} {p pos : Pos} {e : Expr} {es : List Expr} {c : Ct} {g : MA} {m : List D → M D} {kws : List Keyword} {ks : List Str} {ix : List Nat}
theorem md_c (C : Cal X.prog X.w X.K X.mg X.base c x n j m) (hr : Room k X.A) (hj : j ≤ k) (hgd : X.A.guards = some []) (hg : Gl X x) (ha : PA X (e :: es) (tA c exF g)) (hdb : (x == ("__debug__" : Str)) = false := by decide)
    (he : starEach (e :: es) X.env = (false, eval e X.env) :: starEach es X.env := by rfl) (hpl : (backTo pos (starEach es X.env)).any (·.1) = false := by rfl) : PE X (.Call (.Name x p) (e :: es) [] pos) (tE c exF (calE g (ofLen n m))) := by
  obtain ⟨f, fd, ps, F, hm, hk, hb⟩ := C.ex
  exact md_call F (hr.mono hj) hgd hg hm hk hb passL rfl ha hdb he hpl
theorem md_c0 (C : Cal X.prog X.w X.K X.mg X.base c x 0 j m) (hr : Room k X.A) (hj : j ≤ k) (hgd : X.A.guards = some []) (hg : Gl X x) (hdb : (x == ("__debug__" : Str)) = false := by decide) : PE X (.Call (.Name x p) [] [] pos) (tE c exF (calE nilA m)) := by
  obtain ⟨f, fd, ps, F, hm, hk, hb⟩ := C.ex
  exact md_call0 F (hr.mono hj) hgd hg hm hk hb passL rfl hdb
theorem md_ck (C : CalK X.prog X.w X.K X.mg X.base c x n j m ks ix) (hr : Room k X.A) (hj : j ≤ k) (hgd : X.A.guards = some []) (hg : Gl X x) (hkw : PK X kws (tA c exF g)) {nk : Nat} (hix : ∀ zs : List D, zs.length = nk → (permL ix zs).length = n) (hnk : ks.length = nk := by rfl) (hall : (backToKw pos (keywordEach kws X.env)).all (·.1.isSome) = true := by rfl) (hks : (backToKw pos (keywordEach kws X.env)).filterMap (·.1) = ks := by rfl)
    (hdb : (x == ("__debug__" : Str)) = false := by decide) (hpl : (backToKw pos (keywordEach kws X.env)).any (·.1.isNone) = false := by rfl) : PE X (.Call (.Name x p) [] kws pos) (tE c exF (kwE ix nk g m)) := by
  obtain ⟨f, fd, ps, F, hm, hk, hb, hn⟩ := C.ex
  subst hnk
  exact md_callK0 F (hr.mono hj) hgd hg hm hk hb passL rfl hkw hix hn hall hks hdb hpl
theorem md_gint {i : Int} {ex : Wh} (h : ∃ t, X.mg x = some (.int i t)) (hg : Gl X x) (hd : (x == ("__debug__" : Str)) = false := by decide) : PE X (.Name x pos) (tE c ex (kon (.int i))) := by
  obtain ⟨t, h⟩ := h
  exact md_glob (v := .int i) hg h ⟨t, rfl⟩ (fun _ _ => .int i) hd
end
section
variable {P : Program} {w : World} {K : PySem.W.Frag} {mg : Str → Option Value} {base : Heap} {k : Nat} {f : Addr} {fd : FuncData} {N ps ks : List Str} {ix : List Nat} {c : Ct} {b : MS} {x : Str} {st : Stmt}
abbrev FnP (K : PySem.W.Frag) (x : Str) (st : Stmt) (f : Addr) (fd : FuncData) : Prop := FunD K x x (defArgs st) (defBody st) (defScope st) [] [] f fd
theorem cal_of {n : Nat} {m : List D → M D} (F : FnP K x st f fd) (g : mg x = some (.ref f)) (hb : Binds K fd ps []) (G : FnG P w K mg base (L2.CX P w) k f fd ps (spM c wF n m)) : Cal P w K mg base c x n k m := ⟨f, fd, ps, G, g, F.kp, hb⟩
theorem calK_of {n : Nat} {m : List D → M D} (F : FnP K x st f fd) (g : mg x = some (.ref f)) (hb : KB K fd ps ks ix) (G : FnG P w K mg base (L2.CX P w) k f fd ps (spM c wF n m)) (hn : n = ps.length := by rfl) : CalK P w K mg base c x n k m ks ix := ⟨f, fd, ps, G, g, F.kp, hb, hn⟩
theorem pass_own {P : Program} {w : World} {K : PySem.W.Frag} {mg : Str → Option Value} {base : Heap} {N : List Str} {qual : Str} {scope : Scope} {f : Addr} {cd : Value} {A : Around} {out : List Env} {s : Shared} {H : Hp} {E : XK} :
    PassesOwn (model P w) (cxOf (L2.CX P w) P w K mg base N qual scope f cd A out s H E).A (cxOf (L2.CX P w) P w K mg base N qual scope f cd A out s H E).env (cxOf (L2.CX P w) P w K mg base N qual scope f cd A out s H E).xe := passes_of (X := cxOf (L2.CX P w) P w K mg base N qual scope f cd A out s H E) rfl
end
end Pm
end
section
set_option Elab.async false
set_option linter.all false
set_option maxRecDepth 100000
set_option maxHeartbeats 2000000
namespace Pm
open PySem PySem.Spec PyProof.Rows L2

/-! ### *xs in a display, {} -/
def seqD (ns : List Int) : D → M (List D)
  | .tup xs => ret xs
  | .loc l => lst l
  | .scr => ret (ns.map D.int)
  | _ => no
def staA (ns : List Int) (f : ME) (g : MA) : MA := fun ρ => bnd (f ρ) fun x => bnd (seqD ns x) fun xs => bnd (g ρ) fun ys => ret (xs ++ ys)
def dct0 : ME := fun _ => allocO (.dct [])
section
variable {X : Cx} {c : Ct} {ex : Wh} {e : Expr} {es : List Expr} {f : ME} {g : MA} {p pos : Pos}
theorem ma_star (hK : X.K = c.K) (ha : PE X e (tE c ex f)) (hr : PA X es (tA c ex g)) (hs : starEach (.Starred e p :: es) X.env = (true, eval e X.env) :: starEach es X.env := by rfl) : PA X (.Starred e p :: es) (tA c ex (staA c.ns f g)) :=
  PA_imp (StX.pa_star ha hr hs) fun σ H Q q => by
    obtain ⟨ρ, st, bs, rl, re, p⟩ := q
    refine ⟨ρ, st, bs, rl, re, p.bnd.imp fun d st1 bs1 H1 e1 rl1 p1 v rv => ?_⟩
    rw [hK]
    cases rv with
    | @tup a vs ds s tl r =>
      exact ⟨a, vs, rfl, .inl s, ρ, st1, bs1, rl1, re.ext e1, Post.bnd (m := g ρ) p1 |>.imp fun ys st2 bs2 H2 e2 rl2 p2 ws rws => p2.now rl2 _ ((r.ext e2).append rws)⟩
    | loc h =>
      obtain ⟨a, vs, xs, e, hb, hl, hv, r, p2⟩ := post_lst (k := fun _ _ _ _ => True) p1 rl1 (RD.loc h)
      cases e
      exact ⟨_, vs, rfl, .inr (SqL.of hv), ρ, st1, bs1, rl1, re.ext e1, Post.bnd (m := g ρ) p2 |>.imp fun ys st2 bs2 H2 e2 rl2 p3 ws rws => p3.now rl2 _ ((r.ext e2).append rws)⟩
    | scr => exact ⟨_, _, rfl, .inr rl1.scr.sq, ρ, st1, bs1, rl1, re.ext e1, Post.bnd (m := g ρ) p1 |>.imp fun ys st2 bs2 H2 e2 rl2 p2 ws rws => p2.now rl2 _ (((RDs.ints c.ns).ext e2).append rws)⟩
    | _ => exact p1.elim
theorem post_allocO {bs : List Addr} {H : Hp} {st : Sto} {q : Addr} {o : HO} {u : O} {k : D → Sto → List Addr → Hp → Prop} (p : Post c ex (allocO u st) bs H k) (rl : Rel c bs H st) (hp : H q = none) (r : Pre c bs H (bs ++ [q]) (upd H q o) → ROb c (bs ++ [q]) (upd H q o) q u) :
    k (.loc st.length) (st ++ [u]) (bs ++ [q]) (upd H q o) ∧ RD c (bs ++ [q]) (upd H q o) (.ref q) (.loc st.length) := by
  obtain ⟨e, rl'⟩ := rl.laid hp r
  exact ⟨Post.at (st := st ++ [u]) p e rl', .loc (by rw [← rl.len]; simp)⟩
theorem md_dct0 : PE X (.Dict [] [] pos) (tE c ex dct0) := PE_imp pe_dnewK fun σ H Q q => by
  obtain ⟨ρ, st, bs, rl, re, p⟩ := q
  intro q hq
  obtain ⟨k, r⟩ := post_allocO (o := .dK []) p rl hq fun m => ⟨[], upd_same, rfl, .nil⟩
  exact k _ r
end
end Pm
/-! ### xs[::-1] of a tuple -/
namespace Pm
open PySem PySem.Spec PyProof.Rows L2 HT
theorem pick_rev (xs : Array Value) : ((List.range xs.size).filterMap fun (m : Nat) => xs[(((xs.size : Int) - 1) + (m : Int) * (-1)).toNat]?).toArray = xs.toList.reverse.toArray := by
  have e1 : ((List.range xs.size).filterMap fun (m : Nat) => xs[(((xs.size : Int) - 1) + (m : Int) * (-1)).toNat]?) = ((List.range xs.size).map fun k => xs.size - 1 - k).filterMap (xs[·]?) := by
    rw [List.filterMap_map]
    congr 1
    funext m
    show xs[_]? = xs[_]?
    congr 1
    show (((xs.size : Int) - 1) + (m : Int) * (-1)).toNat = xs.size - 1 - m
    omega
  rw [e1, PySem.W.krv_range, List.filterMap_reverse, PySem.W.krv_all]
section
variable {prog : Program} {w : World} {A : Around} {E : Value → Shared → Prop} {s : Shared}
theorem sliceApplied_rev {sl : Addr} {vl vu vs : Value} {n : Nat} {Q : Int × Int × Nat → Shared → Prop} (hs : s.heap.IsSliceOf sl vl vu vs) (pl : IsPart vl none) (pu : IsPart vu none) (ps : IsPart vs (some (-1)))
    (h : Q ((n : Int) - 1, -1, n) s) : wpAny (model prog w) A (Builtin.Slice.sliceApplied (.ref sl) (pure (n : Int))) Q E s := by
  obtain ⟨os, hos, hcs, hds⟩ := id hs
  unfold Builtin.Slice.sliceApplied Builtin.Slice.sliceFields
  refine wpAny_bind (wpAny_bind (wpAny_field hos hds (x := vl) rfl (wpAny_bind (wpAny_field hos hds (x := vu) rfl (wpAny_bind (wpAny_field hos hds (x := vs) rfl (wpAny_pure ?_)))))))
  refine wpAny_bind (slicePart_ ps ?_)
  show wpAny _ _ (if ((-1 : Int) == 0) = true then _ else _) _ _ s
  rw [if_neg (by decide)]
  refine wpAny_bind (slicePart_ pl (wpAny_bind (slicePart_ pu (wpAny_bind (wpAny_pure ?_)))))
  have e1 : Builtin.Slice.sliceAdjust none none (-1) (n : Int) = ((n : Int) - 1, -1) := rfl
  show wpAny _ _ (match Builtin.Slice.sliceAdjust none none (-1) (n : Int) with | (lo, hi) => pure (lo, (-1 : Int), Builtin.Slice.slicePlaces lo hi (-1))) _ _ s
  rw [e1]
  show wpAny _ _ (pure ((n : Int) - 1, (-1 : Int), Builtin.Slice.slicePlaces ((n : Int) - 1) (-1) (-1))) _ _ s
  have e2 : Builtin.Slice.slicePlaces ((n : Int) - 1) (-1) (-1) = n := by
    unfold Builtin.Slice.slicePlaces
    rw [if_neg (by decide)]
    split
    · rw [show (- -1 : Int) = 1 by decide, Int.ediv_one]; omega
    · omega
  rw [e2]
  exact wpAny_pure h
theorem getItem_tuple_rev {t sl : Addr} {items : Array Value} {vl vu vs : Value} {Q : Value → Shared → Prop} (ht : IsTup s.heap t items) (hs : s.heap.IsSliceOf sl vl vu vs) (pl : IsPart vl none) (pu : IsPart vu none) (ps : IsPart vs (some (-1)))
    (h : Q (.ref s.heap.objs.size) { s with heap := s.heap.push { cls := .type "tuple", data := .seq items.toList.reverse.toArray } })
    (hsz : items.size ≤ sizeLine) : wpAny (model prog w) A (getItem (.ref t) (.ref sl)) Q E s := by
  have htake : sizeOk (.seq items.toList.reverse.toArray) := by
    show items.toList.reverse.toArray.size ≤ sizeLine
    rw [List.size_toArray, List.length_reverse, Array.length_toList]
    exact hsz
  have ty : s.TypeIs (.ref sl) "slice" := by
    obtain ⟨os, hos, hcs, _⟩ := hs
    exact ⟨os, hos, hcs⟩
  have hno : ¬ ((((items.size : Int) - 1) == 0 && (-1 : Int) == 1 && items.size == items.size) = true) := fun q => by
    rw [Bool.and_eq_true, Bool.and_eq_true] at q; exact absurd (eq_of_beq q.1.2) (by decide)
  unfold getItem
  (try with_reducible refine wpAny_holding ?_); (first | refine wpAny_bind (wpAny_pure ?_) | skip); refine wpAny_bind (wpAny_sequenceKey ht.typeIs (by decide) (wpAny_bind (wpAny_callSpecial?_slot (name := Str.ofString "__getitem__") ht.typeIs PyProof.Rows.slot_tuple_getitem (wpAny_call_entry PyProof.Rows.slot_tuple_getitem ht.typeIs entry_tuple_getitem ?_ (args_tuple_getitem _ _)))))
  (show wpAny _ _ (Builtin.Tuple.tupleItemsOf (.ref t) >>= _) _ _ s); refine wpAny_bind (tupleItemsOf_ ht (wpAny_bind (wpAny_typeOf ty ?_))); rw [if_pos (by decide)]; refine wpAny_bind (sliceApplied_rev hs pl pu ps ?_)
  (show wpAny _ _ (if (((items.size : Int) - 1) == 0 && (-1 : Int) == 1 && items.size == items.size) = true then _ else _) _ _ s); rw [if_neg hno, pick_rev]
  first | exact wpAny_bind (m := Builtin.Tuple.tupleExact _) (wpAny_newObj_type (wpAny_pure ⟨_, rfl, wpAny_pure h⟩) htake) | exact wpAny_bind (m := Builtin.Tuple.tupleExact _) (wpAny_newObj_type (wpAny_bind (wpAny_pure (wpAny_pure ⟨_, rfl, wpAny_pure h⟩))) htake) | exact wpAny_bind (wpAny_bind (m := Builtin.Tuple.tupleExact _) (wpAny_newObj_type (wpAny_pure (wpAny_pure ⟨_, rfl, wpAny_pure h⟩)) htake)) | exact wpAny_bind (wpAny_bind (m := Builtin.Tuple.tupleExact _) (wpAny_newObj_type (wpAny_pure ⟨_, rfl, wpAny_pure h⟩) htake))
end
/-- a list's, a tuple's -/
def tRevA (K : PySem.W.Frag) (te : TE) : TE := fun σ H Q => te σ H fun x H1 => ∃ a xs, x = .ref a ∧ ((SqL K H1 a xs ∧ ∀ p, H1 p = none → Q (.ref p) (upd H1 p (.lst xs.reverse))) ∨ (SqT K H1 a xs ∧ ∀ p us, H1 p = none → Q (.ref p) (upd H1 p (frT us xs.reverse))))
def opRev (ns : List Int) : D → M D
  | .tup xs => ret (.tup xs.reverse)
  | .loc l => bnd (lst l) fun xs => alloc xs.reverse
  | .scr => alloc (ns.map D.int).reverse
  | _ => no
section
variable {X : Cx} {c : Ct} {ex : Wh} {e : Expr} {te : TE} {f : ME} {k : Nat} {p1 p2 p3 pos : Pos}
theorem pe_revA (he : PE X e te) : PE X (.Subscript e (.Slice none none (some (.UnaryOp .USub (.Constant (.int 1) k p1) p2)) p3) pos) (tRevA X.K te) := by
  refine ⟨fun pins s σ H Q I h => ?_⟩
  refine Subscript_ (thn (he.run pins s σ H _ I h) fun v s1 ⟨x, H1, I1, r1, q1⟩ => ?_)
  obtain ⟨a, xs, ex, q⟩ := q1
  subst ex
  cases r1
  have hst : PO X (some (.UnaryOp .USub (.Constant (.int 1) k p1) p2)) (tPart (tUn (rU fun i => .int (-i)) (tC (.int 1)))) := po_some (pe_un un_neg pe_int)
  refine wpAny_Slice (thn (po_none.run pins s1 σ H1 (fun o H2 => o = none ∧ H2 = H1) I1 ⟨rfl, rfl⟩) fun vl s2 ⟨l, H2, I2, pl, el, e2⟩ => ?_)
  subst el e2
  refine thn (po_none.run pins s2 σ H2 (fun o H3 => o = none ∧ H3 = H2) I2 ⟨rfl, rfl⟩) fun vu s3 ⟨u, H3, I3, pu, eu, e3⟩ => ?_
  subst eu e3
  refine thn (hst.run pins s3 σ H3 (fun o H4 => o = some (-1) ∧ H4 = H3) I3 ⟨1, rfl, -1, rfl, rfl, rfl⟩) fun vs s4 ⟨o, H4, I4, ps, eo, e4⟩ => ?_
  subst eo e4
  have I5 : Inv X pins σ H4 { s4 with heap := s4.heap.push { cls := .type "slice", data := .fields #[vl, vu, vs] } } := I4.kept (t' := s4.toks) fun b ob q => Heap.get?_push_of_some _ q
  show wpAny (model X.prog X.w) X.A (subscriptTail e (.Slice none none (some (.UnaryOp .USub (.Constant (.int 1) k p1) p2)) p3) (.ref a) (.ref s4.heap.objs.size)) (EP X pins σ Q) X.xe { s4 with heap := s4.heap.push { cls := .type "slice", data := .fields #[vl, vu, vs] } }
  rcases q with ⟨hx, q⟩ | ⟨hx, q⟩
  · obtain ⟨its, r, ht, hz⟩ := I5.list hx
    have hlen := r.length
    refine tail_any (ops := [.ref a, .ref s4.heap.objs.size]) ht.isList.typeIs (PySem.slot_list_getitem.lookup) ?_ (by with_unfolding_all rfl)
    refine wpAny_getItem_list_slice ht.isList (Heap.IsSliceOf.new _ vl vu vs) pl pu ps (by decide) ?_ (by rw [List.size_toArray]; omega)
    rw [PySem.W.krv_pick]
    refine ⟨.ref _, _, I5.laid (t' := s4.toks) (o := .lst xs.reverse) (fun b ob q => Heap.get?_push_of_some _ q) (Nat.le_refl _) ?_, rfl, q _ (I5.hok.fresh (Nat.le_refl _))⟩
    exact ⟨by rw [List.length_reverse]; exact hz, _, 0, r.reverse, Heap.get?_push_size _ rfl⟩
  · obtain ⟨its, r, ht, hz⟩ := I5.tuple hx
    have hlen := r.length
    refine tail_any (ops := [.ref a, .ref s4.heap.objs.size]) ht.typeIs (PyProof.Rows.slot_tuple_getitem.lookup) ?_ (by with_unfolding_all rfl)
    refine getItem_tuple_rev ht (Heap.IsSliceOf.new _ vl vu vs) pl pu ps ?_ (by rw [List.size_toArray]; omega)
    exact ⟨.ref _, _, tupN I5 (by rw [List.length_reverse]; exact hz) r.reverse s4.toks, rfl, q _ _ (I5.hok.fresh (Nat.le_refl _))⟩
theorem md_rev (hK : X.K = c.K) (he : PE X e (tE c ex f)) : PE X (.Subscript e (.Slice none none (some (.UnaryOp .USub (.Constant (.int 1) k p1) p2)) p3) pos) (tE c ex (una f (opRev c.ns))) := PE_imp (pe_revA he) fun σ H Q q => by
  obtain ⟨ρ, st, bs, rl, re, p⟩ := q
  refine ⟨ρ, st, bs, rl, re, p.bnd.imp fun d st1 bs1 H1 e1 rl1 p1 v rv => ?_⟩
  rw [hK]
  cases rv with
  | @tup a vs ds s tl r =>
    refine ⟨_, vs, rfl, .inr ⟨s, fun q us hq => ?_⟩⟩
    obtain ⟨e, rl'⟩ := rl1.fresh hq (frT us vs.reverse)
    exact Post.at (st := st1) p1 e rl' _ (.tup sqF dlF (r.reverse.ext e))
  | loc h =>
    obtain ⟨a, vs, xs, e, hb, hl, hv, r, p2⟩ := post_lst (k := fun _ _ _ _ => True) p1 rl1 (RD.loc h)
    cases e
    refine ⟨_, vs, rfl, .inl ⟨SqL.of hv, fun q hq => ?_⟩⟩
    obtain ⟨k, r⟩ := post_alloc p2 rl1 hq r.reverse
    exact k _ r
  | scr =>
    refine ⟨_, _, rfl, .inl ⟨rl1.scr.sq, fun q hq => ?_⟩⟩
    obtain ⟨k, r⟩ := post_alloc p1 rl1 hq (RDs.ints c.ns).reverse
    exact k _ r
  | _ => exact p1.elim
end
/-! ### xs.pop(i) -/
theorem RDs.erase {c : Ct} {bs : List Addr} {H : Hp} : ∀ {vs : List V} {ds : List D} (i : Nat), RDs c bs H vs ds → RDs c bs H (vs.eraseIdx i) (ds.eraseIdx i)
  | _, _, _, .nil => .nil
  | _, _, 0, .cons _ t => t
  | _, _, i + 1, .cons r t => .cons r (RDs.erase i t)
def mPopAt : D → List D → M D
  | .loc l, [.int i] => bnd (lst l) fun xs => if -(2 ^ 63) ≤ i ∧ i < 2 ^ 63 then match ixN xs.length i with
    | some j => match xs[j]? with
      | some d => bnd (put l (xs.eraseIdx j)) fun _ => ret d
      | none => no
    | none => no
    else no
  | _, _ => no
section
variable {X : Cx} {c : Ct} {ex : Wh} {bs : List Addr} {H : Hp} {st : Sto} {pos apos : Pos} {o e : Expr} {fo : ME} {g : MA}
theorem md_popAt (hK : X.K = c.K) (ho : PE X o (tE c ex fo)) (ha : PA X [e] (tA c ex g)) (hbase : attributeBase o "pop" X.env (eval o X.env) = eval o X.env := by rfl)
    (hfew : ((backTo pos (starEach [e] X.env)).all (fun x => !x.1) && (backToKw pos (keywordEach [] X.env)).all (fun x => x.1.isSome) && decide ([e].length + ([] : List Keyword).length + (if ([] : List Keyword).isEmpty then 0 else 1) < 30)) = true := by rfl)
    (hline : (apos.endLine == pos.line) = true := by rfl) (hs : starEach [e] X.env = (false, eval e X.env) :: starEach [] X.env := by rfl) (hplain : (backTo pos (starEach [] X.env)).any (·.1) = false := by rfl) :
    PE X (.Call (.Attribute o "pop" apos) [e] [] pos) (tE c ex (meth fo g mPopAt)) :=
  PE_imp (pe_bm PySem.F.plainAttrs_list PySem.F.slot_list_pop PySem.F.type_list_pop mt_popAt ho ha hbase hfew hline hs hplain) fun σ H Q q => by
    obtain ⟨ρ, st, bs, rl, re, p⟩ := q
    refine ⟨ρ, st, bs, rl, re, p.bnd.imp fun d st1 bs1 H1 e1 rl1 p1 v rv => ?_⟩
    obtain ⟨⟨a, xs, l, rfl, sl, rfl⟩, p1⟩ := post_isL p1 rl1 rv
    refine ⟨.inl ⟨rfl, xs, by rw [hK]; exact sl⟩, ρ, st1, bs1, rl1, re.ext e1, p1.bnd.imp fun ds st2 bs2 H2 e2 rl2 p2 vs rvs => ?_⟩
    have rv := rv.ext e2
    cases rv with
    | loc h =>
      match ds, rvs, p2 with
      | [.int i], .cons (.int _) .nil, p2 =>
        obtain ⟨a, ws, ys, ee, hb, hl, hv, r5, p4⟩ := post_lst (k := fun _ _ _ _ => True) p2 rl2 (RD.loc h)
        cases ee
        obtain ⟨⟨h1, h2⟩, p4⟩ := Post.iff (m := match ixN ys.length i with
          | some j => match ys[j]? with
            | some d => bnd (put _ (ys.eraseIdx j)) fun _ => ret d
            | none => no
          | none => no) p4
        cases e5 : ixN ys.length i with
        | none => simp only [e5] at p4; exact p4.elim
        | some j =>
          simp only [e5] at p4
          cases e6 : ys[j]? with
          | none => simp only [e6] at p4; exact p4.elim
          | some d =>
            simp only [e6] at p4
            obtain ⟨v, hv2, rv2⟩ := r5.get e6
            obtain ⟨rl6, e7, p6⟩ := post_put (k := fun _ _ _ _ => True) p4 rl2 hb hl (r5.erase j)
            exact ⟨_, _, i, j, v, rfl, rfl, hv, h1, h2, by rw [r5.length]; exact (ixN_seq e5).1, hv2, p6.now rl6 _ (rv2.ext e7)⟩
end
end Pm
end
section
set_option Elab.async false
set_option linter.all false
set_option maxRecDepth 100000
set_option maxHeartbeats 2000000
namespace Pm
open PySem PySem.Spec PyProof.Rows L2

/-! ### isinstance(x, (T, U)) -/
def tyD : D → M String
  | .non => ret "NoneType"
  | .bl _ => ret "bool"
  | .int _ => ret "int"
  | .str _ => ret "str"
  | .tup _ => ret "tuple"
  | .loc l => bnd (obj l) fun o => match o with
    | .lst _ => ret "list"
    | .dct _ => ret "dict"
    | .ins _ _ => no
  | .scr => no
def isi2 (T U : String) (d : D) : M D := bnd (tyD d) fun t => ret (.bl (isT t T || isT t U))
section
variable {X : Cx} {c : Ct} {ex : Wh} {bs : List Addr} {H : Hp} {st : Sto} {pos : Pos} {a : Expr} {f : ME}
theorem ty_of {d : D} {t : String} {st' : Sto} (q : tyD d st = .ok t st') (rl : Rel c bs H st) {v : V} (r : RD c bs H v d) :
    t ∈ ["NoneType", "bool", "int", "str", "tuple", "list", "dict"] ∧ TyX c.K H v (.type t) ∧ st' = st := by
  cases r with
  | non => cases q; exact ⟨by simp, .base .non, rfl⟩
  | bl b => cases q; exact ⟨by simp, .base (.bl b), rfl⟩
  | int i => cases q; exact ⟨by simp, .base (.int i), rfl⟩
  | str x => cases q; exact ⟨by simp, .base (.str x), rfl⟩
  | @tup a vs ds s tl r =>
    cases q
    refine ⟨by simp, ?_, rfl⟩
    rcases s with (s | ⟨o, s⟩) | ⟨o, its, n, hk, hc, _⟩
    · exact .base (.tup s)
    · exact .fTuple s
    · exact .kTuple hk hc
  | @loc a l h =>
    have q1 : (bnd (obj l) fun o => match o with
      | .lst _ => ret "list"
      | .dct _ => ret "dict"
      | .ins _ _ => no) st = .ok t st' := q
    unfold bnd obj at q1
    cases e : st[l]? with
    | none => rw [e] at q1; cases q1
    | some o =>
      rw [e] at q1
      have ro := rl.obj l a o h e
      cases o with
      | lst xs =>
        obtain ⟨vs, hv, r⟩ := ro
        cases q1
        exact ⟨by simp, .base (.lst hv), rfl⟩
      | dct kvs =>
        obtain ⟨vks, hv, e, r⟩ := ro
        cases q1
        exact ⟨by simp, .base (.dK hv), rfl⟩
      | ins _ _ => cases q1
  | scr => cases q
theorem md_isi2 {T U x y : _} {p1 p2 p3 p4 : Pos} {kt} (hK : X.K = c.K) (hT : okT T = true) (hU : okT U = true) (hg : Gl X "isinstance") (hm : X.mg "isinstance" = none) (hv : bootBuiltins "isinstance" = some (.builtin "isinstance")) (ha : PE X a (tE c ex f))
    (hg2 : Gl X x) (hm2 : X.mg x = none) (hv2 : bootBuiltins x = some (.type T)) (hg3 : Gl X y) (hm3 : X.mg y = none) (hv3 : bootBuiltins y = some (.type U))
    (hn : x ≠ "__name__" := by decide) (hdb : (x == ("__debug__" : Str)) = false := by decide) (hn3 : y ≠ "__name__" := by decide) (hdb3 : (y == ("__debug__" : Str)) = false := by decide)
    (he : starEach [a, .Tuple [.Name x p2, .Name y p3] kt p4] X.env = (false, eval a X.env) :: starEach [.Tuple [.Name x p2, .Name y p3] kt p4] X.env := by rfl) (he2 : starEach [.Tuple [.Name x p2, .Name y p3] kt p4] X.env = (false, eval (.Tuple [.Name x p2, .Name y p3] kt p4) X.env) :: starEach [] X.env := by rfl)
    (he3 : starEach [.Name x p2, .Name y p3] X.env = (false, eval (.Name x p2) X.env) :: starEach [.Name y p3] X.env := by rfl) (he4 : starEach [.Name y p3] X.env = (false, eval (.Name y p3) X.env) :: starEach [] X.env := by rfl)
    (hpl : (backTo pos (starEach [.Tuple [.Name x p2, .Name y p3] kt p4] X.env)).any (·.1) = false := by rfl) :
    PE X (.Call (.Name "isinstance" p1) [a, .Tuple [.Name x p2, .Name y p3] kt p4] [] pos) (tE c ex (una f (isi2 T U))) :=
  PE_imp (pe_callB call_isiT hg hm hv (pa_cons ha (pa_cons (pe_tup (pa_cons (pe_bltn (v := .ty T) hg2 hm2 hv2 rfl hn hdb) (pa_cons (pe_bltn (v := .ty U) hg3 hm3 hv3 rfl hn3 hdb3) pa_nil he4) he3)) pa_nil he2) he) (by decide) (by decide) he hpl) fun σ H Q q => by
    obtain ⟨ρ, st, bs, rl, re, p⟩ := q
    refine ⟨ρ, st, bs, rl, re, p.bnd.imp fun d st1 bs1 H1 e1 rl1 p1 v rv => ?_⟩
    obtain ⟨t, et, p2⟩ : ∃ t, tyD d st1 = .ok t st1 ∧ Post c ex (ret (D.bl (isT t T || isT t U)) st1) bs1 H1 (fun z _ bs' H' => ∀ v, RD c bs' H' v z → Q v H') := by
      have p1 : Post c ex (bnd (tyD d) (fun t => ret (D.bl (isT t T || isT t U))) st1) bs1 H1 (fun z _ bs' H' => ∀ v, RD c bs' H' v z → Q v H') := p1
      unfold bnd at p1
      cases e : tyD d st1 with
      | ok t st' =>
        obtain ⟨_, _, es⟩ := ty_of e rl1 rv
        subst es
        rw [e] at p1
        exact ⟨t, rfl, p1⟩
      | exc n x st' =>
        exfalso
        cases rv with
        | @loc a l h =>
          have e' : (bnd (obj l) fun o => match o with
            | .lst _ => ret "list"
            | .dct _ => ret "dict"
            | .ins _ _ => no) st1 = .exc n x st' := e
          unfold bnd obj at e'
          cases e2 : st1[l]? with
          | none => rw [e2] at e'; cases e'
          | some o => rw [e2] at e'; cases o <;> cases e'
        | _ => cases e
      | stuck => rw [e] at p1; exact p1.elim
    obtain ⟨ht, ty, _⟩ := ty_of et rl1 rv
    refine ⟨by show 2 ≤ sizeLine; rw [sizeLine_eq]; decide, fun q hq => ?_⟩
    obtain ⟨e2, rl2⟩ := rl1.fresh hq (.tup [.ty T, .ty U])
    have k1 : PySem.W.kitOne c.K (.type t) (.type T) = some (isT t T) := tyT hT ht
    have k2 : PySem.W.kitOne c.K (.type t) (.type U) = some (isT t U) := tyT hU ht
    have ty2 : TyX X.K (upd H1 q (.tup [.ty T, .ty U])) v (.type t) := by
      rw [hK]
      exact (ty_of et rl2 (rv.ext e2)).2.1
    refine ⟨v, q, [.ty T, .ty U], .type t, [.type T, .type U], isT t T || isT t U, rfl, upd_same, .cons (.ty T) (.cons (.ty U) .nil), ty2, ?_, Post.at (st := st1) p2 e2 rl2 _ (.bl _)⟩
    rw [hK]
    refine kitAny_cons k1 (fun z => ?_) (fun z => by rw [z]; rfl)
    rw [z, Bool.false_or]
    exact kitAny_cons k2 (fun z => by rw [z]; exact kitAny_nil) (fun z => z)
end
/-- a def that never comes back: the end of the fuel -/
theorem FnG.nope {P : Program} {w : World} {K : PySem.W.Frag} {mg : Str → Option Value} {base : Heap} {CX : CXT} {k : Nat} {f : Addr} {fd : FuncData} {ps : List Str} {c : Ct} {wx : XK → Wh} {n : Nat} (hn : n = ps.length) : FnG P w K mg base CX k f fd ps (spM c wx n fun _ => no) :=
  ⟨fun vs H Q E h => h.1.trans hn, fun A out s H ar us vs Q E _ _ _ _ _ h => by
    obtain ⟨_, ds, st, bs, _, _, p⟩ := h
    exact p.elim⟩
end Pm
end
section
set_option Elab.async false
set_option linter.all false
set_option maxRecDepth 100000
set_option maxHeartbeats 2000000
namespace Pm
open PySem PySem.Spec PyProof.Rows L2

/-! ### in, not in -/
def flatD : D → Bool
  | .non => true
  | .bl _ => true
  | .int _ => true
  | .str _ => true
  | _ => false
def toV : D → V
  | .bl b => .bl b
  | .int i => .int i
  | .str x => .str x
  | _ => .non
def inD (x : D) (xs : List D) : Bool := xs.any fun y => eqV (toV y) (toV x)
def opInN (neg : Bool) : D → D → M D
  | x, .tup xs => if flatD x = true ∧ xs.all flatD = true then ret (.bl (if neg then !inD x xs else inD x xs)) else no
  | x, .loc l => bnd (obj l) fun o => match o with
    | .lst xs => if flatD x = true ∧ xs.all flatD = true then ret (.bl (if neg then !inD x xs else inD x xs)) else no
    | .dct kvs => match dkey x with
      | some k => ret (.bl (if neg then !(getK kvs k).isSome else (getK kvs k).isSome))
      | none => no
    | .ins _ _ => no
  | .str i, .str j => ret (.bl (if neg then !(!(Builtin.Str.occurrences j i 0 j.length 1).isEmpty) else !(Builtin.Str.occurrences j i 0 j.length 1).isEmpty))
  | _, _ => no
def opIn : D → D → M D := opInN false
def opNotIn : D → D → M D := opInN true
section
variable {X : Cx} {c : Ct} {ex : Wh} {bs : List Addr} {H : Hp} {st : Sto}
theorem flat_v {v : V} {d : D} (r : RD c bs H v d) (h : flatD d = true) : v = toV d ∧ flatV v = true := by
  cases r with
  | non => exact ⟨rfl, rfl⟩
  | bl _ => exact ⟨rfl, rfl⟩
  | int _ => exact ⟨rfl, rfl⟩
  | str _ => exact ⟨rfl, rfl⟩
  | _ => cases h
theorem flat_vs : ∀ {vs : List V} {ds : List D}, RDs c bs H vs ds → ds.all flatD = true → vs = ds.map toV ∧ vs.all flatV = true
  | _, _, .nil, _ => ⟨rfl, rfl⟩
  | _, _, .cons r t, h => by
    rw [List.all_cons, Bool.and_eq_true] at h
    obtain ⟨e1, e2⟩ := flat_v r h.1
    obtain ⟨e3, e4⟩ := flat_vs t h.2
    exact ⟨by rw [List.map_cons, ← e1, ← e3], by rw [List.all_cons, e2, e4]; rfl⟩
theorem in_vs {v : V} {vs : List V} {d : D} {ds : List D} (e : v = toV d) (e2 : vs = ds.map toV) : inV v vs = inD d ds := by
  subst e e2
  unfold inV inD
  rw [List.any_map]
  rfl
def rInD (neg : Bool) : R2 := fun x y H Q => ∃ a o, y = .ref a ∧ DGet H a x o ∧ Q (.bl (if neg then !o.isSome else o.isSome)) H
theorem op_in_dict (hu : X.A.units + 64 < cLine) : OpR X (compareOp .In) (rInD false) := by
  intro pins s σ H x y v u Q I rx ry h
  obtain ⟨a, o, rfl, g, q⟩ := h
  obtain rfl : u = Value.ref a := ry
  exact d_in (by omega) I g rx fun s' I' => ⟨.bl o.isSome, H, I', rfl, q⟩
theorem op_notIn_dict (hu : X.A.units + 64 < cLine) : OpR X (compareOp .NotIn) (rInD true) := by
  intro pins s σ H x y v u Q I rx ry h
  obtain ⟨a, o, rfl, g, q⟩ := h
  obtain rfl : u = Value.ref a := ry
  exact d_notIn (by omega) I g rx fun s' I' => ⟨.bl (!o.isSome), H, I', rfl, q⟩
def rInA (K : PySem.W.Frag) (neg : Bool) : R2 := fun x y H Q => rIn K neg x y H Q ∨ (∃ i j, x = .str i ∧ y = .str j ∧ Q (.bl (if neg then !(!(Builtin.Str.occurrences j i 0 j.length 1).isEmpty) else !(Builtin.Str.occurrences j i 0 j.length 1).isEmpty)) H) ∨ rInD neg x y H Q
theorem s2_in {neg : Bool} : S2 c ex (opInN neg) (rInA c.K neg) := by
  intro x y d e bs H st Q rx ry rl p
  cases ry with
  | @tup a vs xs s tl r =>
    have p : Post c ex ((if flatD d = true ∧ xs.all flatD = true then ret (D.bl (if neg then !inD d xs else inD d xs)) else no) st) bs H (fun z _ bs' H' => ∀ v, RD c bs' H' v z → Q v H') := by cases d <;> exact p
    obtain ⟨⟨h1, h2⟩, p⟩ := Post.iff (m := ret _) p
    obtain ⟨e1, e2⟩ := flat_v rx h1
    obtain ⟨e3, e4⟩ := flat_vs r h2
    exact .inl ⟨_, vs, rfl, .inr s, e2, e4, by rw [in_vs e1 e3]; exact p.now rl _ (.bl _)⟩
  | @loc a l h =>
    have p : Post c ex (bnd (obj l) (fun o => match o with
      | .lst xs => if flatD d = true ∧ xs.all flatD = true then ret (.bl (if neg then !inD d xs else inD d xs)) else no
      | .dct kvs => match dkey d with
        | some k => ret (.bl (if neg then !(getK kvs k).isSome else (getK kvs k).isSome))
        | none => no
      | .ins _ _ => no) st) bs H (fun z _ bs' H' => ∀ v, RD c bs' H' v z → Q v H') := by cases d <;> exact p
    obtain ⟨a', o, ee, hb, hl, ro, p⟩ := post_obj p rl (RD.loc h)
    cases ee
    cases o with
    | lst xs =>
      obtain ⟨vs, hv, r⟩ := ro
      obtain ⟨⟨h1, h2⟩, p⟩ := Post.iff (m := ret _) p
      obtain ⟨e1, e2⟩ := flat_v rx h1
      obtain ⟨e3, e4⟩ := flat_vs r h2
      exact .inl ⟨_, vs, rfl, .inl (SqL.of hv), e2, e4, by rw [in_vs e1 e3]; exact p.now rl _ (.bl _)⟩
    | dct kvs =>
      obtain ⟨vks, hv, ek, r⟩ := ro
      cases e5 : dkey d with
      | none => simp only [e5] at p; exact p.elim
      | some k =>
        simp only [e5] at p
        refine .inr (.inr ⟨_, valV vks k, rfl, by rw [dkey_v rx e5]; exact DGet.k hv, ?_⟩)
        have es : (valV vks k).isSome = (getK kvs k).isSome := by
          cases e6 : getK kvs k with
          | none => rw [rdk_none ek e6]; rfl
          | some z =>
            obtain ⟨v, h1, _⟩ := rdk_get ek r e6
            rw [h1]; rfl
        rw [es]
        exact Post.now p rl _ (.bl _)
    | ins _ _ => exact p.elim
  | str j =>
    cases rx with
    | str i => exact .inr (.inl ⟨i, j, rfl, rfl, p.now rl _ (.bl _)⟩)
    | _ => exact p.elim
  | _ => cases rx <;> exact p.elim
theorem co_in (hK : X.K = c.K) (hu : X.A.units + 64 < cLine) : CO X c ex .In opIn := ⟨_, op_in_seq.or (op_in_str.or (op_in_dict hu)), by rw [hK]; exact s2_in (neg := false)⟩
theorem co_notin (hK : X.K = c.K) (hu : X.A.units + 64 < cLine) : CO X c ex .NotIn opNotIn := ⟨_, op_notIn_seq.or (op_notIn_str.or (op_notIn_dict hu)), by rw [hK]; exact s2_in (neg := true)⟩
end
end Pm
end
section
set_option Elab.async false
set_option linter.all false
set_option maxRecDepth 100000
set_option maxHeartbeats 2000000
namespace Pm
open PySem PySem.Spec PyProof.Rows L2

/-! ### an object that nothing tells of, of any kind -/
section
variable {c : Ct} {ex : Wh} {α : Type} {bs bs' : List Addr} {H H' : Hp} {st : Sto} {q : Addr} {o : HO}
theorem hidO_pre (h : H q = some o) (ni : ¬ Imm o) : Pre c bs H bs (hid H q) := by
  refine ⟨fun _ _ h => h, fun a ws s => ?_, fun a s => ?_⟩
  · rcases s with (s | ⟨o2, s⟩) | s
    · exact .inl (.inl (by rw [hid_ne (ne_of s h (by intro z; subst z; exact ni trivial))]; exact s))
    · exact .inl (.inr ⟨o2, by rw [hid_ne (ne_of s h (by intro z; subst z; exact ni trivial))]; exact s⟩)
    · exact .inr s
  · rcases s with ⟨o2, u, h1, h2⟩ | s
    · exact .inl ⟨o2, u, by rw [hid_ne (ne_of h1 h (by intro z; subst z; exact ni trivial))]; exact h1, h2⟩
    · exact .inr s
theorem relO (rl : Rel c bs H st) (h : H q = some o) (ni : ¬ Imm o) (nb : q ∉ bs) : Rel c bs (hid H q) st := by
  refine ⟨rl.len, fun l b u h1 h2 => ?_, rl.nd, ?_⟩
  · have n : b ≠ q := fun z => nb (z ▸ List.mem_of_getElem? h1)
    exact (rl.obj l b u h1 h2).same (hidO_pre h ni) (hid_ne n)
  · rcases rl.scr with ⟨u, e⟩ | e
    · exact .inl ⟨u, by rw [hid_ne (ne_of e h (by intro z; subst z; exact ni trivial))]; exact e⟩
    · exact .inr e
theorem extO (e : Ext bs H bs' H') (h : H q = some o) (nb : q ∉ bs) : Ext bs (hid H q) bs' (hid H' q) ∧ H' q = some o ∧ q ∉ bs' := by
  refine ⟨⟨e.pre, fun a o h1 h2 => ?_, fun a h1 h2 => ?_⟩, e.keep q _ h (.inl nb), fun z => ?_⟩
  · by_cases y : a = q
    · rw [y, hid_same] at h1; cases h1
    · rw [hid_ne y] at h1 ⊢
      exact e.keep a o h1 h2
  · by_cases y : a = q
    · rw [y]; exact hid_same
    · rw [hid_ne y]; exact e.fresh a h1 h2
  · have := e.fresh q z nb
    rw [h] at this; cases this
theorem hideO {r : Res α} {k : α → Sto → List Addr → Hp → Prop} (p : Post c exF r bs (hid H q) k) (h : H q = some o) (ni : ¬ Imm o) (nb : q ∉ bs) : Post c exF r bs H fun a st' bs' H' => k a st' bs' (hid H' q) := by
  cases r with
  | ok a st' =>
    intro b' H' e rl
    obtain ⟨e2, h2, n2⟩ := extO e h nb
    exact p b' (hid H' q) e2 (relO rl h2 ni n2)
  | exc n d st' =>
    intro b' H' e rl
    obtain ⟨e2, h2, n2⟩ := extO e h nb
    exact p b' (hid H' q) e2 (relO rl h2 ni n2)
  | stuck => exact p
theorem updO_hid : upd (hid H q) q o = upd H q o := by
  funext b
  by_cases e : b = q
  · rw [e, upd_same, upd_same]
  · rw [upd_ne e, upd_ne e, hid_ne e]
end
/-! ### {k: v, ..}, the keys written -/
def dctE (ks : List Key) (g : MA) : ME := fun ρ => bnd (nox (g ρ)) fun ds => if ds.length = ks.length ∧ ks.length ≤ 15 then allocO (.dct ((ks.zip ds).foldl (fun a kv => setK a kv.1 kv.2) [])) else no
structure PPm (X : Cx) (c : Ct) (pos : Pos) (keys : List (Option Expr)) (values : List Expr) (ks : List Key) (g : MA) : Prop where
  ex : ∃ trs, PPs X pos keys values trs ∧ ∀ σ H Q, (tA c exF g σ H fun vs H' => Q ((ks.map kV).zip vs) H') → tPairs trs σ H Q
section
variable {X : Cx} {c : Ct} {ex : Wh} {bs : List Addr} {H : Hp} {st : Sto} {pos p1 : Pos} {keys : List (Option Expr)} {values : List Expr} {ks : List Key} {g : MA} {f : ME} {v : Expr} {n : Nat}
theorem mp_nil : PPm X c pos [] [] [] nilA := ⟨[], pps_nil, fun σ H Q q => by
  obtain ⟨ρ, st, bs, rl, re, p⟩ := q
  exact p.now rl [] .nil⟩
theorem mp_str {x : Str} (hv : PE X v (tE c exF f)) (hr : PPm X c pos keys values ks g) : PPm X c pos (some (.Constant (.str x) n p1) :: keys) (v :: values) (.inr x :: ks) (conA f g) := by
  obtain ⟨trs, h1, h2⟩ := hr.ex
  refine ⟨_, pps_cons pe_str hv h1, fun σ H Q q => ?_⟩
  obtain ⟨ρ, st, bs, rl, re, p⟩ := q
  refine ⟨ρ, st, bs, rl, re, p.bnd.imp fun d st1 bs1 H1 e1 rl1 p1 v rv => ?_⟩
  refine h2 σ H1 _ ⟨ρ, st1, bs1, rl1, re.ext e1, p1.bnd.imp fun ds st2 bs2 H2 e2 rl2 p2 vs rvs => ?_⟩
  exact p2.now rl2 (v :: vs) (.cons (rv.ext e2) rvs)
theorem mp_int {i : Int} (hv : PE X v (tE c exF f)) (hr : PPm X c pos keys values ks g) : PPm X c pos (some (.Constant (.int i) n p1) :: keys) (v :: values) (.inl i :: ks) (conA f g) := by
  obtain ⟨trs, h1, h2⟩ := hr.ex
  refine ⟨_, pps_cons pe_int hv h1, fun σ H Q q => ?_⟩
  obtain ⟨ρ, st, bs, rl, re, p⟩ := q
  refine ⟨ρ, st, bs, rl, re, p.bnd.imp fun d st1 bs1 H1 e1 rl1 p1 v rv => ?_⟩
  refine h2 σ H1 _ ⟨ρ, st1, bs1, rl1, re.ext e1, p1.bnd.imp fun ds st2 bs2 H2 e2 rl2 p2 vs rvs => ?_⟩
  exact p2.now rl2 (v :: vs) (.cons (rv.ext e2) rvs)
theorem rdk_merge : ∀ {ks : List Key} {vs : List V} {ds : List D} {vks : List (Key × V)} {kvs : List (Key × D)}, RDs c bs H vs ds → vks.map (·.1) = kvs.map (·.1) → RDs c bs H (vks.map (·.2)) (kvs.map (·.2)) →
    (((ks.zip vs).foldl (fun a kv => putK a kv.1 kv.2) vks).map (·.1) = ((ks.zip ds).foldl (fun a kv => setK a kv.1 kv.2) kvs).map (·.1)) ∧ RDs c bs H (((ks.zip vs).foldl (fun a kv => putK a kv.1 kv.2) vks).map (·.2)) (((ks.zip ds).foldl (fun a kv => setK a kv.1 kv.2) kvs).map (·.2))
  | [], _, _, _, _, _, e, r => ⟨e, r⟩
  | _ :: _, [], _, _, _, .nil, e, r => ⟨e, r⟩
  | k :: ks, v :: vs, d :: ds, _, _, .cons r1 r2, e, r => by
    obtain ⟨i1, i2⟩ := rdk_put (k := k) e r r1
    exact rdk_merge (ks := ks) r2 i1 i2
theorem zip_kv : ∀ (ks : List Key) (vs : List V), (ks.map kV).zip vs = (ks.zip vs).map fun kv => (kV kv.1, kv.2)
  | [], _ => rfl
  | _ :: _, [] => rfl
  | k :: ks, v :: vs => by simp [zip_kv ks vs]
theorem md_dct (h : PPm X c pos keys values ks g) (hall : keys.all (·.isSome) = true := by rfl) (hl : keys.length = values.length := by rfl) (h0 : keys ≠ [] := by intro z; cases z) (h15 : keys.length ≤ 15 := by decide) : PE X (.Dict keys values pos) (tE c ex (dctE ks g)) := by
  obtain ⟨trs, h1, h2⟩ := h.ex
  refine PE_imp (pe_disp h1 hall hl h0 h15) fun σ H Q q => ?_
  obtain ⟨ρ, st, bs, rl, re, p⟩ := q
  intro a ha
  obtain ⟨e0, rl0⟩ := rl.fresh ha (.dK [])
  have nb : a ∉ bs := fun z => by
    obtain ⟨u, hu, _⟩ := rl.here z
    rw [ha] at hu; cases hu
  refine h2 σ _ _ ⟨ρ, st, bs, rl0, re.ext e0, ?_⟩
  have hh : hid (upd H a (.dK [])) a = H := by
    funext b
    by_cases z : b = a
    · rw [z, hid_same, ha]
    · rw [hid_ne z, upd_ne z]
  have p0 : Post c ex (bnd (nox (g ρ)) (fun ds => if ds.length = ks.length ∧ ks.length ≤ 15 then allocO (.dct ((ks.zip ds).foldl (fun a kv => setK a kv.1 kv.2) [])) else no) st) bs (hid (upd H a (.dK [])) a) _ := hh.symm ▸ p
  have p1 := hideO (o := .dK []) p0.bnd.nox upd_same (fun z => z) nb
  refine p1.imp fun ds st2 bs2 H2 e2 rl2 p2 vs rvs => ?_
  obtain ⟨e3, hk, nb2⟩ := extO e2 upd_same nb
  obtain ⟨⟨hz, hq⟩, p3⟩ := Post.iff (m := allocO _) p2
  have rl3 := relO rl2 hk (fun z => z) nb2
  have rvs3 := rvs.mono (hidO_pre hk fun z => z)
  obtain ⟨i1, i2⟩ := rdk_merge (ks := ks) (vks := []) (kvs := []) rvs3 rfl .nil
  obtain ⟨k, r⟩ := post_allocO (o := .dK ((ks.zip vs).foldl (fun a kv => putK a kv.1 kv.2) [])) p3 rl3 hid_same fun m => ⟨_, upd_same, i1, i2.mono m⟩
  rw [updO_hid] at k
  exact ⟨hk, ks.zip vs, zip_kv ks vs, by rw [List.length_zip]; omega, k _ (updO_hid (H := H2) ▸ r)⟩
end
end Pm
end
section
set_option Elab.async false
set_option linter.all false
set_option maxRecDepth 100000
set_option maxHeartbeats 2000000
namespace Pm
open PySem PySem.Spec PyProof.Rows L2

/-! ### d.get(k), d.get(k, x) -/
def isDc : D → M Unit
  | .loc l => bnd (obj l) fun o => match o with
    | .dct _ => ret ()
    | _ => no
  | _ => no
def getM (o y z : D) : M D := match o with
  | .loc l => bnd (obj l) fun o => match o with
    | .dct kvs => match dkey y with
      | some k => ret ((getK kvs k).getD z)
      | none => no
    | _ => no
  | _ => no
def get1 (fo fk : ME) : ME := fun ρ => bnd (fo ρ) fun o => bnd (isDc o) fun _ => bnd (fk ρ) fun y => getM o y .non
def get2 (fo fk fz : ME) : ME := fun ρ => bnd (fo ρ) fun o => bnd (isDc o) fun _ => bnd (fk ρ) fun y => bnd (fz ρ) fun z => getM o y z
/-! ### methods of texts -/
def isS : D → M Unit
  | .str _ => ret ()
  | _ => no
def met1 (fo fe : ME) (op : D → D → M D) : ME := fun ρ => bnd (fo ρ) fun o => bnd (isS o) fun _ => bnd (fe ρ) fun y => op o y
def met0 (fo : ME) (op : D → M D) : ME := fun ρ => bnd (fo ρ) fun o => bnd (isS o) fun _ => op o
def strsOf : List D → Option (List Str)
  | [] => some []
  | .str i :: xs => (strsOf xs).map (i :: ·)
  | _ :: _ => none
def opJoin : D → D → M D
  | .str a, .loc l => bnd (lst l) fun xs => match strsOf xs with
    | some ys => if (ys.map (·.length)).sum + ys.length * a.length ≤ 16777216 then ret (.str (Txt.join a ys)) else no
    | none => no
  | .str a, .tup xs => match strsOf xs with
    | some ys => if (ys.map (·.length)).sum + ys.length * a.length ≤ 16777216 then ret (.str (Txt.join a ys)) else no
    | none => no
  | _, _ => no
def opSplit : D → D → M D
  | .str a, .str b => if (b.length == 0) = false ∧ a.length + 2 ≤ sizeLine then alloc ((Txt.split a b).map .str) else no
  | _, _ => no
def opWords : D → M D
  | .str a => if a.length + 2 ≤ sizeLine then alloc ((Txt.words a).map .str) else no
  | _ => no
def opStarts : D → D → M D
  | .str a, .str b => ret (.bl (Txt.startswith a b))
  | _, _ => no
section
variable {X : Cx} {c : Ct} {ex : Wh} {bs : List Addr} {H : Hp} {st : Sto} {pos apos : Pos} {o e e2 : Expr} {fo fe fz : ME} {α : Type}
theorem post_isDc {d : D} {f : Unit → M α} {k : α → Sto → List Addr → Hp → Prop} (q : Post c ex (bnd (isDc d) f st) bs H k) (rl : Rel c bs H st) {v : V} (r : RD c bs H v d) : ∃ a l, v = .ref a ∧ d = .loc l ∧ IsD H a ∧ Post c ex (f () st) bs H k := by
  cases r with
  | @loc a l h =>
    have q1 : Post c ex (bnd (bnd (obj l) fun o => match o with
      | .dct _ => ret ()
      | _ => no) f st) bs H k := q
    unfold bnd obj at q1
    cases e : st[l]? with
    | none => rw [e] at q1; exact q1.elim
    | some o =>
      rw [e] at q1
      have ro := rl.obj l a o h e
      cases o with
      | lst _ => exact q1.elim
      | ins _ _ => exact q1.elim
      | dct kvs =>
        obtain ⟨vks, hv, ek, r⟩ := ro
        exact ⟨a, l, rfl, rfl, .inl ⟨vks, .inl hv⟩, q1⟩
  | _ => exact q.elim
theorem get_ok {l : Nat} {a : Addr} {y z : V} {dy dz : D} {Q : VK} (p : Post c ex (getM (.loc l) dy dz st) bs H (fun z _ bs' H' => ∀ v, RD c bs' H' v z → Q v H')) (rl : Rel c bs H st) (r : RD c bs H (.ref a) (.loc l)) (ry : RD c bs H y dy) (rz : RD c bs H z dz) :
    ∃ o, DGet H a y o ∧ Q (o.getD z) H := by
  obtain ⟨a', o, ee, hb, hl, ro, p⟩ := post_obj p rl r
  cases ee
  cases o with
  | lst _ => exact p.elim
  | ins _ _ => exact p.elim
  | dct kvs =>
    obtain ⟨vks, hv, ek, rv⟩ := ro
    cases e5 : dkey dy with
    | none => simp only [e5] at p; exact p.elim
    | some k =>
      simp only [e5] at p
      refine ⟨valV vks k, by rw [dkey_v ry e5]; exact DGet.k hv, ?_⟩
      cases e6 : getK kvs k with
      | none =>
        rw [rdk_none ek e6]
        rw [e6] at p
        exact Post.now p rl _ rz
      | some d =>
        obtain ⟨v, h1, h2⟩ := rdk_get ek rv e6
        rw [h1]
        rw [e6] at p
        exact Post.now p rl _ h2
theorem md_get1 (hu : X.A.units + 64 < cLine) (ho : PE X o (tE c ex fo)) (he : PE X e (tE c ex fe)) (m : M1 X o "get" apos e pos := by exact ⟨rfl, rfl, rfl, rfl⟩) : PE X (.Call (.Attribute o "get" apos) [e] [] pos) (tE c ex (get1 fo fe)) :=
  PE_imp (pe_dget1 (by omega) ho he m) fun σ H Q q => by
    obtain ⟨ρ, st, bs, rl, re, p⟩ := q
    refine ⟨ρ, st, bs, rl, re, p.bnd.imp fun d st1 bs1 H1 e1 rl1 p1 v rv => ?_⟩
    obtain ⟨a, l, rfl, rfl, isd, p2⟩ := post_isDc p1 rl1 rv
    exact ⟨a, rfl, isd, ρ, st1, bs1, rl1, re.ext e1, p2.bnd.imp fun y st2 bs2 H2 e2 rl2 p3 vy ry => get_ok p3 rl2 (rv.ext e2) ry .non⟩
theorem md_get2 (hu : X.A.units + 64 < cLine) (ho : PE X o (tE c ex fo)) (he : PE X e (tE c ex fe)) (hz : PE X e2 (tE c ex fz)) (m : M2 X o "get" apos e e2 pos := by exact ⟨rfl, rfl, rfl, rfl⟩) : PE X (.Call (.Attribute o "get" apos) [e, e2] [] pos) (tE c ex (get2 fo fe fz)) :=
  PE_imp (pe_dget2 (by omega) ho he hz m) fun σ H Q q => by
    obtain ⟨ρ, st, bs, rl, re, p⟩ := q
    refine ⟨ρ, st, bs, rl, re, p.bnd.imp fun d st1 bs1 H1 e1 rl1 p1 v rv => ?_⟩
    obtain ⟨a, l, rfl, rfl, isd, p2⟩ := post_isDc p1 rl1 rv
    refine ⟨a, rfl, isd, ρ, st1, bs1, rl1, re.ext e1, p2.bnd.imp fun y st2 bs2 H2 e2 rl2 p3 vy ry => ?_⟩
    exact ⟨ρ, st2, bs2, rl2, (re.ext e1).ext e2, p3.bnd.imp fun z st3 bs3 H3 e3 rl3 p4 vz rz => get_ok p4 rl3 ((rv.ext e2).ext e3) (ry.ext e3) rz⟩
theorem strsOf_map : ∀ {xs : List D} {ys : List Str}, strsOf xs = some ys → xs = ys.map D.str
  | [], ys, h => by cases h; rfl
  | .str i :: xs, ys, h => by
    unfold strsOf at h
    cases e : strsOf xs with
    | none => rw [e] at h; cases h
    | some ms =>
      rw [e] at h
      cases h
      rw [strsOf_map e]
      rfl
  | .non :: _, _, h => by cases h
  | .int _ :: _, _, h => by cases h
  | .bl _ :: _, _, h => by cases h
  | .tup _ :: _, _, h => by cases h
  | .loc _ :: _, _, h => by cases h
  | .scr :: _, _, h => by cases h
theorem RDs.toStrs : ∀ {vs : List V} {ys : List Str}, RDs c bs H vs (ys.map D.str) → vs = ys.map V.str
  | _, [], .nil => rfl
  | _, n :: ns, .cons (.str _) t => by rw [RDs.toStrs t]; rfl
theorem RDs.strs : ∀ (ys : List Str), RDs c bs H (ys.map V.str) (ys.map D.str)
  | [] => .nil
  | y :: ys => .cons (.str y) (RDs.strs ys)
theorem tM1_of {op : D → D → M D} {r : V → List V → Hp → VK → Prop} (hop : ∀ (a : Str) (y : V) (d : D) bs H st Q, RD c bs H y d → Rel c bs H st → Post c ex (op (.str a) d st) bs H (fun z _ bs' H' => ∀ v, RD c bs' H' v z → Q v H') → r (.str a) [y] H Q) {σ : L2.St} {Q : VK} (q : tE c ex (met1 fo fe op) σ H Q) : tM1 r (tE c ex fo) (tE c ex fe) σ H Q := by
  obtain ⟨ρ, st, bs, rl, re, p⟩ := q
  refine ⟨ρ, st, bs, rl, re, p.bnd.imp fun d st1 bs1 H1 e1 rl1 p1 v rv => ?_⟩
  cases rv with
  | str a => exact ⟨⟨a, rfl⟩, ρ, st1, bs1, rl1, re.ext e1, Post.bnd (m := fe ρ) p1 |>.imp fun y st2 bs2 H2 e2 rl2 p3 vy ry => hop _ _ _ _ _ _ _ ry rl2 p3⟩
  | _ => exact p1.elim
theorem md_join (hK : X.K = c.K) (ho : PE X o (tE c ex fo)) (he : PE X e (tE c ex fe)) (hs : starEach [e] X.env = [(false, eval e X.env)] := by rfl) (hbase : attributeBase o "join" X.env (eval o X.env) = eval o X.env := by rfl) (hline : (apos.endLine == pos.line) = true := by rfl) : PE X (.Call (.Attribute o "join" apos) [e] [] pos) (tE c ex (met1 fo fe opJoin)) :=
  PE_imp (pe_join ho he hs hbase hline) fun σ H Q q => tM1_of (fun a y d bs H st Q ry rl p => by
    cases ry with
    | loc h =>
      obtain ⟨p', vs, xs, e, hb, hl, hv, r, p⟩ := post_lst (k := fun _ _ _ _ => True) p rl (RD.loc h)
      cases e
      cases e1 : strsOf xs with
      | none => simp only [e1] at p; exact p.elim
      | some ys =>
        simp only [e1] at p
        obtain ⟨hz, p⟩ := Post.iff (m := ret _) p
        rw [strsOf_map e1] at r
        rw [r.toStrs] at hv
        exact ⟨a, _, ys, rfl, rfl, .inl (SqL.of hv), hz, Post.now p rl _ (.str _)⟩
    | @tup t vs xs s tl r =>
      cases e1 : strsOf xs with
      | none => simp only [opJoin, e1] at p; exact p.elim
      | some ys =>
        simp only [opJoin, e1] at p
        obtain ⟨hz, p⟩ := Post.iff (m := ret _) p
        rw [strsOf_map e1] at r
        rw [r.toStrs] at s
        exact ⟨a, _, ys, rfl, rfl, .inr (by rw [hK]; exact s), hz, Post.now p rl _ (.str _)⟩
    | _ => exact p.elim) q
theorem md_split (ho : PE X o (tE c ex fo)) (he : PE X e (tE c ex fe)) (hs : starEach [e] X.env = [(false, eval e X.env)] := by rfl) (hbase : attributeBase o "split" X.env (eval o X.env) = eval o X.env := by rfl) (hline : (apos.endLine == pos.line) = true := by rfl) : PE X (.Call (.Attribute o "split" apos) [e] [] pos) (tE c ex (met1 fo fe opSplit)) :=
  PE_imp (pe_split ho he hs hbase hline) fun σ H Q q => tM1_of (fun a y d bs H st Q ry rl p => by
    cases ry with
    | str b =>
      obtain ⟨⟨h1, h2⟩, p⟩ := Post.iff (m := alloc _) p
      refine ⟨a, b, rfl, rfl, h1, h2, fun q hq => ?_⟩
      obtain ⟨k, r⟩ := post_alloc p rl hq (RDs.strs _)
      exact k _ r
    | _ => exact p.elim) q
theorem md_starts (ho : PE X o (tE c ex fo)) (he : PE X e (tE c ex fe)) (hs : starEach [e] X.env = [(false, eval e X.env)] := by rfl) (hbase : attributeBase o "startswith" X.env (eval o X.env) = eval o X.env := by rfl) (hline : (apos.endLine == pos.line) = true := by rfl) : PE X (.Call (.Attribute o "startswith" apos) [e] [] pos) (tE c ex (met1 fo fe opStarts)) :=
  PE_imp (pe_m1 F.slot_str_startswith F.type_str_startswith mt_startswith ho he hs hbase hline) fun σ H Q q => tM1_of (fun a y d bs H st Q ry rl p => by
    cases ry with
    | str b => exact ⟨a, b, rfl, rfl, Post.now p rl _ (.bl _)⟩
    | _ => exact p.elim) q
theorem md_words (ho : PE X o (tE c ex fo)) (hbase : attributeBase o "split" X.env (eval o X.env) = eval o X.env := by rfl) (hline : (apos.endLine == pos.line) = true := by rfl) : PE X (.Call (.Attribute o "split" apos) [] [] pos) (tE c ex (met0 fo opWords)) :=
  PE_imp (pe_words ho hbase hline) fun σ H Q q => by
    obtain ⟨ρ, st, bs, rl, re, p⟩ := q
    refine ⟨ρ, st, bs, rl, re, p.bnd.imp fun d st1 bs1 H1 e1 rl1 p1 v rv => ?_⟩
    cases rv with
    | str a =>
      have p1 : Post c ex ((if a.length + 2 ≤ sizeLine then alloc ((Txt.words a).map .str) else no) st1) bs1 H1 (fun z _ bs' H' => ∀ v, RD c bs' H' v z → Q v H') := p1
      obtain ⟨h2, p⟩ := Post.iff (m := alloc _) p1
      refine ⟨⟨a, rfl⟩, a, rfl, rfl, h2, fun q hq => ?_⟩
      obtain ⟨k, r⟩ := post_alloc p rl1 hq (RDs.strs _)
      exact k _ r
    | _ => exact p1.elim
end
end Pm
end
section
set_option Elab.async false
set_option linter.all false
set_option maxRecDepth 100000
set_option maxHeartbeats 2000000
namespace Pm
open PySem PySem.Spec PyProof.Rows L2 RT

/-! ### reversed(xs), walked -/
def revI : D → M Itm
  | .tup xs => ret ⟨xs.reverse, fun _ => true⟩
  | .loc l => bnd (lst l) fun xs => ret ⟨xs.reverse, fun st => decide (st[l]? = some (.lst xs))⟩
  | _ => no
def revA (f : ME) : MI := fun ρ => bnd (f ρ) revI
section
variable {X : Cx} {c : Ct} {ex : Wh} {p pos : Pos} {tg e : Expr} {f : ME} {bs : List Addr} {H : Hp} {st : Sto}
theorem rev_at {α : Type} {xs : List α} {i : Nat} (h : i < xs.length) : xs.reverse[i]? = xs[xs.length - 1 - i]? := List.getElem?_reverse h
theorem wk_revT {a : Addr} {vs : List V} {xs : List D} (s : SqT c.K H a vs) (r : RDs c bs H vs xs) : Wk c ⟨xs.reverse, fun _ => true⟩ bs H (ItvT c.K a vs.length) := by
  refine ⟨fun i H' hi ⟨st, bs', e, _, _⟩ => ?_, fun H' _ => ?_, fun i H' v H2 hi _ y st bs' e rl _ => ?_⟩
  · have hi : i < vs.length := by rw [r.length]; simpa using hi
    exact ⟨hi, vs, vs[vs.length - 1 - i]'(by omega), e.sqT s, List.getElem?_eq_getElem (by omega)⟩
  · show vs.length ≤ xs.reverse.length
    rw [List.length_reverse, r.length]; exact Nat.le_refl _
  · have hi' : i < xs.length := by simpa using hi
    obtain ⟨rfl, y⟩ := y
    obtain ⟨d, hd, rd⟩ := r.getV (y vs (e.sqT s))
    exact ⟨Ext.refl, rl, d, by show xs.reverse[i]? = _; rw [rev_at hi', ← r.length]; exact hd, rd.ext e⟩
theorem wk_revL {a : Addr} {l : Nat} {xs : List D} (hb : bs[l]? = some a) : Wk c ⟨xs.reverse, fun st => decide (st[l]? = some (.lst xs))⟩ bs H (Itv c.K a xs.length) := by
  have at_ : ∀ {H' : Hp} {bs' : List Addr} {st : Sto}, Ext bs H bs' H' → Rel c bs' H' st → decide (st[l]? = some (O.lst xs)) = true → ∃ vs, SqL c.K H' a vs ∧ RDs c bs' H' vs xs := fun {H' bs' st} e rl h => by
    obtain ⟨vs, hv, r⟩ := rl.obj l a _ (e.get hb) (of_decide_eq_true h)
    exact ⟨vs, SqL.of hv, r⟩
  refine ⟨fun i H' hi ⟨st, bs', e, rl, h⟩ => ?_, fun H' _ => ?_, fun i H' v H2 hi _ y st bs' e rl h => ?_⟩
  · obtain ⟨vs, s, r⟩ := at_ e rl h
    have hi : i < xs.length := by simpa using hi
    have hl := r.length
    exact ⟨hi, vs, vs[xs.length - 1 - i]'(by omega), s, List.getElem?_eq_getElem (by omega)⟩
  · show xs.length ≤ xs.reverse.length
    rw [List.length_reverse]; exact Nat.le_refl _
  · have hi' : i < xs.length := by simpa using hi
    obtain ⟨rfl, y⟩ := y
    obtain ⟨vs, s, r⟩ := at_ e rl h
    obtain ⟨d, hd, rd⟩ := r.getV (y vs s)
    exact ⟨Ext.refl, rl, d, by show xs.reverse[i]? = _; rw [rev_at hi']; exact hd, rd⟩
theorem mi_rev (hK : X.K = c.K) (hg : Gl X "reversed") (hm : X.mg "reversed" = none) (h : PE X e (tE c ex f)) (hs : starEach [e] X.env = (false, eval e X.env) :: starEach [] X.env := by rfl) : PI X tg (.Call (.Name "reversed" p) [e] [] pos) (tI c ex (revA f)) :=
  PI_imp (pi_revA hg hm h hs) fun σ H R q => by
    obtain ⟨ρ, st, bs, rl, re, p⟩ := q
    refine ⟨ρ, st, bs, rl, re, p.bnd.imp fun d st1 bs1 H1 e1 rl1 p1 v rv => ?_⟩
    rw [hK]
    cases rv with
    | tup s tl r => exact ⟨_, _, rfl, .inr ⟨s, p1.now rl1 _ ⟨wk_revT s r, fun _ _ h _ => wk_revT ((hid_pre (c := c) (bs := bs1) h).sqT _ _ s) (r.mono (hid_pre h))⟩⟩⟩
    | loc h =>
      obtain ⟨a, vs, xs, ee, hb, hl, hv, r, p2⟩ := post_lst (k := fun _ _ _ _ => True) p1 rl1 (RD.loc h)
      cases ee
      exact ⟨_, vs, rfl, .inl ⟨SqL.of hv, by rw [r.length]; exact p2.now rl1 _ ⟨wk_revL hb, fun _ _ _ _ => wk_revL hb⟩⟩⟩
    | _ => exact p1.elim
end
end Pm
end
section
set_option Elab.async false
set_option linter.all false
set_option maxRecDepth 100000
set_option maxHeartbeats 4000000
namespace Pm
open PySem PySem.Spec PyProof.Rows L2
/-! ### enumerate(xs, start=k) -/
/-- an iterator, counted from m on -/
theorem drawsFrom {prog : Program} {w : World} {A : Around} {it : Addr} {fp : List Addr} {n : Nat} {P : Nat → Value → Prop} {S : Nat → Heap → Prop} (G : Draws prog w A it fp n P S) (m : Nat) :
    Draws prog w A it fp (n + m) (fun i v => P (i - m) v) (fun i h => m ≤ i ∧ S (i - m) h) where
  live := fun i h z => G.live _ _ z.2
  frame := fun i h h' z k => ⟨z.1, G.frame _ _ _ z.2 k⟩
  item := fun i s Q E hi z hQ => G.item (i - m) s Q E (by omega) z.2 fun x h' tk px s' sb => hQ x h' tk px ⟨by omega, by rw [show i + 1 - m = i - m + 1 by omega]; exact s'⟩ sb
  done := fun s Q E z hE => G.done s Q E (by rw [Nat.add_sub_cancel] at z; exact z.2) hE
/-- a list's or a tuple's items, as they stand at each turn, numbered from m on -/
def SqB (b : Bool) (K : PySem.W.Frag) (H : Hp) (a : Addr) (xs : List V) : Prop := if b then SqT K H a xs else SqL K H a xs
def ItS (b : Bool) (K : PySem.W.Frag) (m : Nat) (a : Addr) : It :=
  ⟨fun i H => ∃ (xs : List V) (x : V), SqB b K H a xs ∧ xs[i]? = some x, fun i H v H' => ∃ T x us, v = .ref T ∧ H T = none ∧ H' = upd H T (frT us [.int (i + m : Nat), x]) ∧ ∀ xs, SqB b K H a xs → xs[i]? = some x,
    fun i H => ∃ xs : List V, SqB b K H a xs ∧ xs.length = i⟩
def IterB (b : Bool) (h : Heap) (it a : Addr) (i : Nat) : Prop := if b then h.IsTupleIter it a i else h.IsListIter it a i
def HoldsB (b : Bool) (h : Heap) (a : Addr) (items : Array Value) : Prop := if b then h.IsTuple a items else h.IsList a items
section
variable {prog : Program} {w : World} {A : Around} {h h' : Heap} {it a : Addr} {i : Nat} {items : Array Value} {b : Bool}
theorem IterB.at' (z : IterB b h it a i) (k : ∀ o, h.get? it = some o → h'.get? it = some o) : IterB b h' it a i := by
  cases b with
  | true => exact (show h.IsTupleIter it a i from z).at k
  | false => exact (show h.IsListIter it a i from z).at k
theorem IterB.ob (z : IterB b h it a i) : ∃ o vs, h.get? it = some o ∧ o.data = .fields vs := by
  cases b with
  | true => obtain ⟨o, e, _, d⟩ := (show h.IsTupleIter it a i from z); exact ⟨o, _, e, d⟩
  | false => obtain ⟨o, e, _, d⟩ := (show h.IsListIter it a i from z); exact ⟨o, _, e, d⟩
theorem drawsB (hh : A.handled = none) (hne : a ≠ it) : Draws prog w A it [it, a] items.size (fun i v => items[i]? = some v) (fun i h => IterB b h it a i ∧ HoldsB b h a items) := by
  cases b with
  | true => exact Draws.tuple hh it a hne items
  | false => exact Draws.list hh it a hne items
end
theorem sqB_at {X : Cx} {pins : List (Addr × Obj)} {σ : L2.St} {H : Hp} {s : Shared} {b : Bool} {a : Addr} {xs : List V} (I : Inv X pins σ H s) (q : SqB b X.K H a xs) : ∃ its, Vals xs its ∧ HoldsB b s.heap a its.toArray ∧ a < s.heap.objs.size := by
  cases b with
  | true =>
    obtain ⟨its, r, p, _⟩ := I.tuple q
    obtain ⟨o, e, _⟩ := id p
    exact ⟨its, r, p, Heap.lt_size e⟩
  | false =>
    obtain ⟨its, r, p, _⟩ := I.list q
    exact ⟨its, r, p.isList, p.lt⟩
theorem sqB_inj {X : Cx} {pins : List (Addr × Obj)} {σ : L2.St} {H : Hp} {s : Shared} {b : Bool} {a : Addr} {xs ys : List V} (I : Inv X pins σ H s) (q : SqB b X.K H a xs) (q2 : SqB b X.K H a ys) : xs = ys := by
  cases b with
  | true => exact I.tuple_inj q q2
  | false => exact I.list_inj q q2
theorem turn_enS {P : Program} {w : World} {K : PySem.W.Frag} {elts : List Expr} {kk : Nat} {tpos : Pos} (b : Bool) (m : Nat) (a e it : Addr) (hit : e ≠ it) (hea : e ≠ a) (hai : a ≠ it) :
    Turn P w K (.Tuple elts kk tpos) (ItS b K m a) [e, it] e (fun i h => (∃ old, IsEnum h e it ((i + m : Nat) : Int) old) ∧ IterB b h it a i) where
  mem := List.mem_cons_self
  obj := fun i h z c hc => by
    obtain ⟨⟨old, he⟩, hi⟩ := z
    rcases List.mem_cons.mp hc with rfl | hc
    · exact ⟨_, he, fun v q => by cases q⟩
    · rw [List.mem_singleton.mp hc]
      obtain ⟨o, vs, e1, e2⟩ := hi.ob
      exact ⟨o, e1, fun v q => by rw [e2] at q; cases q⟩
  keep := fun i h h' z k => ⟨let ⟨old, he⟩ := z.1; ⟨old, k e List.mem_cons_self _ he⟩, z.2.at' fun o q => k it (List.mem_cons_of_mem _ List.mem_cons_self) o q⟩
  item := by
    intro X hP hw hK hc i pins s σ H E I hf z hg
    subst hP hw hK
    obtain ⟨⟨old, he⟩, hi⟩ := z
    obtain ⟨xs, x, hq, hx⟩ := hg
    obtain ⟨its, rv, hl, ha⟩ := sqB_at I hq
    obtain ⟨u, hu, ru⟩ := rv.get hx
    have hlt : i < its.toArray.size := by rw [List.size_toArray]; exact (List.getElem?_eq_some_iff.mp hu).1
    have hes : e < s.heap.objs.size := Heap.lt_size he
    have his : it < s.heap.objs.size := let ⟨_, _, q, _⟩ := hi.ob; Heap.lt_size q
    have G := drawsFrom (drawsB (prog := X.prog) (w := X.w) (A := X.A.in1) (b := b) (items := its.toArray) (show X.A.in1.handled = none from I.ok.hd hc) hai) m
    refine wpAny_pyNext_enum_itemD (i := i + m) G he ⟨Nat.le_add_left _ _, by rw [Nat.add_sub_cancel]; exact ⟨hi, hl⟩⟩ (by omega) hit (by simp [hit, hea]) fun y h1 tk hy ho hs hT hsz hk => ?_
    rw [Nat.add_sub_cancel] at hy
    have ey : y = u := by
      rw [List.getElem?_toArray, hu] at hy
      exact (Option.some.inj hy).symm
    subst ey
    refine ⟨_, rfl, wpAny_letOwnedTupleGo_enum (s := { s with heap := h1, toks := tk + 1 }) ho fun h2 he' sb => ?_⟩
    have hT2 := (sb.2 _ (Nat.ne_of_gt hes)).trans hT
    have new : ObjOk X.prog X.w (upd H s.heap.objs.size (frT [.int (i + m : Nat) tk, y] [.int (i + m : Nat), x])) h2 s.heap.objs.size (frT [.int (i + m : Nat) tk, y] [.int (i + m : Nat), x]) :=
      tupF_ok (by show 2 ≤ sizeLine; rw [sizeLine_eq]; decide) (.cons ⟨_, rfl⟩ (.cons ru .nil)) hT2
    have keep2 : ∀ c o, c ∉ [e, it] → s.heap.get? c = some o → h2.get? c = some o := fun c o hb q => (sb.2 c (fun y => hb (by simp [y]))).trans (hk c o (fun y => hb (by simp [y])) (fun y => hb (by simp [y])) q)
    have I1 : Inv X pins σ (upd H s.heap.objs.size (frT [.int (i + m : Nat) tk, y] [.int (i + m : Nat), x])) { s with heap := h2, toks := tk + 1 } := I.turnedNew (ch := [e, it]) (fun c o hb q => keep2 c o hb q) hf (Nat.le_refl _) new
    refine ⟨.ref s.heap.objs.size, _, I1, rfl, ⟨_, x, _, rfl, I.hok.fresh (Nat.le_refl _), rfl, fun ys hy => by rw [sqB_inj I hy hq]; exact hx⟩, ⟨⟨y, ?_⟩, ?_⟩, fun c hc => ?_⟩
    · have e1 : ((i + 1 + m : Nat) : Int) = ((i + m : Nat) : Int) + 1 := by omega
      rw [e1]
      exact he'
    · have := hs.2.1
      rw [show i + m + 1 - m = i + 1 by omega] at this
      exact this.at' fun o q => (sb.2 it (Ne.symm hit)).trans q
    · have : c < s.heap.objs.size := by
        rcases List.mem_cons.mp hc with rfl | hc
        · exact hes
        · rw [List.mem_singleton.mp hc]; exact his
      rw [upd_ne (Nat.ne_of_lt this)]
      exact (hf c hc).1
  done := by
    intro X hP hw hK hc i pins s σ H E I hf z hg
    subst hP hw hK
    obtain ⟨⟨old, he⟩, hi⟩ := z
    obtain ⟨xs, hq, hx⟩ := hg
    obtain ⟨its, rv, hl, ha⟩ := sqB_at I hq
    have hsz := rv.length
    obtain ⟨f0, f1, f2, f3, f4, f5⟩ := hf it (List.mem_cons_of_mem _ List.mem_cons_self)
    have hle : i = its.toArray.size := by rw [List.size_toArray]; omega
    have G := drawsB (prog := X.prog) (w := X.w) (A := X.A.in1) (b := b) (items := its.toArray) (show X.A.in1.handled = none from I.ok.hd hc) hai
    exact wpAny_pyNext_enum_endD G he ⟨by rw [← hle]; exact hi, hl⟩ fun h1 eb => ⟨rfl, I.turned (t' := s.toks) (fun c o hb q => eb c o hb q) f0 f1 f3 f4 f5⟩
  self := fun A i s Q E z h => let ⟨⟨_, he⟩, _⟩ := z; wpAny_pyIter_enum he h
theorem callTypeK {M : Model} {A : Around} {E : Value → Shared → Prop} {s : Shared} {pos : Pos} {T : String} {args : List (Bool × Sem Value)} {kws : List (Option Str × Sem Value)} {Q : Value → Shared → Prop} (h1 : args.any (·.1) = false) (h2 : kws.any (·.1.isNone) = false)
    (h : wpAny M A (evalArgs (.type T) true args kws) (fun a s1 => wpAny M A (call (.type T) a.pos a.kw) Q E s1) E s) : wpAny M A (callWith pos (.type T) [] args kws) Q E s := by
  unfold callWith
  refine wpAny_bind (wpAny_holding (wpAny_mono h (fun a s1 z => wpAny_bind (wpAny_standAt ?_)) fun _ _ z => z))
  simp only [h1, h2, Bool.or_false]
  exact wpAny_bind (wpAny_pure (wpAny_bind (wpAny_mono z (fun r s2 y => wpAny_bind (wpAny_holding (wpAny_point (wpAny_pure y)))) fun _ _ y => y)))
def iEnS (K : PySem.W.Frag) (m : Nat) (ta : TA) : TI := fun σ H R => ta σ H fun vs H1 => ∃ a b xs, vs = [.ref a] ∧ SqB b K H1 a xs ∧ R (ItS b K m a) H1
def beginsO (b : Bool) (a : Addr) : Obj := { cls := .type (if b then "tuple_iterator" else "list_iterator"), data := .fields #[.ref a, .int 0 0] }
theorem beginsB (b : Bool) (a : Addr) (items : Array Value) : Begins (.ref a) (beginsO b a) fun h => HoldsB b h a items := by
  cases b with
  | true => exact begins_tuple a items
  | false => exact begins_list a items
theorem iterB_of {b : Bool} {h : Heap} {it a : Addr} (e : h.get? it = some (beginsO b a)) : IterB b h it a 0 := by
  cases b with
  | true => exact ⟨_, e, rfl, rfl⟩
  | false => exact ⟨_, e, rfl, rfl⟩
theorem pi_enS {X : Cx} {e : Expr} {ta : TA} {p pos tpos kp cp : Pos} {j : Nat} {elts : List Expr} {kk m : Nat} (hg : Gl X "enumerate") (hm : X.mg "enumerate" = none) (hm2 : m < 1000) (he : PA X [e] ta)
    (hb : backTo pos (starEach [e] X.env) = (false, eval e X.env) :: backTo pos (starEach [] X.env) := by rfl) (hpl : (backTo pos (starEach [e] X.env)).any (·.1) = false := by rfl)
    (hall : (backToKw pos (keywordEach [⟨some "start", .Constant (.int (m : Int)) j cp, kp⟩] X.env)).all (·.1.isSome) = true := by rfl) (hnone : (backToKw pos (keywordEach [⟨some "start", .Constant (.int (m : Int)) j cp, kp⟩] X.env)).any (·.1.isNone) = false := by rfl)
    (hks : (backToKw pos (keywordEach [⟨some "start", .Constant (.int (m : Int)) j cp, kp⟩] X.env)).filterMap (·.1) = [Str.ofString "start"] := by rfl) :
    PI X (.Tuple elts kk tpos) (.Call (.Name "enumerate" p) [e] [⟨some "start", .Constant (.int (m : Int)) j cp, kp⟩] pos) (iEnS X.K m ta) := by
  refine ⟨fun pins s σ H R I h => ?_⟩
  refine wpAny_Call_Name_kw (ld_blt I hg hm boot_enumerate ?_)
  refine callTypeK hpl hnone ?_
  rw [hb]
  refine evalArgs_kwB hall ?_
  rw [← hb]
  refine thn (he.run pos pins s σ H _ I h) fun us s1 ⟨vs, H1, I1, r1, a, b, xs, ev, hq, hR⟩ => ?_
  subst ev
  obtain ⟨u, rfl, ru⟩ := vals1 r1
  cases ru
  refine thn ((pk_cons pe_int pk_nil).run pos pins s1 σ H1 (fun zs H2 => zs = [.int (m : Int)] ∧ H2 = H1) I1 ⟨rfl, rfl⟩) fun ws s2 ⟨zs, H2, I2, r2, ez, eH⟩ => ?_
  subst ez eH
  obtain ⟨w0, rfl, t, rfl⟩ := vals1 r2
  rw [hks]
  obtain ⟨its, rv, hh, ha⟩ := sqB_at I2 hq
  refine enum_begins_start (beginsB b a its.toArray) hh (by omega) (by omega) fun h' he' hi hsz hk => wpAny_pyIter_enum he' ?_
  have I3 : Inv X pins σ H2 { s2 with heap := h' } := I2.kept (t' := s2.toks) hk
  refine ⟨s2.heap.objs.size + 1, [s2.heap.objs.size + 1, s2.heap.objs.size], _, _, H2, rfl, I3, turn_enS b m a (s2.heap.objs.size + 1) s2.heap.objs.size (Nat.succ_ne_self _) (Nat.ne_of_gt (Nat.lt_succ_of_lt ha)) (Nat.ne_of_lt ha), ⟨⟨.none, by rw [Nat.zero_add]; exact he'⟩, iterB_of hi⟩, fun c hc => ?_, hR⟩
  have hle : s2.heap.objs.size ≤ c := by
    rcases List.mem_cons.mp hc with rfl | hc
    · exact Nat.le_succ _
    · rw [List.mem_singleton.mp hc]; exact Nat.le_refl _
  exact I2.fpOk hle (I2.hok.fresh hle)
/-- enumerate(xs) -/
theorem call_enumB {prog : Program} {w : World} {A : Around} {E : Value → Shared → Prop} {s : Shared} {b : Bool} {a : Addr} {items : Array Value} {Q : Value → Shared → Prop} (hh : HoldsB b s.heap a items)
    (h : ∀ h', IsEnum h' (s.heap.objs.size + 1) s.heap.objs.size 0 .none → IterB b h' s.heap.objs.size a 0 → (∀ c o, s.heap.get? c = some o → h'.get? c = some o) → Q (.ref (s.heap.objs.size + 1)) { s with heap := h' }) : wpAny (model prog w) A (call (.type "enumerate") [.ref a]) Q E s := by
  cases b with
  | false => exact call_enumerate_list hh fun h' h1 h2 h3 h4 => h h' h1 h2 h4
  | true => exact pm_call_enumT hh fun h' h1 h2 h3 => h h' h1 h2 h3
def iEn0 (K : PySem.W.Frag) (ta : TA) : TI := fun σ H R => ta σ H fun vs H1 => ∃ a b xs, vs = [.ref a] ∧ SqB b K H1 a xs ∧ R (ItS b K 0 a) H1
theorem pi_en0 {X : Cx} {e : Expr} {ta : TA} {p pos tpos : Pos} {elts : List Expr} {kk : Nat} (hg : Gl X "enumerate") (hm : X.mg "enumerate" = none) (he : PA X [e] ta) (hs : starEach [e] X.env = [(false, eval e X.env)] := by rfl) :
    PI X (.Tuple elts kk tpos) (.Call (.Name "enumerate" p) [e] [] pos) (iEn0 X.K ta) := by
  refine ⟨fun pins s σ H R I h => Call_ (ld_blt I hg hm boot_enumerate (PyProof.Rows.callWith_type1 (thn (he.run pos pins s σ H _ I h) fun us s1 ⟨vs, H1, I1, r1, a, b, xs, ev, hq, hR⟩ => ?_) hs rfl))⟩
  subst ev
  obtain ⟨u, rfl, ru⟩ := vals1 r1
  cases ru
  obtain ⟨its, rv, hh, ha⟩ := sqB_at I1 hq
  refine call_enumB hh fun h' he' hi hk => wpAny_pyIter_enum he' ?_
  refine ⟨s1.heap.objs.size + 1, [s1.heap.objs.size + 1, s1.heap.objs.size], _, _, H1, rfl, I1.kept (t' := s1.toks) hk, turn_enS b 0 a (s1.heap.objs.size + 1) s1.heap.objs.size (Nat.succ_ne_self _) (Nat.ne_of_gt (Nat.lt_succ_of_lt ha)) (Nat.ne_of_lt ha), ⟨⟨.none, he'⟩, hi⟩, fun c hc => ?_, hR⟩
  have hle : s1.heap.objs.size ≤ c := by
    rcases List.mem_cons.mp hc with rfl | hc
    · exact Nat.le_succ _
    · rw [List.mem_singleton.mp hc]; exact Nat.le_refl _
  exact I1.fpOk hle (I1.hok.fresh hle)
end Pm
end
section
set_option Elab.async false
set_option linter.all false
set_option maxRecDepth 100000
set_option maxHeartbeats 2000000
namespace Pm
open PySem PySem.Spec PyProof.Rows L2
/-! ### zip of two tuples, of two lists, of a tuple and a list -/
def zipL (xs ys : List D) : List D := (xs.zip ys).map fun p => .tup [p.1, p.2]
theorem zipL_get {xs ys : List D} {i : Nat} {x y : D} (hx : xs[i]? = some x) (hy : ys[i]? = some y) : (zipL xs ys)[i]? = some (.tup [x, y]) := by
  unfold zipL
  have h : (xs.zip ys)[i]? = some (x, y) := List.getElem?_zip_eq_some.mpr ⟨hx, hy⟩
  rw [List.getElem?_map, h]
  rfl
theorem zipL_len {xs ys : List D} : (zipL xs ys).length = min xs.length ys.length := by
  unfold zipL
  rw [List.length_map, List.length_zip]
def zipD : D → D → M Itm
  | .tup xs, .tup ys => ret ⟨zipL xs ys, fun _ => true⟩
  | .loc l, .loc m => bnd (lst l) fun xs => bnd (lst m) fun ys => ret ⟨zipL xs ys, fun st => decide (st[l]? = some (.lst xs)) && decide (st[m]? = some (.lst ys))⟩
  | .tup xs, .loc m => bnd (lst m) fun ys => ret ⟨zipL xs ys, fun st => decide (st[m]? = some (.lst ys))⟩
  | .loc l, .tup ys => bnd (lst l) fun xs => ret ⟨zipL xs ys, fun st => decide (st[l]? = some (.lst xs)) && true⟩
  | _, _ => no
def zipI (f g : ME) : MI := fun ρ => bnd (f ρ) fun d => bnd (g ρ) fun e => zipD d e
/-- the two as they stand at each turn, the items in new pairs -/
def ItZ (b1 b2 : Bool) (K : PySem.W.Frag) (a b : Addr) : It :=
  ⟨fun i H => ∃ (xs ys : List V) (x y : V), SqB b1 K H a xs ∧ SqB b2 K H b ys ∧ xs[i]? = some x ∧ ys[i]? = some y,
    fun i H v H' => ∃ T x y us, v = .ref T ∧ H T = none ∧ H' = upd H T (frT us [x, y]) ∧ (∀ xs, SqB b1 K H a xs → xs[i]? = some x) ∧ ∀ ys, SqB b2 K H b ys → ys[i]? = some y,
    fun i H => ∃ xs ys : List V, SqB b1 K H a xs ∧ SqB b2 K H b ys ∧ i ≤ xs.length ∧ i ≤ ys.length ∧ (i = xs.length ∨ i = ys.length)⟩
theorem turn_Z {P : Program} {w : World} {K : PySem.W.Frag} {elts : List Expr} {kk : Nat} {tpos : Pos} (b1 b2 : Bool) {a b z TI TO i1 i2 : Addr} (S : ZipSep2 z TI TO i1 i2 [i1, a] [i2, b]) (ha : a ≠ i1) (hb : b ≠ i2) :
    Turn P w K (.Tuple elts kk tpos) (ItZ b1 b2 K a b) [z, TI, TO, i1, i2] z (fun i h => IsZip h z TI TO .none ∧ IsTupOf2 h TI (.ref i1) (.ref i2) ∧ (∃ x y, IsTupOf2 h TO x y) ∧ IterB b1 h i1 a i ∧ IterB b2 h i2 b i) where
  mem := by simp
  obj := fun i h st c hc => by
    obtain ⟨hz, hTI, ⟨x, y, hTO⟩, h1, h2⟩ := st
    obtain ⟨o1, v1, e1, d1⟩ := h1.ob
    obtain ⟨o2, v2, e2, d2⟩ := h2.ob
    have e' : c = z ∨ c = TI ∨ c = TO ∨ c = i1 ∨ c = i2 := by simpa using hc
    rcases e' with q | q | q | q | q
    · rw [q]; exact ⟨_, hz, fun v q => nomatch q⟩
    · rw [q]; exact ⟨_, hTI, fun v q => nomatch q⟩
    · rw [q]; exact ⟨_, hTO, fun v q => nomatch q⟩
    · rw [q]; exact ⟨o1, e1, fun v q => by rw [d1] at q; cases q⟩
    · rw [q]; exact ⟨o2, e2, fun v q => by rw [d2] at q; cases q⟩
  keep := fun i h h' st k => by
    obtain ⟨hz, hTI, ⟨x, y, hTO⟩, h1, h2⟩ := st
    exact ⟨k z (by simp) _ hz, k TI (by simp) _ hTI, ⟨x, y, k TO (by simp) _ hTO⟩, h1.at' fun o q => k i1 (by simp) o q, h2.at' fun o q => k i2 (by simp) o q⟩
  item := by
    intro X hP hw hK hc i pins s σ H E I hf st hg
    subst hP hw hK
    obtain ⟨hz, hTI, ⟨x0, y0, hTO⟩, h1, h2⟩ := st
    obtain ⟨xs, ys, x, y, hqx, hqy, hx, hy⟩ := hg
    obtain ⟨its, rv, p, _⟩ := sqB_at I hqx
    obtain ⟨its2, rv2, p2, _⟩ := sqB_at I hqy
    obtain ⟨u, hu, ru⟩ := rv.get hx
    obtain ⟨u2, hu2, ru2⟩ := rv2.get hy
    have hzl : z < s.heap.objs.size := Heap.lt_size hz
    have l1 : i < its.toArray.size := by rw [List.size_toArray]; exact (List.getElem?_eq_some_iff.mp hu).1
    have l2 : i < its2.toArray.size := by rw [List.size_toArray]; exact (List.getElem?_eq_some_iff.mp hu2).1
    have hh : X.A.in1.handled = none := I.ok.hd hc
    refine wpAny_pyNext_zipD2_item S (drawsB hh ha) (drawsB hh hb) hz hTI hTO ⟨h1, p⟩ ⟨h2, p2⟩ l1 l2 fun w1 w2 h' tk e1 e2 z' TO' n1 n2 hT hsz hk => ?_
    have q1 : w1 = u := by
      rw [List.getElem?_toArray, hu] at e1
      exact (Option.some.inj e1).symm
    have q2 : w2 = u2 := by
      rw [List.getElem?_toArray, hu2] at e2
      exact (Option.some.inj e2).symm
    subst q1 q2
    refine ⟨_, rfl, wpAny_letOwnedTupleGo_zip (s := { s with heap := h', toks := tk }) z' fun h'' z'' sb => ?_⟩
    have hT2 : h''.get? s.heap.objs.size = some (tupO [w1, w2]) := (sb.2 _ (Nat.ne_of_gt hzl)).trans hT
    have new : ObjOk X.prog X.w (upd H s.heap.objs.size (frT [w1, w2] [x, y])) h'' s.heap.objs.size (frT [w1, w2] [x, y]) :=
      tupF_ok (by show 2 ≤ sizeLine; rw [sizeLine_eq]; decide) (.cons ru (.cons ru2 .nil)) hT2
    have I1 : Inv X pins σ (upd H s.heap.objs.size (frT [w1, w2] [x, y])) { s with heap := h'', toks := tk } :=
      I.turnedNew (t' := tk) (ch := [z, TI, TO, i1, i2]) (fun c o hb q => (sb.2 c (fun q' => hb (by simp [q']))).trans (hk c o (fun q' => hb (by simp [q'])) (fun q' => hb (by simp [q'])) (fun q' => hb (by simp [q'])) (fun q' => hb (by simp [q'])) q)) hf (Nat.le_refl _) new
    refine ⟨.ref s.heap.objs.size, _, I1, rfl, ⟨_, x, y, _, rfl, I.hok.fresh (Nat.le_refl _), rfl, fun l hl => by rw [sqB_inj I hl hqx]; exact hx, fun l hl => by rw [sqB_inj I hl hqy]; exact hy⟩, ⟨z'', ?_, ⟨w1, w2, ?_⟩, ?_, ?_⟩, fun c hcm => ?_⟩
    · exact (sb.2 _ S.TIz).trans (hk _ _ S.TIz S.TITO S.TIi1 S.TIi2 hTI)
    · exact (sb.2 _ S.TOz).trans TO'
    · exact n1.1.at' fun o q => (sb.2 _ S.zi1.symm).trans q
    · exact n2.1.at' fun o q => (sb.2 _ S.zi2.symm).trans q
    · have hlt : c < s.heap.objs.size := by
        have e' : c = z ∨ c = TI ∨ c = TO ∨ c = i1 ∨ c = i2 := by simpa using hcm
        rcases e' with q | q | q | q | q
        · rw [q]; exact hzl
        · rw [q]; exact Heap.lt_size hTI
        · rw [q]; exact Heap.lt_size hTO
        · rw [q]; obtain ⟨_, _, e1, _⟩ := h1.ob; exact Heap.lt_size e1
        · rw [q]; obtain ⟨_, _, e2, _⟩ := h2.ob; exact Heap.lt_size e2
      rw [upd_ne (Nat.ne_of_lt hlt)]
      exact (hf c hcm).1
  done := by
    intro X hP hw hK hc i pins s σ H E I hf st hg
    subst hP hw hK
    obtain ⟨hz, hTI, ⟨x0, y0, hTO⟩, h1, h2⟩ := st
    obtain ⟨xs, ys, hqx, hqy, g1, g2, hend⟩ := hg
    obtain ⟨its, rv, p, _⟩ := sqB_at I hqx
    obtain ⟨its2, rv2, p2, _⟩ := sqB_at I hqy
    have l1 := rv.length
    have l2 := rv2.length
    have hh : X.A.in1.handled = none := I.ok.hd hc
    exact wpAny_pyNext_zipD2_end S (drawsB hh ha) (drawsB hh hb) hz hTI hTO ⟨h1, p⟩ ⟨h2, p2⟩ (by rw [List.size_toArray]; omega) (by rw [List.size_toArray]; omega) (by rw [List.size_toArray, List.size_toArray]; omega) fun h' tk hk =>
      ⟨rfl, I.turnedL (t' := tk) (ch := [z, TI, TO, i1, i2]) (fun c o hb q => hk c o (fun q' => hb (by simp [q'])) (fun q' => hb (by simp [q'])) (fun q' => hb (by simp [q'])) (fun q' => hb (by simp [q'])) q) hf⟩
  self := fun A i s Q E st h => wpAny_pyIter_zip st.1 h
def iZ (K : PySem.W.Frag) (ta : TA) : TI := fun σ H R => ta σ H fun vs H1 => ∃ a b b1 b2 xs ys, vs = [.ref a, .ref b] ∧ SqB b1 K H1 a xs ∧ SqB b2 K H1 b ys ∧ R (ItZ b1 b2 K a b) H1
theorem pi_Z {X : Cx} {e e2 : Expr} {ta : TA} {p pos tpos : Pos} {elts : List Expr} {kk : Nat} (hg : Gl X "zip") (hm : X.mg "zip" = none) (ha : PA X [e, e2] ta)
    (hs : starEach [e, e2] X.env = (false, eval e X.env) :: starEach [e2] X.env := by rfl) (hpl : (backTo pos (starEach [e2] X.env)).any (·.1) = false := by rfl) :
    PI X (.Tuple elts kk tpos) (.Call (.Name "zip" p) [e, e2] [] pos) (iZ X.K ta) := by
  refine ⟨fun pins s σ H R I h => ?_⟩
  refine Call_ (ld_blt I hg hm PyProof.Rows.boot_zip (PyProof.Rows.callWith_type1 (thn (ha.run pos pins s σ H _ I h) fun us s1 ⟨vs, H1, I1, r1, q1⟩ => ?_) hs hpl))
  obtain ⟨a, b, b1, b2, xs, ys, ex, hqx, hqy, q⟩ := q1
  subst ex
  cases r1 with
  | cons r rr =>
    cases rr with
    | cons r' rr =>
      cases rr
      cases r
      cases r'
      obtain ⟨its, rv, p1, la⟩ := sqB_at I1 hqx
      obtain ⟨its2, rv2, p2, lb⟩ := sqB_at I1 hqy
      have fresh5 : ∀ c, c ∈ [s1.heap.objs.size + 4, s1.heap.objs.size + 2, s1.heap.objs.size + 3, s1.heap.objs.size, s1.heap.objs.size + 1] → FpOk X pins H1 c := fun c hcm => by
        have e' : c = s1.heap.objs.size + 4 ∨ c = s1.heap.objs.size + 2 ∨ c = s1.heap.objs.size + 3 ∨ c = s1.heap.objs.size ∨ c = s1.heap.objs.size + 1 := by simpa using hcm
        have hle : s1.heap.objs.size ≤ c := by
          rcases e' with z | z | z | z | z
          · rw [z]; exact Nat.le_add_right _ _
          · rw [z]; exact Nat.le_add_right _ _
          · rw [z]; exact Nat.le_add_right _ _
          · rw [z]; exact Nat.le_refl _
          · rw [z]; exact Nat.le_add_right _ _
        exact I1.fpOk hle (I1.hok.fresh hle)
      refine zip_begins2 (beginsB b1 a its.toArray) (beginsB b2 b its2.toArray) p1 p2 fun h' hz hTI hTO h1 h2 hsz hk => wpAny_pyIter_zip hz ?_
      have I2 : Inv X pins σ H1 { s1 with heap := h' } := I1.kept (t' := s1.toks) hk
      have S : ZipSep2 (s1.heap.objs.size + 4) (s1.heap.objs.size + 2) (s1.heap.objs.size + 3) s1.heap.objs.size (s1.heap.objs.size + 1) [s1.heap.objs.size, a] [s1.heap.objs.size + 1, b] :=
        zip_sep2 (fun c hc => by rw [List.mem_singleton.mp hc]; exact la) (fun c hc => by rw [List.mem_singleton.mp hc]; exact lb)
      have nb : b ≠ s1.heap.objs.size + 1 := Nat.ne_of_lt (Nat.lt_succ_of_lt lb)
      exact ⟨s1.heap.objs.size + 4, [s1.heap.objs.size + 4, s1.heap.objs.size + 2, s1.heap.objs.size + 3, s1.heap.objs.size, s1.heap.objs.size + 1], _, _, H1, rfl, I2, turn_Z b1 b2 S (Nat.ne_of_lt la) nb, ⟨hz, hTI, ⟨_, _, hTO⟩, iterB_of h1, iterB_of h2⟩, fresh5, q⟩
section
variable {X : Cx} {c : Ct} {ex : Wh} {pos tp : Pos} {e e2 : Expr} {f g : ME} {bs : List Addr} {H : Hp} {el : List Expr} {kk : Nat}
/-- what the object there is, as a sequence -/
def AtB (c : Ct) (b : Bool) (a : Addr) (xs : List D) (ok : Sto → Bool) (bs : List Addr) (H : Hp) : Prop := ∀ (st : Sto) (bs' : List Addr) (H' : Hp), Ext bs H bs' H' → Rel c bs' H' st → ok st = true → ∃ vs, SqB b c.K H' a vs ∧ RDs c bs' H' vs xs
theorem wk_Z {a b : Addr} {b1 b2 : Bool} {xs ys : List D} {ok1 ok2 : Sto → Bool} (h1 : AtB c b1 a xs ok1 bs H) (h2 : AtB c b2 b ys ok2 bs H) : Wk c ⟨zipL xs ys, fun st => ok1 st && ok2 st⟩ bs H (ItZ b1 b2 c.K a b) := by
  have at_ : ∀ {H' : Hp} {bs' : List Addr} {st : Sto}, Ext bs H bs' H' → Rel c bs' H' st → (ok1 st && ok2 st) = true → ∃ vs ws, SqB b1 c.K H' a vs ∧ RDs c bs' H' vs xs ∧ SqB b2 c.K H' b ws ∧ RDs c bs' H' ws ys := fun {H' bs' st} e rl h => by
    rw [Bool.and_eq_true] at h
    obtain ⟨vs, s, r⟩ := h1 st bs' H' e rl h.1
    obtain ⟨ws, s', r'⟩ := h2 st bs' H' e rl h.2
    exact ⟨vs, ws, s, r, s', r'⟩
  refine ⟨fun i H' hi ⟨st, bs', e, rl, h⟩ => ?_, fun H' ⟨st, bs', e, rl, h⟩ => ?_, fun i H' v H2 hi ⟨st0, bs0, e0, _, _⟩ y st bs' e rl h => ?_⟩
  · obtain ⟨vs, ws, s, r, s', r'⟩ := at_ e rl h
    have hi : i < min xs.length ys.length := by rw [← zipL_len]; exact hi
    have h1 : i < vs.length := by rw [r.length]; omega
    have h2 : i < ws.length := by rw [r'.length]; omega
    exact ⟨vs, ws, vs[i], ws[i], s, s', List.getElem?_eq_getElem h1, List.getElem?_eq_getElem h2⟩
  · obtain ⟨vs, ws, s, r, s', r'⟩ := at_ e rl h
    refine ⟨vs, ws, s, s', ?_⟩
    show (zipL xs ys).length ≤ vs.length ∧ (zipL xs ys).length ≤ ws.length ∧ ((zipL xs ys).length = vs.length ∨ (zipL xs ys).length = ws.length)
    rw [zipL_len, r.length, r'.length]
    omega
  · obtain ⟨T, x, y, us, rfl, hT, rfl, k1, k2⟩ := y
    obtain ⟨vs, ws, s, r, s', r'⟩ := at_ e rl h
    obtain ⟨d, hd, rd⟩ := r.getV (k1 vs s)
    obtain ⟨d', hd', rd'⟩ := r'.getV (k2 ws s')
    obtain ⟨e2, rl2⟩ := rl.fresh hT (frT us [x, y])
    exact ⟨e2, rl2, _, zipL_get hd hd', .tup sqF dlF (.cons (rd.ext e2) (.cons (rd'.ext e2) .nil))⟩
theorem atB_tup {a : Addr} {vs : List V} {xs : List D} (s : SqT c.K H a vs) (r : RDs c bs H vs xs) : AtB c true a xs (fun _ => true) bs H := fun st bs' H' e rl _ => ⟨vs, e.sqT s, r.ext e⟩
theorem atB_lst {a : Addr} {l : Nat} {xs : List D} (hb : bs[l]? = some a) : AtB c false a xs (fun st => decide (st[l]? = some (.lst xs))) bs H := fun st bs' H' e rl h => by
  obtain ⟨vs, hv, r⟩ := rl.obj l a _ (e.get hb) (of_decide_eq_true h)
  exact ⟨vs, SqL.of hv, r⟩
theorem mi_zip (hK : X.K = c.K) (hg : Gl X "zip") (hm : X.mg "zip" = none) (ha : PE X e (tE c ex f)) (hb : PE X e2 (tE c ex g)) (hs0 : starEach [e2] X.env = (false, eval e2 X.env) :: starEach [] X.env := by rfl)
    (hs : starEach [e, e2] X.env = (false, eval e X.env) :: starEach [e2] X.env := by rfl) (hpl : (backTo pos (starEach [e2] X.env)).any (·.1) = false := by rfl) {p : Pos} :
    PI X (.Tuple el kk tp) (.Call (.Name "zip" p) [e, e2] [] pos) (tI c ex (zipI f g)) := PI_imp (pi_Z hg hm (pa_cons ha (pa_cons hb pa_nil hs0) hs) hs hpl) fun σ H R q => by
  obtain ⟨ρ, st, bs, rl, re, p⟩ := q
  refine ⟨ρ, st, bs, rl, re, p.bnd.imp fun d st1 bs1 H1 e1 rl1 p1 v rv => ?_⟩
  refine ⟨ρ, st1, bs1, rl1, re.ext e1, p1.bnd.imp fun d2 st2 bs2 H2 e2 rl2 p2 v2 rv2 => ?_⟩
  have rv := rv.ext e2
  rw [hK]
  cases rv with
  | tup s tl r =>
    cases rv2 with
    | tup s' tl' r' => exact ⟨_, _, true, true, _, _, rfl, s, s', p2.now rl2 _ ⟨wk_Z (atB_tup s r) (atB_tup s' r'), fun _ _ h _ => wk_Z (atB_tup ((hid_pre (c := c) (bs := bs2) h).sqT _ _ s) (r.mono (hid_pre h))) (atB_tup ((hid_pre (c := c) (bs := bs2) h).sqT _ _ s') (r'.mono (hid_pre h)))⟩⟩
    | loc h' =>
      obtain ⟨a2, ws, ys, ee, hb', hl', hv', r', p4⟩ := post_lst (k := fun _ _ _ _ => True) p2 rl2 (RD.loc h')
      cases ee
      exact ⟨_, _, true, false, _, _, rfl, s, SqL.of hv', p4.now rl2 _ ⟨wk_Z (ok1 := fun _ => true) (atB_tup s r) (atB_lst hb'), fun _ _ h _ => wk_Z (ok1 := fun _ => true) (atB_tup ((hid_pre (c := c) (bs := bs2) h).sqT _ _ s) (r.mono (hid_pre h))) (atB_lst hb')⟩⟩
    | _ => exact p2.elim
  | loc h =>
    cases rv2 with
    | loc h' =>
      obtain ⟨a1, vs, xs, ee, hb, hl, hv, r, p3⟩ := post_lst (k := fun _ _ _ _ => True) p2 rl2 (RD.loc h)
      cases ee
      obtain ⟨a2, ws, ys, ee, hb', hl', hv', r', p4⟩ := post_lst (k := fun _ _ _ _ => True) p3 rl2 (RD.loc h')
      cases ee
      exact ⟨_, _, false, false, _, _, rfl, SqL.of hv, SqL.of hv', p4.now rl2 _ ⟨wk_Z (atB_lst hb) (atB_lst hb'), fun _ _ _ _ => wk_Z (atB_lst hb) (atB_lst hb')⟩⟩
    | tup s' tl' r' =>
      obtain ⟨a1, vs, xs, ee, hb, hl, hv, r, p3⟩ := post_lst (k := fun _ _ _ _ => True) p2 rl2 (RD.loc h)
      cases ee
      exact ⟨_, _, false, true, _, _, rfl, SqL.of hv, s', p3.now rl2 _ ⟨wk_Z (ok2 := fun _ => true) (atB_lst hb) (atB_tup s' r'), fun _ _ h _ => wk_Z (ok2 := fun _ => true) (atB_lst hb) (atB_tup ((hid_pre (c := c) (bs := bs2) h).sqT _ _ s') (r'.mono (hid_pre h)))⟩⟩
    | _ => exact p2.elim
  | _ => cases rv2 <;> exact p2.elim
end
end Pm
end
section
set_option Elab.async false
set_option linter.all false
set_option maxRecDepth 100000
set_option maxHeartbeats 2000000
namespace Pm
open PySem PySem.Spec PyProof.Rows L2
/-! ### constants of the modules -/
mutual
def cB (K : PySem.W.Frag) : D → Value → Bool
  | .non, .none => true
  | .bl b, .bool b' => b == b'
  | .int i, .int j _ => decide (i = j)
  | .str s, .str t _ => decide (s = t)
  | .tup ds, .ref a => match K.lookup a with
    | some ⟨.type c, od, .seq its _, _⟩ => od.isNone && (decide (c = "tuple") && (decide (its.size ≤ sizeLine) && cBs K ds its.toList))
    | _ => false
  | _, _ => false
def cBs (K : PySem.W.Frag) : List D → List Value → Bool
  | [], [] => true
  | d :: ds, u :: us => cB K d u && cBs K ds us
  | _, _ => false
end
mutual
theorem cB_ok {K : PySem.W.Frag} : ∀ {d : D} {u : Value}, cB K d u = true → ∃ v, RelV v u ∧ ∀ (c : Ct) bs H, c.K = K → RD c bs H v d
  | .non, u, h => by
    cases u with
    | none => exact ⟨.non, rfl, fun _ _ _ _ => .non⟩
    | _ => simp [cB] at h
  | .bl b, u, h => by
    cases u with
    | bool b' =>
      have e : b = b' := by simpa [cB] using h
      subst e
      exact ⟨.bl b, rfl, fun _ _ _ _ => .bl b⟩
    | _ => simp [cB] at h
  | .int i, u, h => by
    cases u with
    | int j t =>
      have e : i = j := by simpa [cB] using h
      subst e
      exact ⟨.int i, ⟨_, rfl⟩, fun _ _ _ _ => .int i⟩
    | _ => simp [cB] at h
  | .str s, u, h => by
    cases u with
    | str j t =>
      have e : s = j := by simpa [cB] using h
      subst e
      exact ⟨.str s, ⟨_, rfl⟩, fun _ _ _ _ => .str s⟩
    | _ => simp [cB] at h
  | .tup ds, u, h => by
    cases u with
    | ref a =>
      rw [cB] at h
      cases q : K.lookup a with
      | none => rw [q] at h; cases h
      | some o =>
        obtain ⟨oc, od, dt, osl⟩ := o
        rw [q] at h
        cases oc with
        | type c =>
          cases dt with
          | seq its n =>
            have h : (od.isNone && (decide (c = "tuple") && (decide (its.size ≤ sizeLine) && cBs K ds its.toList))) = true := h
            rw [Bool.and_eq_true, Bool.and_eq_true, Bool.and_eq_true] at h
            obtain ⟨h0, h1, h2, h3⟩ := h
            have hd : od = none := by cases od with
              | none => rfl
              | some _ => cases h0
            obtain ⟨vs, rv, r⟩ := cBs_ok h3
            exact ⟨.ref a, rfl, fun c bs H hK => .tup (.inr ⟨_, its, n, by rw [hK]; exact q, congrArg Value.type (of_decide_eq_true h1), rfl, of_decide_eq_true h2, rv⟩) (.inr ⟨_, by rw [hK]; exact q, hd⟩) (r c bs H hK)⟩
          | _ => cases h
        | _ => cases dt <;> cases h
    | _ => simp [cB] at h
  | .loc _, u, h => by cases u <;> simp [cB] at h
  | .scr, u, h => by cases u <;> simp [cB] at h
theorem cBs_ok {K : PySem.W.Frag} : ∀ {ds : List D} {us : List Value}, cBs K ds us = true → ∃ vs, Vals vs us ∧ ∀ (c : Ct) bs H, c.K = K → RDs c bs H vs ds
  | [], [], _ => ⟨[], .nil, fun _ _ _ _ => .nil⟩
  | d :: ds, u :: us, h => by
    rw [cBs, Bool.and_eq_true] at h
    obtain ⟨v, r1, r2⟩ := cB_ok h.1
    obtain ⟨vs, r3, r4⟩ := cBs_ok h.2
    exact ⟨v :: vs, .cons r1 r3, fun c bs H hK => .cons (r2 c bs H hK) (r4 c bs H hK)⟩
  | [], _ :: _, h => by simp [cBs] at h
  | _ :: _, [], h => by simp [cBs] at h
end
def kB (l : List (Str × D)) (K : PySem.W.Frag) : Bool := l.all fun p => match PySem.W.nsIn K mainGlobals p.1 with
  | some (some u) => cB K p.2 u
  | _ => false
def KD (K : PySem.W.Frag) (mg : Str → Option Value) (x : Str) (d : D) : Prop := ∃ u v, mg x = some u ∧ RelV v u ∧ ∀ (c : Ct) bs H, c.K = K → RD c bs H v d
theorem kB_ok {l : List (Str × D)} {K : PySem.W.Frag} {h : Heap} {mg : Str → Option Value} (X : K.In h) (G : h.Ns mainGlobals mg) (hk : kB l K = true) (i : Nat) {x : Str} {d : D} (hi : l[i]? = some (x, d) := by rfl) : KD K mg x d := by
  have h1 := List.all_eq_true.mp hk (x, d) (List.mem_of_getElem? hi)
  cases q : PySem.W.nsIn K mainGlobals x with
  | none => simp only [q] at h1; cases h1
  | some o =>
    cases o with
    | none => simp only [q] at h1; cases h1
    | some u =>
      simp only [q] at h1
      obtain ⟨v, r1, r2⟩ := cB_ok h1
      exact ⟨u, v, PySem.W.mg_of X G q, r1, r2⟩
section
variable {X : Cx} {c : Ct} {ex : Wh} {pos : Pos} {e : Expr} {f : ME}
theorem md_con {x : Str} {d : D} {K : PySem.W.Frag} {mg : Str → Option Value} (h : KD K mg x d) (hK : c.K = K) (hg : Gl X x) (hm : X.mg = mg) (hd : (x == ("__debug__" : Str)) = false := by decide) : PE X (.Name x pos) (tE c ex (kon d)) := by
  obtain ⟨u, v, h1, h2, h3⟩ := h
  exact md_glob hg (by rw [hm]; exact h1) h2 (fun bs H => h3 c bs H hK) hd
/-! ### tuple(range(n)) -/
def tTupRgF (te : L2.St → Hp → (Int → Int → Hp → Prop) → Prop) : TE := fun σ H Q => te σ H fun a b H1 => RgOk a b ∧ ∀ q us, H1 q = none → Q (.ref q) (upd H1 q (frT us (rgV a b)))
theorem pe_tupRgF {te : L2.St → Hp → (Int → Int → Hp → Prop) → Prop} {p : Pos} (hc : X.calm = true) (hg : Gl X "tuple") (hm : X.mg "tuple" = none) (he : PRg X e te) (na : starEach [e] X.env = (false, eval e X.env) :: starEach [] X.env := by rfl) : PE X (.Call (.Name "tuple" p) [e] [] pos) (tTupRgF te) := by
  refine ⟨fun pins s σ H Q I h => ?_⟩
  refine Call_ (ld_blt I hg hm boot_tuple (PyProof.Rows.callWith_type1 (PyProof.Rows.args_cons (thn (he pins s σ H _ I h) fun x s1 ⟨r, a, b, t, u, v, H1, ex, hr, I1, ok, q⟩ => PyProof.Rows.args_nil ?_) na) na rfl))
  subst ex
  obtain ⟨b1, b2, b3, b4, b5⟩ := ok
  refine call_tuple_range (n := (b - a).toNat) (I1.ok.hd hc) hr (small_one b1 b2 b3 b4) (rangeSize_nat a b) b5 fun h' tk acc hk hi => ?_
  have I2 : Inv X pins σ H1 { s1 with heap := h', toks := tk } := I1.kept hk
  have e : acc = acc.toList.toArray := by rw [Array.toArray_toList]
  rw [e]
  exact ⟨.ref h'.objs.size, _, tupN I2 (by rw [rgV_length, sizeLine_eq]; omega) (vals_rg hi) tk, rfl, q _ _ (I2.hok.fresh (Nat.le_refl _))⟩
def bRgT : D → M D
  | .int n => if -(2 ^ 62) ≤ n ∧ n ≤ 2 ^ 24 then ret (.tup ((List.range n.toNat).map fun i => .int (0 + (i : Nat)))) else no
  | _ => no
theorem md_tupRg {a : Expr} {p p' : Pos} (hc : X.calm = true) (hg : Gl X "tuple") (hm : X.mg "tuple" = none) (hg' : Gl X "range") (hm' : X.mg "range" = none) (ha : PE X a (tE c ex f))
    (na : starEach [a] X.env = (false, eval a X.env) :: starEach [] X.env := by rfl) (na' : starEach [.Call (.Name "range" p') [a] [] pos] X.env = (false, eval (.Call (.Name "range" p') [a] [] pos) X.env) :: starEach [] X.env := by rfl) {pos2 : Pos} :
    PE X (.Call (.Name "tuple" p) [.Call (.Name "range" p') [a] [] pos] [] pos2) (tE c ex (una f bRgT)) :=
  PE_imp (pe_tupRgF hc hg hm (prg_1 hg' hm' ha na) na') fun σ H Q q => by
    obtain ⟨ρ, st, bs, rl, re, p⟩ := q
    refine ⟨ρ, st, bs, rl, re, p.bnd.imp fun d st1 bs1 H1 e1 rl1 p1 v rv => ?_⟩
    cases rv with
    | int n =>
      obtain ⟨⟨h1, h2⟩, p1⟩ := Post.iff (m := ret _) p1
      refine ⟨n, rfl, ⟨by decide, by decide, h1, by omega, by omega⟩, fun q us hq => ?_⟩
      have e : rgV 0 n = (List.range n.toNat).map fun i => V.int (0 + (i : Nat)) := by
        unfold rgV
        rw [Int.sub_zero]
      rw [e]
      obtain ⟨e2, rl2⟩ := rl1.fresh hq (frT us ((List.range n.toNat).map fun i => V.int (0 + (i : Nat))))
      exact p1.at e2 rl2 _ (.tup sqF dlF (RDs.mapI (fun i => 0 + (i : Nat)) _))
    | _ => exact p1.elim
end
end Pm
end
section
set_option Elab.async false
set_option linter.all false
set_option maxRecDepth 100000
set_option maxHeartbeats 2000000
namespace Pm
open PySem PySem.Spec PyProof.Rows L2
/-! ### rows: tuples of ints and texts, by their order -/
abbrev Row := List Key
def kI : Key → Int ⊕ List Nat
  | .inl i => .inl i
  | .inr s => .inr s.cps.toList
theorem kI_inj : ∀ {a b : Key}, kI a = kI b → a = b
  | .inl i, .inl j, h => by cases h; rfl
  | .inr s, .inr t, h => by
    have h : s.cps.toList = t.cps.toList := Sum.inr.inj h
    obtain ⟨s⟩ := s
    obtain ⟨t⟩ := t
    have h : s = t := Array.toList_inj.mp h
    rw [h]
  | .inl _, .inr _, h => by cases h
  | .inr _, .inl _, h => by cases h
theorem kIs_inj : ∀ {a b : Row}, a.map kI = b.map kI → a = b
  | [], [], _ => rfl
  | [], _ :: _, h => by cases h
  | _ :: _, [], h => by cases h
  | x :: a, y :: b, h => by
    obtain ⟨h1, h2⟩ := List.cons.inj h
    rw [kI_inj h1, kIs_inj h2]
def ltR (a b : Row) : Bool := lexLt itemOrd (a.map kI) (b.map kI)
theorem ltR_irr (a : Row) : ltR a a = false := lex_irrefl (O := itemOrd) _
theorem ltR_asym {a b : Row} (h : ltR a b = true) : ltR b a = false := by
  cases e : ltR b a with
  | false => rfl
  | true => exact absurd (lex_trans (O := itemOrd) _ _ _ h e) (by rw [lex_irrefl]; decide)
theorem ltR_tr {x y z : Row} (h1 : ltR y x = false) (h2 : ltR z y = false) : ltR z x = false := by
  cases e : ltR z x with
  | false => rfl
  | true =>
    rcases lex_negTrans (O := itemOrd) _ (y.map kI) _ e with q | q
    · exact absurd (h2.symm.trans q) (by decide)
    · exact absurd (h1.symm.trans q) (by decide)
theorem ltR_anti {a b : Row} (h1 : ltR a b = false) (h2 : ltR b a = false) : a = b := kIs_inj (lex_total (O := itemOrd) _ _ h1 h2)
theorem swo_R {α : Type} (k : α → Row) : SrtO.Swo fun x y => ltR (k x) (k y) := ⟨fun _ _ h => ltR_asym h, fun _ _ _ h1 h2 => ltR_tr h1 h2⟩
def insR (x : Row) : List Row → List Row
  | [] => [x]
  | y :: r => if ltR y x = true then y :: insR x r else x :: y :: r
def sortR : List Row → List Row
  | [] => []
  | x :: r => insR x (sortR r)
theorem insR_perm (x : Row) : ∀ r : List Row, (insR x r).Perm (x :: r)
  | [] => .refl _
  | y :: r => by
    unfold insR
    split
    · exact ((insR_perm x r).cons y).trans (.swap x y r)
    · exact .refl _
theorem sortR_perm : ∀ r : List Row, (sortR r).Perm r
  | [] => .refl _
  | n :: r => (insR_perm n (sortR r)).trans ((sortR_perm r).cons n)
theorem insR_sorted (x : Row) : ∀ r : List Row, r.Pairwise (fun a b => ltR b a = false) → (insR x r).Pairwise (fun a b => ltR b a = false)
  | [], _ => by simp [insR]
  | y :: r, h => by
    unfold insR
    rw [List.pairwise_cons] at h
    split
    · rename_i hn
      rw [List.pairwise_cons]
      refine ⟨fun z hz => ?_, insR_sorted x r h.2⟩
      rcases List.mem_cons.mp ((insR_perm x r).mem_iff.mp hz) with rfl | hz
      · exact ltR_asym hn
      · exact h.1 z hz
    · rename_i hn
      have hn : ltR y x = false := by simpa using hn
      rw [List.pairwise_cons, List.pairwise_cons]
      refine ⟨fun z hz => ?_, h⟩
      rcases List.mem_cons.mp hz with rfl | hz
      · exact hn
      · exact ltR_tr hn (h.1 z hz)
theorem sortR_sorted : ∀ r : List Row, (sortR r).Pairwise (fun a b => ltR b a = false)
  | [] => .nil
  | n :: r => insR_sorted n _ (sortR_sorted r)
theorem sortR_uniq {l m : List Row} (h : l.Perm m) (hs : l.Pairwise (fun a b => ltR b a = false)) : l = sortR m :=
  List.Perm.eq_of_pairwise (le := fun a b => ltR b a = false) (fun a b _ _ h1 h2 => ltR_anti h2 h1) hs (sortR_sorted m) (h.trans (sortR_perm m).symm)
/-- what a tuple of the heap tells -/
def vKey : Value → Option Key
  | .int n _ => some (.inl n)
  | .str x _ => some (.inr x)
  | _ => none
def rowAt (h : Heap) : Value → Row
  | .ref a => match h.get? a with
    | some o => match o.data with
      | .seq xs _ => xs.toList.filterMap vKey
      | _ => []
    | none => []
  | _ => []
theorem vKey_vals : ∀ {row : Row} {us : List Value}, Vals (row.map kV) us → us.filterMap vKey = row
  | [], _, .nil => rfl
  | .inl i :: row, _, .cons r rr => by
    obtain ⟨t, rfl⟩ := r
    simp [vKey, vKey_vals rr]
  | .inr i :: row, _, .cons r rr => by
    obtain ⟨t, rfl⟩ := r
    simp [vKey, vKey_vals rr]
def okRow (sh : Nat → Bool) : Nat → Row → Bool
  | _, [] => true
  | i, .inl _ :: r => !sh i && okRow sh (i + 1) r
  | i, .inr _ :: r => sh i && okRow sh (i + 1) r
theorem items_row {sh : Nat → Bool} : ∀ {row : Row} {us : List Value} {i : Nat}, Vals (row.map kV) us → okRow sh i row = true → tupItems sh i us = some (row.map kI)
  | [], _, _, .nil, _ => rfl
  | .inl n :: row, _, i, .cons r rr, h => by
    obtain ⟨t, rfl⟩ := r
    rw [okRow, Bool.and_eq_true] at h
    have h1 : sh i = false := by simpa using h.1
    simp [tupItems, h1, items_row rr h.2, kI]
  | .inr n :: row, _, i, .cons r rr, h => by
    obtain ⟨t, rfl⟩ := r
    rw [okRow, Bool.and_eq_true] at h
    simp [tupItems, h.1, items_row rr h.2, kI]
def IsRow (h : Heap) (v : Value) (row : Row) : Prop := ∃ a o xs n, v = .ref a ∧ h.get? a = some o ∧ o.cls = .type "tuple" ∧ o.data = .seq xs n ∧ Vals (row.map kV) xs.toList
theorem IsRow.at {h : Heap} {v : Value} {row : Row} (r : IsRow h v row) : rowAt h v = row := by
  obtain ⟨a, o, xs, n, rfl, ho, hc, hd, rv⟩ := r
  unfold rowAt
  simp only [ho, hd]
  exact vKey_vals rv
theorem IsRow.keeps {h h' : Heap} {v : Value} {row : Row} (r : IsRow h v row) (k : ∀ b o, h.get? b = some o → o.cls = .type "tuple" → h'.get? b = some o) : IsRow h' v row := by
  obtain ⟨a, o, xs, n, rfl, ho, hc, hd, rv⟩ := r
  exact ⟨a, o, xs, n, rfl, k a o ho hc, hc, hd, rv⟩
section
variable {prog : Program} {w : World} {A : Around} {E : Value → Shared → Prop} {s : Shared}
theorem row_tupOf {sh : Nat → Bool} : ∀ {vs : List Value} {k : Value → Row}, (∀ v ∈ vs, IsRow s.heap v (k v) ∧ okRow sh 0 (k v) = true ∧ k v ≠ []) → ∃ fs, TupsOf s.heap sh vs fs ∧ fs.length = vs.length
  | [], _, _ => ⟨[], .nil, rfl⟩
  | v :: vs, k, h => by
    obtain ⟨fs, h1, h2⟩ := row_tupOf (vs := vs) fun u hu => h u (List.mem_cons_of_mem _ hu)
    obtain ⟨⟨a, o, xs, n, rfl, ho, hc, hd, rv⟩, ho2, hn⟩ := h v List.mem_cons_self
    cases e : k (.ref a) with
    | nil => exact absurd e hn
    | cons x r =>
      rw [e] at rv ho2
      cases ex : xs.toList with
      | nil => rw [ex] at rv; cases rv
      | cons u us =>
        rw [ex] at rv
        cases rv with
        | cons ru rr =>
          have hx0 : xs[0]? = some u := by rw [← Array.getElem?_toList, ex]; rfl
          refine ⟨u :: fs, .cons ⟨a, o, xs, n, rfl, ho, hc, hd, hx0, fun z => ?_, fun z => ?_⟩ h1, by simp [h2]⟩
          · cases x with
            | inl i => obtain ⟨t, rfl⟩ := ru; exact ⟨_, _, rfl⟩
            | inr i =>
              rw [okRow, Bool.and_eq_true] at ho2
              rw [ho2.1] at z; cases z
          · cases x with
            | inr i => obtain ⟨t, rfl⟩ := ru; exact ⟨_, _, rfl⟩
            | inl i =>
              rw [okRow, Bool.and_eq_true] at ho2
              have h3 : sh 0 = false := by simpa using ho2.1
              rw [h3] at z; cases z
theorem rows_cmp {sh : Nat → Bool} {vs : List Value} {k : Value → Row} (hp : ∀ v ∈ vs, IsRow s.heap v (k v) ∧ okRow sh 0 (k v) = true ∧ k v ≠ []) : SrtO.Cmp prog w A s (tuples' true) (fun p => p.1 ∈ vs) (SrtO.lt2 fun v u => ltR (k v) (k u)) := by
  intro p q hm hm'
  obtain ⟨⟨a, o, xs, n, e, ho, hc, hd, rv⟩, h1, _⟩ := hp _ hm
  obtain ⟨⟨a', o', xs', n', e', ho', hc', hd', rv'⟩, h1', _⟩ := hp _ hm'
  refine tup_ltAt (shape := sh) true A _ p.1 q.1 ((k p.1).map kI) ((k q.1).map kI) ?_ ?_ ⟨rfl, rfl⟩
  · show tupKey s.heap sh p.1 = _
    rw [e] at rv h1 ⊢
    unfold tupKey
    simp only [ho, hd]
    exact items_row rv h1
  · show tupKey s.heap sh q.1 = _
    rw [e'] at rv' h1' ⊢
    unfold tupKey
    simp only [ho', hd']
    exact items_row rv' h1'
theorem rows_sortable {sh : Nat → Bool} {a : Addr} {vs : List Value} {k : Value → Row} (h0 : 0 < vs.length) (hp : ∀ v ∈ vs, IsRow s.heap v (k v) ∧ okRow sh 0 (k v) = true ∧ k v ≠ []) (ha : ∀ o, s.heap.get? a = some o → o.cls ≠ .type "tuple") : SrtO.SortableO prog w A s a vs fun v u => ltR (k v) (k u) := by
  intro h' keep
  have hp' : ∀ v ∈ vs, IsRow h' v (k v) ∧ okRow sh 0 (k v) = true ∧ k v ≠ [] := fun v hm => ⟨(hp v hm).1.keeps fun b o e c => keep b o (fun z => by subst z; exact ha o e c) e, (hp v hm).2⟩
  obtain ⟨fs, h1, h2⟩ := row_tupOf (s := { s with heap := h' }) hp'
  exact ⟨tuples' true, fun Q E hq => tup_kind (s := { s with heap := h' }) (by omega) h1 hq, rows_cmp hp'⟩
end
/-! ### sorted of a tuple, any order -/
theorem sortedCk {prog : Program} {w : World} {A : Around} {E : Value → Shared → Prop} {s : Shared} {t : Addr} {vs : List Value} {lt : Value → Value → Bool} {Q : Value → Shared → Prop} (O : SrtO.Swo lt) (ht : IsTup s.heap t vs.toArray) (hz : vs.length ≤ sizeLine)
    (hS : 2 ≤ vs.length → ∀ (h₁ : Heap) (a : Addr), h₁.get? a = some (PyProof.Rows.seqObj "list" vs.toArray 0) → (∀ b o, s.heap.get? b = some o → b ≠ a ∧ h₁.get? b = some o) → SrtO.SortableO prog w A.in1.in1 { s with heap := h₁ } a vs lt)
    (h : ∀ out : List Value, SrtO.Srtd lt out → SrtO.Stb lt out vs → Q (.ref (s.heap.objs.size + 1)) { s with heap := PyProof.Rows.sortedAll s.heap vs out.toArray }) :
    wpAny (model prog w) A (call (.builtin "sorted") [.ref t]) Q E s := by
  refine Calls.call_function_entry PyProof.Rows.kind_sorted PyProof.Rows.plain_sorted PyProof.Rows.entry_sorted (PyProof.Rows.args_sorted1 _) (by
    unfold Builtin.«sorted»
    refine wpAny_bind (m := checkCount "sorted" 1 1 _) (wpAny_pure (wpAny_bind (collectC ht (by simpa using hz) (wpAny_bind (wpAny_newList ?_ hz)))))
    have z : (heapC s.heap vs.toArray).objs.size = s.heap.objs.size + 1 := by
      unfold heapC
      rw [Heap.size_update, Heap.size_push]
    have hoL : ((heapC s.heap vs.toArray).push (PyProof.Rows.seqObj "list" vs.toArray 0)).get? (s.heap.objs.size + 1) = some (PyProof.Rows.seqObj "list" vs.toArray 0) := by
      rw [← z]
      exact Heap.get?_push_size _ rfl
    have keep : ∀ b o, s.heap.get? b = some o → b ≠ s.heap.objs.size + 1 ∧ ((heapC s.heap vs.toArray).push (PyProof.Rows.seqObj "list" vs.toArray 0)).get? b = some o := fun b o q => by
      have hlt : b < s.heap.objs.size := Heap.lt_size q
      refine ⟨Nat.ne_of_lt (Nat.lt_succ_of_lt hlt), Heap.get?_push_of_some _ ?_⟩
      unfold heapC
      rw [Heap.get?_update_ne _ _ _ _ (Nat.ne_of_lt hlt)]
      exact Heap.get?_push_of_some _ q
    show wpAny _ _ _ _ _ { s with heap := (heapC s.heap vs.toArray).push (PyProof.Rows.seqObj "list" vs.toArray 0) }
    rw [z]
    exact wpAny_bind (wpAny_holding (wpAny_call_entry PyProof.Rows.slot_list_sort ⟨_, hoL, rfl⟩ PyProof.Rows.entry_list_sort (SrtO.list_sort_ord O hoL hz (fun h2 => hS h2 _ _ hoL keep) fun out hs hb => ⟨_, rfl, wpAny_pure ⟨_, rfl, h out hs hb⟩⟩) (PyProof.Rows.args_list_sort _))))
/-! ### sorted of rows -/
inductive Rws (K : PySem.W.Frag) (H : Hp) : List V → List Row → Prop
  | nil : Rws K H [] []
  | cons {t : Addr} {r : Row} {vs : List V} {rs : List Row} : SqT K H t (r.map kV) → DL K H t → Rws K H vs rs → Rws K H (.ref t :: vs) (r :: rs)
def rRows (K : PySem.W.Frag) : List V → Hp → VK → Prop := fun vs H Q => ∃ (a : Addr) (xs : List V) (rows : List Row) (sh : Nat → Bool), vs = [V.ref a] ∧ (SqL K H a xs ∨ SqT K H a xs) ∧ Rws K H xs rows ∧ (∀ r ∈ rows, okRow sh 0 r = true ∧ r ≠ []) ∧
  ∀ (ys : List V) (p : Addr), Rws K H ys (sortR rows) → H p = none → Q (.ref p) (upd H p (.lst ys))
theorem Rws.vals {X : Cx} {pins : List (Addr × Obj)} {σ : L2.St} {H : Hp} {s : Shared} (I : Inv X pins σ H s) : ∀ {xs : List V} {rows : List Row} {its : List Value}, Rws X.K H xs rows → Vals xs its → its.map (rowAt s.heap) = rows ∧ ∀ v ∈ its, IsRow s.heap v (rowAt s.heap v) ∧ ∃ t, v = .ref t ∧ SqT X.K H t ((rowAt s.heap v).map kV) ∧ DL X.K H t
  | _, _, _, .nil, .nil => ⟨rfl, fun _ h => by cases h⟩
  | _, _, _, (.cons (t := t) (r := r) st dl rr), .cons rv rvs => by
    obtain ⟨h1, h2⟩ := Rws.vals I rr rvs
    cases (show _ = Value.ref t from rv)
    obtain ⟨its, rv2, ⟨o, ho, hc, n, hd⟩, _⟩ := I.tuple st
    have row : IsRow s.heap (.ref t) r := ⟨t, o, its.toArray, n, rfl, ho, hc, hd, by simpa using rv2⟩
    have e := row.at
    refine ⟨by rw [List.map_cons, e, h1], fun v hv => ?_⟩
    rcases List.mem_cons.mp hv with rfl | hv
    · rw [e]; exact ⟨row, t, rfl, st, dl⟩
    · exact h2 v hv
def vOf : Value → V
  | .ref a => .ref a
  | _ => .non
theorem rws_out {X : Cx} {H : Hp} {k : Value → Row} : ∀ {out : List Value}, (∀ v ∈ out, ∃ t, v = .ref t ∧ SqT X.K H t ((k v).map kV) ∧ DL X.K H t) → Vals (out.map vOf) out ∧ Rws X.K H (out.map vOf) (out.map k)
  | [], _ => ⟨.nil, .nil⟩
  | v :: out, h => by
    obtain ⟨h1, h2⟩ := rws_out (out := out) fun u hu => h u (List.mem_cons_of_mem _ hu)
    obtain ⟨t, rfl, st, dl⟩ := h v List.mem_cons_self
    exact ⟨.cons rfl h1, .cons st dl h2⟩
theorem cr_rows {X : Cx} : CallR X (.builtin "sorted") (rRows X.K) := by
  intro pins s σ H vs us Q I r h
  obtain ⟨a, xs, rows, sh, rfl, hs, hr, hok, q⟩ := h
  rw [Vals.ref1 r]
  have fin : ∀ (its : List Value), Vals xs its → xs.length ≤ sizeLine → ∀ out : List Value, SrtO.Srtd (fun v u => ltR (rowAt s.heap v) (rowAt s.heap u)) out → SrtO.Stb (fun v u => ltR (rowAt s.heap v) (rowAt s.heap u)) out its →
      EP X pins σ Q (.ref (s.heap.objs.size + 1)) { s with heap := PyProof.Rows.sortedAll s.heap its out.toArray } := fun its rv hz out h1 h2 => by
    obtain ⟨e1, e2⟩ := hr.vals I rv
    obtain ⟨k1, k2⟩ := rws_out (X := X) (H := H) (k := rowAt s.heap) (out := out) fun v hv => (e2 v (h2.perm.mem_iff.mp hv)).2
    have e3 : out.map (rowAt s.heap) = sortR rows := by
      refine sortR_uniq ?_ (List.pairwise_map.mpr h1)
      rw [← e1]
      exact h2.perm.map _
    rw [e3] at k2
    obtain ⟨ep, he⟩ := PyProof.Rows.sortedAll_at s.heap its out.toArray
    have hl : (out.map vOf).length ≤ sizeLine := by
      rw [List.length_map, h2.perm.length_eq, ← rv.length]
      exact hz
    have J := I.laid (t' := s.toks) (a := s.heap.objs.size + 1) (o := .lst (out.map vOf)) (fun _ _ => PyProof.Rows.sortedAll_old (out := out.toArray)) (Nat.le_succ _) ⟨hl, out, ep, k1, he⟩
    exact ⟨.ref _, _, J, rfl, q _ _ k2 (I.hok.fresh (Nat.le_succ _))⟩
  have rowsOk : ∀ (its : List Value), Vals xs its → ∀ v ∈ its, IsRow s.heap v (rowAt s.heap v) ∧ okRow sh 0 (rowAt s.heap v) = true ∧ rowAt s.heap v ≠ [] := fun its rv v hv => by
    obtain ⟨e1, e2⟩ := hr.vals I rv
    exact ⟨(e2 v hv).1, hok _ (by rw [← e1]; exact List.mem_map_of_mem hv)⟩
  rcases hs with hs | hs
  · obtain ⟨its, rv, p, hz⟩ := I.list hs
    refine SrtO.sorted_ord (swo_R (rowAt s.heap)) p.isList (by rw [← rv.length]; exact hz) (fun h2 h₁ a' ha kk => ?_) (fin its rv hz)
    refine rows_sortable (sh := sh) (s := { s with heap := h₁ }) (by omega) (fun v hm => ⟨((rowsOk its rv v hm).1).keeps fun b o e _ => (kk b o e).2, (rowsOk its rv v hm).2⟩) fun o e => ?_
    have e' : some o = some (PyProof.Rows.seqObj "list" its.toArray 0) := e.symm.trans ha
    cases e'
    intro c
    exact absurd (Value.type.inj c) (by decide)
  · obtain ⟨its, rv, p, hz⟩ := I.tuple hs
    refine sortedCk (swo_R (rowAt s.heap)) p (by rw [← rv.length]; exact hz) (fun h2 h₁ a' ha kk => ?_) (fin its rv hz)
    refine rows_sortable (sh := sh) (s := { s with heap := h₁ }) (by omega) (fun v hm => ⟨((rowsOk its rv v hm).1).keeps fun b o e _ => (kk b o e).2, (rowsOk its rv v hm).2⟩) fun o e => ?_
    have e' : some o = some (PyProof.Rows.seqObj "list" its.toArray 0) := e.symm.trans ha
    cases e'
    intro c
    exact absurd (Value.type.inj c) (by decide)
end Pm
end
section
set_option Elab.async false
set_option linter.all false
set_option maxRecDepth 100000
set_option maxHeartbeats 2000000
namespace Pm
open PySem PySem.Spec PyProof.Rows L2
/-! ### texts, sorted -/
def ltS (a b : Str) : Bool := decide (a.cps.toList < b.cps.toList)
theorem ltS_asym {a b : Str} (h : ltS a b = true) : ltS b a = false := by
  unfold ltS at *
  simp only [decide_eq_true_eq, decide_eq_false_iff_not] at *
  exact fun z => List.lt_irrefl _ (List.lt_trans h z)
theorem ltS_tr {x y z : Str} (h1 : ltS y x = false) (h2 : ltS z y = false) : ltS z x = false := by
  unfold ltS at *
  simp only [decide_eq_false_iff_not] at *
  exact fun q => h1 (List.lt_of_le_of_lt (List.not_lt.mp h2) q)
theorem ltS_anti {a b : Str} (h1 : ltS a b = false) (h2 : ltS b a = false) : a = b := by
  unfold ltS at *
  simp only [decide_eq_false_iff_not] at *
  have e : a.cps.toList = b.cps.toList := List.le_antisymm (List.not_lt.mp h2) (List.not_lt.mp h1)
  obtain ⟨a⟩ := a
  obtain ⟨b⟩ := b
  have e : a = b := Array.toList_inj.mp e
  rw [e]
def insS (x : Str) : List Str → List Str
  | [] => [x]
  | y :: r => if ltS y x = true then y :: insS x r else x :: y :: r
def sortS : List Str → List Str
  | [] => []
  | x :: r => insS x (sortS r)
theorem insS_perm (x : Str) : ∀ r : List Str, (insS x r).Perm (x :: r)
  | [] => .refl _
  | y :: r => by
    unfold insS
    split
    · exact ((insS_perm x r).cons y).trans (.swap x y r)
    · exact .refl _
theorem sortS_perm : ∀ r : List Str, (sortS r).Perm r
  | [] => .refl _
  | n :: r => (insS_perm n (sortS r)).trans ((sortS_perm r).cons n)
theorem insS_sorted (x : Str) : ∀ r : List Str, r.Pairwise (fun a b => ltS b a = false) → (insS x r).Pairwise (fun a b => ltS b a = false)
  | [], _ => by simp [insS]
  | y :: r, h => by
    unfold insS
    rw [List.pairwise_cons] at h
    split
    · rename_i hn
      rw [List.pairwise_cons]
      refine ⟨fun z hz => ?_, insS_sorted x r h.2⟩
      rcases List.mem_cons.mp ((insS_perm x r).mem_iff.mp hz) with rfl | hz
      · exact ltS_asym hn
      · exact h.1 z hz
    · rename_i hn
      have hn : ltS y x = false := by simpa using hn
      rw [List.pairwise_cons, List.pairwise_cons]
      refine ⟨fun z hz => ?_, h⟩
      rcases List.mem_cons.mp hz with rfl | hz
      · exact hn
      · exact ltS_tr hn (h.1 z hz)
theorem sortS_sorted : ∀ r : List Str, (sortS r).Pairwise (fun a b => ltS b a = false)
  | [] => .nil
  | n :: r => insS_sorted n _ (sortS_sorted r)
theorem rising_pair : ∀ (p : Str) (l : List Str), risingS p l = true → (p :: l).Pairwise (fun a b => ltS b a = false)
  | p, [], _ => by simp
  | p, x :: r, h => by
    have h : (!ltCps x.cps.toList p.cps.toList && risingS x r) = true := h
    rw [Bool.and_eq_true] at h
    have ih := rising_pair x r h.2
    have h1 : ltS x p = false := by
      have := h.1
      rw [ltCps_eq] at this
      simpa [ltS] using this
    rw [List.pairwise_cons]
    refine ⟨fun z hz => ?_, ih⟩
    rcases List.mem_cons.mp hz with rfl | hz
    · exact h1
    · exact ltS_tr h1 ((List.pairwise_cons.mp ih).1 z hz)
theorem sorted_pair : ∀ {l : List Str}, sortedS l = true → l.Pairwise (fun a b => ltS b a = false)
  | [], _ => .nil
  | x :: r, h => rising_pair x r h
theorem sortS_uniq {l m : List Str} (h : l.Perm m) (hs : l.Pairwise (fun a b => ltS b a = false)) : l = sortS m :=
  List.Perm.eq_of_pairwise (le := fun a b => ltS b a = false) (fun a b _ _ h1 h2 => ltS_anti h2 h1) hs (sortS_sorted m) (h.trans (sortS_perm m).symm)
/-! ### sorted: ints, texts, rows -/
def keysOf : List D → Option Row
  | [] => some []
  | x :: xs => (dkey x).bind fun k => (keysOf xs).map (k :: ·)
def rowsOf : List D → Option (List Row)
  | [] => some []
  | .tup ks :: xs => (keysOf ks).bind fun r => (rowsOf xs).map (r :: ·)
  | _ :: _ => none
def kD : Key → D
  | .inl i => .int i
  | .inr s => .str s
def rowD (r : Row) : D := .tup (r.map kD)
theorem strsOf_strs (ss : List Str) : strsOf (ss.map D.str) = some ss := by
  induction ss with
  | nil => rfl
  | cons n r ih => simp [strsOf, ih]
theorem dkey_kD {x : D} {k : Key} (h : dkey x = some k) : x = kD k := by
  cases x <;> simp [dkey] at h <;> subst h <;> rfl
theorem keysOf_map : ∀ {xs : List D} {r : Row}, keysOf xs = some r → xs = r.map kD
  | [], r, h => by cases h; rfl
  | x :: xs, r, h => by
    unfold keysOf at h
    cases e1 : dkey x with
    | none => rw [e1] at h; cases h
    | some k =>
      cases e2 : keysOf xs with
      | none => rw [e1, e2] at h; cases h
      | some r' =>
        rw [e1, e2] at h
        cases h
        rw [dkey_kD e1, keysOf_map e2]
        rfl
theorem keysOf_kD : ∀ r : Row, keysOf (r.map kD) = some r
  | [] => rfl
  | .inl i :: r => by simp [keysOf, kD, dkey, keysOf_kD r]
  | .inr i :: r => by simp [keysOf, kD, dkey, keysOf_kD r]
theorem rowsOf_map : ∀ {xs : List D} {rs : List Row}, rowsOf xs = some rs → xs = rs.map rowD
  | [], ns, h => by cases h; rfl
  | .tup ks :: xs, ns, h => by
    unfold rowsOf at h
    cases e1 : keysOf ks with
    | none => rw [e1] at h; cases h
    | some k =>
      cases e : rowsOf xs with
      | none => rw [e1, e] at h; cases h
      | some ms =>
        rw [e1, e] at h
        cases h
        rw [rowsOf_map e, keysOf_map e1]
        rfl
  | .non :: _, _, h => by cases h
  | .bl _ :: _, _, h => by cases h
  | .int _ :: _, _, h => by cases h
  | .str _ :: _, _, h => by cases h
  | .loc _ :: _, _, h => by cases h
  | .scr :: _, _, h => by cases h
theorem rowsOf_rows (rs : List Row) : rowsOf (rs.map rowD) = some rs := by
  induction rs with
  | nil => rfl
  | cons n r ih => simp [rowsOf, rowD, keysOf_kD, ih]
def shOf : List Row → Nat → Bool
  | [], _ => false
  | r :: _, i => match r[i]? with
    | some (.inr _) => true
    | _ => false
def okRows (rs : List Row) : Bool := rs.all fun r => okRow (shOf rs) 0 r && !r.isEmpty
def srtX (xs : List D) : M D := match intsOf xs with
  | some ns => alloc ((isort ns).map .int)
  | none => match strsOf xs with
    | some ss => if ss.length < 64 then alloc ((sortS ss).map .str) else no
    | none => match rowsOf xs with
      | some rs => if okRows rs = true then alloc ((sortR rs).map rowD) else no
      | none => no
def srtT (xs : List D) : M D := match intsOf xs with
  | some ns => alloc ((isort ns).map .int)
  | none => match rowsOf xs with
    | some rs => if okRows rs = true then alloc ((sortR rs).map rowD) else no
    | none => no
def bSortX : List D → M D
  | [.loc l] => bnd (lst l) srtX
  | [.tup xs] => srtT xs
  | _ => no
section
variable {X : Cx} {c : Ct} {ex : Wh} {bs : List Addr} {H : Hp} {st : Sto}
theorem RDs.toKeys : ∀ {vs : List V} {r : Row}, RDs c bs H vs (r.map kD) → vs = r.map kV
  | _, [], .nil => rfl
  | _, .inl n :: ns, .cons (.int _) t => by rw [RDs.toKeys t]; rfl
  | _, .inr n :: ns, .cons (.str _) t => by rw [RDs.toKeys t]; rfl
theorem RDs.keys : ∀ (r : Row), RDs c bs H (r.map kV) (r.map kD)
  | [] => .nil
  | .inl n :: ns => .cons (.int n) (RDs.keys ns)
  | .inr n :: ns => .cons (.str n) (RDs.keys ns)
theorem RDs.toRws (hK : X.K = c.K) : ∀ {vs : List V} {rs : List Row}, RDs c bs H vs (rs.map rowD) → Rws X.K H vs rs
  | _, [], .nil => .nil
  | _, r :: rs, .cons (.tup s tl rr) t => .cons (by rw [hK, ← rr.toKeys]; exact s) (by rw [hK]; exact tl) (RDs.toRws hK t)
theorem RDs.ofRws (hK : X.K = c.K) : ∀ {vs : List V} {rs : List Row}, Rws X.K H vs rs → RDs c bs H vs (rs.map rowD)
  | _, [], .nil => .nil
  | _, r :: rs, .cons s tl t => .cons (.tup (by rw [← hK]; exact s) (by rw [← hK]; exact tl) (RDs.keys r)) (RDs.ofRws hK t)
theorem okRows_all {rs : List Row} (h : okRows rs = true) : ∀ r ∈ rs, okRow (shOf rs) 0 r = true ∧ r ≠ [] := fun r hr => by
  have := List.all_eq_true.mp h r hr
  rw [Bool.and_eq_true] at this
  refine ⟨this.1, fun e => ?_⟩
  rw [e] at this
  simp at this
theorem cb_sortX (hK : X.K = c.K) : CB X c ex (.builtin "sorted") bSortX := ⟨_, cr_sortedI.or (cr_sortedIT.or (cr_sortedS.or cr_rows)), by
  intro vs ds bs H st Q r rl p
  have rowsD : ∀ {a : Addr} {ws : List V} {xs : List D} {rs : List Row}, rowsOf xs = some rs → RDs c bs H ws xs → (SqL X.K H a ws ∨ SqT X.K H a ws) → Post c ex ((if okRows rs = true then alloc ((sortR rs).map rowD) else no) st) bs H (fun z _ bs' H' => ∀ v, RD c bs' H' v z → Q v H') → rRows X.K [.ref a] H Q := fun {a ws xs rs} e1 r s p => by
    obtain ⟨hk, p⟩ := Post.iff (m := alloc _) p
    rw [rowsOf_map e1] at r
    refine ⟨a, ws, rs, shOf rs, rfl, s, r.toRws hK, okRows_all hk, fun ys q hr hq => ?_⟩
    obtain ⟨k, r⟩ := post_alloc p rl hq (RDs.ofRws hK hr)
    exact k _ r
  match ds, r, p with
  | [.loc l], .cons (.loc h) .nil, p =>
    obtain ⟨a, vs, xs, e, hb, hl, hv, r, p⟩ := post_lst (k := fun _ _ _ _ => True) p rl (RD.loc h)
    cases e
    unfold srtX at p
    cases e1 : intsOf xs with
    | some ns =>
      simp only [e1] at p
      rw [intsOf_map e1] at r
      rw [r.toInts] at hv
      refine .inl ⟨_, _, rfl, SqL.of hv, fun ns' q hp hs hq => ?_⟩
      have e2 : ns' = isort ns := PySem.W.ksm_same (hp.trans (isort_perm ns).symm) hs (isort_sorted ns)
      subst e2
      obtain ⟨k, r⟩ := post_alloc p rl hq (RDs.ints _)
      exact k _ r
    | none =>
      simp only [e1] at p
      cases e2 : strsOf xs with
      | some ss =>
        simp only [e2] at p
        obtain ⟨hk, p⟩ := Post.iff (m := alloc _) p
        rw [strsOf_map e2] at r
        rw [r.toStrs] at hv
        refine .inr (.inr (.inl ⟨_, _, rfl, SqL.of hv, hk, fun ns' q hp hs hq => ?_⟩))
        have e2 : ns' = sortS ss := sortS_uniq hp (sorted_pair hs)
        subst e2
        obtain ⟨k, r⟩ := post_alloc p rl hq (RDs.strs _)
        exact k _ r
      | none =>
        simp only [e2] at p
        cases e3 : rowsOf xs with
        | none => simp only [e3] at p; exact p.elim
        | some rs =>
          simp only [e3] at p
          exact .inr (.inr (.inr (rowsD e3 r (.inl (SqL.of hv)) p)))
  | [.tup xs], .cons (.tup s tl r) .nil, p =>
    unfold bSortX srtT at p
    cases e1 : intsOf xs with
    | some ns =>
      simp only [e1] at p
      rw [intsOf_map e1] at r
      rw [r.toInts] at s
      refine .inr (.inl ⟨_, _, rfl, by rw [hK]; exact s, fun ns' q hp hs hq => ?_⟩)
      have e2 : ns' = isort ns := PySem.W.ksm_same (hp.trans (isort_perm ns).symm) hs (isort_sorted ns)
      subst e2
      obtain ⟨k, r⟩ := post_alloc p rl hq (RDs.ints _)
      exact k _ r
    | none =>
      simp only [e1] at p
      cases e3 : rowsOf xs with
      | none => simp only [e3] at p; exact p.elim
      | some rs =>
        simp only [e3] at p
        exact .inr (.inr (.inr (rowsD e3 r (.inr (by rw [hK]; exact s)) p)))⟩
end
end Pm
end
section
set_option Elab.async false
set_option linter.all false
set_option maxRecDepth 100000
set_option maxHeartbeats 2000000
namespace Pm
open PySem PySem.Spec PyProof.Rows L2
/-! ### < of ints, of texts -/
def opLtX : D → D → M D
  | .int i, .int j => ret (.bl (decide (i < j)))
  | .str a, .str b => ret (.bl (ltS a b))
  | _, _ => no
section
variable {X : Cx} {c : Ct} {ex : Wh}
theorem co_ltX : CO X c ex .Lt opLtX := ⟨_, op_lt.or op_lt_str, by
  intro x y d e bs H st Q rx ry rl p
  cases rx with
  | int i =>
    cases ry with
    | int j => exact .inl ⟨i, j, rfl, rfl, p.now rl _ (.bl _)⟩
    | _ => exact p.elim
  | str i =>
    cases ry with
    | str j => exact .inr ⟨i, j, rfl, rfl, p.now rl _ (.bl _)⟩
    | _ => exact p.elim
  | _ => cases ry <;> exact p.elim⟩
end
@[simp] theorem opLtX_int {a b : Int} : opLtX (.int a) (.int b) = ret (.bl (decide (a < b))) := rfl
@[simp] theorem opLtX_str {a b : Str} : opLtX (.str a) (.str b) = ret (.bl (ltS a b)) := rfl
end Pm
end
section
set_option Elab.async false
set_option linter.all false
set_option maxRecDepth 100000
set_option maxHeartbeats 2000000
namespace Pm
open PySem PySem.Spec PyProof.Rows L2
/-! ### a loop by what holds ahead of each turn, any body -/
theorem loop_it {J : It} {n : Nat} {G : Hp → Prop} {Y : Nat → Hp → V → Hp → Prop} (w : Walk J n G Y) {B : V → Hp → (Hp → Prop) → Prop} {Hs : Hp} {Qd : Hp → Prop} (Pv : Nat → Hp → Prop) (h0 : Pv 0 Hs) (hG : ∀ i H, i ≤ n → Pv i H → G H)
    (hs : ∀ i x H H', i < n → Pv i H → Y i H x H' → B x H' (Pv (i + 1))) (hd : ∀ H, Pv n H → Qd H) :
    ∃ W : Nat → Nat → Hp → Prop, (∃ m, W 0 m Hs) ∧ ∀ i m H, W i m H → (J.stop i H ∧ Qd H) ∨ (J.go i H ∧ ∃ Nx : Hp → Prop, (∀ H', Nx H' → ∃ m', m' < m ∧ W (i + 1) m' H') ∧ ∀ x H', J.yld i H x H' → B x H' Nx) := by
  refine ⟨fun i m H => i + m = n ∧ Pv i H, ⟨n, Nat.zero_add n, h0⟩, fun i m H hw => ?_⟩
  obtain ⟨hm, hp⟩ := hw
  have g := hG i H (by omega) hp
  cases m with
  | zero =>
    have : i = n := by omega
    subst this
    exact .inl ⟨w.stops H g, hd H hp⟩
  | succ m => exact .inr ⟨w.goes i H (by omega) g, Pv (i + 1), fun H' p' => ⟨m, Nat.lt_succ_self m, by omega, p'⟩, fun x H' y => hs i x H H' (by omega) hp (w.yields i H x H' (by omega) g y)⟩
theorem RE.mono {c : Ct} {bs bs1 : List Addr} {H H1 : Hp} {ρ : En} {σ : L2.St} (r : RE c bs H ρ σ) (m : Pre c bs H bs1 H1) : RE c bs1 H1 ρ σ := ⟨r.len, fun i d h => let ⟨v, a, b⟩ := r.val i d h; ⟨v, a, b.mono m⟩⟩
/-! ### [e for x in xs if t for y in ys if u] -/
def lcL2 (ok : Sto → Bool) (p : Pat) (t : MT) (it1 : MI) (p1 : Pat) (t1 : MT) (e : ME) (vs1 : List Nat) (ρ : En) : List D → List D → M (List D)
  | [], acc => fun st => if ok st = true then .ok acc st else .stuck
  | x :: r, acc => fun st => if ok st = true then
      (bnd (ofE (bindP p x ρ)) fun ρ1 => bnd (nox (t ρ1)) fun k => if k = true then bnd (nox (it1 ρ1)) fun J => bnd (lcL J.ok p1 t1 e (wipeE ρ1 vs1) J.xs acc) fun acc' => lcL2 ok p t it1 p1 t1 e vs1 ρ r acc' else lcL2 ok p t it1 p1 t1 e vs1 ρ r acc) st
    else .stuck
def lcE2 (it : MI) (p : Pat) (t : MT) (it1 : MI) (p1 : Pat) (t1 : MT) (e : ME) (vs vs1 : List Nat) : ME := fun ρ => bnd (it ρ) fun I => bnd (lcL2 I.ok p t it1 p1 t1 e vs1 (wipeE ρ vs) I.xs []) alloc
section
variable {X : Cx} {c : Ct} {ex : Wh} {it it1 : MI} {p p1 : Pat} {t t1 : MT} {e : ME} {vs vs1 : List Nat} {H : Hp}
theorem lcL2_ok {ok : Sto → Bool} {ρ : En} {xs acc : List D} {st : Sto} {bs : List Addr} {k : List D → Sto → List Addr → Hp → Prop} (q : Post c ex (lcL2 ok p t it1 p1 t1 e vs1 ρ xs acc st) bs H k) : ok st = true := by
  cases xs with
  | nil =>
    unfold lcL2 at q
    by_cases h : ok st = true
    · exact h
    · rw [if_neg h] at q; exact q.elim
  | cons x r =>
    unfold lcL2 at q
    by_cases h : ok st = true
    · exact h
    · rw [if_neg h] at q; exact q.elim
theorem tE_lc2 (hs : ∀ i ∈ slots p, i ∈ vs) (hs1 : ∀ i ∈ slots p1, i ∈ vs1) {σ : L2.St} {Q : VK} (q : tE c ex (lcE2 it p t it1 p1 t1 e vs vs1) σ H Q) : tLc2 (tI c ex it) (gP c.K p) (tT c exF t) (tI c exF it1) (gP c.K p1) (tT c exF t1) (tE c exF e) vs vs1 σ H Q := by
  obtain ⟨ρ, st, bs, rl, re, q⟩ := q
  refine ⟨ρ, st, bs, rl, re, q.bnd.imp fun I st1 bs1 H1 e1 rl1 q1 J wk => ?_⟩
  intro D hD
  have reW := wipe_RE (re.ext e1) vs
  refine loop_it wk.1 (fun i H => ∃ st bs acc vacc, Ext bs1 H1 bs (hid H D) ∧ Rel c bs (hid H D) st ∧ D ∉ bs ∧ H D = some (.lst vacc) ∧ RDs c bs (hid H D) vacc acc ∧ Post c ex (lcL2 I.ok p t it1 p1 t1 e vs1 (wipeE ρ vs) (I.xs.drop i) acc st) bs (hid H D) fun a st1 bs1 H1 => Post c ex (alloc a st1) bs1 H1 fun d _ bs' H' => ∀ v, RD c bs' H' v d → Q v H')
    ?_ (fun i H hi ⟨st, bs, acc, vacc, ee, rl, nb, hv, rr, q⟩ => ?_) (fun i v H H' hi ⟨st, bs, acc, vacc, ee, rl, nb, hv, rr, q⟩ y => ?_) (fun H ⟨st, bs, acc, vacc, ee, rl, nb, hv, rr, q⟩ => ?_)
  · have z : hid (upd H1 D (.lst [])) D = H1 := by rw [hid_upd, hid_none hD]
    refine ⟨st1, bs1, [], [], by rw [z]; exact Ext.refl, by rw [z]; exact rl1, fun h => ?_, upd_same, .nil, by rw [z]; exact q1.bnd⟩
    obtain ⟨o, ho, _⟩ := rl1.here h
    rw [hD] at ho; cases ho
  · exact ⟨st, bs, ee.trans (hid_ext nb), rel_show rl nb, lcL2_ok q⟩
  · have e3 := hid_ext (H := H) nb
    have rlH : Rel c bs H st := rel_show rl nb
    have hok := lcL2_ok q
    obtain ⟨e6, rl6, d, hd, rd6⟩ := y st bs (ee.trans e3) rlH hok
    rw [List.getElem?_eq_getElem hi] at hd
    cases hd
    have e5 : I.xs.drop i = I.xs[i] :: I.xs.drop (i + 1) := List.drop_eq_getElem_cons hi
    rw [e5] at q
    unfold lcL2 at q
    rw [if_pos hok] at q
    cases e8 : bindP p I.xs[i] (wipeE ρ vs) with
    | none => rw [e8] at q; exact q.bnd.elim
    | some ρ1 =>
      rw [e8] at q
      obtain ⟨e6', hv6, nb6⟩ := e6.hid hv nb
      have q3 := Post.now q.bnd rl
      have q4 := (q3.bnd.far e6').nox
      refine bindP_ok p _ v _ ρ1 (wipe σ vs) _ rd6 (((reW.ext ee).ext e3).ext e6) e8 fun σ2 re2 w2 => ⟨?_, ?_⟩
      · rw [w2 vs hs]
        exact wipe_wipe σ vs
      · refine ⟨ρ1, st, bs, rl6, re2, (q4.hide hv6 nb6).imp fun k st7 bs7 H7 e7 rl7 q7 => ?_⟩
        obtain ⟨e7', hv7, nb7⟩ := e7.hid hv6 nb6
        have ee7 := (ee.trans e6').trans e7'
        have rr7 := (rr.ext e6').ext e7'
        cases k with
        | false => exact iteF ⟨st7, bs7, acc, vacc, ee7, rl7.hid hv7 nb7, nb7, hv7, rr7, q7⟩
        | true =>
          refine iteT ?_
          have q8 := q7.bnd.nox
          refine ⟨ρ1, st7, bs7, rl7, re2.ext e7, (q8.hide hv7 nb7).imp fun J1 st9 bs9 H9 e9 rl9 q9 J1' wk1 => ?_⟩
          obtain ⟨e9', hv9, nb9⟩ := e9.hid hv7 nb7
          have wkh := wk1.2 D vacc hv9 nb9
          have reW1 : RE c bs9 (hid H9 D) (wipeE ρ1 vs1) (wipe σ2 vs1) := (wipe_RE ((re2.ext e7).ext e9) vs1).mono (hid_pre hv9)
          refine loop_it wkh (fun j H => ∃ st bs acc vacc, Ext bs9 (hid H9 D) bs (hid H D) ∧ Rel c bs (hid H D) st ∧ D ∉ bs ∧ H D = some (.lst vacc) ∧ RDs c bs (hid H D) vacc acc ∧ Post c ex (lcL J1.ok p1 t1 e (wipeE ρ1 vs1) (J1.xs.drop j) acc st) bs (hid H D) fun a st1 bs1 H1 => Post c ex (lcL2 I.ok p t it1 p1 t1 e vs1 (wipeE ρ vs) (I.xs.drop (i + 1)) a st1) bs1 H1 fun a st1 bs1 H1 => Post c ex (alloc a st1) bs1 H1 fun d _ bs' H' => ∀ v, RD c bs' H' v d → Q v H')
            ⟨st9, bs9, acc, vacc, Ext.refl, rl9.hid hv9 nb9, nb9, hv9, rr7.ext e9', q9.bnd⟩ (fun j H hj ⟨st, bs, acc, vacc, ee, rl, nb, hv, rr, q⟩ => ⟨st, bs, ee.trans (hid_ext nb), rel_show rl nb, lcL_ok q⟩) (fun j v H H' hj ⟨st, bs, acc, vacc, ee, rl, nb, hv, rr, q⟩ y => ?_) (fun H ⟨st, bs, acc, vacc, ee, rl, nb, hv, rr, q⟩ => ?_)
          · have e3 := hid_ext (H := H) nb
            have rlH : Rel c bs H st := rel_show rl nb
            have hok := lcL_ok q
            obtain ⟨e6, rl6, d, hd, rd6⟩ := y st bs (ee.trans e3) rlH hok
            rw [List.getElem?_eq_getElem hj] at hd
            cases hd
            have e5 : J1.xs.drop j = J1.xs[j] :: J1.xs.drop (j + 1) := List.drop_eq_getElem_cons hj
            rw [e5] at q
            unfold lcL at q
            rw [if_pos hok] at q
            cases e8 : bindP p1 J1.xs[j] (wipeE ρ1 vs1) with
            | none => rw [e8] at q; exact q.bnd.elim
            | some ρ2 =>
              rw [e8] at q
              obtain ⟨e6', hv6, nb6⟩ := e6.hid hv nb
              have q3 := Post.now q.bnd rl
              have q4 := (q3.bnd.far e6').nox
              refine bindP_ok p1 _ v _ ρ2 (wipe σ2 vs1) _ rd6 (((reW1.ext ee).ext e3).ext e6) e8 fun σ3 re3 w3 => ⟨?_, ?_⟩
              · rw [w3 vs1 hs1]
                exact wipe_wipe σ2 vs1
              · refine ⟨ρ2, st, bs, rl6, re3, (q4.hide hv6 nb6).imp fun k st7 bs7 H7 e7 rl7 q7 => ?_⟩
                obtain ⟨e7', hv7, nb7⟩ := e7.hid hv6 nb6
                have ee7 := (ee.trans e6').trans e7'
                have rr7 := (rr.ext e6').ext e7'
                cases k with
                | false => exact iteF ⟨st7, bs7, acc, vacc, ee7, rl7.hid hv7 nb7, nb7, hv7, rr7, q7⟩
                | true =>
                  refine iteT ?_
                  have q8 := q7.bnd.nox
                  refine ⟨ρ2, st7, bs7, rl7, re3.ext e7, (q8.hide hv7 nb7).imp fun y st9 bs9 H9 e9 rl9 q9 v9 rv9 => ?_⟩
                  obtain ⟨e9', hv9, nb9⟩ := e9.hid hv7 nb7
                  obtain ⟨hz, q10⟩ := Post.iff (m := lcL _ _ _ _ _ _ _) q9
                  have rr9 := rr7.ext e9'
                  refine ⟨vacc, hv9, by rw [rr9.length]; exact hz, ?_⟩
                  have z : hid (upd H9 D (.lst (vacc ++ [v9]))) D = hid H9 D := hid_upd
                  exact ⟨st9, bs9, acc ++ [y], vacc ++ [v9], by rw [z]; exact ee7.trans e9', by rw [z]; exact rl9.hid hv9 nb9, nb9, upd_same, by rw [z]; exact rr9.append (.cons (rv9.mono (hid_pre hv9)) .nil), by rw [z]; exact q10⟩
          · rw [List.drop_length] at q
            have hok := lcL_ok q
            unfold lcL at q
            rw [if_pos hok] at q
            exact ⟨st, bs, acc, vacc, (ee7.trans e9').trans ee, rl, nb, hv, rr, Post.of q rl⟩
  · rw [List.drop_length] at q
    have hok := lcL2_ok q
    unfold lcL2 at q
    rw [if_pos hok] at q
    have q3 := Post.of q rl
    obtain ⟨k, r⟩ := post_alloc q3 rl hid_same rr
    rw [upd_hid hv] at k r
    exact k _ r
theorem md_lc2 {elt tg iter tg1 iter1 : Expr} {ifs ifs1 : List Expr} {scope : Scope} {own : List (Str × Nat)} {pos : Pos} (hc : X.calm = true) (hN : X.N.Nodup) (hi : PI X tg iter (tI c ex it)) (ok : BlkOk X.N X.env.scope scope own)
    (hg : ∀ (s : Shared) (H : Hp) (C : Addr) (cl : List (Str × Addr)) (fp : List Addr), PG (X.blk s H scope (compEnvC scope cl C X.env) fp) tg (gP c.K p)) (ht : ∀ (s : Shared) (H : Hp) (C : Addr) (cl : List (Str × Addr)) (fp : List Addr), PTs (X.blk s H scope (compEnvC scope cl C X.env) fp) ifs (tT c exF t))
    (hi1 : ∀ (s : Shared) (H : Hp) (C : Addr) (cl : List (Str × Addr)) (fp : List Addr), PI (X.blk s H scope (compEnvC scope cl C X.env) fp) tg1 iter1 (tI c exF it1))
    (hg1 : ∀ (s : Shared) (H : Hp) (C : Addr) (cl : List (Str × Addr)) (fp : List Addr), PG (X.blk s H scope (compEnvC scope cl C X.env) fp) tg1 (gP c.K p1)) (ht1 : ∀ (s : Shared) (H : Hp) (C : Addr) (cl : List (Str × Addr)) (fp : List Addr), PTs (X.blk s H scope (compEnvC scope cl C X.env) fp) ifs1 (tT c exF t1))
    (he : ∀ (s : Shared) (H : Hp) (C : Addr) (cl : List (Str × Addr)) (fp : List Addr), PE (X.blk s H scope (compEnvC scope cl C X.env) fp) elt (tE c exF e)) (hs : ∀ x, foldedSetIterable iter X.env x = pure x := by intro _; rfl) (hs1 : ∀ env x, foldedSetIterable iter1 env x = pure x := by intro _ _; rfl) (hsl : ∀ i ∈ slots p, i ∈ vs := by decide) (hsl1 : ∀ i ∈ slots p1, i ∈ vs1 := by decide) (hvs : own.map (·.2) = vs := by rfl) (hv1 : ∀ i ∈ vs1, i ∈ vs := by decide) :
    PE X (.ListComp elt [⟨tg, iter, ifs, 0⟩, ⟨tg1, iter1, ifs1, 0⟩] scope pos) (tE c ex (lcE2 it p t it1 p1 t1 e vs vs1)) :=
  PE_imp (pe_lc2 (vs1 := vs1) hc hN hi ok (by rw [hvs]; exact hv1) hg ht hi1 hg1 ht1 he hs hs1) fun σ H Q q => by rw [hvs]; exact tE_lc2 hsl hsl1 q
theorem ms_setLc2 {i : Nat} {y : Str} {py : Pos} {elt tg iter tg1 iter1 : Expr} {ifs ifs1 : List Expr} {scope : Scope} {own : List (Str × Nat)} {pos spos : Pos} (hc : X.calm = true) (hN : X.N.Nodup) (hi : PI X tg iter (tI c ex it)) (ok : BlkOk X.N X.env.scope scope own)
    (hg : ∀ (s : Shared) (H : Hp) (C : Addr) (cl : List (Str × Addr)) (fp : List Addr), PG (X.blk s H scope (compEnvC scope cl C X.env) fp) tg (gP c.K p)) (ht : ∀ (s : Shared) (H : Hp) (C : Addr) (cl : List (Str × Addr)) (fp : List Addr), PTs (X.blk s H scope (compEnvC scope cl C X.env) fp) ifs (tT c exF t))
    (hi1 : ∀ (s : Shared) (H : Hp) (C : Addr) (cl : List (Str × Addr)) (fp : List Addr), PI (X.blk s H scope (compEnvC scope cl C X.env) fp) tg1 iter1 (tI c exF it1))
    (hg1 : ∀ (s : Shared) (H : Hp) (C : Addr) (cl : List (Str × Addr)) (fp : List Addr), PG (X.blk s H scope (compEnvC scope cl C X.env) fp) tg1 (gP c.K p1)) (ht1 : ∀ (s : Shared) (H : Hp) (C : Addr) (cl : List (Str × Addr)) (fp : List Addr), PTs (X.blk s H scope (compEnvC scope cl C X.env) fp) ifs1 (tT c exF t1))
    (he : ∀ (s : Shared) (H : Hp) (C : Addr) (cl : List (Str × Addr)) (fp : List Addr), PE (X.blk s H scope (compEnvC scope cl C X.env) fp) elt (tE c exF e))
    (hsw : swapsWith (.ListComp elt [⟨tg, iter, ifs, 0⟩, ⟨tg1, iter1, ifs1, 0⟩] scope pos) (some (.Name y py)) spos.line X.env = pure true) (hy : X.N[i]? = some y := by rfl) (hyl : X.env.scope.names.lookup y = some .local := by rfl) (hs : ∀ x, foldedSetIterable iter X.env x = pure x := by intro _; rfl) (hs1 : ∀ env x, foldedSetIterable iter1 env x = pure x := by intro _ _; rfl) (hsl : ∀ i ∈ slots p, i ∈ vs := by decide) (hsl1 : ∀ i ∈ slots p1, i ∈ vs1 := by decide) (hvs : own.map (·.2) = vs := by rfl) (hv1 : ∀ i ∈ vs1, i ∈ vs := by decide) :
    PS X (.Assign [.Name y py] (.ListComp elt [⟨tg, iter, ifs, 0⟩, ⟨tg1, iter1, ifs1, 0⟩] scope pos) spos) (tS c ex (setS (.nm i) (lcE2 it p t it1 p1 t1 e vs vs1))) :=
  PS_imp (ps_setLc2 (vs1 := vs1) hc hN hy hyl hsw hi ok (by rw [hvs]; exact hv1) hg ht hi1 hg1 ht1 he hs hs1) fun E σ H q => by
    have q := tS_set q
    unfold gP at q
    rw [hvs]
    exact tE_lc2 hsl hsl1 q
end
end Pm
end
section
set_option Elab.async false
set_option linter.all false
set_option maxRecDepth 100000
set_option maxHeartbeats 4000000
namespace Pm
open PySem PySem.Spec PyProof.Rows L2
/-! ### sorted(set(a list of ints)) -/
section
variable {P : Program} {w : World} {A : Around} {E : Value → Shared → Prop} {s : Shared}
/-- a set of a list of ints: its members, in the order that the set keeps -/
theorem set_of_list {l : Addr} {items : Array Value} {ns : List Int} {Q : Value → Shared → Prop} (hh : A.handled = none) (hl : s.heap.IsList l items) (hit : IntsAre items.toList ns) (hb : ns.length + 1 < scanBound)
    (h : ∀ (h' : Heap) (tk c : Nat), SetR w h' s.heap.objs.size (fun j => decide (j ∈ ns)) c → c ≤ ns.length → (∀ b o, s.heap.get? b = some o → h'.get? b = some o) → Q (.ref s.heap.objs.size) { s with heap := h', toks := tk }) :
    wpAny (model P w) A (call (.type "set") [.ref l]) Q E s := by
  have hisz : items.size = ns.length := by rw [← Array.length_toList]; exact hit.length
  obtain ⟨c, tl, hmro⟩ := F.called_set.mro
  have hmade := F.called_set.made
  have hsub := F.called_set.sub
  have h1 := F.called_set.notType
  have h2 := F.called_set.canCreate
  have hct := F.typeCall_set_1 (.ref l)
  generalize hso : ({ cls := .type "set", dict := none, data := .set #[] 0 (.fresh 0 0 (!w.params.followText "set-order")) } : Obj) = so
  refine wpAny_call (codeAny_of_tree ?_)
  show wpAny _ _ (callAny (.type "set") _) _ _ _
  refine wpAny_pure ⟨Code.quiet_builtin _ (by decide +kernel), codeAny_builtin F.entry_type_call ?_⟩
  rw [Around.under_plain (weight_type_call_type "set" [.ref l] []) rfl]
  repeat (any_goals (first | assumption | wp_step))
  refine codeAny_mono (code_set_led1 (.ref l) (E := E) (Q₁ := fun obj s₁ => obj = .ref s.heap.objs.size ∧ s₁ = { s with heap := s.heap.push so }) ⟨rfl, by rw [hso]⟩) fun r s₁ hr => ?_
  match r, hr with
  | .error e, hr => exact hr
  | .ok (.ret obj), hr =>
    obtain ⟨rfl, rfl⟩ := hr
    have ocl : so.cls = .type "set" := by rw [← hso]
    have hS : (s.heap.push so).get? s.heap.objs.size = some so := Heap.get?_push_size _ (by rw [← hso]; rfl)
    have hT : Shared.TypeIs { s with heap := s.heap.push so } (.ref s.heap.objs.size) "set" := ⟨_, hS, ocl⟩
    have hli := F.called_set.init.lookup
    have hbi := F.called_set.init.bind (.ref s.heap.objs.size)
    repeat (any_goals (first | assumption | wp_step))
    refine codeAny_mono (codeAny_call_builtin (R := wants (fun r s₂ => r = .none ∧ ∃ h' tk c, s₂ = { s with heap := h', toks := tk } ∧ SetR w h' s.heap.objs.size (fun j => decide (j ∈ ns)) c ∧ c ≤ ns.length ∧ (∀ b o, s.heap.get? b = some o → h'.get? b = some o)) E)
      F.called_set.init.plain F.entry_set_init (check_set_init_1 hT ?_)) fun r₂ s₂ hr₂ => ?_
    · have hl1 : (s.heap.push so).IsList l items := by
        obtain ⟨o, e, c, n, d⟩ := hl
        exact ⟨o, Heap.get?_push_of_some _ e, c, n, d⟩
      have hls : l < s.heap.objs.size := by
        obtain ⟨o, e, _⟩ := hl
        exact Heap.lt_size e
      have z : (s.heap.push so).objs.size = s.heap.objs.size + 1 := Heap.size_push ..
      obtain ⟨⟨ocls, odict, odata, oslots⟩, hol, hcl, nl, hdl⟩ := id hl1
      simp only at hcl hdl
      subst hcl hdl
      have k1 := F.sub_list_set
      have k2 := F.sub_list_frozenset
      have k3 : (Value.type "list" == Value.type "dict") = false := by decide
      subst hso
      unfold Builtin.«set.__init__» noKeywords Builtin.Frozenset.updateFrom
      generalize hPI : pyIter = PI
      wp_walk
      subst hPI
      refine wpAny_pyIter_list hl1 ?_
      refine wpAny_bind (wpAny_runValue ?_)
      refine set_update_ints (ns := ns) ((Walks.list (show A.in1.in1.in1.handled = none by simp [hh]) _ l (by rw [z]; exact Nat.ne_of_lt (Nat.lt_succ_of_lt hls)) items).toS) s.heap.objs.size (by rw [z]; simp only [List.mem_cons, List.not_mem_nil, or_false, not_or]; exact ⟨Nat.ne_of_lt (Nat.lt_succ_self _), Nat.ne_of_gt hls⟩) hisz hb (fun i v hv => ?_) (items.size - 0) 0 _ (by omega) (Nat.zero_le _)
        ⟨⟨_, Heap.get?_push_size _ rfl, rfl, rfl⟩, hl1.push _⟩ ⟨0, Nat.le_refl 0, setR_new_at (Heap.get?_push_of_some _ hS)⟩ fun s' c' hm hc' hS' => ?_
      · have hi : i < ns.length := by rw [← hisz]; exact (Array.getElem?_eq_some_iff.mp hv).1
        obtain ⟨t, e⟩ := IntsAre.int_at hit i v (by rw [Array.getElem?_toList]; exact hv)
        refine ⟨ns[i], t, List.getElem?_eq_getElem hi, ?_⟩
        rw [e, List.getD_eq_getElem?_getD, List.getElem?_eq_getElem hi] <;> rfl
      · obtain ⟨h', g', d', tk', os'⟩ := s'
        cases (show g' = s.gens from hm.gens)
        cases (show d' = s.drawn from hm.drawn)
        cases (show os' = s.os from hm.os)
        show wpAny _ _ _ _ _ _
        refine wpAny_pure ?_
        show wpAny _ _ (PySem.ret Value.none) _ _ _
        refine wpAny_pure ⟨rfl, h', tk', c', rfl, hS', by rw [← hisz]; exact hc', fun b o e => ?_⟩
        have hb0 : b < s.heap.objs.size := Heap.lt_size e
        exact hm.heap b o (by rw [z]; simp only [List.mem_cons, List.not_mem_nil, or_false, not_or]; exact ⟨Nat.ne_of_lt hb0, Nat.ne_of_lt (Nat.lt_succ_of_lt hb0)⟩) (Heap.get?_push_of_some _ (Heap.get?_push_of_some _ e))
    · match r₂, hr₂ with
      | .error e, hr₂ => exact hr₂
      | .ok (.ret r), hr₂ =>
        obtain ⟨rfl, h', tk, c, rfl, hS', hc', hk'⟩ := hr₂
        repeat (any_goals (first | assumption | wp_step))
        exact h _ _ _ hS' hc' hk'
end
end Pm
end
section
set_option Elab.async false
set_option linter.all false
set_option maxRecDepth 100000
set_option maxHeartbeats 4000000
namespace Pm
open PySem PySem.Spec PyProof.Rows L2
/-! ### sorted(set(xs)), fewer than 63 ints -/
def uniq : List Int → List Int
  | [] => []
  | n :: r => if n ∈ r then uniq r else n :: uniq r
theorem mem_uniq {k : Int} : ∀ {l : List Int}, k ∈ uniq l ↔ k ∈ l
  | [] => Iff.rfl
  | n :: r => by
    unfold uniq
    split
    · rename_i h
      rw [mem_uniq, List.mem_cons]
      exact ⟨.inr, fun z => z.elim (fun e => e ▸ h) id⟩
    · rw [List.mem_cons, List.mem_cons, mem_uniq]
theorem nodup_uniq : ∀ l : List Int, (uniq l).Nodup
  | [] => List.nodup_nil
  | n :: r => by
    unfold uniq
    split
    · exact nodup_uniq r
    · rename_i h
      exact List.nodup_cons.mpr ⟨fun z => h (mem_uniq.mp z), nodup_uniq r⟩
def dedS (ns : List Int) : List Int := isort (uniq ns)
theorem dedS_uniq {ns ns' : List Int} (hs : ns'.Pairwise (· < ·)) (hm : ∀ k, k ∈ ns' ↔ k ∈ ns) : ns' = dedS ns := by
  have h1 : ns'.Nodup := hs.imp fun h => by omega
  refine PySem.W.ksm_same (List.Perm.trans ?_ (isort_perm _).symm) (hs.imp fun h => by omega) (isort_sorted _)
  exact (List.perm_ext_iff_of_nodup h1 (nodup_uniq ns)).mpr fun k => by rw [hm, mem_uniq]
def tSortSet (K : PySem.W.Frag) (ta : TE) : TE := fun σ H Q => ta σ H fun x H1 => ∃ (l : Addr) (ns : List Int), x = .ref l ∧ SqL K H1 l (ns.map V.int) ∧ ns.length < 63 ∧
  ∀ (ns' : List Int) (p : Addr), ns'.Pairwise (· < ·) → (∀ k, k ∈ ns' ↔ k ∈ ns) → H1 p = none → Q (.ref p) (upd H1 p (.lst (ns'.map V.int)))
theorem pe_sortSet {X : Cx} {a : Expr} {ta : TE} {p p2 q pos : Pos} (hc : X.calm = true) (hg : Gl X "sorted") (hm : X.mg "sorted" = none) (hg2 : Gl X "set") (hm2 : X.mg "set" = none) (ha : PE X a ta)
    (na : starEach [a] X.env = (false, eval a X.env) :: starEach [] X.env := by rfl) : PE X (.Call (.Name "sorted" p) [.Call (.Name "set" p2) [a] [] q] [] pos) (tSortSet X.K ta) := by
  refine ⟨fun pins s σ H Q I h => ?_⟩
  refine Call_ (ld_blt I hg hm boot_sorted ?_)
  refine PyProof.Rows.callWith_builtin1 (PyProof.Rows.args_cons ?_ rfl) rfl rfl
  refine Call_ (ld_blt I hg2 hm2 boot_set ?_)
  refine PyProof.Rows.callWith_type1 (PyProof.Rows.args_cons (thn (ha.run pins s σ H _ I h) fun v s1 ⟨x, H1, I1, r1, q1⟩ => PyProof.Rows.args_nil ?_) na) na rfl
  obtain ⟨l, ns, rfl, hq, hl, q1⟩ := q1
  cases r1
  obtain ⟨its, r, pl, hz⟩ := I1.list hq
  refine set_of_list (ns := ns) (I1.ok.hd hc) pl.isList (by simpa using r.ints) (by unfold scanBound; omega) fun h' tk c R hcn hk => ?_
  refine PyProof.Rows.args_nil ?_
  refine sorted_set (s := { s1 with heap := h', toks := tk }) R (I1.ok.hd hc) (by omega) fun s' p out c ns' k g o hp he hi hs hmm hlen => ?_
  have kall : ∀ b u, s1.heap.get? b = some u → s'.heap.get? b = some u := fun b u e => k b u (hk b u e)
  have hp1 : s1.heap.objs.size ≤ p := Nat.le_trans (Nat.le_of_lt R.lt) hp
  have hz' : (ns'.map V.int).length ≤ sizeLine := by rw [List.length_map, hlen, sizeLine_eq]; omega
  have hn : H1 p = none := I1.hok.fresh hp1
  have J : Inv X pins σ (upd H1 p (.lst (ns'.map V.int))) s' :=
    I1.call' (ch := []) o (Un.laid kall hp1 hn) (I1.hok.laid kall hp1 ⟨hz', out.toList, c, vals_of_ints hi, he⟩) (by rw [g]; exact I1.bare) (fun _ z => nomatch z)
  exact ⟨.ref p, _, J, rfl, q1 ns' p hs (fun j => by rw [hmm j, decide_eq_true_eq]) hn⟩
def oSortSet : D → M D
  | .loc l => bnd (lst l) fun xs => match intsOf xs with
    | some ns => if ns.length < 63 then alloc ((dedS ns).map .int) else no
    | none => no
  | _ => no
theorem md_sortSet {X : Cx} {c : Ct} {ex : Wh} {a : Expr} {f : ME} {p p2 q pos : Pos} (hK : X.K = c.K) (hc : X.calm = true) (hg : Gl X "sorted") (hm : X.mg "sorted" = none) (hg2 : Gl X "set") (hm2 : X.mg "set" = none) (ha : PE X a (tE c ex f))
    (na : starEach [a] X.env = (false, eval a X.env) :: starEach [] X.env := by rfl) : PE X (.Call (.Name "sorted" p) [.Call (.Name "set" p2) [a] [] q] [] pos) (tE c ex (una f oSortSet)) :=
  PE_imp (pe_sortSet hc hg hm hg2 hm2 ha na) fun σ H Q q => by
    obtain ⟨ρ, st, bs, rl, re, p⟩ := q
    refine ⟨ρ, st, bs, rl, re, p.bnd.imp fun d st1 bs1 H1 e1 rl1 p1 v rv => ?_⟩
    rw [hK]
    cases rv with
    | loc h =>
      obtain ⟨a, vs, xs, e, hb, hl, hv, r, p2⟩ := post_lst (k := fun _ _ _ _ => True) p1 rl1 (RD.loc h)
      cases e
      cases e1 : intsOf xs with
      | some ns =>
        simp only [e1] at p2
        obtain ⟨hk, p2⟩ := Post.iff (m := alloc _) p2
        rw [intsOf_map e1] at r
        rw [r.toInts] at hv
        refine ⟨_, _, rfl, SqL.of hv, hk, fun ns' q hs hm hq => ?_⟩
        have e2 : ns' = dedS ns := dedS_uniq hs hm
        subst e2
        obtain ⟨k, r⟩ := post_alloc p2 rl1 hq (RDs.ints _)
        exact k _ r
      | none =>
        simp only [e1] at p2
        exact p2.elim
    | _ => exact p1.elim
end Pm
end
section
set_option Elab.async false
set_option linter.all false
set_option maxRecDepth 100000
set_option maxHeartbeats 4000000
namespace Pm
open PySem PySem.Spec PyProof.Rows L2
/-! ### comprehensions of any number of fors: a clause by what its turn holds inside -/
def turnB (tg iter : Expr) (ifs : List Expr) (e : Expr) (k : Nat) (it acc : Value) (env : Env) (inner : Sem PySem.Fin → Sem PySem.Fin) : Sem PySem.Fin := do
  standAt iter.pos
  match ← pyNext it with
  | none => pure (.done .next)
  | some v =>
    letOwnedTupleGo tg it v
    assign tg env v
    let mut ok := true
    for c in ifs do
      if ok then ok ← isTrue c env (eval c env)
    if ok then inner (again (.compLoop e k it acc env)) else again (.compLoop e k it acc env)
def inC (iter e : Expr) (k : Nat) (acc : Value) (env : Env) (nxt : Sem PySem.Fin) : Sem PySem.Fin := do
  let x ← eval iter env
  standAt iter.pos
  let x ← foldedSetIterable iter env x
  let _ ← runOwn (.compStart e k (← holding [x] (pyIter x)) acc env) env
  nxt
def inA0 (elt : Expr) (acc : Value) (env : Env) : Sem Unit := do
  let _ ← call (.builtin "list.append") [acc, ← eval elt env]
def inA (elt : Expr) (acc : Value) (env : Env) (nxt : Sem PySem.Fin) : Sem PySem.Fin := do
  inA0 elt acc env
  nxt
/-- what the inside of a turn does -/
def InOk (P : Program) (w : World) (A : Around) (inner : Sem PySem.Fin → Sem PySem.Fin) (IN : (Shared → Prop) → Shared → Prop) : Prop :=
  ∀ (Q : Shared → Prop) (nxt : Sem PySem.Fin) (Q1 : PySem.Fin → Shared → Prop) (E : Value → Shared → Prop) (s : Shared), IN Q s → (∀ s', Q s' → wpAny (model P w) A nxt Q1 E s') → wpAny (model P w) A (inner nxt) Q1 E s
abbrev e3 (elt t0 i0 : Expr) (ifs0 : List Expr) (t1 i1 : Expr) (ifs1 : List Expr) (t2 i2 : Expr) (ifs2 : List Expr) (scope : Scope) (pos : Pos) : Expr := .ListComp elt [⟨t0, i0, ifs0, 0⟩, ⟨t1, i1, ifs1, 0⟩, ⟨t2, i2, ifs2, 0⟩] scope pos
section
variable {elt t0 i0 t1 i1 t2 i2 : Expr} {ifs0 ifs1 ifs2 : List Expr} {scope : Scope} {pos : Pos} {it acc : Value} {env : Env}
theorem turn3_0 : compTurn (e3 elt t0 i0 ifs0 t1 i1 ifs1 t2 i2 ifs2 scope pos) 0 it acc env = turnB t0 i0 ifs0 (e3 elt t0 i0 ifs0 t1 i1 ifs1 t2 i2 ifs2 scope pos) 0 it acc env (inC i1 (e3 elt t0 i0 ifs0 t1 i1 ifs1 t2 i2 ifs2 scope pos) 1 acc env) := by rfl
theorem turn3_1 : compTurn (e3 elt t0 i0 ifs0 t1 i1 ifs1 t2 i2 ifs2 scope pos) 1 it acc env = turnB t1 i1 ifs1 (e3 elt t0 i0 ifs0 t1 i1 ifs1 t2 i2 ifs2 scope pos) 1 it acc env (inC i2 (e3 elt t0 i0 ifs0 t1 i1 ifs1 t2 i2 ifs2 scope pos) 2 acc env) := by rfl
theorem turn3_2 : compTurn (e3 elt t0 i0 ifs0 t1 i1 ifs1 t2 i2 ifs2 scope pos) 2 it acc env = turnB t2 i2 ifs2 (e3 elt t0 i0 ifs0 t1 i1 ifs1 t2 i2 ifs2 scope pos) 2 it acc env (inA elt acc env) := by rfl
end
section
variable {prog : Program} {w : World} {A : Around} {R : Result → Shared → Prop} {s : Shared} {tg iter elt : Expr} {ifs : List Expr} {gens : List Comprehension} {scope : Scope} {pos : Pos} {k : Nat} {it acc : Value} {env : Env} {inner : Sem PySem.Fin → Sem PySem.Fin} {IN : (Shared → Prop) → Shared → Prop}
theorem loopB (hT : compTurn (.ListComp elt gens scope pos) k it acc env = turnB tg iter ifs (.ListComp elt gens scope pos) k it acc env inner) (hin : InOk prog w A inner IN) (I : Nat → Shared → Prop)
    (turn : ∀ n s, I n s → wpAny (model prog w) A (pyNext it) (fun r s₁ => match r with
      | none => R (.ok .next) s₁
      | some v => wpAny (model prog w) A (letOwnedTupleGo tg it v) (fun _ s₁' => wpAny (model prog w) A (assign tg env v) (fun _ s₂ =>
          wpAny (model prog w) A (forIn ifs true fun c r => if r = true then do let ok ← isTrue c env (eval c env); pure (ForInStep.yield ok) else pure (ForInStep.yield r)) (fun ok s₃ =>
            if ok = true then IN (fun s₄ => ∃ m, m < n ∧ I m s₄) s₃ else ∃ m, m < n ∧ I m s₃) (fun _ _ => False) s₂) (fun _ _ => False) s₁') (fun _ _ => False) s₁) (fun _ _ => False) s)
    (n : Nat) (h : I n s) : codeAny (model prog w) A (.compLoop (.ListComp elt gens scope pos) k it acc env) R s := by
  refine codeAny_loop rfl I (fun n s hI => ?_) n h
  show wpAny _ A ((compTurn (.ListComp elt gens scope pos) k it acc env).onRaise (fun x => do noteFrame x env; theTreesLotGoes x)) _ _ s
  refine wpAny_noted ?_
  rw [hT]
  unfold turnB
  refine wpAny_bind (wpAny_standAt (wpAny_bind (thnF (turn n s hI) fun r s₁ h₁ => ?_)))
  cases r with
  | none => exact wpAny_pure h₁
  | some v =>
    refine wpAny_bind (thnF h₁ fun _ s₁' h₁' => ?_)
    refine wpAny_bind (thnF h₁' fun _ s₂ h₂ => wpAny_bind (thnF h₂ fun ok s₃ h₃ => ?_))
    cases ok with
    | false => exact wpAny_pure ⟨rfl, h₃⟩
    | true => exact hin _ _ _ _ _ h₃ fun s₄ h₄ => wpAny_pure ⟨rfl, h₄⟩
theorem startB (hcl : (clausesOf (.ListComp elt gens scope pos))[k]? = some ⟨tg, iter, ifs, 0⟩) (h0 : codeAny (model prog w) A (.compLoop (.ListComp elt gens scope pos) k it acc env) R s)
    (h : wpAny (model prog w) A (pyIter it) (fun it' s' => codeAny (model prog w) A (.compLoop (.ListComp elt gens scope pos) k it' acc env) R s') (fun _ _ => False) s) :
    codeAny (model prog w) A (.compStart (.ListComp elt gens scope pos) k it acc env) R s := by
  refine codeAny_of_tree ?_
  show wpAny _ _ ((compStart (.ListComp elt gens scope pos) k it acc env).onRaise (fun x => do noteFrame x env; standAt theWindowsPlace)) _ _ s
  refine wpAny_notedAt ?_
  unfold compStart
  rw [hcl]
  show wpAny _ _ (ask >>= _) _ _ s
  refine wpAny_bind (wpAny_askSetting (wpAny_ite ?_))
  split
  · first
      | exact wpAny_bind (wpAny_pure (wpAny_pure (And.intro rfl h0)))
      | exact wpAny_pure (And.intro rfl h0)
  · refine wpAny_bind (wpAny_rule ?_)
    show wpAny _ _ (standAt iter.pos >>= _) _ _ s
    exact wpAny_bind (wpAny_standAt (wpAny_bind (thnF h fun it' s' h' => wpAny_pure (And.intro rfl h'))))
theorem inC_ok (hs : ∀ x, foldedSetIterable iter env x = pure x) : InOk prog w A (inC iter (.ListComp elt gens scope pos) k acc env) fun Q s => wpAny (model prog w) A (eval iter env) (fun x s₄ => wpAny (model prog w) A (pyIter x) (fun it1 s₅ => codeAny (model prog w) A (.compStart (.ListComp elt gens scope pos) k it1 acc env) (fun r s' => match r with
      | .ok _ => Q s'
      | .error _ => False) s₅) (fun _ _ => False) s₄) (fun _ _ => False) s := fun Q nxt Q1 E s h hn => by
  unfold inC
  refine wpAny_bind (thnF h fun x s₄ h₄ => ?_)
  refine wpAny_bind (wpAny_standAt (wpAny_bind (wpAny_of_eq (hs x) (wpAny_bind (wpAny_holding (thnF h₄ fun it1 s₅ h₅ => ?_))))))
  refine wpAny_bind (wpAny_runOwn ?_)
  rw [Around.mark_none]
  refine codeAny_mono h₅ fun r s' hr => ?_
  cases r with
  | ok f =>
    first
      | exact hn _ hr
      | exact wpAny_pure (hn _ hr)
  | error e => exact hr.elim
theorem inA_ok : InOk prog w A (inA elt acc env) fun Q s => wpAny (model prog w) A (eval elt env) (fun x s₄ => wpAny (model prog w) A (call (.builtin "list.append") [acc, x]) (fun _ s₅ => Q s₅) (fun _ _ => False) s₄) (fun _ _ => False) s := fun Q nxt Q1 E s h hn => by
  unfold inA inA0
  refine wpAny_bind (wpAny_bind (thnF h fun x s₄ h₄ => wpAny_bind (thnF h₄ fun _ s₅ h₅ => ?_)))
  first
    | exact hn _ h₅
    | exact wpAny_pure (hn _ h₅)
end
end Pm
end
section
set_option Elab.async false
set_option linter.all false
set_option maxRecDepth 100000
set_option maxHeartbeats 4000000
namespace Pm
open PySem PySem.Spec PyProof.Rows L2
abbrev TB := L2.St → Hp → (Hp → Prop) → Prop
/-- the inside of a turn, by slots and heap -/
def InS (Y : Cx) (inner : Sem PySem.Fin → Sem PySem.Fin) (vs : List Nat) (tb : TB) : Prop := ∃ IN, InOk Y.prog Y.w Y.A inner IN ∧ (∀ Q Q' s, (∀ s, Q s → Q' s) → IN Q s → IN Q' s) ∧ ∀ (pins : List (Addr × Obj)) (s : Shared) (σ : L2.St) (H : Hp) (N : Hp → Prop), Inv Y pins σ H s → tb σ H N →
  IN (fun s' => ∃ σ' H', Inv Y pins σ' H' s' ∧ σ.length = σ'.length ∧ (∀ (j : Nat) v, (wipe σ vs)[j]? = some (some v) → σ'[j]? = some (some v)) ∧ N H') s
/-- the list gets one more -/
def tAp (te : TE) (D : Addr) : TB := fun σ H N => te σ H fun y H7 => ∃ acc, H7 D = some (.lst acc) ∧ acc.length < sizeLine ∧ N (upd H7 D (.lst (acc ++ [y])))
/-- a whole walk within a turn -/
def tCl (wi : TI) (g : TG) (tt : TT) (vs : List Nat) (tb : TB) : TB := fun σ H N => wi σ H fun J1 H4 => ∃ W1 : Nat → Nat → Hp → Prop, (∃ m, W1 0 m H4) ∧ ∀ j k H, W1 j k H →
  (J1.stop j H ∧ N H) ∨ (J1.go j H ∧ ∃ N1 : Hp → Prop, (∀ H', N1 H' → ∃ k', k' < k ∧ W1 (j + 1) k' H') ∧ ∀ x H', J1.yld j H x H' → g x (wipe σ vs) H' fun σ3 H5 => wipe σ3 vs = wipe σ vs ∧ tt σ3 H5 fun b H6 => if b = true then tb σ3 H6 N1 else N1 H6)
theorem wpF {Y : Cx} (hx : Y.xe = fun _ _ => False) {α : Type} {t : Sem α} {Q : α → Shared → Prop} {s : Shared} (h : wpAny (model Y.prog Y.w) Y.A t Q Y.xe s) : wpAny (model Y.prog Y.w) Y.A t Q (fun _ _ => False) s := wpAny_mono h (fun _ _ q => q) fun _ _ z => by rw [hx] at z; exact z
theorem inS_ap {Y : Cx} (hx : Y.xe = fun _ _ => False) {elt : Expr} {te : TE} {D : Addr} (pe : PE Y elt te) : InS Y (inA elt (.ref D) Y.env) [] (tAp te D) := by
  refine ⟨_, inA_ok, fun Q Q' s h q => thnF q fun x s4 q => thnF q fun _ s5 q => h _ q, fun pins s σ H N I q => ?_⟩
  refine thnF (wpF hx (pe.run _ s σ H _ I q)) fun z s1 ⟨yv, H1, I1, r1, acc, hD, hz, nx⟩ => ?_
  exact app_ok (X := Y) I1 hD hz r1 fun s2 I2 => ⟨σ, _, I2, rfl, fun j v e => e, nx⟩
theorem inS_clause {Y : Cx} (hc : Y.calm = true) (hx : Y.xe = fun _ _ => False) {elt tg iter : Expr} {ifs : List Expr} {gens : List Comprehension} {scope : Scope} {pos : Pos} {k : Nat} {D : Addr} {inner : Sem PySem.Fin → Sem PySem.Fin} {wi : TI} {g : TG} {tt : TT} {tb : TB} {vs vs' : List Nat}
    (pi : PI Y tg iter wi) (pg : PG Y tg g) (pt : PTs Y ifs tt) (hT : ∀ it, compTurn (.ListComp elt gens scope pos) k it (.ref D) Y.env = turnB tg iter ifs (.ListComp elt gens scope pos) k it (.ref D) Y.env inner)
    (hcl : (clausesOf (.ListComp elt gens scope pos))[k]? = some ⟨tg, iter, ifs, 0⟩) (hs : ∀ x, foldedSetIterable iter Y.env x = pure x) (hin : InS Y inner vs' tb) (hsub : ∀ i ∈ vs', i ∈ vs) :
    InS Y (inC iter (.ListComp elt gens scope pos) k (.ref D) Y.env) vs (tCl wi g tt vs tb) := by
  obtain ⟨IN, hIN, hmono, hrun⟩ := hin
  refine ⟨_, inC_ok hs, fun Q Q' s h q => thnF q fun x s4 q => thnF q fun _ s5 q => codeAny_mono q fun r s6 q => by
    cases r with
    | ok f => exact h _ q
    | error e => exact q, fun pins s σ H N I q => ?_⟩
  refine thnF (wpF hx (pi.run _ s σ H _ I q)) fun xv s1 h1 => thnF (wpF hx h1) fun itv s2 h2 => ?_
  obtain ⟨it, fp, tn, J, H2, e, I2, T, st2, f2, W, ⟨m0, w0⟩, turn⟩ := h2
  subst e
  have stat : ∀ {H' : Hp}, (∀ b ∈ fp, H' b = none) → ∀ b ∈ fp, FpOk Y pins H' b := fun hn b hb => ⟨hn b hb, (f2 b hb).2⟩
  have loop : codeAny (model Y.prog Y.w) Y.A (.compLoop (.ListComp elt gens scope pos) k (.ref it) (.ref D) Y.env)
      (fun r s' => match r with
        | .ok _ => ∃ σ' H', Inv Y pins σ' H' s' ∧ σ.length = σ'.length ∧ (∀ (j : Nat) v, (wipe σ vs)[j]? = some (some v) → σ'[j]? = some (some v)) ∧ N H'
        | .error _ => False) s2 := by
    refine loopB (hT _) hIN (fun n s' => ∃ j H', Inv Y pins (wipe σ vs) H' s' ∧ tn j s'.heap ∧ (∀ b ∈ fp, H' b = none) ∧ W j n H') ?_ m0 ⟨0, H2, I2.weak (wipe_length _ _) (fun j v e => (wipe_some e).1), st2, fun b hb => (f2 b hb).1, w0⟩
    rintro n s3 ⟨j, H3, I3, st3, n3, w3⟩
    rcases turn j n H3 w3 with ⟨stop, nx⟩ | ⟨go, N1, hN1, step⟩
    · refine thnF (T.done Y rfl rfl rfl hc j _ s3 (wipe σ vs) H3 (fun _ _ => False) I3 (stat n3) st3 stop) fun r s4 ⟨hr, I4⟩ => ?_
      subst hr
      exact ⟨_, _, I4, (wipe_length σ vs).symm, fun j v e => e, nx⟩
    · refine thnF (T.item Y rfl rfl rfl hc j _ s3 (wipe σ vs) H3 (fun _ _ => False) I3 (stat n3) st3 go) fun r s4 ⟨u, hr, h4⟩ => ?_
      subst hr
      refine thnF h4 fun _ s5 ⟨x, H5, I5, r5, y5, st5, n5⟩ => ?_
      have I5' := I5.pinned (stat n5) (T.obj _ _ st5)
      refine thnF (wpF hx (pg.run _ s5 (wipe σ vs) H5 x u _ I5' r5 (step x H5 y5))) fun _ s6 ⟨σ6, H6, I6, hw6, q6⟩ => ?_
      refine thnF (wpF hx (pt.run _ s6 σ6 H6 _ I6 q6)) fun b s7 ⟨H7, I7, q7⟩ => ?_
      have fin : ∀ {σ9 : L2.St} {s' : Shared} {H' : Hp}, Inv Y (pins ++ pinsAt fp s5.heap) σ9 H' s' → (wipe σ vs).length = σ9.length → (∀ (j : Nat) v, (wipe σ vs)[j]? = some (some v) → σ9[j]? = some (some v)) → N1 H' →
          ∃ m, m < n ∧ ∃ j H', Inv Y pins (wipe σ vs) H' s' ∧ tn j s'.heap ∧ (∀ b ∈ fp, H' b = none) ∧ W j m H' := fun {σ9 s' H'} I' hl hk nx => by
        obtain ⟨m', hm, w'⟩ := hN1 H' nx
        have pin' : ∀ b ∈ fp, ∀ o, s5.heap.get? b = some o → s'.heap.get? b = some o ∧ H' b = none := fun b hb o e =>
          let z := I'.pin (b, o) (List.mem_append_right _ (List.mem_append_right _ (mem_pinsAt hb e)))
          ⟨z.1, z.2.1⟩
        refine ⟨m', hm, j + 1, H', I'.unpinned.weak hl hk, T.keep _ _ _ st5 fun b hb o e => (pin' b hb o e).1, fun b hb => ?_, w'⟩
        obtain ⟨o, e, _⟩ := T.obj _ _ st5 b hb
        exact (pin' b hb o e).2
      have hl6 : (wipe σ vs).length = σ6.length := by rw [← hw6, wipe_length]
      cases b with
      | false =>
        simp only [Bool.false_eq_true, if_false] at q7 ⊢
        exact fin I7 hl6 (fun j v e => by rw [← hw6] at e; exact (wipe_some e).1) q7
      | true =>
        simp only [if_true] at q7 ⊢
        have z := hrun _ s7 σ6 H7 N1 I7 q7
        refine hmono _ _ _ (fun s8 ⟨σ8, H8, I8, hl8, hk8, nx⟩ => ?_) z
        refine fin I8 (hl6.trans hl8) (fun j v e => hk8 j v ?_) nx
        rw [← hw6] at e
        obtain ⟨e1, e2⟩ := wipe_some e
        rw [wipe_out fun z => e2 (hsub j z)]
        exact e1
  exact startB hcl loop (T.self Y.A 0 _ _ _ st2 loop)
end Pm
end
section
set_option Elab.async false
set_option linter.all false
set_option maxRecDepth 100000
set_option maxHeartbeats 4000000
namespace Pm
open PySem PySem.Spec PyProof.Rows L2
/-! ### the outermost for, whatever its turn holds inside -/
def tLcI (wi : TI) (g : TG) (tt : TT) (vs : List Nat) (tb : Addr → TB) : TE := fun σ H Q => wi σ H fun J H1 => ∀ D, H1 D = none → ∃ W : Nat → Nat → Hp → Prop, (∃ m, W 0 m (upd H1 D (.lst []))) ∧ ∀ i m H, W i m H →
  (J.stop i H ∧ Q (.ref D) H) ∨ (J.go i H ∧ ∃ Nx : Hp → Prop, (∀ H', Nx H' → ∃ m', m' < m ∧ W (i + 1) m' H') ∧ ∀ x H', J.yld i H x H' → g x (wipe σ vs) H' fun σ2 H2 => wipe σ2 vs = wipe σ vs ∧ tt σ2 H2 fun b H3 => if b = true then tb D σ2 H3 Nx else Nx H3)
section
variable {X : Cx}
theorem pe_lcI {elt tg iter : Expr} {ifs : List Expr} {more : List Comprehension} {scope : Scope} {own : List (Str × Nat)} {vs' : List Nat} {pos : Pos} {wi : TI} {g : TG} {tt : TT} {tb : Addr → TB} {inner : Value → Env → Sem PySem.Fin → Sem PySem.Fin}
    (hc : X.calm = true) (hN : X.N.Nodup) (hi : PI X tg iter wi) (ok : BlkOk X.N X.env.scope scope own)
    (hg : ∀ (s : Shared) (H : Hp) (C : Addr) (cl : List (Str × Addr)) (fp : List Addr), PG (X.blk s H scope (compEnvC scope cl C X.env) fp) tg g) (ht : ∀ (s : Shared) (H : Hp) (C : Addr) (cl : List (Str × Addr)) (fp : List Addr), PTs (X.blk s H scope (compEnvC scope cl C X.env) fp) ifs tt)
    (hT : ∀ it acc env, compTurn (.ListComp elt (⟨tg, iter, ifs, 0⟩ :: more) scope pos) 0 it acc env = turnB tg iter ifs (.ListComp elt (⟨tg, iter, ifs, 0⟩ :: more) scope pos) 0 it acc env (inner acc env))
    (hin : ∀ (D : Addr) (s : Shared) (H : Hp) (C : Addr) (cl : List (Str × Addr)) (fp : List Addr), InS (X.blk s H scope (compEnvC scope cl C X.env) fp) (inner (.ref D) (compEnvC scope cl C X.env)) vs' (tb D)) (hsub : ∀ i ∈ vs', i ∈ own.map (·.2))
    (hs : ∀ x, foldedSetIterable iter X.env x = pure x) : PE X (.ListComp elt (⟨tg, iter, ifs, 0⟩ :: more) scope pos) (tLcI wi g tt (own.map (·.2)) tb) := by
  refine ⟨fun pins s σ H Q I h => ?_⟩
  rw [eval_ListComp]
  have hfree : ∀ y ∈ scope.names, y.2 = .free → ∃ c, X.env.cells.lookup y.1 = some c := fun y hy e => (ok.free y hy e).elim (fun k => I.ok.has _ (.inl k)) fun k => I.ok.has _ (.inr k)
  refine wpAny_comprehension_free (use := none) rfl hs (closure_ok hfree) ok.kind (fun y hy e => by rw [ok.uniq y hy, e]) (thn (hi.run pins s σ H _ I h) fun xv s1 hx => thn hx fun itv s2 h2 => ?_)
  obtain ⟨it, fp, tn, J, H2, e, I2, T, st2, f2, q⟩ := h2
  subst e
  refine wpAny_newObj_type (newEnv_comp ?_) (by show 0 ≤ sizeLine; decide)
  generalize hD : s2.heap.objs.size = D
  obtain ⟨W, ⟨m0, w0⟩, turn⟩ := q D (I2.hok.fresh (Nat.le_of_eq hD))
  generalize hs3 : ({ s2 with heap := s2.heap.push { cls := .type "list", data := .seq ([] : List Value).toArray } } : Shared) = s3
  have h3 : s3.heap = s2.heap.push { cls := .type "list", data := .seq ([] : List Value).toArray } := by rw [← hs3]
  have I3 : Inv X pins σ (upd H2 D (.lst [])) s3 := by
    rw [← hs3]
    refine I2.laid (t' := s2.toks) (fun b o e => Heap.get?_push_of_some _ e) (Nat.le_of_eq hD) ⟨Nat.zero_le _, [], 0, .nil, ?_⟩
    rw [← hD]
    exact Heap.get?_push_size _ rfl
  have f3 : ∀ b ∈ fp, FpOk X pins (upd H2 D (.lst [])) b ∧ b < s3.heap.objs.size := fun b hb => by
    obtain ⟨o, e, _⟩ := T.obj _ _ st2 b hb
    have hlt := Heap.lt_size e
    refine ⟨⟨?_, (f2 b hb).2⟩, by rw [h3, Heap.size_push]; exact Nat.lt_succ_of_lt hlt⟩
    rw [upd_ne (by rw [← hD]; exact Nat.ne_of_lt hlt)]
    exact (f2 b hb).1
  have st3 : tn 0 s3.heap := T.keep _ _ _ st2 fun b _ o e => by rw [h3]; exact Heap.get?_push_of_some _ e
  have I4 := block_start I3 ok hN f3
  have pg := hg s3 (upd H2 D (.lst [])) s3.heap.objs.size (cellsFrom (s3.heap.objs.size + 1) scope.names (cloFrom X.env.cells scope.names [])) fp
  have pt := ht s3 (upd H2 D (.lst [])) s3.heap.objs.size (cellsFrom (s3.heap.objs.size + 1) scope.names (cloFrom X.env.cells scope.names [])) fp
  have pin := hin D s3 (upd H2 D (.lst [])) s3.heap.objs.size (cellsFrom (s3.heap.objs.size + 1) scope.names (cloFrom X.env.cells scope.names [])) fp
  have nfp : ∀ b ∈ fp, (upd H2 D (.lst [])) b = none := fun b hb => (f3 b hb).1.1
  show codeAny _ _ (.compStart (.ListComp elt (⟨tg, iter, ifs, 0⟩ :: more) scope pos) 0 (.ref it) (.ref D) (compEnvC scope (cellsFrom (s3.heap.objs.size + 1) scope.names (cloFrom X.env.cells scope.names [])) s3.heap.objs.size X.env)) (compPost (model X.prog X.w) X.A X.xe none _ (.ref D) s3.heap.objs.size) { s3 with heap := pushCells (s3.heap.push { cls := .type "dict", data := .dict #[] }) scope.names }
  generalize hce : compEnvC scope (cellsFrom (s3.heap.objs.size + 1) scope.names (cloFrom X.env.cells scope.names [])) s3.heap.objs.size X.env = ce at I4 pg pt pin ⊢
  have cL : ce.locals = s3.heap.objs.size := by subst hce; rfl
  generalize hH3 : upd H2 D (.lst []) = H3 at I3 I4 pg pt pin w0 nfp f3
  generalize hs4 : ({ s3 with heap := pushCells (s3.heap.push { cls := .type "dict", data := .dict #[] }) scope.names } : Shared) = s4 at I4 ⊢
  have st4 : tn 0 s4.heap := T.keep _ _ _ st3 fun b _ o e => by rw [← hs4]; exact pushCells_keeps _ _ _ _ (Heap.get?_push_of_some _ e)
  have stat : ∀ {σ' : L2.St} {H' : Hp} {s' : Shared}, Inv (X.blk s3 H3 scope ce fp) [] σ' H' s' → (∀ b ∈ fp, H' b = none) → ∀ b ∈ fp, FpOk (X.blk s3 H3 scope ce fp) [] H' b := fun {σ' H' s'} I' hn b hb =>
    ⟨hn b hb, (I'.ok.exf b hb).1, I'.ok.exfs b hb, .inl hb, fun x c e => (I'.ok.exf b hb).2 x c e, fun p hp => absurd (show p ∈ ([] : List (Addr × Obj)) ++ [] from hp) (by simp)⟩
  obtain ⟨IN, hIN, hmono, hrun⟩ := pin
  have loop : codeAny (model X.prog X.w) X.A (.compLoop (.ListComp elt (⟨tg, iter, ifs, 0⟩ :: more) scope pos) 0 (.ref it) (.ref D) ce) (compPost (model X.prog X.w) X.A X.xe none (EP X pins σ Q) (.ref D) s3.heap.objs.size) s4 := by
    refine loopB (hT _ _ _) hIN (fun n s' => ∃ i H', Inv (X.blk s3 H3 scope ce fp) [] (wipe σ (own.map (·.2))) H' s' ∧ tn i s'.heap ∧ (∀ b ∈ fp, H' b = none) ∧ W i n H') ?_ m0 ⟨0, H3, I4, st4, nfp, w0⟩
    rintro n s5 ⟨i, H5, I5, st5, n5, w5⟩
    rcases turn i n H5 w5 with ⟨stop, qq⟩ | ⟨go, Nx, hNx, step⟩
    · refine thnF (T.done (X.blk s3 H3 scope ce fp) rfl rfl rfl hc i [] s5 _ H5 (fun _ _ => False) I5 (stat I5 n5) st5 stop) fun r s6 ⟨hr, I6⟩ => ?_
      subst hr
      have I7 : Inv X pins σ H5 s6 := I3.call' (ch := fp) I6.os I6.base I6.hok I6.bare fun b hb => ⟨(f3 b hb).1.2.2.2.1, (f3 b hb).1.2.1, (f3 b hb).1.2.2.2.2.1, (f3 b hb).1.2.2.2.2.2⟩
      have nC : H5 s3.heap.objs.size = none := by
        have z : H5 ce.locals = none := I6.free
        rw [cL] at z
        exact z
      obtain ⟨m, hn, _⟩ := I6.loc
      have hn : s6.heap.Ns ce.locals m := hn
      rw [cL] at hn
      obtain ⟨f0, f1, f2, f3, f4, f5⟩ := I3.fpOk (Nat.le_refl _) nC
      exact ⟨m, hn, fun h'' sb => ⟨.ref D, H5, I7.turned (t' := s6.toks) (fun b o hb e => (sb.2 b hb).trans e) f0 f1 f3 f4 f5, rfl, qq⟩⟩
    · refine thnF (T.item (X.blk s3 H3 scope ce fp) rfl rfl rfl hc i [] s5 _ H5 (fun _ _ => False) I5 (stat I5 n5) st5 go) fun r s6 ⟨u, hr, h6⟩ => ?_
      subst hr
      refine thnF h6 fun _ s7 ⟨x, H7, I7, r7, y7, st7, n7⟩ => ?_
      have I7' := I7.pinned (stat I7 n7) (T.obj _ _ st7)
      refine thnF (pg.run _ s7 _ H7 x u _ I7' r7 (step x H7 y7)) fun _ s8 ⟨σ8, H8, I8, hw8, q8⟩ => ?_
      refine thnF (pt.run _ s8 σ8 H8 _ I8 q8) fun b s9 ⟨H9, I9, q9⟩ => ?_
      have fin : ∀ {σ9 : L2.St} {s' : Shared} {H' : Hp}, Inv (X.blk s3 H3 scope ce fp) ([] ++ pinsAt fp s7.heap) σ9 H' s' → (wipe σ (own.map (·.2))).length = σ9.length → (∀ (j : Nat) v, (wipe σ (own.map (·.2)))[j]? = some (some v) → σ9[j]? = some (some v)) → Nx H' →
          ∃ m, m < n ∧ ∃ i H', Inv (X.blk s3 H3 scope ce fp) [] (wipe σ (own.map (·.2))) H' s' ∧ tn i s'.heap ∧ (∀ b ∈ fp, H' b = none) ∧ W i m H' := fun {σ9 s' H'} I' hl hk nx => by
        obtain ⟨m', hm, w'⟩ := hNx H' nx
        have pin' : ∀ b ∈ fp, ∀ o, s7.heap.get? b = some o → s'.heap.get? b = some o ∧ H' b = none := fun b hb o e =>
          let z := I'.pin (b, o) (List.mem_append_right _ (List.mem_append_right _ (mem_pinsAt hb e)))
          ⟨z.1, z.2.1⟩
        refine ⟨m', hm, i + 1, H', (I'.unpinned (pins := [])).weak hl hk, T.keep _ _ _ st7 fun b hb o e => (pin' b hb o e).1, fun b hb => ?_, w'⟩
        obtain ⟨o, e, _⟩ := T.obj _ _ st7 b hb
        exact (pin' b hb o e).2
      have hl8 : (wipe σ (own.map (·.2))).length = σ8.length := by rw [← hw8, wipe_length]
      cases b with
      | false =>
        simp only [Bool.false_eq_true, if_false] at q9 ⊢
        exact fin I9 hl8 (fun j v e => by rw [← hw8] at e; exact (wipe_some e).1) q9
      | true =>
        simp only [if_true] at q9 ⊢
        refine hmono _ _ _ (fun s10 ⟨σ10, H10, I10, hl10, hk10, nx⟩ => ?_) (hrun _ s9 σ8 H9 Nx I9 q9)
        refine fin I10 (hl8.trans hl10) (fun j v e => hk10 j v ?_) nx
        rw [← hw8] at e
        obtain ⟨e1, e2⟩ := wipe_some e
        rw [wipe_out fun z => e2 (hsub j z)]
        exact e1
  exact startB rfl loop (T.self X.A 0 _ _ _ st4 loop)
end
end Pm
end
section
set_option Elab.async false
set_option linter.all false
set_option maxRecDepth 100000
set_option maxHeartbeats 2000000
namespace Pm
open PySem PySem.Spec PyProof.Rows L2
/-! ### comprehensions of any number of fors, in data: what one turn adds to the list -/
abbrev MB := En → List D → M (List D)
def mAp (e : ME) : MB := fun ρ acc => bnd (nox (e ρ)) fun y => if acc.length < sizeLine then ret (acc ++ [y]) else no
def walkL (ok : Sto → Bool) (p : Pat) (t : MT) (mb : MB) (ρ : En) : List D → List D → M (List D)
  | [], acc => fun st => if ok st = true then .ok acc st else .stuck
  | x :: r, acc => fun st => if ok st = true then
      (bnd (ofE (bindP p x ρ)) fun ρ1 => bnd (nox (t ρ1)) fun k => if k = true then bnd (mb ρ1 acc) fun a => walkL ok p t mb ρ r a else walkL ok p t mb ρ r acc) st
    else .stuck
def mCl (it : MI) (p : Pat) (t : MT) (mb : MB) (vs : List Nat) : MB := fun ρ acc => bnd (nox (it ρ)) fun J => walkL J.ok p t mb (wipeE ρ vs) J.xs acc
def lcEI (it : MI) (p : Pat) (t : MT) (mb : MB) (vs : List Nat) : ME := fun ρ => bnd (it ρ) fun I => bnd (walkL I.ok p t mb (wipeE ρ vs) I.xs []) alloc
section
variable {X : Cx} {c : Ct} {ex : Wh} {it : MI} {p : Pat} {t : MT} {e : ME} {mb : MB} {vs : List Nat} {H : Hp}
theorem walkL_ok {ok : Sto → Bool} {ρ : En} {xs acc : List D} {st : Sto} {bs : List Addr} {k : List D → Sto → List Addr → Hp → Prop} (q : Post c ex (walkL ok p t mb ρ xs acc st) bs H k) : ok st = true := by
  cases xs with
  | nil =>
    unfold walkL at q
    by_cases h : ok st = true
    · exact h
    · rw [if_neg h] at q; exact q.elim
  | cons x r =>
    unfold walkL at q
    by_cases h : ok st = true
    · exact h
    · rw [if_neg h] at q; exact q.elim
/-- what a turn adds is what its inside does -/
def MBok (c : Ct) (ex : Wh) (mb : MB) (tb : Addr → TB) : Prop := ∀ (D : Addr) (ρ : En) (σ : L2.St) (acc : List Pm.D) (vacc : List V) (st : Sto) (bs : List Addr) (H : Hp) (N : Hp → Prop) (K : List Pm.D → Sto → List Addr → Hp → Prop),
  Rel c bs H st → RE c bs H ρ σ → H D = some (.lst vacc) → D ∉ bs → RDs c bs (hid H D) vacc acc → Post c ex (mb ρ acc st) bs (hid H D) K →
  (∀ H' st' bs' acc' vacc', Ext bs (hid H D) bs' (hid H' D) → Rel c bs' (hid H' D) st' → D ∉ bs' → H' D = some (.lst vacc') → RDs c bs' (hid H' D) vacc' acc' → K acc' st' bs' (hid H' D) → N H') → tb D σ H N
theorem mb_ap : MBok c ex (mAp e) (tAp (tE c exF e)) := fun D ρ σ acc vacc st bs H N K rl re hv nb rr q hN => by
  have q8 := Post.bnd q
  have q8 := q8.nox
  refine ⟨ρ, st, bs, rl, re, (q8.hide hv nb).imp fun y st9 bs9 H9 e9 rl9 q9 v9 rv9 => ?_⟩
  obtain ⟨e9', hv9, nb9⟩ := e9.hid hv nb
  obtain ⟨hz, q10⟩ := Post.iff (m := ret _) q9
  have rr9 := rr.ext e9'
  refine ⟨vacc, hv9, by rw [rr9.length]; exact hz, ?_⟩
  have z : hid (upd H9 D (.lst (vacc ++ [v9]))) D = hid H9 D := hid_upd
  exact hN _ st9 bs9 (acc ++ [y]) (vacc ++ [v9]) (by rw [z]; exact e9') (by rw [z]; exact rl9.hid hv9 nb9) nb9 upd_same (by rw [z]; exact rr9.append (.cons (rv9.mono (hid_pre hv9)) .nil)) (by rw [z]; exact Post.of q10 (rl9.hid hv9 nb9))
end
end Pm
end
section
set_option Elab.async false
set_option linter.all false
set_option maxRecDepth 100000
set_option maxHeartbeats 2000000
namespace Pm
open PySem PySem.Spec PyProof.Rows L2
section
variable {X : Cx} {c : Ct} {ex : Wh} {it : MI} {p : Pat} {t : MT} {e : ME} {mb : MB} {vs : List Nat} {H : Hp} {tb : Addr → TB}
theorem walk_all (hmb : MBok c ex mb tb) (hs : ∀ i ∈ slots p, i ∈ vs) {I : Itm} {J : It} {bs1 : List Addr} {H1 : Hp} {ρ : En} {σ : L2.St} (wk : Wk c I bs1 H1 J) (reW : RE c bs1 H1 (wipeE ρ vs) (wipe σ vs)) {A : Addr} {Hs : Hp} {Qd : Hp → Prop} {K : List Pm.D → Sto → List Addr → Hp → Prop}
    {st0 : Sto} {bs0 : List Addr} {acc0 : List Pm.D} {vacc0 : List V} (ee0 : Ext bs1 H1 bs0 (hid Hs A)) (rl0 : Rel c bs0 (hid Hs A) st0) (nb0 : A ∉ bs0) (hv0 : Hs A = some (.lst vacc0)) (rr0 : RDs c bs0 (hid Hs A) vacc0 acc0) (q0 : Post c ex (walkL I.ok p t mb (wipeE ρ vs) I.xs acc0 st0) bs0 (hid Hs A) K)
    (hd : ∀ H st bs acc vacc, Ext bs1 H1 bs (hid H A) → Rel c bs (hid H A) st → A ∉ bs → H A = some (.lst vacc) → RDs c bs (hid H A) vacc acc → K acc st bs (hid H A) → Qd H) :
    ∃ W : Nat → Nat → Hp → Prop, (∃ m, W 0 m Hs) ∧ ∀ i m H, W i m H → (J.stop i H ∧ Qd H) ∨ (J.go i H ∧ ∃ N1 : Hp → Prop, (∀ H', N1 H' → ∃ m', m' < m ∧ W (i + 1) m' H') ∧
      ∀ x H', J.yld i H x H' → gP c.K p x (wipe σ vs) H' fun σ2 H2 => wipe σ2 vs = wipe σ vs ∧ tT c exF t σ2 H2 fun b H3 => if b = true then tb A σ2 H3 N1 else N1 H3) := by
  refine loop_it wk (fun i H => ∃ st bs acc vacc, Ext bs1 H1 bs (hid H A) ∧ Rel c bs (hid H A) st ∧ A ∉ bs ∧ H A = some (.lst vacc) ∧ RDs c bs (hid H A) vacc acc ∧ Post c ex (walkL I.ok p t mb (wipeE ρ vs) (I.xs.drop i) acc st) bs (hid H A) K)
    ⟨st0, bs0, acc0, vacc0, ee0, rl0, nb0, hv0, rr0, q0⟩ (fun i H hi ⟨st, bs, acc, vacc, ee, rl, nb, hv, rr, q⟩ => ⟨st, bs, ee.trans (hid_ext nb), rel_show rl nb, walkL_ok q⟩) (fun i v H H' hi ⟨st, bs, acc, vacc, ee, rl, nb, hv, rr, q⟩ y => ?_) (fun H ⟨st, bs, acc, vacc, ee, rl, nb, hv, rr, q⟩ => ?_)
  · have e3 := hid_ext (H := H) nb
    have rlH : Rel c bs H st := rel_show rl nb
    have hok := walkL_ok q
    obtain ⟨e6, rl6, d, hd, rd6⟩ := y st bs (ee.trans e3) rlH hok
    rw [List.getElem?_eq_getElem hi] at hd
    cases hd
    have e5 : I.xs.drop i = I.xs[i] :: I.xs.drop (i + 1) := List.drop_eq_getElem_cons hi
    rw [e5] at q
    unfold walkL at q
    rw [if_pos hok] at q
    cases e8 : bindP p I.xs[i] (wipeE ρ vs) with
    | none => rw [e8] at q; exact q.bnd.elim
    | some ρ1 =>
      rw [e8] at q
      obtain ⟨e6', hv6, nb6⟩ := e6.hid hv nb
      have q3 := Post.now q.bnd rl
      have q4 := (q3.bnd.far e6').nox
      refine bindP_ok p _ v _ ρ1 (wipe σ vs) _ rd6 (((reW.ext ee).ext e3).ext e6) e8 fun σ2 re2 w2 => ⟨?_, ?_⟩
      · rw [w2 vs hs]
        exact wipe_wipe σ vs
      · refine ⟨ρ1, st, bs, rl6, re2, (q4.hide hv6 nb6).imp fun k st7 bs7 H7 e7 rl7 q7 => ?_⟩
        obtain ⟨e7', hv7, nb7⟩ := e7.hid hv6 nb6
        have ee7 := (ee.trans e6').trans e7'
        have rr7 := (rr.ext e6').ext e7'
        cases k with
        | false => exact iteF ⟨st7, bs7, acc, vacc, ee7, rl7.hid hv7 nb7, nb7, hv7, rr7, q7⟩
        | true =>
          refine iteT ?_
          have q8 := Post.bnd q7
          exact hmb A ρ1 σ2 acc vacc st7 bs7 H7 _ _ rl7 (re2.ext e7) hv7 nb7 rr7 q8 fun H'' st'' bs'' acc'' vacc'' e'' rl'' nb'' hv'' rr'' k'' => ⟨st'', bs'', acc'', vacc'', ee7.trans e'', rl'', nb'', hv'', rr'', k''⟩
  · rw [List.drop_length] at q
    have hok := walkL_ok q
    unfold walkL at q
    rw [if_pos hok] at q
    exact hd H st bs acc vacc ee rl nb hv rr (Post.of q rl)
theorem mb_cl (hmb : MBok c ex mb tb) (hs : ∀ i ∈ slots p, i ∈ vs) : MBok c ex (mCl it p t mb vs) fun A => tCl (tI c exF it) (gP c.K p) (tT c exF t) vs (tb A) := fun A ρ σ acc vacc st bs H N K rl re hv nb rr q hN => by
  have q8 := (Post.bnd q).nox
  refine ⟨ρ, st, bs, rl, re, (q8.hide hv nb).imp fun I st9 bs9 H9 e9 rl9 q9 J wk => ?_⟩
  obtain ⟨e9', hv9, nb9⟩ := e9.hid hv nb
  have wkh := wk.2 A vacc hv9 nb9
  have reW : RE c bs9 (hid H9 A) (wipeE ρ vs) (wipe σ vs) := (wipe_RE (re.ext e9) vs).mono (hid_pre hv9)
  exact walk_all hmb hs wkh reW Ext.refl (rl9.hid hv9 nb9) nb9 hv9 (rr.ext e9') q9 fun H' st' bs' acc' vacc' e' rl' nb' hv' rr' k' => hN H' st' bs' acc' vacc' (e9'.trans e') rl' nb' hv' rr' k'
theorem tE_lcI (hmb : MBok c ex mb tb) (hs : ∀ i ∈ slots p, i ∈ vs) {σ : L2.St} {Q : VK} (q : tE c ex (lcEI it p t mb vs) σ H Q) : tLcI (tI c ex it) (gP c.K p) (tT c exF t) vs tb σ H Q := by
  obtain ⟨ρ, st, bs, rl, re, q⟩ := q
  refine ⟨ρ, st, bs, rl, re, q.bnd.imp fun I st1 bs1 H1 e1 rl1 q1 J wk => ?_⟩
  intro A hA
  have reW := wipe_RE (re.ext e1) vs
  have z : hid (upd H1 A (.lst [])) A = H1 := by rw [hid_upd, hid_none hA]
  have nb : A ∉ bs1 := fun h => by
    obtain ⟨o, ho, _⟩ := rl1.here h
    rw [hA] at ho; cases ho
  refine walk_all hmb hs wk.1 reW (by rw [z]; exact Ext.refl) (by rw [z]; exact rl1) nb upd_same .nil (by rw [z]; exact q1.bnd) fun H' st' bs' acc' vacc' e' rl' nb' hv' rr' k' => ?_
  obtain ⟨k, r⟩ := post_alloc k' rl' hid_same rr'
  rw [upd_hid hv'] at k r
  exact k _ r
end
end Pm
end
section
set_option Elab.async false
set_option linter.all false
set_option maxRecDepth 100000
set_option maxHeartbeats 2000000
namespace Pm
open PySem PySem.Spec PyProof.Rows L2
section
variable {X : Cx} {c : Ct} {ex : Wh} {it it1 it2 : MI} {p p1 p2 : Pat} {t tt1 tt2 : MT} {e : ME} {vs vs1 vs2 : List Nat}
/-- [e for x in xs if t for y in ys if u for z in zs if v] -/
theorem md_lc3 {elt tg iter tg1 iter1 tg2 iter2 : Expr} {ifs ifs1 ifs2 : List Expr} {scope : Scope} {own : List (Str × Nat)} {pos : Pos} (hc : X.calm = true) (hN : X.N.Nodup) (hi : PI X tg iter (tI c ex it)) (ok : BlkOk X.N X.env.scope scope own)
    (hg : ∀ (s : Shared) (H : Hp) (C : Addr) (cl : List (Str × Addr)) (fp : List Addr), PG (X.blk s H scope (compEnvC scope cl C X.env) fp) tg (gP c.K p)) (ht : ∀ (s : Shared) (H : Hp) (C : Addr) (cl : List (Str × Addr)) (fp : List Addr), PTs (X.blk s H scope (compEnvC scope cl C X.env) fp) ifs (tT c exF t))
    (hi1 : ∀ (s : Shared) (H : Hp) (C : Addr) (cl : List (Str × Addr)) (fp : List Addr), PI (X.blk s H scope (compEnvC scope cl C X.env) fp) tg1 iter1 (tI c exF it1))
    (hg1 : ∀ (s : Shared) (H : Hp) (C : Addr) (cl : List (Str × Addr)) (fp : List Addr), PG (X.blk s H scope (compEnvC scope cl C X.env) fp) tg1 (gP c.K p1)) (ht1 : ∀ (s : Shared) (H : Hp) (C : Addr) (cl : List (Str × Addr)) (fp : List Addr), PTs (X.blk s H scope (compEnvC scope cl C X.env) fp) ifs1 (tT c exF tt1))
    (hi2 : ∀ (s : Shared) (H : Hp) (C : Addr) (cl : List (Str × Addr)) (fp : List Addr), PI (X.blk s H scope (compEnvC scope cl C X.env) fp) tg2 iter2 (tI c exF it2))
    (hg2 : ∀ (s : Shared) (H : Hp) (C : Addr) (cl : List (Str × Addr)) (fp : List Addr), PG (X.blk s H scope (compEnvC scope cl C X.env) fp) tg2 (gP c.K p2)) (ht2 : ∀ (s : Shared) (H : Hp) (C : Addr) (cl : List (Str × Addr)) (fp : List Addr), PTs (X.blk s H scope (compEnvC scope cl C X.env) fp) ifs2 (tT c exF tt2))
    (he : ∀ (s : Shared) (H : Hp) (C : Addr) (cl : List (Str × Addr)) (fp : List Addr), PE (X.blk s H scope (compEnvC scope cl C X.env) fp) elt (tE c exF e)) (hs : ∀ x, foldedSetIterable iter X.env x = pure x := by intro _; rfl) (hs1 : ∀ env x, foldedSetIterable iter1 env x = pure x := by intro _ _; rfl) (hs2 : ∀ env x, foldedSetIterable iter2 env x = pure x := by intro _ _; rfl)
    (hsl : ∀ i ∈ slots p, i ∈ vs := by decide) (hsl1 : ∀ i ∈ slots p1, i ∈ vs1 := by decide) (hsl2 : ∀ i ∈ slots p2, i ∈ vs2 := by decide) (hvs : own.map (·.2) = vs := by rfl) (hv1 : ∀ i ∈ vs1, i ∈ vs := by decide) (hv2 : ∀ i ∈ vs2, i ∈ vs1 := by decide) :
    PE X (.ListComp elt [⟨tg, iter, ifs, 0⟩, ⟨tg1, iter1, ifs1, 0⟩, ⟨tg2, iter2, ifs2, 0⟩] scope pos) (tE c ex (lcEI it p t (mCl it1 p1 tt1 (mCl it2 p2 tt2 (mAp e) vs2) vs1) vs)) :=
  PE_imp (pe_lcI (inner := fun acc env => inC iter1 (e3 elt tg iter ifs tg1 iter1 ifs1 tg2 iter2 ifs2 scope pos) 1 acc env) (vs' := vs1) hc hN hi ok hg ht (fun it acc env => turn3_0)
    (fun A s H C cl fp => inS_clause (Y := X.blk s H scope (compEnvC scope cl C X.env) fp) hc rfl (hi1 s H C cl fp) (hg1 s H C cl fp) (ht1 s H C cl fp) (fun it => turn3_1) rfl (hs1 _)
      (inS_clause (Y := X.blk s H scope (compEnvC scope cl C X.env) fp) hc rfl (hi2 s H C cl fp) (hg2 s H C cl fp) (ht2 s H C cl fp) (fun it => turn3_2) rfl (hs2 _) (inS_ap (Y := X.blk s H scope (compEnvC scope cl C X.env) fp) rfl (he s H C cl fp)) (fun i h => by cases h)) hv2)
    (by rw [hvs]; exact hv1) hs) fun σ H Q q => by rw [hvs]; exact tE_lcI (mb_cl (mb_cl mb_ap hsl2) hsl1) hsl q
end
end Pm
end
section
set_option Elab.async false
set_option linter.all false
set_option maxRecDepth 100000
set_option maxHeartbeats 2000000
namespace Pm
open PySem PySem.Spec PyProof.Rows L2
/-! ### xs.extend of a list, of a tuple -/
theorem ext_tup (l : Addr) (items : Array Value) (n : Nat) (b : Addr) (items2 : Array Value) (n2 : Nat) (dd : Option Addr) (sl : Array (Option Value)) (hs0 : ¬(!items.isEmpty && Builtin.List.listTooLong (items.size + items2.size)) = true) (hs1 : items.size ≤ sizeLine) (hs2 : items.size + items2.size ≤ sizeLine + 1) :
    Meets (Builtin.«list.extend» ⟨[.ref l, .ref b], []⟩) (fun _ R s => s.heap.get? l = some { cls := .type "list", dict := none, data := .seq items n, slots := #[] } ∧ s.heap.get? b = some { cls := .type "tuple", dict := dd, data := .seq items2 n2, slots := sl } ∧ R (.ok (.ret Value.none)) { s with heap := s.heap.update l (Obj.mapSeq fun x => x ++ items2), toks := s.toks }) :=
  .of_wp fun prog w A R s h => by
    obtain ⟨hp, g, d, tk, os⟩ := s
    obtain ⟨hl, hb, h⟩ := h
    have f1 := PySem.AutoSeq1.idx_int; have f2 := PySem.AutoSeq1.sub_tuple_tuple; have f3 := PySem.AutoSeq1.sub_list_list; have f4 := PySem.AutoSeq1.sub_tuple_list; have f5 := PySem.AutoSeq1.sub_list_tuple
    have hz' : (items ++ items2).size ≤ sizeLine + 1 := by rw [Array.size_append]; exact hs2
    wp_walk using (wpAny_updateSeq hl rfl (hz := hs1) (_hz' := hz')), PySem.AutoSeq1.wpAny_loadPart' hl, PySem.AutoSeq1.wpAny_loadPart' hb
    exact ⟨_, rfl, h⟩
def rExtT (K : PySem.W.Frag) : V → List V → Hp → VK → Prop := fun x vs H Q => ∃ l b xs zs, x = .ref l ∧ vs = [.ref b] ∧ H l = some (.lst xs) ∧ SqT K H b zs ∧ xs.length + zs.length ≤ sizeLine ∧ Q .non (upd H l (.lst (xs ++ zs)))
theorem mt_extT {X : Cx} : MtM X "list.extend" (rExtT X.K) := by
  intro pins s σ H x vs v us Q I rx rv h
  obtain ⟨l, b, xs, zs, rfl, rfl, hH, hB, hz, q⟩ := h
  cases rx
  obtain ⟨u, rfl, ru⟩ := rv.one
  cases ru
  obtain ⟨z, its, n, r, hl, e⟩ := I.lstM hH
  obtain ⟨its2, r2, ⟨o2, ho2, hc2, n2, hd2⟩, hl2⟩ := I.tuple hB
  have hsz : its.toArray.size + its2.toArray.size ≤ sizeLine := by rw [List.size_toArray, List.size_toArray, ← r.length, ← r2.length]; omega
  obtain ⟨ocl, odd, oda, osl⟩ := o2
  simp only at hc2 hd2
  subst hc2 hd2
  have hlong : ¬ (!its.toArray.isEmpty && Builtin.List.listTooLong (its.toArray.size + its2.toArray.size)) = true := by
    rw [notLongL hsz, Bool.and_false]
    exact Bool.false_ne_true
  refine call_meets F.slot_list_extend ⟨_, e, rfl⟩ F.entry_list_extend (F.args_list_extend_2 _ _)
    (ext_tup l its.toArray n b its2.toArray n2 odd osl hlong (by omega) (by omega)) ⟨e, ho2, ?_⟩
  refine ⟨.non, _, I.lset (its' := its ++ its2) hH e (by simp) (r.append r2) ?_, rfl, q⟩
  rw [List.length_append]
  omega
theorem mt_extX {X : Cx} : MtM X "list.extend" (fun x vs H Q => rExtend x vs H Q ∨ rExtT X.K x vs H Q) := by
  intro pins s σ H x vs v us Q I rx rv h
  rcases h with h | h
  · exact mt_extend pins s σ H x vs v us Q I rx rv h
  · exact mt_extT pins s σ H x vs v us Q I rx rv h
def mExtX : D → List D → M D
  | .loc l, [.loc m] => bnd (lst l) fun xs => bnd (lst m) fun ys => if xs.length + ys.length ≤ sizeLine then bnd (put l (xs ++ ys)) fun _ => ret .non else no
  | .loc l, [.tup ys] => bnd (lst l) fun xs => if xs.length + ys.length ≤ sizeLine then bnd (put l (xs ++ ys)) fun _ => ret .non else no
  | _, _ => no
theorem md_extX {X : Cx} {c : Ct} {ex : Wh} {pos apos : Pos} {o e : Expr} {fo : ME} {g : MA} (hK : X.K = c.K) (ho : PE X o (tE c ex fo)) (ha : PA X [e] (tA c ex g)) (hbase : attributeBase o "extend" X.env (eval o X.env) = eval o X.env := by rfl)
    (hfew : ((backTo pos (starEach [e] X.env)).all (fun x => !x.1) && (backToKw pos (keywordEach [] X.env)).all (fun x => x.1.isSome) && decide ([e].length + ([] : List Keyword).length + (if ([] : List Keyword).isEmpty then 0 else 1) < 30)) = true := by rfl)
    (hline : (apos.endLine == pos.line) = true := by rfl) (hs : starEach [e] X.env = (false, eval e X.env) :: starEach [] X.env := by rfl) (hplain : (backTo pos (starEach [] X.env)).any (·.1) = false := by rfl) :
    PE X (.Call (.Attribute o "extend" apos) [e] [] pos) (tE c ex (meth fo g mExtX)) :=
  PE_imp (pe_bm PySem.F.plainAttrs_list PySem.F.slot_list_extend PySem.F.type_list_extend mt_extX ho ha hbase hfew hline hs hplain) fun σ H Q q => by
    obtain ⟨ρ, st, bs, rl, re, p⟩ := q
    refine ⟨ρ, st, bs, rl, re, p.bnd.imp fun d st1 bs1 H1 e1 rl1 p1 v rv => ?_⟩
    obtain ⟨⟨a, xs, l, rfl, sl, rfl⟩, p1⟩ := post_isL p1 rl1 rv
    refine ⟨.inl ⟨rfl, xs, by rw [hK]; exact sl⟩, ρ, st1, bs1, rl1, re.ext e1, p1.bnd.imp fun ds st2 bs2 H2 e2 rl2 p2 vs rvs => ?_⟩
    have rv := rv.ext e2
    cases rv with
    | loc h =>
      match ds, rvs, p2 with
      | [.loc m], .cons (.loc h') .nil, p2 =>
        obtain ⟨a, ws, ys, ee, hb, hl, hv, r5, p4⟩ := post_lst (k := fun _ _ _ _ => True) p2 rl2 (RD.loc h)
        cases ee
        obtain ⟨a', ws', ys', ee', hb', hl', hv', r5', p4⟩ := post_lst (k := fun _ _ _ _ => True) p4 rl2 (RD.loc h')
        cases ee'
        obtain ⟨hz, p5⟩ := Post.iff (m := bnd _ _) p4
        obtain ⟨rl6, e6, p6⟩ := post_put (k := fun _ _ _ _ => True) p5 rl2 hb hl (r5.append r5')
        exact .inl ⟨_, _, _, _, rfl, rfl, hv, hv', by rw [r5.length, r5'.length]; exact hz, p6.now rl6 _ .non⟩
      | [.tup zs], .cons (.tup s tl5 r5') .nil, p2 =>
        obtain ⟨a, ws, ys, ee, hb, hl, hv, r5, p4⟩ := post_lst (k := fun _ _ _ _ => True) p2 rl2 (RD.loc h)
        cases ee
        obtain ⟨hz, p5⟩ := Post.iff (m := bnd _ _) p4
        obtain ⟨rl6, e6, p6⟩ := post_put (k := fun _ _ _ _ => True) p5 rl2 hb hl (r5.append r5')
        exact .inr ⟨_, _, _, _, rfl, rfl, hv, by rw [hK]; exact s, by rw [r5.length, r5'.length]; exact hz, p6.now rl6 _ .non⟩
end Pm
end
section
set_option Elab.async false
set_option linter.all false
set_option maxRecDepth 100000
set_option maxHeartbeats 4000000
namespace Pm
open PySem PySem.Spec PyProof.Rows L2
/-! ### len(set(xs)), xs a list of ints -/
theorem setR_size {w : World} {h : Heap} {a : Addr} {ns : List Int} {n : Nat} (R : SetR w h a (fun j => decide (j ∈ ns)) n) : n = (uniq ns).length := by
  obtain ⟨o, es, ep, t, ho, hex, hd, g, nd, hm, hb, hf, hn, hr, hl⟩ := R
  have p : (es.toList.map keyOf).Perm (uniq ns) := (List.perm_ext_iff_of_nodup nd (nodup_uniq ns)).mpr fun k => by
    rw [← hm k, mem_uniq, decide_eq_true_eq]
  rw [← p.length_eq, List.length_map, Array.length_toList, hn]
def tLenSetU (K : PySem.W.Frag) (ta : TE) : TE := fun σ H Q => ta σ H fun x H1 => ∃ (l : Addr) (ns : List Int), x = .ref l ∧ SqL K H1 l (ns.map V.int) ∧ ns.length ≤ 4000 ∧ Q (.int ((uniq ns).length : Nat)) H1
theorem pe_lenSetU {X : Cx} {a : Expr} {ta : TE} {p p2 q pos : Pos} (hc : X.calm = true) (hg : Gl X "len") (hm : X.mg "len" = none) (hg2 : Gl X "set") (hm2 : X.mg "set" = none) (ha : PE X a ta)
    (na : starEach [a] X.env = (false, eval a X.env) :: starEach [] X.env := by rfl) : PE X (.Call (.Name "len" p) [.Call (.Name "set" p2) [a] [] q] [] pos) (tLenSetU X.K ta) := by
  refine ⟨fun pins s σ H Q I h => ?_⟩
  refine Call_ (ld_blt I hg hm boot_len ?_)
  refine PyProof.Rows.callWith_builtin1 (PyProof.Rows.args_cons ?_ rfl) rfl rfl
  refine Call_ (ld_blt I hg2 hm2 boot_set ?_)
  refine PyProof.Rows.callWith_type1 (PyProof.Rows.args_cons (thn (ha.run pins s σ H _ I h) fun v s1 ⟨x, H1, I1, r1, q1⟩ => PyProof.Rows.args_nil ?_) na) na rfl
  obtain ⟨l, ns, rfl, hq, hl, q1⟩ := q1
  cases r1
  obtain ⟨its, r, pl, hz⟩ := I1.list hq
  refine set_of_list (ns := ns) (I1.ok.hd hc) pl.isList (by simpa using r.ints) (by unfold scanBound; omega) fun h' tk c R hcn hk => ?_
  refine PyProof.Rows.args_nil ?_
  have e := setR_size R
  obtain ⟨o, es, ep, t, ho, hex, hd, g, nd, hmm, hb, hf, hn, hr, hll⟩ := R
  have I2 : Inv X pins σ H1 { s1 with heap := h', toks := tk } := I1.kept fun b o e => hk b o e
  exact call_len_set (s := { s1 with heap := h', toks := tk }) ho hex hd hf (by omega) ⟨.int es.size, H1, I2.tok _, ⟨_, rfl⟩, by rw [hn, e]; exact q1⟩
def oLenSet : D → M D
  | .loc l => bnd (lst l) fun xs => match intsOf xs with
    | some ns => if ns.length ≤ 4000 then ret (.int ((uniq ns).length : Nat)) else no
    | none => no
  | _ => no
theorem md_lenSet {X : Cx} {c : Ct} {ex : Wh} {a : Expr} {f : ME} {p p2 q pos : Pos} (hK : X.K = c.K) (hc : X.calm = true) (hg : Gl X "len") (hm : X.mg "len" = none) (hg2 : Gl X "set") (hm2 : X.mg "set" = none) (ha : PE X a (tE c ex f))
    (na : starEach [a] X.env = (false, eval a X.env) :: starEach [] X.env := by rfl) : PE X (.Call (.Name "len" p) [.Call (.Name "set" p2) [a] [] q] [] pos) (tE c ex (una f oLenSet)) :=
  PE_imp (pe_lenSetU hc hg hm hg2 hm2 ha na) fun σ H Q q => by
    obtain ⟨ρ, st, bs, rl, re, p⟩ := q
    refine ⟨ρ, st, bs, rl, re, p.bnd.imp fun d st1 bs1 H1 e1 rl1 p1 v rv => ?_⟩
    rw [hK]
    cases rv with
    | loc h =>
      obtain ⟨a, vs, xs, e, hb, hl, hv, r, p2⟩ := post_lst (k := fun _ _ _ _ => True) p1 rl1 (RD.loc h)
      cases e
      cases e1 : intsOf xs with
      | some ns =>
        simp only [e1] at p2
        obtain ⟨hk, p2⟩ := Post.iff (m := ret _) p2
        rw [intsOf_map e1] at r
        rw [r.toInts] at hv
        exact ⟨_, _, rfl, SqL.of hv, hk, p2.now rl1 _ (.int _)⟩
      | none =>
        simp only [e1] at p2
        exact p2.elim
    | _ => exact p1.elim
end Pm
end
section
set_option Elab.async false
set_option linter.all false
set_option maxRecDepth 100000
set_option maxHeartbeats 4000000
namespace Pm
open PySem PySem.Spec PyProof.Rows L2
/-! ### instances of the program's own classes: attributes -/
def getF (xs : List Str) (f : Str) : D → M D
  | .loc l => bnd (obj l) fun o => match o with
    | .ins x fs => if x ∈ xs then ofO (fs.lookup f) else no
    | _ => no
  | _ => no
def fldE (g : ME) (xs : List Str) (f : Str) : ME := una g (getF xs f)
def putD (f : Str) (d : D) : List (Str × D) → List (Str × D)
  | [] => [(f, d)]
  | (g, x) :: r => if g = f then (g, d) :: r else (g, x) :: putD f d r
def setF (xs : List Str) (f : Str) (o d : D) : M Unit := match o with
  | .loc l => bnd (obj l) fun o => match o with
    | .ins x fs => if x ∈ xs ∧ fs.length < 1000 then putO l (.ins x (putD f d fs)) else no
    | _ => no
  | _ => no
def fldS (fo fv : ME) (xs : List Str) (f : Str) : MS := fun ρ => bnd (fv ρ) fun v => bnd (fo ρ) fun o => bnd (setF xs f o v) fun _ => ret (.nx, ρ)
/-- a class as it is used: no class of it has these names -/
def ClsF (c : Ct) (x f : Str) : Prop := ∃ C, c.cl x = some C ∧ Cls c.K C ∧ NoAttr c.K C f
section
variable {c : Ct} {ex : Wh} {bs : List Addr} {H : Hp} {st : Sto} {α : Type}
theorem rds_lookup {f : Str} : ∀ {vfs : List (Str × V)} {fs : List (Str × D)} {d : D}, vfs.map (·.1) = fs.map (·.1) → RDs c bs H (vfs.map (·.2)) (fs.map (·.2)) → fs.lookup f = some d → ∃ v, vfs.lookup f = some v ∧ RD c bs H v d
  | [], [], _, _, _, e => nomatch (show (none : Option D) = some _ from e)
  | [], _ :: _, _, e, _, _ => by simp at e
  | _ :: _, [], _, e, _, _ => by simp at e
  | (g, v) :: vfs, (g', d') :: fs, d, e, .cons r t, h => by
    simp at e
    obtain ⟨rfl, e⟩ := e
    cases q : (f == g) with
    | true =>
      rw [List.lookup_cons, q] at h ⊢
      cases h
      exact ⟨v, rfl, r⟩
    | false =>
      rw [List.lookup_cons, q] at h ⊢
      exact rds_lookup e t h
theorem rds_lookup_none {f : Str} : ∀ {vfs : List (Str × V)} {fs : List (Str × D)}, vfs.map (·.1) = fs.map (·.1) → fs.lookup f = none → vfs.lookup f = none
  | [], [], _, _ => rfl
  | [], _ :: _, e, _ => by simp at e
  | _ :: _, [], e, _ => by simp at e
  | (g, v) :: vfs, (g', d') :: fs, e, h => by
    simp at e
    obtain ⟨rfl, e⟩ := e
    cases q : (f == g) with
    | true =>
      rw [List.lookup_cons, q] at h
      cases h
    | false =>
      rw [List.lookup_cons, q] at h ⊢
      exact rds_lookup_none e h
theorem rds_putD {f : Str} {v : V} {d : D} (rv : RD c bs H v d) : ∀ {vfs : List (Str × V)} {fs : List (Str × D)}, vfs.map (·.1) = fs.map (·.1) → RDs c bs H (vfs.map (·.2)) (fs.map (·.2)) → (putF f v vfs).map (·.1) = (putD f d fs).map (·.1) ∧ RDs c bs H ((putF f v vfs).map (·.2)) ((putD f d fs).map (·.2))
  | [], [], _, _ => ⟨rfl, .cons rv .nil⟩
  | [], _ :: _, e, _ => by simp at e
  | _ :: _, [], e, _ => by simp at e
  | (g, x) :: vfs, (g', d') :: fs, e, .cons r t => by
    simp at e
    obtain ⟨rfl, e⟩ := e
    unfold putF putD
    by_cases q : g = f
    · rw [if_pos q, if_pos q]
      exact ⟨by simp [e], .cons rv t⟩
    · rw [if_neg q, if_neg q]
      obtain ⟨i1, i2⟩ := rds_putD rv e t
      exact ⟨by simp [i1], .cons r i2⟩
theorem rds_flen {vfs : List (Str × V)} {fs : List (Str × D)} (e : vfs.map (·.1) = fs.map (·.1)) : vfs.length = fs.length := by
  have := congrArg List.length e
  simpa using this
end
section
variable {X : Cx} {c : Ct} {ex : Wh} {pos apos : Pos} {a e : Expr} {g fo fv : ME} {xs : List Str} {f : Str}
theorem md_fld (hK : X.K = c.K) (hF : ∀ x ∈ xs, ClsF c x f) (ha : PE X a (tE c ex g)) (hb : attributeBase a f X.env (eval a X.env) = eval a X.env := by rfl) : PE X (.Attribute a f pos) (tE c ex (fldE g xs f)) :=
  PE_imp (pe_fld ha hb) fun σ H Q q => by
    obtain ⟨ρ, st, bs, rl, re, p⟩ := q
    refine ⟨ρ, st, bs, rl, re, p.bnd.imp fun d st1 bs1 H1 e1 rl1 p1 v rv => ?_⟩
    cases rv with
    | loc h =>
      obtain ⟨a, o, e, hb, hl, ro, p1⟩ := post_obj p1 rl1 (RD.loc h)
      cases e
      cases o with
      | ins x fs =>
        obtain ⟨hx, p1⟩ := Post.iff (m := ofO _) p1
        obtain ⟨C, dx, vfs, hc, hv, ek, r⟩ := ro
        obtain ⟨C', hc', cl, na⟩ := hF x hx
        rw [hc] at hc'
        cases hc'
        obtain ⟨d, e, q⟩ := post_ofO p1 rl1
        obtain ⟨v, h1, h2⟩ := rds_lookup ek r e
        rw [hK]
        exact ⟨_, C, dx, vfs, v, rfl, hv, cl, na, h1, q _ h2⟩
      | lst _ => exact p1.elim
      | dct _ => exact p1.elim
    | _ => exact p1.elim
theorem ms_fld (hK : X.K = c.K) (hF : ∀ x ∈ xs, ClsF c x f) (ha : PE X a (tE c ex fo)) (hv : PE X e (tE c ex fv)) (hs : swapsWith e (some (.Attribute a f apos)) pos.line X.env = pure false := by rfl) : PS X (.Assign [.Attribute a f apos] e pos) (tS c ex (fldS fo fv xs f)) :=
  PS_imp (ps_fld ha hv hs) fun E σ H q => by
    obtain ⟨ρ, st, bs, rl, re, p⟩ := q
    refine ⟨ρ, st, bs, rl, re, p.bnd.imp fun d st1 bs1 H1 e1 rl1 p1 v rv => ?_⟩
    refine ⟨ρ, st1, bs1, rl1, re.ext e1, p1.bnd.imp fun o st2 bs2 H2 e2 rl2 p2 vo rvo => ?_⟩
    cases rvo with
    | loc h =>
      obtain ⟨a, ob, ee, hb, hl, ro, p3⟩ := post_obj p2.bnd rl2 (RD.loc h)
      cases ee
      cases ob with
      | ins x fs =>
        obtain ⟨⟨hx, hlen⟩, p3⟩ := Post.iff (m := putO _ _) p3
        obtain ⟨C, dx, vfs, hc, hv, ek, r⟩ := ro
        obtain ⟨C', hc', cl, na⟩ := hF x hx
        rw [hc] at hc'
        cases hc'
        have rv := rv.ext e2
        obtain ⟨i1, i2⟩ := rds_putD (f := f) rv ek r
        obtain ⟨e6, rl6⟩ := rl2.chg (o := .ins C dx (putF f v vfs)) (u0 := .ins x (putD f d fs)) hb fun m => ⟨C, dx, _, hc, upd_same, i1, i2.mono m⟩
        have p7 := Post.at (st := st2.set _ _) p3 e6 rl6
        rw [hK]
        exact ⟨_, C, dx, vfs, rfl, hv, cl, na, by rw [rds_flen ek]; exact hlen, Post.now p7 rl6 σ (((re.ext e1).ext e2).ext e6)⟩
      | lst _ => exact p3.elim
      | dct _ => exact p3.elim
    | _ => exact p2.bnd.elim
end
end Pm
end
section
set_option Elab.async false
set_option linter.all false
set_option maxRecDepth 100000
set_option maxHeartbeats 4000000
namespace Pm
open PySem PySem.Spec PyProof.Rows L2
/-! ### instances made, their methods -/
theorem under_make_guards {A : Around} {C : Addr} {us : List Value} {kw : List (Str × Value)} (h : A.guards = some []) : (A.under (.builtin "type.__call__" ⟨.ref C :: us, kw⟩)).guards = some [] := by
  first | exact h | simp [Around.under, Code.weight, Code.isCreation, Code.isGuard, Code.isCaller, Code.frames, Code.isFrame, guardIds, h]
section
variable {X : Cx} {CX : CXT} {k : Nat} {f C : Addr} {fd : FuncData} {ps : List Str} {sp : Sp} {dvs : List V} {ds : List Value} {E : XK} {x m : Str} {p pos apos : Pos} {e o : Expr} {es : List Expr} {ta : TE} {t : TA}
theorem run_makeG {pins : List (Addr × Obj)} {σ : L2.St} {H : Hp} {s : Shared} {Q : VK} {us : List Value} {vs : List V} (M : Mk X.K C f) (F : FnG X.prog X.w X.K X.mg X.base CX k f fd ps sp) (hr : Room (k + 1) X.A) (hgd : X.A.guards = some []) (hb : Binds X.K fd ps ds) (hd : Vals dvs ds)
    (hx : Passes CX X E) (I : Inv X pins σ H s) (r : Vals vs us)
    (h : ∀ x dx, H x = none → H dx = none → dx ≠ x → sp (.ref x :: (vs ++ dvs)) (upd (upd H dx (.own x)) x (.ins C dx [])) (fun v H2 => v = .non ∧ Q (.ref x) H2) E) :
    wpAny (model X.prog X.w) X.A (call (.ref C) us) (EP X pins σ Q) X.xe s := by
  have hq := h (s.heap.objs.size + 1) s.heap.objs.size (I.hok.fresh (Nat.le_succ _)) (I.hok.fresh (Nat.le_refl _)) (Nat.ne_of_lt (Nat.lt_succ_self _))
  have I2 := Inv.made (C := C) I
  have r2 : Vals (V.ref (s.heap.objs.size + 1) :: (vs ++ dvs)) (Value.ref (s.heap.objs.size + 1) :: (us ++ ds)) := .cons rfl (r.append hd)
  have hl : (Value.ref (s.heap.objs.size + 1) :: us ++ ds).length = ps.length := by
    have e := r2.length
    rw [F.ln _ _ _ _ hq] at e
    exact e.symm
  refine wpAny_call (make_map (f := f) I.kIn M.makes M.init (beq_iff_eq.mp M.fn) (codeAny_mono (F.go _ X.stack _ _ ⟨Value.ref (s.heap.objs.size + 1) :: us, []⟩ (Value.ref (s.heap.objs.size + 1) :: (us ++ ds)) _ _ E (hr.make C us []) (under_make_guards hgd)
    (I2.env0.make C us []) (hb _ (Value.ref (s.heap.objs.size + 1) :: us) I2.kIn hl) r2 hq) fun r s' hq' => ?_))
  cases r with
  | error e => exact hx pins σ _ _ e s' I2 hq'
  | ok fl =>
    cases fl with
    | ret u =>
      obtain ⟨v, H', I3, rv, ev, q3⟩ := I2.after hq'
      subst ev
      exact ⟨rv, ⟨V.ref (s.heap.objs.size + 1), H', I3, rfl, q3⟩⟩
    | next => exact False.elim hq'
    | brk => exact False.elim hq'
    | cont => exact False.elim hq'
theorem pe_makeG (M : Mk X.K C f) (F : FnG X.prog X.w X.K X.mg X.base CX k f fd ps sp) (hr : Room (k + 1) X.A) (hgd : X.A.guards = some []) (hg : Gl X x) (hm : X.mg x = some (.ref C)) (hb : Binds X.K fd ps ds) (hd : Vals dvs ds) (hx : Passes CX X E)
    (ha : PA X (e :: es) t) (hdb : (x == ("__debug__" : Str)) = false := by decide) (he : starEach (e :: es) X.env = (false, eval e X.env) :: starEach es X.env := by rfl) (hpl : (backTo pos (starEach es X.env)).any (·.1) = false := by rfl) :
    PE X (.Call (.Name x p) (e :: es) [] pos) (tMake C sp dvs E t) := by
  refine ⟨fun pins s σ H Q I h => ?_⟩
  refine wpAny_Call_Name_kw (ld_glob I hg hm ?_ hdb)
  refine PySem.W.callWith_K (h₀ := X.base) I.ok.mod.kin M.kp (thn (ha.run pos pins s σ H _ I h) fun us s1 ⟨vs, H1, I1, r, q⟩ => ⟨I1.kIn, ?_⟩) he hpl
  exact run_makeG M F hr hgd hb hd hx I1 r q
theorem pe_makeG0 (M : Mk X.K C f) (F : FnG X.prog X.w X.K X.mg X.base CX k f fd ps sp) (hr : Room (k + 1) X.A) (hgd : X.A.guards = some []) (hg : Gl X x) (hm : X.mg x = some (.ref C)) (hb : Binds X.K fd ps ds) (hd : Vals dvs ds) (hx : Passes CX X E)
    (hdb : (x == ("__debug__" : Str)) = false := by decide) : PE X (.Call (.Name x p) [] [] pos) (tMake C sp dvs E tNil) := by
  refine ⟨fun pins s σ H Q I h => ?_⟩
  refine wpAny_Call_Name_kw (ld_glob I hg hm ?_ hdb)
  exact PySem.W.callWith_K0 I.kIn M.kp (run_makeG (us := []) M F hr hgd hb hd hx I .nil h)
/-- o.m(..), the method by the instance's class -/
def tMethD (X : Cx) (CX : CXT) (k : Nat) (m : Str) (E : XK) (ta : TE) (t : TA) : TE := fun σ H Q => ta σ H fun x H1 => ∃ a C dx fs f fd ps sp, x = .ref a ∧ H1 a = some (.ins C dx fs) ∧ Cls X.K C ∧ Meth X.K C m f ∧ fs.lookup m = none ∧
  FnG X.prog X.w X.K X.mg X.base CX k f fd ps sp ∧ Binds X.K fd ps [] ∧ t σ H1 fun vs H2 => sp (x :: vs) H2 Q E
theorem pe_methD {pl : Sem Bool} (he : PE X o ta) (hr : Room k X.A) (hgd : X.A.guards = some []) (hx : Passes CX X E) (ha : PA X (e :: es) t)
    (hst : starEach (e :: es) X.env = (false, eval e X.env) :: starEach es X.env := by rfl) (hpl : (backTo pos (starEach es X.env)).any (·.1) = false := by rfl)
    (ht : eval (.Call (.Attribute o m apos) (e :: es) [] pos) X.env = (do
      let ov ← eval o X.env
      standAt apos.atName
      let (f, first) ← holding [ov] (getMethod ov m pl)
      callWith pos f first (backTo pos (starEach (e :: es) X.env)) (backToKw pos (keywordEach [] X.env))) := by rfl) :
    PE X (.Call (.Attribute o m apos) (e :: es) [] pos) (tMethD X CX k m E ta t) := by
  refine ⟨fun pins s σ H Q I h => ?_⟩
  refine PySem.W.methodCall_KW (pl := pl) (thn (he.run pins s σ H _ I h) fun u s1 ⟨x, H1, I1, rx, a, C, dx, fs, f, fd, ps, sp, ex, ea, cl, hm, l, F, hb, q⟩ => ?_) ht
  subst ex
  obtain rfl : u = Value.ref a := rx
  refine getmeth_ok I1 ea cl hm l ?_
  refine PySem.W.callWith_K (first := [.ref a]) (h₀ := X.base) I.ok.mod.kin hm.kp (thn (ha.run pos pins s1 σ H1 _ I1 q) fun us s2 ⟨vs, H2, I2, r, q2⟩ => ⟨I2.kIn, ?_⟩) hst hpl
  exact gRun (us := .ref a :: us) (vs := .ref a :: vs) (ds := []) (dvs := []) F hr hgd hb .nil hx I2 (.cons rfl r) (by rw [List.append_nil]; exact q2)
theorem pe_methD0 {pl : Sem Bool} (he : PE X o ta) (hr : Room k X.A) (hgd : X.A.guards = some []) (hx : Passes CX X E)
    (ht : eval (.Call (.Attribute o m apos) [] [] pos) X.env = (do
      let ov ← eval o X.env
      standAt apos.atName
      let (f, first) ← holding [ov] (getMethod ov m pl)
      callWith pos f first (backTo pos (starEach [] X.env)) (backToKw pos (keywordEach [] X.env))) := by rfl) :
    PE X (.Call (.Attribute o m apos) [] [] pos) (tMethD X CX k m E ta tNil) := by
  refine ⟨fun pins s σ H Q I h => ?_⟩
  refine PySem.W.methodCall_KW (pl := pl) (thn (he.run pins s σ H _ I h) fun u s1 ⟨x, H1, I1, rx, a, C, dx, fs, f, fd, ps, sp, ex, ea, cl, hm, l, F, hb, q⟩ => ?_) ht
  subst ex
  obtain rfl : u = Value.ref a := rx
  refine getmeth_ok I1 ea cl hm l ?_
  exact PySem.W.callWith_K0 (first := [.ref a]) I1.kIn hm.kp (gRun (us := [.ref a]) (vs := [.ref a]) (ds := []) (dvs := []) F hr hgd hb .nil hx I1 (.cons rfl .nil) (by rw [List.append_nil]; exact q))
end
/-! ### by their meanings -/
/-- a class that may be made: its __init__'s meaning -/
structure CalN (P : Program) (w : World) (K : PySem.W.Frag) (mg : Str → Option Value) (base : Heap) (c : Ct) (x : Str) (n k : Nat) (m : List D → M D) : Prop where
  ex : ∃ C f fd ps, c.cl x = some C ∧ mg x = some (.ref C) ∧ Mk K C f ∧ FnG P w K mg base (L2.CX P w) k f fd ps (spM c wF n m) ∧ Binds K fd ps []
/-- a method of a class -/
structure CalM (P : Program) (w : World) (K : PySem.W.Frag) (mg : Str → Option Value) (base : Heap) (c : Ct) (x m : Str) (n k : Nat) (mm : List D → M D) : Prop where
  ex : ∃ C f fd ps, c.cl x = some C ∧ Cls K C ∧ Meth K C m f ∧ FnG P w K mg base (L2.CX P w) k f fd ps (spM c wF n mm) ∧ Binds K fd ps []
def newO (x : Str) (n : Nat) (m : List D → M D) (ds : List D) : M D := if ds.length + 1 = n then bnd (allocO (.ins x [])) fun d => bnd (m (d :: ds)) fun r => match r with
  | .non => ret d
  | _ => no else no
def makE (x : Str) (n : Nat) (g : MA) (m : List D → M D) : ME := fun ρ => bnd (g ρ) (newO x n m)
def pickM (alts : List (Str × (List D → M D))) (m : Str) : D → M (List D → M D)
  | .loc l => bnd (obj l) fun o => match o with
    | .ins x fs => if fs.lookup m = none then match alts.lookup x with
      | some mm => ret mm
      | none => no else no
    | _ => no
  | _ => no
def metE (fo : ME) (g : MA) (m : Str) (n : Nat) (alts : List (Str × (List D → M D))) : ME := fun ρ => bnd (fo ρ) fun o => bnd (pickM alts m o) fun mm => bnd (g ρ) fun ds => if ds.length + 1 = n then mm (o :: ds) else no
section
variable {c : Ct} {ex : Wh} {bs : List Addr} {H : Hp} {st : Sto}
/-- a new instance -/
theorem Rel.made (rl : Rel c bs H st) {x : Str} {C p dx : Addr} (hc : c.cl x = some C) (h1 : H p = none) (h2 : H dx = none) (hn : dx ≠ p) :
    Ext bs H (bs ++ [p]) (upd (upd H dx (.own p)) p (.ins C dx [])) ∧ Rel c (bs ++ [p]) (upd (upd H dx (.own p)) p (.ins C dx [])) (st ++ [.ins x []]) ∧ RD c (bs ++ [p]) (upd (upd H dx (.own p)) p (.ins C dx [])) (.ref p) (.loc st.length) := by
  obtain ⟨e1, rl1⟩ := rl.fresh h2 (.own p)
  obtain ⟨e2, rl2⟩ := rl1.laid (p := p) (o := .ins C dx []) (u0 := .ins x []) (by rw [upd_ne (Ne.symm hn)]; exact h1) fun m => ⟨C, dx, [], hc, upd_same, rfl, .nil⟩
  exact ⟨e1.trans e2, rl2, .loc (by rw [← rl.len]; simp)⟩
theorem newO_ok {x : Str} {n : Nat} {m : List D → M D} {ds : List D} {vs : List V} {C : Addr} {Q : VK} {E : XK} (hc : c.cl x = some C) (rl : Rel c bs H st) (rvs : RDs c bs H vs ds) (p : Post c exF (newO x n m ds st) bs H fun z _ bs' H' => ∀ v, RD c bs' H' v z → Q v H') (p1 dx : Addr) (h1 : H p1 = none) (h2 : H dx = none) (hn : dx ≠ p1) :
    spM c wF n m (.ref p1 :: (vs ++ [])) (upd (upd H dx (.own p1)) p1 (.ins C dx [])) (fun v H2 => v = .non ∧ Q (.ref p1) H2) E := by
  obtain ⟨hl, q⟩ := Post.iff (m := bnd (allocO (.ins x [])) _) p
  obtain ⟨e3, rl3, r3⟩ := rl.made hc h1 h2 hn
  have q2 := Post.at (st := st ++ [.ins x []]) q.bnd e3 rl3
  refine ⟨by simp [rvs.length]; exact hl, .loc st.length :: ds, _, _, rl3, .cons r3 (by rw [List.append_nil]; exact rvs.ext e3), q2.bnd.imp fun d st4 bs4 H4 e4 rl4 q4 v rv => ?_⟩
  cases d with
  | non =>
    cases rv
    exact ⟨rfl, q4.now rl4 _ (r3.ext e4)⟩
  | _ => exact q4.elim
end
section
variable {X : Cx} {j k n : Nat} {x m : Str} {p pos apos : Pos} {e o : Expr} {es : List Expr} {c : Ct} {g : MA} {fo : ME} {mm : List D → M D} {alts : List (Str × (List D → M D))}
theorem md_new (C : CalN X.prog X.w X.K X.mg X.base c x n j mm) (hr : Room k X.A) (hj : j + 1 ≤ k) (hgd : X.A.guards = some []) (hg : Gl X x) (ha : PA X (e :: es) (tA c exF g)) (hdb : (x == ("__debug__" : Str)) = false := by decide)
    (he : starEach (e :: es) X.env = (false, eval e X.env) :: starEach es X.env := by rfl) (hpl : (backTo pos (starEach es X.env)).any (·.1) = false := by rfl) : PE X (.Call (.Name x p) (e :: es) [] pos) (tE c exF (makE x n g mm)) := by
  obtain ⟨C, f, fd, ps, hc, hm, M, F, hb⟩ := C.ex
  refine PE_imp (pe_makeG (dvs := []) M F (hr.mono hj) hgd hg hm hb .nil passL ha hdb he hpl) fun σ H Q q => ?_
  obtain ⟨ρ, st, bs, rl, re, q⟩ := q
  exact ⟨ρ, st, bs, rl, re, q.bnd.imp fun ds st1 bs1 H1 e1 rl1 q1 vs rvs p1 dx h1 h2 hn => newO_ok hc rl1 rvs q1 p1 dx h1 h2 hn⟩
theorem md_new0 (C : CalN X.prog X.w X.K X.mg X.base c x n j mm) (hr : Room k X.A) (hj : j + 1 ≤ k) (hgd : X.A.guards = some []) (hg : Gl X x) (hdb : (x == ("__debug__" : Str)) = false := by decide) : PE X (.Call (.Name x p) [] [] pos) (tE c exF (makE x n nilA mm)) := by
  obtain ⟨C, f, fd, ps, hc, hm, M, F, hb⟩ := C.ex
  refine PE_imp (pe_makeG0 (dvs := []) M F (hr.mono hj) hgd hg hm hb .nil passL hdb) fun σ H Q q => ?_
  obtain ⟨ρ, st, bs, rl, re, q⟩ := q
  exact fun p1 dx h1 h2 hn => newO_ok (vs := []) hc rl .nil (q.bnd.now rl) p1 dx h1 h2 hn
theorem pick_ok {ex : Wh} {bs : List Addr} {H : Hp} {st : Sto} {d : D} {f : (List D → M D) → M D} {kk : D → Sto → List Addr → Hp → Prop} (hA : ∀ x mm, alts.lookup x = some mm → CalM X.prog X.w X.K X.mg X.base c x m n j mm) (q : Post c ex (bnd (pickM alts m d) f st) bs H kk) (rl : Rel c bs H st) {v : V} (r : RD c bs H v d) :
    ∃ a C dx vfs g fd ps mm, v = .ref a ∧ H a = some (.ins C dx vfs) ∧ Cls X.K C ∧ Meth X.K C m g ∧ vfs.lookup m = none ∧ FnG X.prog X.w X.K X.mg X.base (L2.CX X.prog X.w) j g fd ps (spM c wF n mm) ∧ Binds X.K fd ps [] ∧ Post c ex (f mm st) bs H kk := by
  cases r with
  | @loc a l h =>
    have q1 : Post c ex (bnd (bnd (obj l) fun o => match o with
      | .ins x fs => if fs.lookup m = none then match alts.lookup x with
        | some mm => ret mm
        | none => no else no
      | _ => no) f st) bs H kk := q
    unfold bnd obj at q1
    cases e : st[l]? with
    | none => rw [e] at q1; exact q1.elim
    | some o =>
      rw [e] at q1
      have ro := rl.obj l a o h e
      cases o with
      | lst _ => exact q1.elim
      | dct _ => exact q1.elim
      | ins x fs =>
        obtain ⟨C, dx, vfs, hc, hv, ek, r⟩ := ro
        simp only at q1
        by_cases hl : fs.lookup m = none
        · rw [if_pos hl] at q1
          cases e2 : alts.lookup x with
          | none => rw [e2] at q1; exact q1.elim
          | some mm =>
            rw [e2] at q1
            obtain ⟨C', g, fd, ps, hc', cl, hm, F, hb⟩ := (hA x mm e2).ex
            rw [hc] at hc'
            cases hc'
            exact ⟨a, C, dx, vfs, g, fd, ps, mm, rfl, hv, cl, hm, rds_lookup_none ek hl, F, hb, q1⟩
        · rw [if_neg hl] at q1
          exact q1.elim
  | _ => exact q.elim
theorem md_meth {pl : Sem Bool} (hA : ∀ x mm, alts.lookup x = some mm → CalM X.prog X.w X.K X.mg X.base c x m n j mm) (he : PE X o (tE c exF fo)) (hr : Room k X.A) (hj : j ≤ k) (hgd : X.A.guards = some []) (ha : PA X (e :: es) (tA c exF g))
    (hst : starEach (e :: es) X.env = (false, eval e X.env) :: starEach es X.env := by rfl) (hpl : (backTo pos (starEach es X.env)).any (·.1) = false := by rfl)
    (ht : eval (.Call (.Attribute o m apos) (e :: es) [] pos) X.env = (do
      let ov ← eval o X.env
      standAt apos.atName
      let (f, first) ← holding [ov] (getMethod ov m pl)
      callWith pos f first (backTo pos (starEach (e :: es) X.env)) (backToKw pos (keywordEach [] X.env))) := by rfl) :
    PE X (.Call (.Attribute o m apos) (e :: es) [] pos) (tE c exF (metE fo g m n alts)) :=
  PE_imp (pe_methD (pl := pl) he (hr.mono hj) hgd passL ha hst hpl ht) fun σ H Q q => by
    obtain ⟨ρ, st, bs, rl, re, q⟩ := q
    refine ⟨ρ, st, bs, rl, re, q.bnd.imp fun d st1 bs1 H1 e1 rl1 q1 v rv => ?_⟩
    obtain ⟨a, C, dx, vfs, g, fd, ps, mm, rfl, hv, cl, hm, hl, F, hb, q2⟩ := pick_ok hA q1 rl1 rv
    refine ⟨a, C, dx, vfs, g, fd, ps, _, rfl, hv, cl, hm, hl, F, hb, ρ, st1, bs1, rl1, re.ext e1, q2.bnd.imp fun ds st2 bs2 H2 e2 rl2 q3 vs rvs => ?_⟩
    obtain ⟨hn, q3⟩ := Post.iff (m := mm (d :: ds)) q3
    exact ⟨by simp [rvs.length]; exact hn, d :: ds, st2, bs2, rl2, .cons (rv.ext e2) rvs, q3⟩
theorem md_meth0 {pl : Sem Bool} (hA : ∀ x mm, alts.lookup x = some mm → CalM X.prog X.w X.K X.mg X.base c x m n j mm) (he : PE X o (tE c exF fo)) (hr : Room k X.A) (hj : j ≤ k) (hgd : X.A.guards = some [])
    (ht : eval (.Call (.Attribute o m apos) [] [] pos) X.env = (do
      let ov ← eval o X.env
      standAt apos.atName
      let (f, first) ← holding [ov] (getMethod ov m pl)
      callWith pos f first (backTo pos (starEach [] X.env)) (backToKw pos (keywordEach [] X.env))) := by rfl) :
    PE X (.Call (.Attribute o m apos) [] [] pos) (tE c exF (metE fo nilA m n alts)) :=
  PE_imp (pe_methD0 (pl := pl) he (hr.mono hj) hgd passL ht) fun σ H Q q => by
    obtain ⟨ρ, st, bs, rl, re, q⟩ := q
    refine ⟨ρ, st, bs, rl, re, q.bnd.imp fun d st1 bs1 H1 e1 rl1 q1 v rv => ?_⟩
    obtain ⟨a, C, dx, vfs, g, fd, ps, mm, rfl, hv, cl, hm, hl, F, hb, q2⟩ := pick_ok hA q1 rl1 rv
    obtain ⟨hn, q3⟩ := Post.iff (m := mm [d]) (q2.bnd.now rl1)
    exact ⟨a, C, dx, vfs, g, fd, ps, _, rfl, hv, cl, hm, hl, F, hb, hn, [d], st1, bs1, rl1, .cons rv .nil, q3⟩
end
section
variable {P : Program} {w : World} {K : PySem.W.Frag} {mg : Str → Option Value} {base : Heap} {k n : Nat} {f C : Addr} {fd : FuncData} {ps : List Str} {c : Ct} {x m : Str} {mm : List D → M D}
theorem calN_of (hc : c.cl x = some C) (g : mg x = some (.ref C)) (M : Mk K C f) (hb : Binds K fd ps []) (G : FnG P w K mg base (L2.CX P w) k f fd ps (spM c wF n mm)) : CalN P w K mg base c x n k mm := ⟨C, f, fd, ps, hc, g, M, G, hb⟩
theorem calM_of (hc : c.cl x = some C) (cl : Cls K C) (M : Meth K C m f) (hb : Binds K fd ps []) (G : FnG P w K mg base (L2.CX P w) k f fd ps (spM c wF n mm)) : CalM P w K mg base c x m n k mm := ⟨C, f, fd, ps, hc, cl, M, G, hb⟩
theorem alts_nil : ∀ x mm, ([] : List (Str × (List D → M D))).lookup x = some mm → CalM P w K mg base c x m n k mm := fun _ _ h => nomatch h
theorem alts_cons {y : Str} {m1 : List D → M D} {alts : List (Str × (List D → M D))} {j : Nat} (h1 : CalM P w K mg base c y m n j m1) (hj : j ≤ k) (h : ∀ x mm, alts.lookup x = some mm → CalM P w K mg base c x m n k mm) : ∀ x mm, ((y, m1) :: alts).lookup x = some mm → CalM P w K mg base c x m n k mm := fun x mm e => by
  rw [List.lookup_cons] at e
  cases q : (x == y) with
  | true =>
    rw [q] at e
    cases e
    have := eq_of_beq q
    subst this
    obtain ⟨C, f, fd, ps, hc, cl, M, G, hb⟩ := h1.ex
    exact ⟨C, f, fd, ps, hc, cl, M, G.mono hj, hb⟩
  | false =>
    rw [q] at e
    exact h x mm e
end
end Pm
end
section
set_option Elab.async false
set_option linter.all false
set_option maxRecDepth 100000
set_option maxHeartbeats 4000000
namespace Pm
open PySem PySem.Spec PyProof.Rows L2
/-! ### isinstance of a class of the program -/
def ty7 : List String := ["NoneType", "bool", "int", "str", "tuple", "list", "dict"]
structure InsT (K : PySem.W.Frag) (C : Addr) : Prop where
  cls : Cls K C
  h1 : PySem.W.findIn K (.ref C) "__class__" = some (some (.builtin "object.__class__"))
  h2 : PySem.W.specialIn K (.builtin "object.__class__") "__get__" = some (some (.builtin "getset_descriptor.__get__"))
  h3 : PySem.W.takesIn K (.builtin "object.__class__") = some true
  h4 : PySem.W.mroIn K C (.type "object") = some true
def insB (K : PySem.W.Frag) (x : Str) : Bool := (He.Fa.cls x).ok K && (decide (PySem.W.findIn K (.ref (He.ga K x)) "__class__" = some (some (.builtin "object.__class__"))) && (decide (PySem.W.specialIn K (.builtin "object.__class__") "__get__" = some (some (.builtin "getset_descriptor.__get__"))) &&
  (decide (PySem.W.takesIn K (.builtin "object.__class__") = some true) && decide (PySem.W.mroIn K (He.ga K x) (.type "object") = some true))))
theorem insB_ok {K : PySem.W.Frag} {x : Str} (h : insB K x = true) : InsT K (He.ga K x) := by
  unfold insB at h
  simp only [Bool.and_eq_true, decide_eq_true_eq] at h
  exact ⟨He.cls_ok h.1, h.2.1, h.2.2.1, h.2.2.2.1, h.2.2.2.2⟩
/-- isinstance(_, y): y's class, what the classes of tab answer -/
structure IsF (c : Ct) (mg : Str → Option Value) (y : Str) (tab : List (Str × Bool)) : Prop where
  ex : ∃ C, mg y = some (.ref C) ∧ (∀ t ∈ ty7, PySem.W.kitOne c.K (.type t) (.ref C) = some false) ∧ ∀ x b, tab.lookup x = some b → ∃ C', c.cl x = some C' ∧ InsT c.K C' ∧ PySem.W.kitOne c.K (.ref C') (.ref C) = some b
def isFB (K : PySem.W.Frag) (y : Str) (tab : List (Str × Bool)) : Bool := ty7.all (fun t => decide (PySem.W.kitOne K (.type t) (.ref (He.ga K y)) = some false)) && tab.all fun p => insB K p.1 && decide (PySem.W.kitOne K (.ref (He.ga K p.1)) (.ref (He.ga K y)) = some p.2)
theorem lookup_mem {α : Type} {x : Str} {b : α} : ∀ {tab : List (Str × α)}, tab.lookup x = some b → (x, b) ∈ tab
  | [], h => nomatch h
  | (y, d) :: tab, h => by
    rw [List.lookup_cons] at h
    cases q : (x == y) with
    | true =>
      rw [q] at h
      cases h
      rw [eq_of_beq q]
      exact List.mem_cons_self
    | false =>
      rw [q] at h
      exact List.mem_cons_of_mem _ (lookup_mem h)
theorem isFB_ok {c : Ct} {mg : Str → Option Value} {y : Str} {tab : List (Str × Bool)} (hcl : ∀ x, c.cl x = some (He.ga c.K x)) (hm : mg y = some (.ref (He.ga c.K y))) (h : isFB c.K y tab = true) : IsF c mg y tab := by
  unfold isFB at h
  rw [Bool.and_eq_true] at h
  refine ⟨_, hm, fun t ht => of_decide_eq_true (List.all_eq_true.mp h.1 t ht), fun x b e => ?_⟩
  have h2 := List.all_eq_true.mp h.2 (x, b) (lookup_mem e)
  simp only [Bool.and_eq_true, decide_eq_true_eq] at h2
  exact ⟨_, hcl x, insB_ok h2.1, h2.2⟩
def isC (tab : List (Str × Bool)) : D → M D
  | .loc l => bnd (obj l) fun o => match o with
    | .ins x _ => match tab.lookup x with
      | some b => ret (.bl b)
      | none => no
    | _ => ret (.bl false)
  | .scr => no
  | _ => ret (.bl false)
section
variable {X : Cx} {c : Ct} {ex : Wh} {bs : List Addr} {H : Hp} {st : Sto} {pos : Pos} {a : Expr} {f : ME}
theorem isC_ok {y : Str} {C : Addr} {tab : List (Str × Bool)} (h1 : ∀ t ∈ ty7, PySem.W.kitOne c.K (.type t) (.ref C) = some false) (h2 : ∀ x b, tab.lookup x = some b → ∃ C', c.cl x = some C' ∧ InsT c.K C' ∧ PySem.W.kitOne c.K (.ref C') (.ref C) = some b) {v : V} {d : D} {Q : VK} (r : RD c bs H v d) (rl : Rel c bs H st)
    (p : Post c ex (isC tab d st) bs H (fun z _ bs' H' => ∀ v, RD c bs' H' v z → Q v H')) : rIsi c.K [v, .ref C] H Q := by
  have fin : ∀ (t : String) (ht : t ∈ ty7), TyX c.K H v (.type t) → Post c ex (ret (D.bl false) st) bs H (fun z _ bs' H' => ∀ v, RD c bs' H' v z → Q v H') → rIsi c.K [v, .ref C] H Q := fun t ht ty p =>
    ⟨v, .ref C, .type t, .ref C, false, rfl, .own C, ty, h1 t ht, p.now rl _ (.bl _)⟩
  cases r with
  | non => exact fin "NoneType" (by simp [ty7]) (.base .non) p
  | bl b => exact fin "bool" (by simp [ty7]) (.base (.bl b)) p
  | int i => exact fin "int" (by simp [ty7]) (.base (.int i)) p
  | str x => exact fin "str" (by simp [ty7]) (.base (.str x)) p
  | @tup a vs ds s tl r =>
    refine fin "tuple" (by simp [ty7]) ?_ p
    rcases s with (s | ⟨o, s⟩) | ⟨o, its, n, hk, hc, _⟩
    · exact .base (.tup s)
    · exact .fTuple s
    · exact .kTuple hk hc
  | loc h =>
    obtain ⟨a, o, e, hb, hl, ro, p⟩ := post_obj p rl (RD.loc h)
    cases e
    cases o with
    | lst xs =>
      obtain ⟨vs, hv, r⟩ := ro
      exact fin "list" (by simp [ty7]) (.base (.lst hv)) p
    | dct kvs =>
      obtain ⟨vks, hv, e, r⟩ := ro
      exact fin "dict" (by simp [ty7]) (.base (.dK hv)) p
    | ins x fs =>
      obtain ⟨C', dx, vfs, hc, hv, ek, r⟩ := ro
      simp only at p
      cases e : tab.lookup x with
      | none => rw [e] at p; exact p.elim
      | some b =>
        rw [e] at p
        obtain ⟨C2, hc2, it, k⟩ := h2 x b e
        rw [hc] at hc2
        cases hc2
        exact ⟨_, .ref C, .ref C', .ref C, b, rfl, .own C, .base (.ins hv it.cls it.h1 it.h2 it.h3 it.h4), k, p.now rl _ (.bl _)⟩
  | scr => exact p.elim
theorem md_isC {y : Str} {tab : List (Str × Bool)} {p1 p2 : Pos} (hK : X.K = c.K) (F : IsF c X.mg y tab) (hg : Gl X "isinstance") (hm : X.mg "isinstance" = none) (hv : bootBuiltins "isinstance" = some (.builtin "isinstance")) (ha : PE X a (tE c ex f)) (hg2 : Gl X y)
    (hdb : (y == ("__debug__" : Str)) = false := by decide)
    (he : starEach [a, .Name y p2] X.env = (false, eval a X.env) :: starEach [.Name y p2] X.env := by rfl) (he2 : starEach [.Name y p2] X.env = (false, eval (.Name y p2) X.env) :: starEach [] X.env := by rfl) (hpl : (backTo pos (starEach [.Name y p2] X.env)).any (·.1) = false := by rfl) :
    PE X (.Call (.Name "isinstance" p1) [a, .Name y p2] [] pos) (tE c ex (una f (isC tab))) := by
  obtain ⟨C, hmy, h1, h2⟩ := F.ex
  exact PE_imp (pe_callB call_isi hg hm hv (pa_cons ha (pa_cons (pe_glob (v := .ref C) hg2 hmy rfl hdb) pa_nil he2) he) (by decide) (by decide) he hpl) fun σ H Q q => by
    obtain ⟨ρ, st, bs, rl, re, p⟩ := q
    refine ⟨ρ, st, bs, rl, re, p.bnd.imp fun d st1 bs1 H1 e1 rl1 p1 v rv => ?_⟩
    rw [hK]
    exact isC_ok (y := y) h1 h2 rv rl1 p1
end
end Pm
end
section
set_option Elab.async false
set_option linter.all false
set_option maxRecDepth 100000
set_option maxHeartbeats 4000000
namespace Pm
open PySem PySem.Spec PyProof.Rows L2
/-! ### dicts among the constants of the modules: text keys -/
def getC (kvs : List (Str × D)) : Key → Option D
  | .inl _ => none
  | .inr x => kvs.lookup x
def cGet (kvs : List (Str × D)) (y z : D) : M D := match dkey y with
  | some k => ret ((getC kvs k).getD z)
  | none => no
def cIn (neg : Bool) (kvs : List (Str × D)) (y : D) : M D := match dkey y with
  | some k => ret (.bl (if neg then !(getC kvs k).isSome else (getC kvs k).isSome))
  | none => no
def cIx (kvs : List (Str × D)) (y : D) : M D := match dkey y with
  | some k => ofO (getC kvs k)
  | none => no
/-- the entries of a written dict -/
def entB (K : PySem.W.Frag) : List DictEntry → List (Str × D) → Bool
  | [], [] => true
  | e :: es, (k, d) :: kvs => e.key.isStr k && (cB K d e.val && entB K es kvs)
  | _, _ => false
def kCB (l : List (Str × List (Str × D))) (K : PySem.W.Frag) : Bool := l.all fun p => match PySem.W.nsIn K mainGlobals p.1 with
  | some (some (.ref d)) => (match K.lookup d with
    | some ⟨_, _, .dict es _, _⟩ => entB K es.toList p.2
    | _ => false)
  | _ => false
/-- a constant dict -/
structure KC (K : PySem.W.Frag) (w : World) (mg : Str → Option Value) (x : Str) (kvs : List (Str × D)) : Prop where
  ex : ∃ d es n, mg x = some (.ref d) ∧ KDict K w d es n ∧ entB K es.toList kvs = true
theorem kCB_ok {l : List (Str × List (Str × D))} {K : PySem.W.Frag} {w : World} {h : Heap} {mg : Str → Option Value} (X : K.In h) (G : h.Ns mainGlobals mg) (hk : kCB l K = true) (i : Nat) {x : Str} {kvs : List (Str × D)} (hd : ∃ es n, KDict K w (He.ga K x) es n) (hi : l[i]? = some (x, kvs) := by rfl) : KC K w mg x kvs := by
  have h1 := List.all_eq_true.mp hk (x, kvs) (List.mem_of_getElem? hi)
  cases q : PySem.W.nsIn K mainGlobals x with
  | none => simp only [q] at h1; cases h1
  | some o =>
    cases o with
    | none => simp only [q] at h1; cases h1
    | some u =>
      cases u with
      | ref d =>
        have e : He.ga K x = d := by unfold He.ga; rw [q]
        rw [e] at hd
        obtain ⟨es, n, D⟩ := hd
        refine ⟨d, es, n, PySem.W.mg_of X G q, D, ?_⟩
        simp only [q] at h1
        rw [D.at_] at h1
        exact h1
      | _ => simp only [q] at h1; cases h1
section
variable {K : PySem.W.Frag}
theorem ent_find {es : List DictEntry} {kvs : List (Str × D)} (h : entB K es kvs = true) (x : Str) : (kvs.lookup x = none → (es.find? fun e => Value.isStrOf x e.key) = none) ∧ ∀ d, kvs.lookup x = some d → ∃ e, (es.find? fun e => Value.isStrOf x e.key) = some e ∧ cB K d e.val = true := by
  induction es generalizing kvs with
  | nil =>
    cases kvs with
    | nil => exact ⟨fun _ => rfl, fun d e => nomatch e⟩
    | cons p kvs => simp [entB] at h
  | cons e es ih =>
    cases kvs with
    | nil => simp [entB] at h
    | cons p kvs =>
      obtain ⟨k, d0⟩ := p
      rw [entB, Bool.and_eq_true, Bool.and_eq_true] at h
      obtain ⟨h1, h2, h3⟩ := h
      have h1' : Value.isStrOf k e.key = true := by rw [← PySem.W.isStr_of]; exact h1
      rw [List.lookup_cons, List.find?_cons]
      by_cases hx : x = k
      · subst hx
        rw [h1', beq_self_eq_true]
        exact ⟨(fun z => by cases z), (fun d z => by cases z; exact ⟨e, rfl, h2⟩)⟩
      · have hb : (x == k) = false := beq_eq_false_iff_ne.mpr hx
        have hf : Value.isStrOf x e.key = false := by
          cases q : Value.isStrOf x e.key with
          | false => rfl
          | true => exact absurd (Value.isStrOf_inj _ _ _ q h1') hx
        rw [hb, hf]
        exact ih h3
theorem mixMap {P : Program} {w : World} {d : Addr} {es : Array DictEntry} {n : Nat} {h : Heap} (X : K.In h) (D : KDict K w d es n) : h.MapOf (mixKind P w) d (fun k => findBy keyIs es k) :=
  ⟨_, es, n, X _ _ D.at_, ⟨rfl, rfl, rfl⟩, rfl, fun e he => by
    obtain ⟨x, t, e1, e2⟩ := D.lit.all e (Array.mem_toList_iff.mpr he)
    exact ⟨.inr x, by rw [e1]; exact mixKind_str P w x t, e2⟩, fun _ => rfl⟩
theorem KC.find {w : World} {d : Addr} {es : Array DictEntry} {n : Nat} {kvs : List (Str × D)} (D : KDict K w d es n) (h : entB K es.toList kvs = true) (k : Key) : (getC kvs k = none → findBy keyIs es k = none) ∧ ∀ dv, getC kvs k = some dv → ∃ u, findBy keyIs es k = some u ∧ cB K dv u = true := by
  obtain ⟨l⟩ := es
  cases k with
  | inl i =>
    refine ⟨fun _ => ?_, fun dv e => nomatch e⟩
    unfold findBy
    rw [List.find?_toArray]
    have : (l.find? fun e => keyIs (.inl i) e.key) = none := List.find?_eq_none.mpr fun e he z => by
      obtain ⟨x, t, e1, _⟩ := D.lit.all e he
      rw [e1] at z
      exact nomatch (show Value.isInt i (.str x t) = true from z)
    rw [this]
    rfl
  | inr x =>
    obtain ⟨h1, h2⟩ := ent_find h x
    unfold findBy
    rw [List.find?_toArray]
    refine ⟨fun e => ?_, fun dv e => ?_⟩
    · have := h1 e
      show ((l.find? fun e => Value.isStrOf x e.key).map (·.val)) = none
      rw [this]
      rfl
    · obtain ⟨en, e1, e2⟩ := h2 dv e
      refine ⟨en.val, ?_, e2⟩
      show ((l.find? fun e => Value.isStrOf x e.key).map (·.val)) = _
      rw [e1]
      rfl
end
section
variable {X : Cx} {c : Ct} {ex : Wh} {pos apos p0 : Pos} {a e e2 : Expr} {f fe fz : ME} {x : Str} {kvs : List (Str × D)}
/-- what a look finds -/
theorem kc_val {w : World} {d : Addr} {es : Array DictEntry} {n : Nat} (hK : X.K = c.K) (DD : KDict X.K w d es n) (h : entB X.K es.toList kvs = true) {bs : List Addr} {H : Hp} {y z : V} {dy dz : D} {k : Key} {ru : Value} (ek : dkey dy = some k) (ry : RD c bs H y dy) (rz : RD c bs H z dz) (rr : RelV z ru) :
    ∃ v, RelV v ((findBy keyIs es k).getD ru) ∧ RD c bs H v ((getC kvs k).getD dz) := by
  obtain ⟨h1, h2⟩ := KC.find DD h k
  cases q : getC kvs k with
  | none => rw [h1 q]; exact ⟨z, rr, rz⟩
  | some dv =>
    obtain ⟨u, e1, e2⟩ := h2 dv q
    rw [e1]
    obtain ⟨v, r1, r2⟩ := cB_ok e2
    exact ⟨v, r1, r2 c bs H hK.symm⟩
theorem md_cget1 (hu : X.A.units + 64 < cLine) (hK : X.K = c.K) (C : KC X.K X.w X.mg x kvs) (hg : Gl X x) (hd : (x == ("__debug__" : Str)) = false := by decide) (he : PE X e (tE c ex fe)) (m : M1 X (.Name x p0) "get" apos e pos := by exact ⟨rfl, rfl, rfl, rfl⟩) : PE X (.Call (.Attribute (.Name x p0) "get" apos) [e] [] pos) (tE c ex (una fe fun y => cGet kvs y .non)) := by
  obtain ⟨d, es, n, hm, D, hE⟩ := C.ex
  refine ⟨fun pins s σ H Q I h => ?_⟩
  obtain ⟨ρ, st, bs, rl, re, p⟩ := h
  refine wpAny_Call_method m.base m.few m.line PySem.F.plainAttrs_dict PySem.F.slot_dict_get PySem.F.type_dict_get (thn ((pe_glob (pos := p0) (v := .ref d) hg hm rfl hd).run pins s σ H (fun v H1 => v = .ref d ∧ H1 = H) I ⟨rfl, rfl⟩) fun u s1 ⟨v, H1, I1, rx, ev, eH⟩ => ?_)
  subst ev eH
  obtain rfl : u = Value.ref d := rx
  have mp := mixMap (P := X.prog) I1.kIn D
  obtain ⟨o, es', ep, ho, hex, hdt, _⟩ := id mp
  refine ⟨mp.typeIs, fun b q => by cases q; exact ⟨o, ho, hex.2.1⟩, ?_⟩
  rw [m.trees]
  refine Calls.callWith_builtin rfl (Calls.evalArgs_plain (Calls.spliced_cons (thn (he.run pins s1 σ _ _ I1 ⟨ρ, st, bs, rl, re, p.bnd.imp fun y st2 bs2 H2 e2 rl2 p3 vy ry => (⟨y, st2, bs2, rl2, p3, ry⟩ : ∃ y st2 bs2, Rel c bs2 H2 st2 ∧ Post c ex (cGet kvs y .non st2) bs2 H2 (fun z _ bs' H' => ∀ v, RD c bs' H' v z → Q v H') ∧ RD c bs2 H2 vy y)⟩) fun iv s2 ⟨vy, H2, I2, rv, y, st2, bs2, rl2, p3, ry⟩ => Calls.spliced_nil ?_)))
  unfold cGet at p3
  cases ek : dkey y with
  | none => rw [ek] at p3; exact p3.elim
  | some k =>
    rw [ek] at p3
    have mp2 := mixMap (P := X.prog) I2.kIn D
    have hy : RelV (kV k) iv := by rw [← dkey_v ry ek]; exact rv
    refine call_meetsIn PySem.F.slot_dict_get mp2.typeIs PySem.F.entry_dict_get (PySem.F.args_dict_get_2 _ _) (meets_dict_get (mixKind X.prog X.w) d (kV_is hy) D.low) ⟨_, mp2, ?_⟩
    obtain ⟨v, r1, r2⟩ := kc_val (ru := .none) (z := .non) (dz := .non) hK D hE ek ry .non rfl
    exact ⟨v, H2, I2.tok _, r1, p3.now rl2 v r2⟩
theorem md_cget2 (hu : X.A.units + 64 < cLine) (hK : X.K = c.K) (C : KC X.K X.w X.mg x kvs) (hg : Gl X x) (hd : (x == ("__debug__" : Str)) = false := by decide) (he : PE X e (tE c ex fe)) (hz : PE X e2 (tE c ex fz)) (m : M2 X (.Name x p0) "get" apos e e2 pos := by exact ⟨rfl, rfl, rfl, rfl⟩) : PE X (.Call (.Attribute (.Name x p0) "get" apos) [e, e2] [] pos) (tE c ex (bin fe fz (cGet kvs))) := by
  obtain ⟨d, es, n, hm, D, hE⟩ := C.ex
  refine ⟨fun pins s σ H Q I h => ?_⟩
  obtain ⟨ρ, st, bs, rl, re, p⟩ := h
  refine wpAny_Call_method m.base m.few m.line PySem.F.plainAttrs_dict PySem.F.slot_dict_get PySem.F.type_dict_get (thn ((pe_glob (pos := p0) (v := .ref d) hg hm rfl hd).run pins s σ H (fun v H1 => v = .ref d ∧ H1 = H) I ⟨rfl, rfl⟩) fun u s1 ⟨v, H1, I1, rx, ev, eH⟩ => ?_)
  subst ev eH
  obtain rfl : u = Value.ref d := rx
  have mp := mixMap (P := X.prog) I1.kIn D
  obtain ⟨o, es', ep, ho, hex, hdt, _⟩ := id mp
  refine ⟨mp.typeIs, fun b q => by cases q; exact ⟨o, ho, hex.2.1⟩, ?_⟩
  rw [m.trees]
  refine Calls.callWith_builtin rfl (Calls.evalArgs_plain (Calls.spliced_cons (thn (he.run pins s1 σ _ _ I1 ⟨ρ, st, bs, rl, re, p.bnd.imp fun y st2 bs2 H2 e2 rl2 p3 vy ry => (⟨y, st2, bs2, rl2, re.ext e2, p3, ry⟩ : ∃ y st2 bs2, Rel c bs2 H2 st2 ∧ RE c bs2 H2 ρ σ ∧ Post c ex (bnd (fz ρ) (fun z => cGet kvs y z) st2) bs2 H2 (fun z _ bs' H' => ∀ v, RD c bs' H' v z → Q v H') ∧ RD c bs2 H2 vy y)⟩) fun iv s2 ⟨vy, H2, I2, rv, y, st2, bs2, rl2, re2, p3, ry⟩ =>
    Calls.spliced_cons (thn (hz.run pins s2 σ _ _ I2 ⟨ρ, st2, bs2, rl2, re2, p3.bnd.imp fun z st4 bs4 H4 e4 rl4 p4 vz rz => (⟨z, st4, bs4, rl4, p4, ry.ext e4, rz⟩ : ∃ z st4 bs4, Rel c bs4 H4 st4 ∧ Post c ex (cGet kvs y z st4) bs4 H4 (fun z _ bs' H' => ∀ v, RD c bs' H' v z → Q v H') ∧ RD c bs4 H4 vy y ∧ RD c bs4 H4 vz z)⟩) fun iz s3 ⟨vz, H3, I3, rz', z, st3, bs3, rl3, p4, ry3, rz⟩ => Calls.spliced_nil ?_))))
  unfold cGet at p4
  cases ek : dkey y with
  | none => rw [ek] at p4; exact p4.elim
  | some k =>
    rw [ek] at p4
    have mp2 := mixMap (P := X.prog) I3.kIn D
    have hy : RelV (kV k) iv := by rw [← dkey_v ry ek]; exact rv
    refine call_meetsIn PySem.F.slot_dict_get mp2.typeIs PySem.F.entry_dict_get (PySem.F.args_dict_get_3 _ _ _) (meets_dict_get_default (mixKind X.prog X.w) d (kV_is hy) D.low iz) ⟨_, mp2, ?_⟩
    obtain ⟨v, r1, r2⟩ := kc_val (ru := iz) (z := vz) (dz := z) hK D hE ek ry3 rz rz'
    exact ⟨v, H3, I3.tok _, r1, p4.now rl3 v r2⟩
/-- e in x -/
theorem op_in_kc {w : World} {d : Addr} {es : Array DictEntry} {n : Nat} (hw : w = X.w) (D : KDict X.K w d es n) : OpR X (compareOp .In) (fun y q H Q => ∃ k, y = kV k ∧ q = .ref d ∧ Q (.bl (findBy keyIs es k).isSome) H) := by
  subst hw
  intro pins s σ H y q v u Q I ry rq h
  obtain ⟨k, rfl, rfl, q⟩ := h
  cases rq
  refine wpAny_in_of (kV_is ry) D.low (mixMap (P := X.prog) I.kIn D) ?_
  exact ⟨.bl _, H, I.tok _, rfl, q⟩
theorem op_notIn_kc {w : World} {d : Addr} {es : Array DictEntry} {n : Nat} (hw : w = X.w) (D : KDict X.K w d es n) : OpR X (compareOp .NotIn) (fun y q H Q => ∃ k, y = kV k ∧ q = .ref d ∧ Q (.bl (!(findBy keyIs es k).isSome)) H) := by
  subst hw
  intro pins s σ H y q v u Q I ry rq h
  obtain ⟨k, rfl, rfl, q⟩ := h
  cases rq
  refine wpAny_notIn_of (kV_is ry) D.low (mixMap (P := X.prog) I.kIn D) ?_
  exact ⟨.bl _, H, I.tok _, rfl, q⟩
theorem cin_ok {w : World} {neg : Bool} {d : Addr} {es : Array DictEntry} {n : Nat} (hK : X.K = c.K) (D : KDict X.K w d es n) (hE : entB X.K es.toList kvs = true) {σ : L2.St} {H : Hp} {Q : VK} (q : tE c ex (una fe (cIn neg kvs)) σ H Q) :
    tE c ex fe σ H fun y H1 => ∃ k, y = kV k ∧ Q (.bl (if neg then !(findBy keyIs es k).isSome else (findBy keyIs es k).isSome)) H1 := by
  obtain ⟨ρ, st, bs, rl, re, p⟩ := q
  refine ⟨ρ, st, bs, rl, re, p.bnd.imp fun y st1 bs1 H1 e1 rl1 p1 v rv => ?_⟩
  unfold cIn at p1
  cases ek : dkey y with
  | none => rw [ek] at p1; exact p1.elim
  | some k =>
    rw [ek] at p1
    have es1 : (getC kvs k).isSome = (findBy keyIs es k).isSome := by
      obtain ⟨h1, h2⟩ := KC.find D hE k
      cases q : getC kvs k with
      | none => rw [h1 q]; rfl
      | some dv =>
        obtain ⟨u, e1, _⟩ := h2 dv q
        rw [e1]; rfl
    refine ⟨k, dkey_v rv ek, ?_⟩
    rw [← es1]
    exact p1.now rl1 _ (.bl _)
theorem md_cin (hK : X.K = c.K) (C : KC X.K X.w X.mg x kvs) (hg : Gl X x) (he : PE X e (tE c ex fe)) (hd : (x == ("__debug__" : Str)) = false := by decide) (hm0 : behindInMarks .In (.Name x p0) = false := by first | rfl | exact nomark _) : PE X (.Compare e [.In] [.Name x p0] pos) (tE c ex (una fe (cIn false kvs))) := by
  obtain ⟨d, es, n, hm, D, hE⟩ := C.ex
  refine PE_imp (pe_cmpR (op_in_kc rfl D) he (pe_glob (v := .ref d) hg hm rfl hd) hm0) fun σ H Q q => ?_
  have q := cin_ok (neg := false) hK D hE q
  obtain ⟨ρ, st, bs, rl, re, p⟩ := q
  exact ⟨ρ, st, bs, rl, re, p.imp fun y st1 bs1 H1 e1 rl1 p1 v rv => by
    obtain ⟨k, ek, q⟩ := p1 v rv
    exact ⟨k, ek, rfl, q⟩⟩
theorem md_cnin (hK : X.K = c.K) (C : KC X.K X.w X.mg x kvs) (hg : Gl X x) (he : PE X e (tE c ex fe)) (hd : (x == ("__debug__" : Str)) = false := by decide) (hm0 : behindInMarks .NotIn (.Name x p0) = false := by first | rfl | exact nomark _) : PE X (.Compare e [.NotIn] [.Name x p0] pos) (tE c ex (una fe (cIn true kvs))) := by
  obtain ⟨d, es, n, hm, D, hE⟩ := C.ex
  refine PE_imp (pe_cmpR (op_notIn_kc rfl D) he (pe_glob (v := .ref d) hg hm rfl hd) hm0) fun σ H Q q => ?_
  have q := cin_ok (neg := true) hK D hE q
  obtain ⟨ρ, st, bs, rl, re, p⟩ := q
  exact ⟨ρ, st, bs, rl, re, p.imp fun y st1 bs1 H1 e1 rl1 p1 v rv => by
    obtain ⟨k, ek, q⟩ := p1 v rv
    exact ⟨k, ek, rfl, q⟩⟩
/-- .. as tests -/
theorem mt_cin (hK : X.K = c.K) (C : KC X.K X.w X.mg x kvs) (hg : Gl X x) (he : PE X e (tE c ex fe)) (hd : (x == ("__debug__" : Str)) = false := by decide) (hm0 : behindInMarks .In (.Name x p0) = false := by first | rfl | exact nomark _) : PT X (.Compare e [.In] [.Name x p0] pos) (tT c ex (tstB (una fe (cIn false kvs)))) := by
  obtain ⟨d, es, n, hm, D, hE⟩ := C.ex
  refine PT_imp (pt_cmpR (op_in_kc rfl D) he (pe_glob (v := .ref d) hg hm rfl hd) hm0) fun σ H Q q => ?_
  have q := cin_ok (neg := false) hK D hE (tT_B q)
  obtain ⟨ρ, st, bs, rl, re, p⟩ := q
  exact ⟨ρ, st, bs, rl, re, p.imp fun y st1 bs1 H1 e1 rl1 p1 v rv => by
    obtain ⟨k, ek, q⟩ := p1 v rv
    exact ⟨k, ek, rfl, q⟩⟩
theorem mt_cnin (hK : X.K = c.K) (C : KC X.K X.w X.mg x kvs) (hg : Gl X x) (he : PE X e (tE c ex fe)) (hd : (x == ("__debug__" : Str)) = false := by decide) (hm0 : behindInMarks .NotIn (.Name x p0) = false := by first | rfl | exact nomark _) : PT X (.Compare e [.NotIn] [.Name x p0] pos) (tT c ex (tstB (una fe (cIn true kvs)))) := by
  obtain ⟨d, es, n, hm, D, hE⟩ := C.ex
  refine PT_imp (pt_cmpR (op_notIn_kc rfl D) he (pe_glob (v := .ref d) hg hm rfl hd) hm0) fun σ H Q q => ?_
  have q := cin_ok (neg := true) hK D hE (tT_B q)
  obtain ⟨ρ, st, bs, rl, re, p⟩ := q
  exact ⟨ρ, st, bs, rl, re, p.imp fun y st1 bs1 H1 e1 rl1 p1 v rv => by
    obtain ⟨k, ek, q⟩ := p1 v rv
    exact ⟨k, ek, rfl, q⟩⟩
end
end Pm
end
section
set_option Elab.async false
set_option linter.all false
set_option maxRecDepth 100000
set_option maxHeartbeats 4000000
namespace Pm
open PySem PySem.Spec PyProof.Rows L2
def enumS (m : Nat) (xs : List D) : List D := xs.zipIdx.map fun p => .tup [.int (p.2 + m : Nat), p.1]
def enuS (f : ME) (m : Nat) : MI := fun ρ => bnd (f ρ) fun d => match d with
  | .tup xs => ret ⟨enumS m xs, fun _ => true⟩
  | .loc l => bnd (lst l) fun xs => ret ⟨enumS m xs, fun st => decide (st[l]? = some (.lst xs))⟩
  | _ => no
theorem enumS_get {m : Nat} {xs : List D} {i : Nat} (h : i < xs.length) : (enumS m xs)[i]? = some (.tup [.int (i + m : Nat), xs[i]]) := by
  simp [enumS, h]
theorem enumS_len {m : Nat} {xs : List D} : (enumS m xs).length = xs.length := by simp [enumS]
section
variable {X : Cx} {c : Ct} {ex : Wh} {pos tp kp cp : Pos} {e : Expr} {f : ME} {bs : List Addr} {H : Hp} {el : List Expr} {kk j m : Nat}
theorem wk_enS {b : Bool} {a : Addr} {xs : List D} {ok : Sto → Bool} (at_ : ∀ {H' : Hp} {bs' : List Addr} {st : Sto}, Ext bs H bs' H' → Rel c bs' H' st → ok st = true → ∃ vs, SqB b c.K H' a vs ∧ RDs c bs' H' vs xs) : Wk c ⟨enumS m xs, ok⟩ bs H (ItS b c.K m a) := by
  refine ⟨fun i H' hi ⟨st, bs', e, rl, h⟩ => ?_, fun H' ⟨st, bs', e, rl, h⟩ => ?_, fun i H' v H2 hi ⟨st0, bs0, e0, _, _⟩ y st bs' e rl h => ?_⟩
  · obtain ⟨vs, s, r⟩ := at_ e rl h
    have hi : i < vs.length := by rw [r.length, ← enumS_len (m := m)]; exact hi
    exact ⟨vs, vs[i], s, List.getElem?_eq_getElem hi⟩
  · obtain ⟨vs, s, r⟩ := at_ e rl h
    exact ⟨vs, s, by rw [r.length]; exact enumS_len.symm⟩
  · obtain ⟨T, x, us, rfl, hT, rfl, k⟩ := y
    obtain ⟨vs, s, r⟩ := at_ e rl h
    obtain ⟨d, hd, rd⟩ := r.getV (k vs s)
    obtain ⟨e2, rl2⟩ := rl.fresh hT (frT us [.int (i + m : Nat), x])
    have hi2 : i < xs.length := by rw [← enumS_len (m := m)]; exact hi
    rw [List.getElem?_eq_getElem hi2] at hd
    cases hd
    exact ⟨e2, rl2, _, enumS_get hi2, .tup sqF dlF (.cons (.int _) (.cons (rd.ext e2) .nil))⟩
theorem mi_enS (hK : X.K = c.K) (hg : Gl X "enumerate") (hm : X.mg "enumerate" = none) (hm2 : m < 1000) (he : PE X e (tE c ex f)) (hs : starEach [e] X.env = (false, eval e X.env) :: starEach [] X.env := by rfl)
    (hb : backTo pos (starEach [e] X.env) = (false, eval e X.env) :: backTo pos (starEach [] X.env) := by rfl) (hpl : (backTo pos (starEach [e] X.env)).any (·.1) = false := by rfl)
    (hall : (backToKw pos (keywordEach [⟨some "start", .Constant (.int (m : Int)) j cp, kp⟩] X.env)).all (·.1.isSome) = true := by rfl) (hnone : (backToKw pos (keywordEach [⟨some "start", .Constant (.int (m : Int)) j cp, kp⟩] X.env)).any (·.1.isNone) = false := by rfl)
    (hks : (backToKw pos (keywordEach [⟨some "start", .Constant (.int (m : Int)) j cp, kp⟩] X.env)).filterMap (·.1) = [Str.ofString "start"] := by rfl) {p : Pos} :
    PI X (.Tuple el kk tp) (.Call (.Name "enumerate" p) [e] [⟨some "start", .Constant (.int (m : Int)) j cp, kp⟩] pos) (tI c ex (enuS f m)) := PI_imp (pi_enS hg hm hm2 (pa_cons he pa_nil hs) hb hpl hall hnone hks) fun σ H R q => by
  obtain ⟨ρ, st, bs, rl, re, p⟩ := q
  refine ⟨ρ, st, bs, rl, re, p.bnd.imp fun d st1 bs1 H1 e1 rl1 p1 v rv => ?_⟩
  rw [hK]
  cases rv with
  | tup s tl r =>
    refine ⟨_, true, _, rfl, s, p1.now rl1 _ ⟨wk_enS fun e _ _ => ⟨_, e.sqT s, r.ext e⟩, fun q vs h nb => wk_enS fun e _ _ => ⟨_, e.sqT ((hid_pre (c := c) (bs := bs1) h).sqT _ _ s), (r.mono (hid_pre h)).ext e⟩⟩⟩
  | @loc a0 l0 h =>
    obtain ⟨a, vs, xs, ee, hb, hl, hv, r, p2⟩ := post_lst (k := fun _ _ _ _ => True) p1 rl1 (RD.loc h)
    cases ee
    have at_ : ∀ {bs0 : List Addr} {H0 H' : Hp} {bs' : List Addr} {st : Sto}, bs0[l0]? = some a0 → Ext bs0 H0 bs' H' → Rel c bs' H' st → decide (st[l0]? = some (O.lst xs)) = true → ∃ vs, SqB false c.K H' a0 vs ∧ RDs c bs' H' vs xs := fun {bs0 H0 H' bs' st} hb0 e rl h => by
      obtain ⟨ws, hw, r'⟩ := rl.obj l0 a0 _ (e.get hb0) (of_decide_eq_true h)
      exact ⟨ws, SqL.of hw, r'⟩
    exact ⟨_, false, _, rfl, SqL.of hv, p2.now rl1 _ ⟨wk_enS fun e rl h => at_ hb e rl h, fun q vs h nb => wk_enS fun e rl h => at_ hb e rl h⟩⟩
  | _ => exact p1.elim
end
end Pm
end
section
set_option Elab.async false
set_option linter.all false
set_option maxRecDepth 100000
set_option maxHeartbeats 4000000
namespace Pm
open PySem PySem.Spec PyProof.Rows L2
/-! ### max(xs, default=d), min(xs, default=d) of a list of ints -/
theorem max_loopD {prog : Program} {w : World} {A : Around} {R : Result → Shared → Prop} {I : Addr} {fp wr : List Addr} {n : Nat} {P : Nat → Value → Prop} {T : Nat → Heap → Prop} (W : Walks prog w A.in1 I fp wr n P T) (bt : Nat → Nat → Bool) (hc : CmpOf prog w A.in1 .Gt P bt) (S : Addr) (hf : S ∉ fp) (dv : Value) (k : Nat) :
    ∀ (j : Nat) (s : Shared) (vb : Value) (c : Nat), n - (j + 1) = k → j + 1 ≤ n → T (j + 1) s.heap → P (argBest bt j) vb → s.heap.get? S = some { cls := .type "list", dict := none, data := .seq #[vb, vb] c, slots := #[] } →
      (∀ v h' tk, P (argBest bt (n - 1)) v → (∀ b o, b ∉ wr → b ≠ S → s.heap.get? b = some o → h'.get? b = some o) → R (.ok (.ret v)) { s with heap := h', toks := tk }) →
      codeAny (model prog w) A (.builtin "max.loop" ⟨[.ref I, .none, .ref S], [(Str.ofString "default", dv)]⟩) R s := by
  have nm : (toString "max" ++ toString ".loop" : String) = "max.loop" := by decide
  have sw : S ∉ wr := fun z => hf (W.sub _ z)
  have ne : ∀ b ∈ fp, S ≠ b := fun b hb z => hf (by rw [z]; exact hb)
  induction k with
  | zero =>
    intro j s vb c hk hj ht hb hS hR
    have last : j + 1 = n := by omega
    apply codeAny_builtin F.entry_max_loop; rw [Around.under_plainId F.plain_max_loop _]
    refine wpAny_bind (m := seqItems? (.ref S)) (wpAny_seqItems hS rfl ?_)
    refine wpAny_bind (m := tryCatch (pyNext (.ref I)) _) (wpAny_tryCatch (W.done s _ _ (last ▸ ht) fun h1 tk hk1 => ?_))
    refine wpAny_bind (m := updateSeq S fun _ => #[]) (wpAny_updateSeq (hk1 S _ sw hS) rfl (wpAny_bind (wpAny_letGo (wpAny_pure (hR vb _ tk (by rw [← last]; exact hb) fun b o h1 h2 e => ?_)))))
    exact (Heap.get?_update_other _ _ (Ne.symm h2)).trans (hk1 b o h1 e)
  | succ k ih =>
    intro j s vb c hk hj ht hb hS hR
    have more : j + 1 < n := by omega
    apply codeAny_builtin F.entry_max_loop; rw [Around.under_plainId F.plain_max_loop _]
    refine wpAny_bind (m := seqItems? (.ref S)) (wpAny_seqItems hS rfl ?_)
    refine wpAny_bind (m := tryCatch (pyNext (.ref I)) _) (wpAny_tryCatch (W.item (j + 1) s _ _ more ht fun v h1 tk pv ht1 hk1 => ?_))
    have hS1 := hk1 S _ sw hS
    refine wpAny_bind (m := tryCatch (holding [v, v] (richCompare .Gt v vb >>= _)) _) (wpAny_tryCatch (wpAny_holding (wpAny_bind (hc (j + 1) (argBest bt j) v vb _ _ _ pv hb (wpAny_bind (wpAny_holding (wpAny_truthy_bool (wpAny_bind (wpAny_letGo (wpAny_pure ?_))))))))))
    cases q : bt (j + 1) (argBest bt j) with
    | true =>
      rw [if_pos rfl, nm]
      have e1 : argBest bt (j + 1) = j + 1 := by unfold argBest; rw [if_pos q]
      refine wpAny_bind (wpAny_updateSeq hS1 rfl (wpAny_bind (wpAny_letGo (wpAny_pure ⟨plainId_quiet F.plain_max_loop _, ih (j + 1) _ v _ (by omega) more (W.frame _ _ _ ht1 fun b hb2 o e => ?_) (by rw [e1]; exact pv) (Heap.get?_update_self _ hS1 rfl) fun v2 h2 tk2 pv2 hk2 => ?_⟩))))
      · exact Eq.trans (Heap.get?_update_other _ _ (ne b hb2)) e
      · exact hR v2 h2 tk2 pv2 fun b o z1 z2 e => hk2 b o z1 z2 (Eq.trans (Heap.get?_update_other _ _ (Ne.symm z2)) (hk1 b o z1 e))
    | false =>
      rw [if_neg (by simp), nm]
      have e1 : argBest bt (j + 1) = argBest bt j := by conv => lhs; unfold argBest; rw [if_neg (by simp [q])]
      exact wpAny_bind (wpAny_letGo (wpAny_pure ⟨plainId_quiet F.plain_max_loop _, ih (j + 1) _ vb c (by omega) more ht1 (by rw [e1]; exact hb) hS1 fun v2 h2 tk2 pv2 hk2 => hR v2 h2 tk2 pv2 fun b o z1 z2 e => hk2 b o z1 z2 (hk1 b o z1 e)⟩))
/-- max(x, default=d), x of n items -/
theorem call_maxD {prog : Program} {w : World} {A : Around} {E : Value → Shared → Prop} {s : Shared} {x dv : Value} {Q : Value → Shared → Prop} (ha : argsOk "max" ⟨[x], [(Str.ofString "default", dv)]⟩)
    (h : wpAny (model prog w) A.in1 (pyIter x) (fun it s2 => ∃ I fp wr n P T bt, it = .ref I ∧ Walks prog w A.in1 I fp wr n P T ∧ T 0 s2.heap ∧ (∀ b ∈ fp, b < s2.heap.objs.size) ∧ CmpOf prog w A.in1 .Gt P bt ∧
      (0 < n → ∀ v h' tk, P (argBest bt (n - 1)) v → (∀ b o, b ∉ wr → s2.heap.get? b = some o → h'.get? b = some o) → Q v { s2 with heap := h', toks := tk }) ∧ (n = 0 → ∀ h' tk, (∀ b o, b ∉ wr → s2.heap.get? b = some o → h'.get? b = some o) → Q dv { s2 with heap := h', toks := tk })) E s) :
    wpAny (model prog w) A (call (.builtin "max") [x] [(Str.ofString "default", dv)]) Q E s := by
  have nm : (toString "max" ++ toString ".loop" : String) = "max.loop" := by decide
  refine wpAny_call (codeAny_call_builtin F.plain_max F.entry_max ?_)
  have fin : wpAny (model prog w) A.in1 (Builtin.«max» ⟨[x], [(Str.ofString "default", dv)]⟩) (GQ.FinOf prog w A (wants Q E)) (fun e s' => wants Q E (.error e) s') s := by
    refine wpAny_bind (m := Builtin.Builtins.bindParams "max" ["key", "default"] 0 ⟨[], [(Str.ofString "default", dv)]⟩) (wpAny_of_eq (show _ = pure [none, some dv] from rfl) (wpAny_bind (wpAny_pure ?_)))
    refine wpAny_bind (wpAny_mono h (fun it s2 z => ?_) fun _ _ e => e)
    obtain ⟨I, fp, wr, n, P, T, bt, rfl, W, ht, hfp, hc, h1, h2⟩ := z
    refine wpAny_bind (wpAny_newObj_type ?_); rw [nm]; refine wpAny_pure ⟨plainId_quiet F.plain_max_loop _, ?_⟩
    have hf : s2.heap.objs.size ∉ fp := fun z => Nat.lt_irrefl _ (hfp _ z)
    have sw : s2.heap.objs.size ∉ wr := fun z => hf (W.sub _ z)
    have ht0 := W.frame _ _ (s2.heap.push { cls := .type "list", data := .seq #[] }) ht fun b _ o e => Heap.get?_push_of_some _ e
    have hS : (s2.heap.push { cls := .type "list", data := .seq #[] }).get? s2.heap.objs.size = some { cls := .type "list", data := .seq #[] } := Heap.get?_push_size _ rfl
    have ne : ∀ b o, s2.heap.get? b = some o → b ≠ s2.heap.objs.size := fun b o e => Nat.ne_of_lt (Heap.lt_size e)
    apply codeAny_builtin F.entry_max_loop; rw [Around.under_plainId F.plain_max_loop _]
    refine wpAny_bind (m := seqItems? (.ref s2.heap.objs.size)) (wpAny_seqItems hS rfl ?_)
    by_cases hn : 0 < n
    · refine wpAny_bind (m := tryCatch (pyNext (.ref I)) _) (wpAny_tryCatch (W.item 0 { s2 with heap := s2.heap.push { cls := .type "list", data := .seq #[] } } _ _ hn ht0 fun v h1' tk pv ht1 hk1 => ?_))
      have hS1 := hk1 s2.heap.objs.size _ sw hS
      refine wpAny_bind (m := updateSeq s2.heap.objs.size fun _ => #[v, v]) (wpAny_updateSeq hS1 rfl ?_)
      rw [nm]
      refine wpAny_pure ⟨plainId_quiet F.plain_max_loop _, max_loopD W bt hc _ hf dv _ 0 _ v _ rfl hn (W.frame _ _ _ ht1 fun b hb o e => ?_) pv (Heap.get?_update_self _ hS1 rfl) fun v2 h2' tk2 pv2 hk2 => ?_⟩
      · exact Eq.trans (Heap.get?_update_other _ _ (fun z => hf (by rw [z]; exact hb))) e
      · exact h1 hn v2 h2' tk2 pv2 fun b o z e => hk2 b o z (ne b o e) (Eq.trans (Heap.get?_update_other _ _ (Ne.symm (ne b o e))) (hk1 b o z (Heap.get?_push_of_some _ e)))
    · have h0 : n = 0 := by omega
      refine wpAny_bind (m := tryCatch (pyNext (.ref I)) _) (wpAny_tryCatch (W.done { s2 with heap := s2.heap.push { cls := .type "list", data := .seq #[] } } _ _ (h0 ▸ ht0) fun h1' tk hk1 => ?_))
      exact wpAny_bind (wpAny_rule (wpAny_pure (h2 h0 h1' tk fun b o z e => hk1 b o z (Heap.get?_push_of_some _ e))))
  simp only [checkBuiltinCall, F.kind_max]
  cases hs : Manifest.signature? "max" with
  | none => exact wpAny_pure fin
  | some sig =>
    have ha' : Bind.checkArgs "max" sig ⟨[x], [(Str.ofString "default", dv)]⟩ = pure () := by simpa only [argsOk, hs] using ha
    simp only [ha']
    exact wpAny_pure fin
theorem args_maxD (a d : Value) : argsOk "max" ⟨[a], [(Str.ofString "default", d)]⟩ := by unfold argsOk; kernel_rfl

theorem min_loopD {prog : Program} {w : World} {A : Around} {R : Result → Shared → Prop} {I : Addr} {fp wr : List Addr} {n : Nat} {P : Nat → Value → Prop} {T : Nat → Heap → Prop} (W : Walks prog w A.in1 I fp wr n P T) (bt : Nat → Nat → Bool) (hc : CmpOf prog w A.in1 .Lt P bt) (S : Addr) (hf : S ∉ fp) (dv : Value) (k : Nat) :
    ∀ (j : Nat) (s : Shared) (vb : Value) (c : Nat), n - (j + 1) = k → j + 1 ≤ n → T (j + 1) s.heap → P (argBest bt j) vb → s.heap.get? S = some { cls := .type "list", dict := none, data := .seq #[vb, vb] c, slots := #[] } →
      (∀ v h' tk, P (argBest bt (n - 1)) v → (∀ b o, b ∉ wr → b ≠ S → s.heap.get? b = some o → h'.get? b = some o) → R (.ok (.ret v)) { s with heap := h', toks := tk }) →
      codeAny (model prog w) A (.builtin "min.loop" ⟨[.ref I, .none, .ref S], [(Str.ofString "default", dv)]⟩) R s := by
  have nm : (toString "min" ++ toString ".loop" : String) = "min.loop" := by decide
  have sw : S ∉ wr := fun z => hf (W.sub _ z)
  have ne : ∀ b ∈ fp, S ≠ b := fun b hb z => hf (by rw [z]; exact hb)
  induction k with
  | zero =>
    intro j s vb c hk hj ht hb hS hR
    have last : j + 1 = n := by omega
    apply codeAny_builtin F.entry_min_loop; rw [Around.under_plainId F.plain_min_loop _]
    refine wpAny_bind (m := seqItems? (.ref S)) (wpAny_seqItems hS rfl ?_)
    refine wpAny_bind (m := tryCatch (pyNext (.ref I)) _) (wpAny_tryCatch (W.done s _ _ (last ▸ ht) fun h1 tk hk1 => ?_))
    refine wpAny_bind (m := updateSeq S fun _ => #[]) (wpAny_updateSeq (hk1 S _ sw hS) rfl (wpAny_bind (wpAny_letGo (wpAny_pure (hR vb _ tk (by rw [← last]; exact hb) fun b o h1 h2 e => ?_)))))
    exact (Heap.get?_update_other _ _ (Ne.symm h2)).trans (hk1 b o h1 e)
  | succ k ih =>
    intro j s vb c hk hj ht hb hS hR
    have more : j + 1 < n := by omega
    apply codeAny_builtin F.entry_min_loop; rw [Around.under_plainId F.plain_min_loop _]
    refine wpAny_bind (m := seqItems? (.ref S)) (wpAny_seqItems hS rfl ?_)
    refine wpAny_bind (m := tryCatch (pyNext (.ref I)) _) (wpAny_tryCatch (W.item (j + 1) s _ _ more ht fun v h1 tk pv ht1 hk1 => ?_))
    have hS1 := hk1 S _ sw hS
    refine wpAny_bind (m := tryCatch (holding [v, v] (richCompare .Lt v vb >>= _)) _) (wpAny_tryCatch (wpAny_holding (wpAny_bind (hc (j + 1) (argBest bt j) v vb _ _ _ pv hb (wpAny_bind (wpAny_holding (wpAny_truthy_bool (wpAny_bind (wpAny_letGo (wpAny_pure ?_))))))))))
    cases q : bt (j + 1) (argBest bt j) with
    | true =>
      rw [if_pos rfl, nm]
      have e1 : argBest bt (j + 1) = j + 1 := by unfold argBest; rw [if_pos q]
      refine wpAny_bind (wpAny_updateSeq hS1 rfl (wpAny_bind (wpAny_letGo (wpAny_pure ⟨plainId_quiet F.plain_min_loop _, ih (j + 1) _ v _ (by omega) more (W.frame _ _ _ ht1 fun b hb2 o e => ?_) (by rw [e1]; exact pv) (Heap.get?_update_self _ hS1 rfl) fun v2 h2 tk2 pv2 hk2 => ?_⟩))))
      · exact Eq.trans (Heap.get?_update_other _ _ (ne b hb2)) e
      · exact hR v2 h2 tk2 pv2 fun b o z1 z2 e => hk2 b o z1 z2 (Eq.trans (Heap.get?_update_other _ _ (Ne.symm z2)) (hk1 b o z1 e))
    | false =>
      rw [if_neg (by simp), nm]
      have e1 : argBest bt (j + 1) = argBest bt j := by conv => lhs; unfold argBest; rw [if_neg (by simp [q])]
      exact wpAny_bind (wpAny_letGo (wpAny_pure ⟨plainId_quiet F.plain_min_loop _, ih (j + 1) _ vb c (by omega) more ht1 (by rw [e1]; exact hb) hS1 fun v2 h2 tk2 pv2 hk2 => hR v2 h2 tk2 pv2 fun b o z1 z2 e => hk2 b o z1 z2 (hk1 b o z1 e)⟩))
/-- min(x, default=d), x of n items -/
theorem call_minD {prog : Program} {w : World} {A : Around} {E : Value → Shared → Prop} {s : Shared} {x dv : Value} {Q : Value → Shared → Prop} (ha : argsOk "min" ⟨[x], [(Str.ofString "default", dv)]⟩)
    (h : wpAny (model prog w) A.in1 (pyIter x) (fun it s2 => ∃ I fp wr n P T bt, it = .ref I ∧ Walks prog w A.in1 I fp wr n P T ∧ T 0 s2.heap ∧ (∀ b ∈ fp, b < s2.heap.objs.size) ∧ CmpOf prog w A.in1 .Lt P bt ∧
      (0 < n → ∀ v h' tk, P (argBest bt (n - 1)) v → (∀ b o, b ∉ wr → s2.heap.get? b = some o → h'.get? b = some o) → Q v { s2 with heap := h', toks := tk }) ∧ (n = 0 → ∀ h' tk, (∀ b o, b ∉ wr → s2.heap.get? b = some o → h'.get? b = some o) → Q dv { s2 with heap := h', toks := tk })) E s) :
    wpAny (model prog w) A (call (.builtin "min") [x] [(Str.ofString "default", dv)]) Q E s := by
  have nm : (toString "min" ++ toString ".loop" : String) = "min.loop" := by decide
  refine wpAny_call (codeAny_call_builtin F.plain_min F.entry_min ?_)
  have fin : wpAny (model prog w) A.in1 (Builtin.«min» ⟨[x], [(Str.ofString "default", dv)]⟩) (GQ.FinOf prog w A (wants Q E)) (fun e s' => wants Q E (.error e) s') s := by
    refine wpAny_bind (m := Builtin.Builtins.bindParams "min" ["key", "default"] 0 ⟨[], [(Str.ofString "default", dv)]⟩) (wpAny_of_eq (show _ = pure [none, some dv] from rfl) (wpAny_bind (wpAny_pure ?_)))
    refine wpAny_bind (wpAny_mono h (fun it s2 z => ?_) fun _ _ e => e)
    obtain ⟨I, fp, wr, n, P, T, bt, rfl, W, ht, hfp, hc, h1, h2⟩ := z
    refine wpAny_bind (wpAny_newObj_type ?_); rw [nm]; refine wpAny_pure ⟨plainId_quiet F.plain_min_loop _, ?_⟩
    have hf : s2.heap.objs.size ∉ fp := fun z => Nat.lt_irrefl _ (hfp _ z)
    have sw : s2.heap.objs.size ∉ wr := fun z => hf (W.sub _ z)
    have ht0 := W.frame _ _ (s2.heap.push { cls := .type "list", data := .seq #[] }) ht fun b _ o e => Heap.get?_push_of_some _ e
    have hS : (s2.heap.push { cls := .type "list", data := .seq #[] }).get? s2.heap.objs.size = some { cls := .type "list", data := .seq #[] } := Heap.get?_push_size _ rfl
    have ne : ∀ b o, s2.heap.get? b = some o → b ≠ s2.heap.objs.size := fun b o e => Nat.ne_of_lt (Heap.lt_size e)
    apply codeAny_builtin F.entry_min_loop; rw [Around.under_plainId F.plain_min_loop _]
    refine wpAny_bind (m := seqItems? (.ref s2.heap.objs.size)) (wpAny_seqItems hS rfl ?_)
    by_cases hn : 0 < n
    · refine wpAny_bind (m := tryCatch (pyNext (.ref I)) _) (wpAny_tryCatch (W.item 0 { s2 with heap := s2.heap.push { cls := .type "list", data := .seq #[] } } _ _ hn ht0 fun v h1' tk pv ht1 hk1 => ?_))
      have hS1 := hk1 s2.heap.objs.size _ sw hS
      refine wpAny_bind (m := updateSeq s2.heap.objs.size fun _ => #[v, v]) (wpAny_updateSeq hS1 rfl ?_)
      rw [nm]
      refine wpAny_pure ⟨plainId_quiet F.plain_min_loop _, min_loopD W bt hc _ hf dv _ 0 _ v _ rfl hn (W.frame _ _ _ ht1 fun b hb o e => ?_) pv (Heap.get?_update_self _ hS1 rfl) fun v2 h2' tk2 pv2 hk2 => ?_⟩
      · exact Eq.trans (Heap.get?_update_other _ _ (fun z => hf (by rw [z]; exact hb))) e
      · exact h1 hn v2 h2' tk2 pv2 fun b o z e => hk2 b o z (ne b o e) (Eq.trans (Heap.get?_update_other _ _ (Ne.symm (ne b o e))) (hk1 b o z (Heap.get?_push_of_some _ e)))
    · have h0 : n = 0 := by omega
      refine wpAny_bind (m := tryCatch (pyNext (.ref I)) _) (wpAny_tryCatch (W.done { s2 with heap := s2.heap.push { cls := .type "list", data := .seq #[] } } _ _ (h0 ▸ ht0) fun h1' tk hk1 => ?_))
      exact wpAny_bind (wpAny_rule (wpAny_pure (h2 h0 h1' tk fun b o z e => hk1 b o z (Heap.get?_push_of_some _ e))))
  simp only [checkBuiltinCall, F.kind_min]
  cases hs : Manifest.signature? "min" with
  | none => exact wpAny_pure fin
  | some sig =>
    have ha' : Bind.checkArgs "min" sig ⟨[x], [(Str.ofString "default", dv)]⟩ = pure () := by simpa only [argsOk, hs] using ha
    simp only [ha']
    exact wpAny_pure fin
theorem args_minD (a d : Value) : argsOk "min" ⟨[a], [(Str.ofString "default", d)]⟩ := by unfold argsOk; kernel_rfl
end Pm
end
section
set_option Elab.async false
set_option linter.all false
set_option maxRecDepth 100000
set_option maxHeartbeats 4000000
namespace Pm
open PySem PySem.Spec PyProof.Rows L2
theorem cr_maxD {X : Cx} (hc : X.calm = true) : CallRK X (.builtin "max") [Str.ofString "default"] (fun vs zs H Q => ∃ (a : Addr) (ns : List Int) (d : V), vs = [V.ref a] ∧ zs = [d] ∧ SqL X.K H a (ns.map V.int) ∧ (ns = [] → Q d H) ∧ ∀ m ∈ ns, (∀ k ∈ ns, k ≤ m) → Q (.int m) H) := by
  intro pins s σ H vs zs us ws Q I r rz h
  obtain ⟨a, ns, d, rfl, rfl, hs, q0, q1⟩ := h
  obtain rfl := Vals.ref1 r
  obtain ⟨dw, rfl, rd⟩ := vals1 rz
  obtain ⟨its, rv, hl, _⟩ := I.list hs
  obtain ⟨xs, e⟩ := rv.ints.allInts.items
  have hn : numsOf (intItems xs).toList = ns := by rw [← e]; exact rv.ints.numsOf
  rw [nums_intItems] at hn
  have hL := hl.isList
  rw [e] at hL
  refine call_maxD (args_maxD _ _) (iter_intList hL fun s2 es st hfp hlI => ?_)
  subst es
  have kept : ∀ {h' : Heap}, (∀ b o, b ∉ [s.heap.objs.size] → (s.heap.push { cls := .type "list_iterator", data := .fields #[.ref a, .int 0 0] }).get? b = some o → h'.get? b = some o) → ∀ b o, s.heap.get? b = some o → h'.get? b = some o := fun k => old_kept k
  refine ⟨_, _, _, _, _, _, _, rfl, Walks.list (A := X.A.in1) (show X.A.in1.handled = none from I.ok.hd hc) _ a hlI (intItems xs), st, hfp, CmpOf.ints_gt (numAt xs) (fun _ _ => intItems_at), fun hn0 v h' tk hP hk => ?_, fun h0 h' tk hk => ?_⟩
  · have hsz : (intItems xs).size = xs.size := by simp [intItems]
    rw [hsz] at hP hn0
    obtain ⟨t, rfl⟩ := intItems_at hP
    obtain ⟨h1, h2⟩ := argBest_gt (numAt xs) (xs.size - 1)
    refine ⟨.int _, H, I.kept (t' := tk) (kept hk), ⟨t, rfl⟩, q1 _ ?_ fun k hkm => ?_⟩
    · rw [numAt_eq, hn]; exact PySem.getD_mem (by rw [← hn, List.length_map, Array.length_toList]; omega)
    · obtain ⟨j, hj, rfl⟩ := mem_getD hkm
      rw [← hn, List.length_map, Array.length_toList] at hj
      rw [← hn, ← numAt_eq]
      exact h2 j (by omega)
  · have h0 : xs.size = 0 := by simpa [intItems] using h0
    refine ⟨d, H, I.kept (t' := tk) (kept hk), rd, q0 ?_⟩
    rw [← hn]
    exact List.map_eq_nil_iff.mpr (List.length_eq_zero_iff.mp (by rw [Array.length_toList]; exact h0))

theorem cr_minD {X : Cx} (hc : X.calm = true) : CallRK X (.builtin "min") [Str.ofString "default"] (fun vs zs H Q => ∃ (a : Addr) (ns : List Int) (d : V), vs = [V.ref a] ∧ zs = [d] ∧ SqL X.K H a (ns.map V.int) ∧ (ns = [] → Q d H) ∧ ∀ m ∈ ns, (∀ k ∈ ns, k ≥ m) → Q (.int m) H) := by
  intro pins s σ H vs zs us ws Q I r rz h
  obtain ⟨a, ns, d, rfl, rfl, hs, q0, q1⟩ := h
  obtain rfl := Vals.ref1 r
  obtain ⟨dw, rfl, rd⟩ := vals1 rz
  obtain ⟨its, rv, hl, _⟩ := I.list hs
  obtain ⟨xs, e⟩ := rv.ints.allInts.items
  have hn : numsOf (intItems xs).toList = ns := by rw [← e]; exact rv.ints.numsOf
  rw [nums_intItems] at hn
  have hL := hl.isList
  rw [e] at hL
  refine call_minD (args_minD _ _) (iter_intList hL fun s2 es st hfp hlI => ?_)
  subst es
  have kept : ∀ {h' : Heap}, (∀ b o, b ∉ [s.heap.objs.size] → (s.heap.push { cls := .type "list_iterator", data := .fields #[.ref a, .int 0 0] }).get? b = some o → h'.get? b = some o) → ∀ b o, s.heap.get? b = some o → h'.get? b = some o := fun k => old_kept k
  refine ⟨_, _, _, _, _, _, _, rfl, Walks.list (A := X.A.in1) (show X.A.in1.handled = none from I.ok.hd hc) _ a hlI (intItems xs), st, hfp, CmpOf.ints_lt (numAt xs) (fun _ _ => intItems_at), fun hn0 v h' tk hP hk => ?_, fun h0 h' tk hk => ?_⟩
  · have hsz : (intItems xs).size = xs.size := by simp [intItems]
    rw [hsz] at hP hn0
    obtain ⟨t, rfl⟩ := intItems_at hP
    obtain ⟨h1, h2⟩ := argBest_lt (numAt xs) (xs.size - 1)
    refine ⟨.int _, H, I.kept (t' := tk) (kept hk), ⟨t, rfl⟩, q1 _ ?_ fun k hkm => ?_⟩
    · rw [numAt_eq, hn]; exact PySem.getD_mem (by rw [← hn, List.length_map, Array.length_toList]; omega)
    · obtain ⟨j, hj, rfl⟩ := mem_getD hkm
      rw [← hn, List.length_map, Array.length_toList] at hj
      rw [← hn, ← numAt_eq]
      exact h2 j (by omega)
  · have h0 : xs.size = 0 := by simpa [intItems] using h0
    refine ⟨d, H, I.kept (t' := tk) (kept hk), rd, q0 ?_⟩
    rw [← hn]
    exact List.map_eq_nil_iff.mpr (List.length_eq_zero_iff.mp (by rw [Array.length_toList]; exact h0))

/-- the greatest, the least of ints -/
def bestI (mx : Bool) : List Int → Int → Int
  | [], m => m
  | n :: r, m => bestI mx r (if mx then max m n else min m n)
theorem bestI_max : ∀ (l : List Int) (m : Int), bestI true l m ∈ m :: l ∧ ∀ k ∈ m :: l, k ≤ bestI true l m
  | [], m => ⟨List.mem_cons_self, fun k h => by rw [List.mem_singleton.mp h]; exact Int.le_refl _⟩
  | n :: r, m => by
    have ih := bestI_max r (max m n)
    unfold bestI
    rw [if_pos rfl]
    refine ⟨?_, fun k h => ?_⟩
    · rcases List.mem_cons.mp ih.1 with z | z
      · rw [z]
        rcases Int.le_total m n with h | h
        · rw [Int.max_eq_right h]; simp
        · rw [Int.max_eq_left h]; simp
      · exact List.mem_cons_of_mem _ (List.mem_cons_of_mem _ z)
    · have b := ih.2 (max m n) List.mem_cons_self
      rcases List.mem_cons.mp h with rfl | h
      · omega
      · rcases List.mem_cons.mp h with rfl | h
        · omega
        · exact ih.2 k (List.mem_cons_of_mem _ h)
theorem bestI_min : ∀ (l : List Int) (m : Int), bestI false l m ∈ m :: l ∧ ∀ k ∈ m :: l, bestI false l m ≤ k
  | [], m => ⟨List.mem_cons_self, fun k h => by rw [List.mem_singleton.mp h]; exact Int.le_refl _⟩
  | n :: r, m => by
    have ih := bestI_min r (min m n)
    unfold bestI
    rw [if_neg (by simp)]
    refine ⟨?_, fun k h => ?_⟩
    · rcases List.mem_cons.mp ih.1 with z | z
      · rw [z]
        rcases Int.le_total m n with h | h
        · rw [Int.min_eq_left h]; simp
        · rw [Int.min_eq_right h]; simp
      · exact List.mem_cons_of_mem _ (List.mem_cons_of_mem _ z)
    · have b := ih.2 (min m n) List.mem_cons_self
      rcases List.mem_cons.mp h with rfl | h
      · omega
      · rcases List.mem_cons.mp h with rfl | h
        · omega
        · exact ih.2 k (List.mem_cons_of_mem _ h)
def opBestD (mx : Bool) : D → D → M D
  | .loc l, d => bnd (lst l) fun xs => match intsOf xs with
    | some [] => ret d
    | some (n :: r) => ret (.int (bestI mx r n))
    | none => no
  | _, _ => no
section
variable {X : Cx} {c : Ct} {ex : Wh} {pos kp p : Pos} {e d : Expr} {f g : ME}

theorem md_maxD (hK : X.K = c.K) (hc : X.calm = true) (hg : Gl X "max") (hm : X.mg "max" = none) (he : PE X e (tE c ex f)) (hd : PE X d (tE c ex g)) (hs : starEach [e] X.env = (false, eval e X.env) :: starEach [] X.env := by rfl)
    (hb : backTo pos (starEach [e] X.env) = (false, eval e X.env) :: backTo pos (starEach [] X.env) := by rfl) (hpl : (backTo pos (starEach [e] X.env)).any (·.1) = false := by rfl)
    (hall : (backToKw pos (keywordEach [⟨some "default", d, kp⟩] X.env)).all (·.1.isSome) = true := by rfl) (hnone : (backToKw pos (keywordEach [⟨some "default", d, kp⟩] X.env)).any (·.1.isNone) = false := by rfl)
    (hks : (backToKw pos (keywordEach [⟨some "default", d, kp⟩] X.env)).filterMap (·.1) = [Str.ofString "default"] := by rfl) :
    PE X (.Call (.Name "max" p) [e] [⟨some "default", d, kp⟩] pos) (tE c ex (bin f g (opBestD true))) :=
  PE_imp (pe_callBK (cr_maxD hc) hg hm (by decide +kernel) (pa_cons he pa_nil hs) (pk_cons hd pk_nil) (by decide) (by decide) hb hpl hall hnone hks) fun σ H Q q => by
    obtain ⟨ρ, st, bs, rl, re, p⟩ := q
    refine ⟨ρ, st, bs, rl, re, p.bnd.imp fun x st1 bs1 H1 e1 rl1 p1 v rv => ?_⟩
    refine ⟨ρ, st1, bs1, rl1, re.ext e1, p1.bnd.imp fun y st2 bs2 H2 e2 rl2 p2 w rw' => ?_⟩
    have rv := rv.ext e2
    rw [hK]
    cases rv with
    | loc h =>
      obtain ⟨a, vs, xs, ee, hb, hl, hv, r, p3⟩ := post_lst (k := fun _ _ _ _ => True) p2 rl2 (RD.loc h)
      cases ee
      cases e1 : intsOf xs with
      | none => simp only [e1] at p3; exact p3.elim
      | some ns =>
        rw [intsOf_map e1] at r
        rw [r.toInts] at hv
        refine ⟨_, ns, w, rfl, rfl, SqL.of hv, fun z => ?_, fun m hm hle => ?_⟩
        · subst z
          simp only [e1] at p3
          exact p3.now rl2 _ rw'
        · cases ns with
          | nil => cases hm
          | cons n rr =>
            simp only [e1] at p3
            obtain ⟨b1, b2⟩ := bestI_max rr n
            have : m = bestI true rr n := Int.le_antisymm (b2 m hm) (hle _ b1)
            subst this
            exact p3.now rl2 _ (.int _)
    | _ => exact p2.elim

theorem md_minD (hK : X.K = c.K) (hc : X.calm = true) (hg : Gl X "min") (hm : X.mg "min" = none) (he : PE X e (tE c ex f)) (hd : PE X d (tE c ex g)) (hs : starEach [e] X.env = (false, eval e X.env) :: starEach [] X.env := by rfl)
    (hb : backTo pos (starEach [e] X.env) = (false, eval e X.env) :: backTo pos (starEach [] X.env) := by rfl) (hpl : (backTo pos (starEach [e] X.env)).any (·.1) = false := by rfl)
    (hall : (backToKw pos (keywordEach [⟨some "default", d, kp⟩] X.env)).all (·.1.isSome) = true := by rfl) (hnone : (backToKw pos (keywordEach [⟨some "default", d, kp⟩] X.env)).any (·.1.isNone) = false := by rfl)
    (hks : (backToKw pos (keywordEach [⟨some "default", d, kp⟩] X.env)).filterMap (·.1) = [Str.ofString "default"] := by rfl) :
    PE X (.Call (.Name "min" p) [e] [⟨some "default", d, kp⟩] pos) (tE c ex (bin f g (opBestD false))) :=
  PE_imp (pe_callBK (cr_minD hc) hg hm (by decide +kernel) (pa_cons he pa_nil hs) (pk_cons hd pk_nil) (by decide) (by decide) hb hpl hall hnone hks) fun σ H Q q => by
    obtain ⟨ρ, st, bs, rl, re, p⟩ := q
    refine ⟨ρ, st, bs, rl, re, p.bnd.imp fun x st1 bs1 H1 e1 rl1 p1 v rv => ?_⟩
    refine ⟨ρ, st1, bs1, rl1, re.ext e1, p1.bnd.imp fun y st2 bs2 H2 e2 rl2 p2 w rw' => ?_⟩
    have rv := rv.ext e2
    rw [hK]
    cases rv with
    | loc h =>
      obtain ⟨a, vs, xs, ee, hb, hl, hv, r, p3⟩ := post_lst (k := fun _ _ _ _ => True) p2 rl2 (RD.loc h)
      cases ee
      cases e1 : intsOf xs with
      | none => simp only [e1] at p3; exact p3.elim
      | some ns =>
        rw [intsOf_map e1] at r
        rw [r.toInts] at hv
        refine ⟨_, ns, w, rfl, rfl, SqL.of hv, fun z => ?_, fun m hm hle => ?_⟩
        · subst z
          simp only [e1] at p3
          exact p3.now rl2 _ rw'
        · cases ns with
          | nil => cases hm
          | cons n rr =>
            simp only [e1] at p3
            obtain ⟨b1, b2⟩ := bestI_min rr n
            have : m = bestI false rr n := Int.le_antisymm (hle _ b1) (b2 m hm)
            subst this
            exact p3.now rl2 _ (.int _)
    | _ => exact p2.elim
end
end Pm
end
section
set_option Elab.async false
set_option linter.all false
set_option maxRecDepth 100000
set_option maxHeartbeats 2000000
namespace Pm
open PySem PySem.Spec PyProof.Rows L2
/-! ### t.count(n) -/
theorem inv_dl {X : Cx} {pins : List (Addr × Obj)} {σ : L2.St} {H : Hp} {s : Shared} (I : Inv X pins σ H s) {a : Addr} (h : DL X.K H a) : ∃ o, s.heap.get? a = some o ∧ o.dict = none := by
  rcases h with ⟨o, u, h1, h2⟩ | ⟨o, h1, h2⟩
  · exact ⟨o, (I.hok _ _ h1).1, h2⟩
  · exact ⟨o, I.kIn _ _ h1, h2⟩
def rCntT (K : PySem.W.Frag) : V → List V → Hp → VK → Prop := fun x xs H Q => ∃ (p : Addr) (ns : List Int) (k : Int), x = .ref p ∧ xs = [.int k] ∧ SqT K H p (ns.map V.int) ∧ Q (.int (ns.count k : Nat)) H
theorem mt_tcount {X : Cx} : MtR X "tuple.count" (rCntT X.K) := by
  intro pins s σ H x xs v us Q I rx rxs h
  obtain ⟨p, ns, k, rfl, rfl, hs, q⟩ := h
  cases rx
  obtain ⟨u, rfl, ru⟩ := rxs.one
  obtain ⟨t, rfl⟩ := ru
  obtain ⟨its, rv, ⟨⟨cls, dd, data, sl⟩, ho, hc, n, hd⟩, hlen⟩ := I.tuple hs
  simp only at hc hd
  subst hc hd
  have hi := ints_of_vals rv
  refine call_meets PySem.F.slot_tuple_count ⟨_, ho, rfl⟩ PySem.F.entry_tuple_count (PySem.F.args_tuple_count_2 _ _)
    (SeqAt.tuple_countAt p its.toArray n dd sl (.int k t) (eqk k)) ⟨ho, fun y hy => (eqk_gives hi y (by simpa using hy)).at _ _, ?_⟩
  have ec : its.toArray.toList.countP (eqk k) = ns.count k := eqk_count hi
  refine ⟨.int (ns.count k : Nat), H, I.tok _, ⟨s.toks, ?_⟩, q⟩
  show Value.int ((its.toArray.toList.countP (eqk k) : Nat) : Int) s.toks = Value.int ((ns.count k : Nat) : Int) s.toks
  rw [ec]
section
variable {X : Cx} {c : Ct} {ex : Wh} {o e : Expr} {to te : TE} {fo fe : ME} {apos pos : Pos}
def tMT (K : PySem.W.Frag) (r : V → List V → Hp → VK → Prop) (to te : TE) : TE := fun σ H Q => to σ H fun x H1 => (∃ a xs, x = .ref a ∧ SqT K H1 a xs ∧ DL K H1 a) ∧ te σ H1 fun y H2 => r x [y] H2 Q
theorem pe_mT {id : String} {name : Str} {r : V → List V → Hp → VK → Prop} (slot : Slot "tuple" name id) (ty : typeOf (.builtin id) = pure (.type "method_descriptor")) (rule : MtR X id r) (ho : PE X o to) (he : PE X e te)
    (hs : starEach [e] X.env = [(false, eval e X.env)] := by rfl) (hbase : attributeBase o name X.env (eval o X.env) = eval o X.env := by rfl) (hline : (apos.endLine == pos.line) = true := by rfl) :
    PE X (.Call (.Attribute o name apos) [e] [] pos) (tMT X.K r to te) := by
  refine ⟨fun pins s σ H Q I h => ?_⟩
  refine PySem.Call_method1 hbase hs hline (thn (ho.run pins s σ H _ I h) fun v s1 ⟨x, H1, I1, r1, q1⟩ => ?_)
  obtain ⟨⟨a, xs, rfl, hq, hd⟩, q1⟩ := q1
  have r1' := r1
  cases r1
  obtain ⟨its, rv, hT, _⟩ := I1.tuple hq
  obtain ⟨ob, e1, e2⟩ := inv_dl I1 hd
  refine ⟨"tuple", _, PySem.F.plainAttrs_tuple, slot, ty, hT.typeIs, (fun b eb => by cases eb; exact ⟨ob, e1, e2⟩), Calls.callWith_builtin rfl (Calls.evalArgs_plain (Calls.spliced_cons ?_))⟩
  exact thn (he.run pins s1 σ H1 _ I1 q1) fun u s2 ⟨y, H2, I2, r2, q2⟩ => Calls.spliced_nil (rule pins s2 σ H2 _ [y] _ [u] Q I2 r1' (.cons r2 .nil) q2)
def isTu : D → M Unit
  | .tup _ => ret ()
  | _ => no
def cntT : D → D → M D
  | .tup xs, .int k => match intsOf xs with
    | some ns => ret (.int (ns.count k : Nat))
    | none => no
  | _, _ => no
def metT (fo fe : ME) (op : D → D → M D) : ME := fun ρ => bnd (fo ρ) fun o => bnd (isTu o) fun _ => bnd (fe ρ) fun y => op o y
theorem md_count (hK : X.K = c.K) (ho : PE X o (tE c ex fo)) (he : PE X e (tE c ex fe)) (hs : starEach [e] X.env = [(false, eval e X.env)] := by rfl) (hbase : attributeBase o "count" X.env (eval o X.env) = eval o X.env := by rfl) (hline : (apos.endLine == pos.line) = true := by rfl) :
    PE X (.Call (.Attribute o "count" apos) [e] [] pos) (tE c ex (metT fo fe cntT)) :=
  PE_imp (pe_mT PySem.F.slot_tuple_count PySem.F.type_tuple_count mt_tcount ho he hs hbase hline) fun σ H Q q => by
    obtain ⟨ρ, st, bs, rl, re, p⟩ := q
    refine ⟨ρ, st, bs, rl, re, p.bnd.imp fun d st1 bs1 H1 e1 rl1 p1 v rv => ?_⟩
    cases rv with
    | @tup a vs ds s tl r =>
      refine ⟨⟨_, _, rfl, by rw [hK]; exact s, by rw [hK]; exact tl⟩, ρ, st1, bs1, rl1, re.ext e1, Post.bnd (m := fe ρ) p1 |>.imp fun y st2 bs2 H2 e2 rl2 p2 vy ry => ?_⟩
      cases ry with
      | int k =>
        unfold cntT at p2
        cases en : intsOf ds with
        | none => simp only [en] at p2; exact p2.elim
        | some ns =>
          simp only [en] at p2
          have r := (r.ext e2)
          rw [intsOf_map en] at r
          refine ⟨_, ns, k, rfl, rfl, ?_, p2.now rl2 _ (.int _)⟩
          rw [hK, ← r.toInts]
          exact e2.sqT s
      | _ => exact p2.elim
    | _ => exact p1.elim
/-! ### s.removeprefix(t) -/
def opRemP : D → D → M D
  | .str a, .str b => if a.length ≤ sizeLine then ret (.str (Txt.removeprefix a b)) else no
  | _, _ => no
theorem md_remP (ho : PE X o (tE c ex fo)) (he : PE X e (tE c ex fe)) (hs : starEach [e] X.env = [(false, eval e X.env)] := by rfl) (hbase : attributeBase o "removeprefix" X.env (eval o X.env) = eval o X.env := by rfl) (hline : (apos.endLine == pos.line) = true := by rfl) :
    PE X (.Call (.Attribute o "removeprefix" apos) [e] [] pos) (tE c ex (met1 fo fe opRemP)) :=
  PE_imp (pe_m1 F.slot_str_removeprefix F.type_str_removeprefix mt_removeprefix ho he hs hbase hline) fun σ H Q q => tM1_of (fun a y d bs H st Q ry rl p => by
    cases ry with
    | str b =>
      obtain ⟨h, p⟩ := Post.iff (m := ret _) p
      exact ⟨a, b, rfl, rfl, h, p.now rl _ (.str _)⟩
    | _ => exact p.elim) q
end
/-! ### sum of a tuple -/
section
variable {prog : Program} {w : World} {A : Around} {E : Value → Shared → Prop} {s : Shared} {l : Addr}
theorem sum_tupG {xs : Array (Int × Tok)} {Q : Value → Shared → Prop} (hh : A.handled = none) (hl : s.heap.IsTuple l (intItems xs))
    (h : ∀ h' tk t', (∀ b o, s.heap.get? b = some o → h'.get? b = some o) → Q (.int (preSum (numAt xs) xs.size) t') { s with heap := h', toks := tk }) :
    wpAny (model prog w) A (call (.builtin "sum") [.ref l]) Q E s := by
  have hlt : l < s.heap.objs.size := by obtain ⟨_, e, _⟩ := hl; exact Heap.lt_size e
  refine call_sum_walkG (wpAny_pyIter_tuple hl ?_)
  refine ⟨_, _, _, _, _, _, numAt xs, rfl, Walks.tuple (A := A.in1) hh s.heap.objs.size l (Nat.ne_of_lt hlt) (intItems xs), ⟨⟨_, Heap.get?_push_size _ rfl, rfl, rfl⟩, hl.push _⟩, fun b hb => ?_, (fun _ _ => intItems_at), fun h' tk t' hk => ?_⟩
  · show b < (s.heap.push _).objs.size
    rw [Heap.size_push]
    rcases List.mem_cons.mp hb with rfl | hb
    · exact Nat.lt_succ_self _
    · rcases List.mem_cons.mp hb with rfl | hb
      · exact Nat.lt_succ_of_lt hlt
      · cases hb
  · have := h h' tk t' fun b o e => by
      refine hk b o (fun hm => ?_) (Heap.get?_push_of_some _ e)
      rcases List.mem_cons.mp hm with e1 | hm
      · exact absurd (e1 ▸ Heap.lt_size e) (Nat.lt_irrefl _)
      · cases hm
    simpa [intItems] using this
theorem sum_rawT {its : List Value} {ns : List Int} {Q : Value → Shared → Prop} (hh : A.handled = none) (hl : s.heap.IsTuple l its.toArray) (hi : IntsAre its ns)
    (h : ∀ h' tk t', (∀ b o, s.heap.get? b = some o → h'.get? b = some o) → Q (.int ns.sum t') { s with heap := h', toks := tk }) : wpAny (model prog w) A (call (.builtin "sum") [.ref l]) Q E s := by
  obtain ⟨xs, e⟩ := hi.allInts.items
  have hn : numsOf (intItems xs).toList = ns := by rw [← e]; exact hi.numsOf
  rw [nums_intItems] at hn
  rw [e] at hl
  refine sum_tupG hh hl fun h' tk t' hk => ?_
  have := h h' tk t' hk
  rw [preSum_eq, List.take_of_length_le (by simp), hn]; exact this
end
def rSumT (K : PySem.W.Frag) : List V → Hp → VK → Prop := fun vs H Q => ∃ (a : Addr) (ns : List Int), vs = [V.ref a] ∧ SqT K H a (ns.map V.int) ∧ Q (.int ns.sum) H
theorem cr_sumT {X : Cx} (hc : X.calm = true) : CallR X (.builtin "sum") (rSumT X.K) := by
  intro pins s σ H vs us Q I r h
  obtain ⟨a, ns, rfl, hs, q⟩ := h
  obtain ⟨its, rv, hl, _⟩ := I.tuple hs
  rw [Vals.ref1 r]
  exact sum_rawT (I.ok.hd hc) hl (ints_of_vals rv) fun h' tk t' hk => ⟨.int _, H, I.kept hk, ⟨_, rfl⟩, q⟩
def bSumX : List D → M D
  | [.loc l] => bnd (lst l) fun xs => match intsOf xs with
    | some ns => ret (.int ns.sum)
    | none => no
  | [.tup xs] => match intsOf xs with
    | some ns => ret (.int ns.sum)
    | none => no
  | _ => no
theorem cb_sumX {X : Cx} {c : Ct} {ex : Wh} (hK : X.K = c.K) (hc : X.calm = true) : CB X c ex (.builtin "sum") bSumX := ⟨_, (cr_sum hc).or (cr_sumT hc), by
  intro vs ds bs H st Q r rl p
  match ds, r, p with
  | [.loc l], .cons (.loc h) .nil, p =>
    obtain ⟨a, vs, xs, e, hb, hl, hv, r, p⟩ := post_lst (k := fun _ _ _ _ => True) p rl (RD.loc h)
    cases e
    cases e1 : intsOf xs with
    | none => simp only [e1] at p; exact p.elim
    | some ns =>
      simp only [e1] at p
      rw [intsOf_map e1] at r
      rw [r.toInts] at hv
      exact .inl ⟨_, _, rfl, SqL.of hv, p.now rl _ (.int _)⟩
  | [.tup xs], .cons (.tup s tl r) .nil, p =>
    unfold bSumX at p
    cases e1 : intsOf xs with
    | none => simp only [e1] at p; exact p.elim
    | some ns =>
      simp only [e1] at p
      rw [intsOf_map e1] at r
      rw [r.toInts] at s
      exact .inr ⟨_, _, rfl, by rw [hK]; exact s, p.now rl _ (.int _)⟩⟩
/-! ### t * n -/
theorem tuple_mul1 (l : Addr) (items : Array Value) (n : Nat) (dd : Option Addr) (sl : Array (Option Value)) (u : Tok) :
    Meets (Builtin.«tuple.__mul__» ⟨[.ref l, .int 1 u], []⟩) (fun _ R s => s.heap.get? l = some { cls := .type "tuple", dict := dd, data := .seq items n, slots := sl } ∧ R (.ok (.ret (Value.ref l))) s) :=
  .of_wp fun prog w A R s h => by
    obtain ⟨hp, g, d, tk, os⟩ := s
    obtain ⟨hl, h⟩ := h
    have f1 := AutoSeq1.idx_int
    wp_walk using wpAny_loadPart' hl
    repeat (first
      | (refine wpAny_ite_false (decide_eq_false (by decide)) ?_; wp_walk using wpAny_loadPart' hl)
      | (refine wpAny_ite_true (decide_eq_true (by simp)) ?_; wp_walk using wpAny_loadPart' hl))
    exact ⟨_, rfl, h⟩
def rRep1 (K : PySem.W.Frag) : R2 := fun x y H Q => ∃ l xs, x = .ref l ∧ y = .int 1 ∧ SqT K H l xs ∧ Q (.ref l) H
def rRepF (K : PySem.W.Frag) : R2 := fun x y H Q => ∃ l k xs, x = .ref l ∧ y = .int k ∧ SqT K H l xs ∧ xs ≠ [] ∧ 2 ≤ k ∧ k ≤ 1000 ∧ xs.length ≤ 1000 ∧ ∀ p us, H p = none → Q (.ref p) (upd H p (frT us (List.replicate k.toNat xs).flatten))
section
variable {X : Cx}
theorem op_rep1 : OpR X (binaryOp .Mult) (rRep1 X.K) := by
  intro pins s σ H x y v u Q I rx ry h
  obtain ⟨l, xs, rfl, rfl, hT, q⟩ := h
  cases rx
  obtain ⟨t, rfl⟩ := ry
  obtain ⟨its, r, ⟨⟨cls, dd, data, sl⟩, ho, hc, n, hd⟩, hs⟩ := I.tuple hT
  simp only at hc hd
  subst hc hd
  exact wpAny_binaryOp_repeat_ref (T := "tuple") (U := "int") (by decide) ⟨_, ho, rfl⟩ (fun s' => typeIs_int s' 1 t) noFill_tuple_mul F.fills_int_mul F.slot_int_rmul repeat_tuple F.slot_int_index.lookup
    (call_meets F.slot_int_rmul (typeIs_int s 1 t) F.entry_int_rmul (F.args_int_rmul_2 _ _) (int_rmul_tuple 1 t l its.toArray n dd sl)
      ⟨ho, rfl, ⟨_, ho, rfl⟩, call_meets F.slot_tuple_mul ⟨_, ho, rfl⟩ F.entry_tuple_mul (F.args_tuple_mul_2 _ _) (tuple_mul1 l its.toArray n dd sl t) ⟨ho, ⟨.ref l, H, I, rfl, q⟩⟩⟩)
theorem op_repF : OpR X (binaryOp .Mult) (rRepF X.K) := by
  intro pins s σ H x y v u Q I rx ry h
  obtain ⟨l, k, xs, rfl, rfl, hT, hne, h1, h2, hz, q⟩ := h
  cases rx
  obtain ⟨t, rfl⟩ := ry
  obtain ⟨its, r, ⟨⟨cls, dd, data, sl⟩, ho, hc, n, hd⟩, hs⟩ := I.tuple hT
  simp only at hc hd
  subst hc hd
  have hle : its.length = xs.length := r.length.symm
  have hn : its ≠ [] := fun e => hne (by
    rw [e] at hle
    exact List.eq_nil_of_length_eq_zero hle.symm)
  have hi : its.toArray.isEmpty = false := by
    cases its with
    | nil => exact absurd rfl hn
    | cons a b => rfl
  have hsz0 : its.toArray.size = xs.length := by rw [List.size_toArray, hle]
  have hm : ((its.toArray.size : Nat) : Int) * k ≤ 1000000 := by
    rw [hsz0]
    have a1 : ((xs.length : Nat) : Int) * k ≤ 1000 * k := Int.mul_le_mul_of_nonneg_right (by omega) (by omega)
    omega
  have flen : (List.replicate k.toNat its).flatten.length ≤ sizeLine := by
    rw [PyProof.Rows.lm_len_rep_flat, hle, sizeLine_eq]
    have a1 : k.toNat * xs.length ≤ 1000 * 1000 := Nat.mul_le_mul (by omega) hz
    omega
  have c0 : (decide (k < -(2 ^ 63)) || decide (k ≥ 2 ^ 63)) = false := by
    rw [decide_eq_false (by omega), decide_eq_false (by omega)] <;> rfl
  have c1 : (its.toArray.isEmpty || k == 1) = false := by
    rw [hi, Bool.false_or]
    exact beq_eq_false_iff_ne.mpr (by omega)
  have c2 : (decide (k ≤ 0) || its.toArray.isEmpty) = false := by
    rw [hi, Bool.or_false]
    exact decide_eq_false (by omega)
  have c4 : Builtin.Tuple.tupleTooMany (((its.toArray.size : Nat) : Int) * k) = false := by
    unfold Builtin.Tuple.tupleTooMany
    rw [sizeLine_eq]
    exact decide_eq_false (by omega)
  refine wpAny_binaryOp_repeat_ref (T := "tuple") (U := "int") (by decide) ⟨_, ho, rfl⟩ (fun s' => typeIs_int s' k t) noFill_tuple_mul F.fills_int_mul F.slot_int_rmul repeat_tuple F.slot_int_index.lookup
    (call_meets F.slot_int_rmul (typeIs_int s k t) F.entry_int_rmul (F.args_int_rmul_2 _ _) (int_rmul_tuple k t l its.toArray n dd sl)
      ⟨ho, rfl, ⟨_, ho, rfl⟩, call_meets F.slot_tuple_mul ⟨_, ho, rfl⟩ F.entry_tuple_mul (F.args_tuple_mul_2 _ _) (tuple_mulW l its.toArray n dd sl k t c0 c1 c2 (by omega) c4 (by rw [size_rep, List.size_toArray]; exact flen)) ⟨ho, ?_⟩⟩)
  rw [size_rep]
  exact ⟨.ref s.heap.objs.size, _, tupN I (xs := (List.replicate k.toNat xs).flatten) (by rw [PyProof.Rows.lm_len_rep_flat, sizeLine_eq]; have a1 : k.toNat * xs.length ≤ 1000 * 1000 := Nat.mul_le_mul (by omega) hz; omega) (r.rep k.toNat) s.toks, rfl, q _ _ (I.hok.fresh (Nat.le_refl _))⟩
end
def repL {α : Type} (k : Nat) (xs : List α) : List α := (List.replicate k xs).flatten
def opRep : D → D → M D
  | .tup xs, .int k => if k = 1 then ret (.tup xs) else if xs ≠ [] ∧ 2 ≤ k ∧ k ≤ 1000 ∧ xs.length ≤ 1000 then ret (.tup (repL k.toNat xs)) else no
  | _, _ => no
theorem RDs.rep {c : Ct} {bs : List Addr} {H : Hp} {vs : List V} {xs : List D} (r : RDs c bs H vs xs) : ∀ k : Nat, RDs c bs H (List.replicate k vs).flatten (repL k xs)
  | 0 => .nil
  | k + 1 => by
    unfold repL
    rw [List.replicate_succ, List.replicate_succ, List.flatten_cons, List.flatten_cons]
    exact r.append (r.rep k)
theorem s2_rep {c : Ct} {ex : Wh} : S2 c ex opRep (fun x y H Q => rRep1 c.K x y H Q ∨ rRepF c.K x y H Q) := by
  intro x y d e bs H st Q rx ry rl p
  cases rx with
  | @tup a vs xs s tl r =>
    cases ry with
    | int k =>
      unfold opRep at p
      by_cases h1 : k = 1
      · subst h1
        simp only [if_true] at p
        exact .inl ⟨_, _, rfl, rfl, s, p.now rl _ (.tup s tl r)⟩
      · simp only [if_neg h1] at p
        obtain ⟨⟨g1, g2, g3, g4⟩, p⟩ := Post.iff (m := ret _) p
        refine .inr ⟨a, k, vs, rfl, rfl, s, fun z => g1 (by cases r with | nil => rfl | cons _ _ => cases z), g2, g3, by rw [r.length]; exact g4, fun q us hq => ?_⟩
        obtain ⟨e, rl'⟩ := rl.fresh hq (frT us (List.replicate k.toNat vs).flatten)
        exact p.at e rl' _ (.tup sqF dlF ((r.rep k.toNat).ext e))
    | _ => exact p.elim
  | _ => cases ry <;> exact p.elim
theorem md_rep {X : Cx} {c : Ct} {ex : Wh} {pos : Pos} {a b : Expr} {fa fb : ME} (hK : X.K = c.K) (ha : PE X a (tE c ex fa)) (hb : PE X b (tE c ex fb)) : PE X (.BinOp a .Mult b pos) (tE c ex (bin fa fb opRep)) := md_bin (op_rep1.or op_repF) (by rw [hK]; exact s2_rep) ha hb
end Pm
end
section
set_option Elab.async false
set_option linter.all false
set_option maxRecDepth 100000
set_option maxHeartbeats 4000000
namespace Pm
open PySem PySem.Spec PyProof.Rows L2
/-! ### worlds by their answer to one row of the text (str.__hash__ asks it) -/
/-- a world with its answer to one row of the text written out -/
def setT (p : Params) (b : Bool) : Params := { p with followText := fun r => bif r == "special-get-raises" then b else p.followText r }
theorem setT_eq (p : Params) : setT p (p.followText "special-get-raises") = p := by
  obtain ⟨f1, f2, f3, f4, f5, f6, _⟩ := p
  unfold setT
  congr 1
  funext r
  by_cases h : r = "special-get-raises"
  · subst h; rfl
  · show (bif r == "special-get-raises" then f6 "special-get-raises" else f6 r) = f6 r
    rw [beq_eq_false_iff_ne.mpr h]; rfl
theorem byText {P : World → Prop} (h : ∀ d p b, P ⟨d, setT p b⟩) (w : World) : P w := by
  obtain ⟨d, p⟩ := w
  have := h d p (p.followText "special-get-raises")
  rw [setT_eq] at this
  exact this
/-! ### X[k] of a constant dict -/
section
variable {X : Cx} {c : Ct} {ex : Wh} {pos p0 : Pos} {b : Expr} {fb : ME} {x : Str} {kvs : List (Str × D)}
theorem ix_kd {w : World} {d : Addr} {es : Array DictEntry} {n : Nat} (hw : w = X.w) (D : KDict X.K w d es n) : IxR X (fun x y H Q => ∃ k u v, x = .ref d ∧ y = kV k ∧ findBy keyIs es k = some u ∧ RelV v u ∧ Q v H) := by
  subst hw
  intro value slice pins s σ H x y v u Q I rx ry h hs
  obtain ⟨k, u', z, rfl, rfl, hf, rz, q⟩ := h
  obtain rfl : v = Value.ref d := rx
  have mp := mixMap (P := X.prog) I.kIn D
  have hT := mp.typeIs
  unfold subscriptTail
  refine wpAny_bind ?_
  rw [getitemInPython_of_ne hT.not_modules]
  refine wpAny_bind (wpAny_specialOf hT PySem.F.slot_dict_getitem.lookup ?_)
  have fin : wpAny (model X.prog X.w) X.A (subscripted slice false (.ref d) u) (fun r s₃ => wpAny (model X.prog X.w) X.A (letTemporaryGo value (.ref d) r >>= fun _ => pure r) (EP X pins σ Q) X.xe s₃) X.xe s := by
    rw [hs]
    exact wpAny_operating (wpAny_mono (wpAny_getItem_of (Q := EP X pins σ Q) (kV_is ry) mp hf ⟨z, H, I.tok _, rz, q⟩) (fun r s₃ h₃ => wpAny_bind (wpAny_letTemporaryGo (wpAny_pure h₃))) fun _ _ x => x)
  first
    | exact wpAny_pure (wpAny_bind fin)
    | exact wpAny_bind (wpAny_pure (wpAny_bind fin))
    | exact wpAny_bind fin
theorem md_kix (hK : X.K = c.K) (C : KC X.K X.w X.mg x kvs) (hg : Gl X x) (hb : PE X b (tE c ex fb)) (hd : (x == ("__debug__" : Str)) = false := by decide) (hs : PlainIx b := by intro _ _; rfl) : PE X (.Subscript (.Name x p0) b pos) (tE c ex (una fb (cIx kvs))) := by
  obtain ⟨d, es, n, hm, D, hE⟩ := C.ex
  refine PE_imp (pe_ix (ix_kd rfl D) (pe_glob (v := .ref d) hg hm rfl hd) hb hs) fun σ H Q q => ?_
  show tE c ex fb σ H fun y H2 => ∃ k u v, V.ref d = V.ref d ∧ y = kV k ∧ findBy keyIs es k = some u ∧ RelV v u ∧ Q v H2
  obtain ⟨ρ, st, bs, rl, re, p⟩ := q
  refine ⟨ρ, st, bs, rl, re, p.bnd.imp fun y st1 bs1 H1 e1 rl1 p1 v rv => ?_⟩
  unfold cIx at p1
  cases ek : dkey y with
  | none => rw [ek] at p1; exact p1.elim
  | some k =>
    rw [ek] at p1
    obtain ⟨dv, e2, q⟩ := post_ofO p1 rl1
    obtain ⟨u, h1, h2⟩ := (KC.find D hE k).2 dv e2
    obtain ⟨z, r1, r2⟩ := cB_ok h2
    exact ⟨k, u, z, rfl, dkey_v rv ek, h1, r1, q z (r2 c _ _ hK.symm)⟩
end
/-! ### max, min of a list -/
def bBest (mx : Bool) : List D → M D
  | [.int i, .int j] => ret (.int (if mx then (if j > i then j else i) else (if j < i then j else i)))
  | [.loc l] => bnd (lst l) fun xs => match intsOf xs with
    | some (n :: r) => ret (.int (bestI mx r n))
    | _ => no
  | _ => no
theorem cb_maxX {X : Cx} {c : Ct} {ex : Wh} (hK : X.K = c.K) (hc : X.calm = true) : CB X c ex (.builtin "max") (bBest true) := ⟨_, (call_max2 hc).or (cr_max hc), by
  intro vs ds bs H st Q r rl p
  match ds, r, p with
  | [.int i, .int j], .cons (.int _) (.cons (.int _) .nil), p => exact .inl ⟨_, _, rfl, p.now rl _ (.int _)⟩
  | [.loc l], .cons (.loc h) .nil, p =>
    obtain ⟨a, vs, xs, e, hb, hl, hv, r, p⟩ := post_lst (k := fun _ _ _ _ => True) p rl (RD.loc h)
    cases e
    cases e1 : intsOf xs with
    | none => simp only [e1] at p; exact p.elim
    | some ns =>
      cases ns with
      | nil => simp only [e1] at p; exact p.elim
      | cons n r' =>
        simp only [e1] at p
        rw [intsOf_map e1] at r
        rw [r.toInts] at hv
        refine .inr ⟨_, n :: r', rfl, SqL.of hv, by simp, fun m hm hle => ?_⟩
        obtain ⟨b1, b2⟩ := bestI_max r' n
        have : m = bestI true r' n := Int.le_antisymm (b2 m hm) (hle _ b1)
        rw [this]
        exact p.now rl _ (.int _)⟩
theorem cb_minX {X : Cx} {c : Ct} {ex : Wh} (hK : X.K = c.K) (hc : X.calm = true) : CB X c ex (.builtin "min") (bBest false) := ⟨_, (call_min2 hc).or (cr_min hc), by
  intro vs ds bs H st Q r rl p
  match ds, r, p with
  | [.int i, .int j], .cons (.int _) (.cons (.int _) .nil), p => exact .inl ⟨_, _, rfl, p.now rl _ (.int _)⟩
  | [.loc l], .cons (.loc h) .nil, p =>
    obtain ⟨a, vs, xs, e, hb, hl, hv, r, p⟩ := post_lst (k := fun _ _ _ _ => True) p rl (RD.loc h)
    cases e
    cases e1 : intsOf xs with
    | none => simp only [e1] at p; exact p.elim
    | some ns =>
      cases ns with
      | nil => simp only [e1] at p; exact p.elim
      | cons n r' =>
        simp only [e1] at p
        rw [intsOf_map e1] at r
        rw [r.toInts] at hv
        refine .inr ⟨_, n :: r', rfl, SqL.of hv, by simp, fun m hm hle => ?_⟩
        obtain ⟨b1, b2⟩ := bestI_min r' n
        have : m = bestI false r' n := Int.le_antisymm (hle _ b1) (b2 m hm)
        rw [this]
        exact p.now rl _ (.int _)⟩
end Pm
end
section
set_option Elab.async false
set_option linter.all false
set_option maxRecDepth 100000
set_option maxHeartbeats 4000000
namespace Pm
open PySem PySem.Spec PyProof.Rows L2
/-- the statement j of a class's body -/
def inClass : Stmt → Nat → Stmt
  | .ClassDef _ _ _ body _ _ _ _ _ _ _, j => body.getD j (.Pass ⟨0, 0, 0, 0⟩)
  | s, _ => s
/-- the classes by their names at the top -/
abbrev clK (K : PySem.W.Frag) : Str → Option Addr := fun x => some (He.ga K x)
abbrev FnQ (K : PySem.W.Frag) (x q : Str) (st : Stmt) (f : Addr) (fd : FuncData) : Prop := FunD K x q (defArgs st) (defBody st) (defScope st) [] [] f fd
section
variable {K : PySem.W.Frag} {sa : Addr} {ns : List Int} {c : Ct} {f x y : Str} {l : List Str}
theorem clsF_nil : ∀ x ∈ ([] : List Str), ClsF c x f := fun _ h => nomatch h
theorem clsF_cons (h : ClsF c y f) (t : ∀ x ∈ l, ClsF c x f) : ∀ x ∈ y :: l, ClsF c x f := fun x hx => by
  rcases List.mem_cons.mp hx with rfl | hx
  · exact h
  · exact t x hx
theorem clsF_of (h1 : Cls K (He.ga K x)) (h2 : NoAttr K (He.ga K x) f) : ClsF ⟨K, sa, ns, clK K⟩ x f := ⟨_, rfl, h1, h2⟩
end
end Pm
end
section
set_option Elab.async false
set_option linter.all false
set_option maxRecDepth 100000
set_option maxHeartbeats 4000000
namespace Pm
open PySem PySem.Spec PyProof.Rows L2
/-! ### while, so many turns at the most -/
def whL (t : MT) (b : MS) : Nat → MS
  | 0 => fun _ => no
  | n + 1 => fun ρ => bnd (t ρ) fun k => if k = true then bnd (b ρ) fun y => match y.1 with
      | .nx => whL t b n y.2
      | .ct => whL t b n y.2
      | .bk => ret (.nx, y.2)
      | .rt d => ret (.rt d, y.2)
    else ret (.nx, ρ)
def whileS (t : MT) (b : MS) : MS := whL t b 1000000
theorem ms_while {X : Cx} {c : Ct} {ex : Wh} {pos : Pos} {e : Expr} {bd : List Stmt} {t : MT} {b : MS} (hp : PassesOwn (model X.prog X.w) X.A X.env X.xe) (ht : PT X e (tT c ex t)) (hb : PSs X bd (tS c ex b)) : PS X (.While e bd [] pos) (tS c ex (whileS t b)) := PS_imp (ps_while hp ht hb) fun E σ H q => by
  refine ⟨fun m σ H => ∃ ρ st bs, Rel c bs H st ∧ RE c bs H ρ σ ∧ Post c ex (whL t b m ρ st) bs H fun x _ bs' H' => ∀ σ', RE c bs' H' x.2 σ' → Fin c E bs' H' σ' x.1, ⟨1000000, q⟩, fun m σ H ⟨ρ, st, bs, rl, re, p⟩ => ?_⟩
  cases m with
  | zero => exact p.elim
  | succ m =>
    have p : Post c ex (bnd (t ρ) (fun k => if k = true then bnd (b ρ) fun y => match y.1 with
      | .nx => whL t b m y.2
      | .ct => whL t b m y.2
      | .bk => ret (.nx, y.2)
      | .rt d => ret (.rt d, y.2)
      else ret (.nx, ρ)) st) bs H fun x _ bs' H' => ∀ σ', RE c bs' H' x.2 σ' → Fin c E bs' H' σ' x.1 := p
    refine ⟨ρ, st, bs, rl, re, p.bnd.imp fun k st1 bs1 H1 e1 rl1 p1 => ?_⟩
    cases k with
    | false =>
      rw [if_neg (by simp)] at p1 ⊢
      exact p1.now rl1 σ (re.ext e1)
    | true =>
      rw [if_pos rfl] at p1 ⊢
      refine ⟨fun σ' H' => ∃ ρ st bs, Rel c bs H' st ∧ RE c bs H' ρ σ' ∧ Post c ex (whL t b m ρ st) bs H' fun x _ bs' H' => ∀ σ', RE c bs' H' x.2 σ' → Fin c E bs' H' σ' x.1, fun σ' H' h => ⟨m, Nat.lt_succ_self m, h⟩, ?_⟩
      refine ⟨ρ, st1, bs1, rl1, re.ext e1, p1.bnd.imp fun y st2 bs2 H2 e2 rl2 p2 σ2 re2 => ?_⟩
      obtain ⟨fl, ρ2⟩ := y
      cases fl with
      | nx => exact ⟨ρ2, st2, bs2, rl2, re2, p2⟩
      | ct => exact ⟨ρ2, st2, bs2, rl2, re2, p2⟩
      | bk => exact p2.now rl2 σ2 re2
      | rt d => exact p2.now rl2 σ2 re2
end Pm
end
section
set_option Elab.async false
set_option linter.all false
set_option maxRecDepth 100000
set_option maxHeartbeats 4000000
namespace Pm
open PySem PySem.Spec PyProof.Rows L2
/-! ### x += n of ints -/
def augS (i : Nat) (g : ME) (op : D → D → M D) : MS := fun ρ => match ρ[i]? with
  | some (some d) => bnd (g ρ) fun e => bnd (op d e) fun z => ret (.nx, ρ.set i (some z))
  | _ => no
theorem aug_I {c : Ct} {ex : Wh} {i : Nat} {g : ME} {f : Int → Int → Int} {E : Ends} {σ : L2.St} {H : Hp} (q : tS c ex (augS i g (opI0 fun i j => .int (f i j))) E σ H) : tAug i (tE c ex g) (ipI f) E σ H := by
  obtain ⟨ρ, st, bs, rl, re, p⟩ := q
  unfold augS at p
  cases e : ρ[i]? with
  | none => rw [e] at p; exact p.elim
  | some o =>
    cases o with
    | none => rw [e] at p; exact p.elim
    | some d =>
      rw [e] at p
      obtain ⟨v, hv, r⟩ := re.val i d e
      refine ⟨v, hv, ρ, st, bs, rl, re, p.bnd.imp fun y st1 bs1 H1 e1 rl1 p1 vy ry => ?_⟩
      have r := r.ext e1
      cases r with
      | int a =>
        cases ry with
        | int b => exact ⟨a, b, rfl, rfl, p1.now rl1 _ ((re.ext e1).set (.int (f a b)) i)⟩
        | _ => exact p1.elim
      | _ => exact p1.elim
theorem ms_augA {X : Cx} {c : Ct} {ex : Wh} {pos pos' : Pos} {i : Nat} {x : Str} {e : Expr} {g : ME} (hN : X.N.Nodup) (he : PE X e (tE c ex g)) (hi : X.N[i]? = some x := by rfl) (hx : Loc X.env.scope x := by first | exact Or.inl rfl | exact Or.inr rfl) (hf : X.fn x = true ∨ X.env.scope.names.lookup x = some .local := by first | exact .inl rfl | exact .inr rfl) :
    PS X (.AugAssign (.Name x pos') .Add e pos) (tS c ex (augS i g (opI0 fun i j => .int (i + j)))) := PS_imp (ps_aug hN hi hx he ip_add hf) fun E σ H q => aug_I q
theorem ms_augM {X : Cx} {c : Ct} {ex : Wh} {pos pos' : Pos} {i : Nat} {x : Str} {e : Expr} {g : ME} (hN : X.N.Nodup) (he : PE X e (tE c ex g)) (hi : X.N[i]? = some x := by rfl) (hx : Loc X.env.scope x := by first | exact Or.inl rfl | exact Or.inr rfl) (hf : X.fn x = true ∨ X.env.scope.names.lookup x = some .local := by first | exact .inl rfl | exact .inr rfl) :
    PS X (.AugAssign (.Name x pos') .Sub e pos) (tS c ex (augS i g (opI0 fun i j => .int (i - j)))) := PS_imp (ps_aug hN hi hx he ip_sub hf) fun E σ H q => aug_I q
end Pm
end
section
set_option Elab.async false
set_option linter.all false
set_option maxRecDepth 100000
set_option maxHeartbeats 4000000
namespace Pm
open PySem PySem.Spec PyProof.Rows L2
/-! ### int(a text) -/
def bIntX : List D → M D
  | [.int i] => ret (.int i)
  | [.bl k] => ret (.int (if k then 1 else 0))
  | [.str a] => match PySem.intText? a with
    | some n => if a.length ≤ 640 then ret (.int n) else no
    | none => no
  | _ => no
theorem cb_intX {X : Cx} {c : Ct} {ex : Wh} : CB X c ex (.type "int") bIntX := ⟨_, call_int1.or call_int_str, by
  intro vs ds bs H st Q r rl p
  match ds, r, p with
  | [.int i], .cons (.int _) .nil, p => exact .inl (.inl ⟨_, rfl, p.now rl _ (.int _)⟩)
  | [.bl i], .cons (.bl _) .nil, p => exact .inl (.inr ⟨_, rfl, p.now rl _ (.int _)⟩)
  | [.str a], .cons (.str _) .nil, p =>
    unfold bIntX at p
    cases e : PySem.intText? a with
    | none => simp only [e] at p; exact p.elim
    | some n =>
      simp only [e] at p
      obtain ⟨h, p⟩ := Post.iff (m := ret _) p
      exact .inr ⟨a, n, rfl, e, h, p.now rl _ (.int _)⟩⟩
end Pm
end
section
set_option Elab.async false
set_option linter.all false
set_option maxRecDepth 100000
set_option maxHeartbeats 4000000
namespace Pm
open PySem PySem.Spec PyProof.Rows L2
/-! ### a, b, c = x, y, z -/
def tPar3 (i j k : Nat) (ta : TA) : TS := fun D σ H => ta σ H fun vs H1 => ∃ v w x, vs = [v, w, x] ∧ D.nx (((σ.set i (some v)).set j (some w)).set k (some x)) H1
theorem ps_par3 {X : Cx} {pos : Pos} {i j k : Nat} {x y z : Str} {a b e : Expr} {ta : TA} {px py pz pt : Pos} {kt k2 pt2} (hc : X.calm = true) (hN : X.N.Nodup) (hi : X.N[i]? = some x) (hj : X.N[j]? = some y) (hk : X.N[k]? = some z) (hij : i ≠ j) (hik : i ≠ k) (hjk : j ≠ k)
    (hx : X.env.scope.names.lookup x = some .local) (hy : X.env.scope.names.lookup y = some .local) (hz : X.env.scope.names.lookup z = some .local) (ha : PA X [a, b, e] ta)
    (hw : swappedStores [.Tuple [.Name x px, .Name y py, .Name z pz] kt pt] (.Tuple [a, b, e] k2 pt2) X.env = pure (some [x, y, z]))
    (hs : swapsWithSole [.Tuple [.Name x px, .Name y py, .Name z pz] kt pt] (.Tuple [a, b, e] k2 pt2) pos.line X.env = pure false := by rfl) :
    PS X (.Assign [.Tuple [.Name x px, .Name y py, .Name z pz] kt pt] (.Tuple [a, b, e] k2 pt2) pos) (tPar3 i j k ta) := by
  refine ⟨fun pins s σ H D I h => ?_⟩
  rw [exec_Assign_arm]
  refine wpAny_bind (wpAny_standAt ?_)
  rw [hs]
  refine wpAny_bind (wpAny_pure ?_)
  rw [if_neg (by decide)]
  refine wpAny_bind (Tuple_ (thn (ha.run _ pins s σ H _ I h) fun us s1 ⟨vs, H1, I1, r1, q1⟩ => ?_))
  obtain ⟨v, w, u, e1, q1⟩ := q1
  subst e1
  obtain ⟨u1, u2, u3, rfl, rv, rw', ru⟩ : ∃ u1 u2 u3, us = [u1, u2, u3] ∧ RelV v u1 ∧ RelV w u2 ∧ RelV u u3 := by
    cases r1 with
    | cons p q =>
      cases q with
      | cons p' q' =>
        cases q' with
        | cons p'' q'' =>
          cases q''
          exact ⟨_, _, _, rfl, p, p', p''⟩
  refine wpAny_newObj_type ?_ (by show 3 ≤ sizeLine; rw [sizeLine_eq]; decide)
  have I2 : Inv X pins σ H1 { s1 with heap := s1.heap.push { cls := .type "tuple", data := .seq [u1, u2, u3].toArray } } := I1.kept (t' := s1.toks) fun b o e => Heap.get?_push_of_some _ e
  rw [hw]
  refine wpAny_bind (wpAny_pure ?_)
  show wpAny (model X.prog X.w) X.A (do rule "assign.swapped-stores"; let items ← unpackItems (.ref s1.heap.objs.size) 3 none; assignInOrder [fun v => bindName X.env z v, fun v => bindName X.env y v, fun v => bindName X.env x v] items.reverse; pure Flow.next) _ _ _
  refine wpAny_bind (wpAny_rule (wpAny_bind (unpackItems_tuple (items := #[u1, u2, u3]) (I.ok.hd hc) (IsTup.new s1.heap _) fun h' hx' => ?_)))
  have I3 := I2.kept (h' := h') (t' := s1.toks) fun b o e => hx' b o (Nat.ne_of_lt (Heap.lt_size e)) e
  show wpAny _ _ (assignInOrder [fun v => bindName X.env z v, fun v => bindName X.env y v, fun v => bindName X.env x v] [u3, u2, u1] >>= fun _ => pure Flow.next) _ _ _
  refine wpAny_bind (assignInOrder_cons (wpAny_bindName (store_ok I3 hN hk (.inl hz) ru (fun s2 I4 => ?_) (.inr hz))))
  refine assignInOrder_cons (wpAny_bindName (store_ok I4 hN hj (.inl hy) rw' (fun s3 I5 => ?_) (.inr hy)))
  refine assignInOrder_cons (wpAny_bindName (store_ok I5 hN hi (.inl hx) rv (fun s4 I6 => assignInOrder_nil (wpAny_pure ?_)) (.inr hx)))
  rw [List.set_comm _ _ (Ne.symm hij), List.set_comm _ _ (Ne.symm hik), List.set_comm _ _ (Ne.symm hjk)] at I6
  exact ⟨_, H1, I6, q1⟩
def par3S (i j k : Nat) (g : MA) : MS := fun ρ => bnd (g ρ) fun ds => match ds with
  | [d, e, f] => ret (.nx, ((ρ.set i (some d)).set j (some e)).set k (some f))
  | _ => no
theorem ms_par3 {X : Cx} {c : Ct} {ex : Wh} {pos : Pos} {i j k : Nat} {x y z : Str} {a b e : Expr} {g : MA} {px py pz pt : Pos} {kt k2 pt2} (hc : X.calm = true) (hN : X.N.Nodup) (hd : i ≠ j ∧ i ≠ k ∧ j ≠ k) (ha : PA X [a, b, e] (tA c ex g))
    (hi : X.N[i]? = some x := by rfl) (hj : X.N[j]? = some y := by rfl) (hk : X.N[k]? = some z := by rfl)
    (hx : X.env.scope.names.lookup x = some .local := by rfl) (hy : X.env.scope.names.lookup y = some .local := by rfl) (hz : X.env.scope.names.lookup z = some .local := by rfl)
    (hw : swappedStores [.Tuple [.Name x px, .Name y py, .Name z pz] kt pt] (.Tuple [a, b, e] k2 pt2) X.env = pure (some [x, y, z]) := by rfl)
    (hs : swapsWithSole [.Tuple [.Name x px, .Name y py, .Name z pz] kt pt] (.Tuple [a, b, e] k2 pt2) pos.line X.env = pure false := by rfl) :
    PS X (.Assign [.Tuple [.Name x px, .Name y py, .Name z pz] kt pt] (.Tuple [a, b, e] k2 pt2) pos) (tS c ex (par3S i j k g)) := PS_imp (ps_par3 hc hN hi hj hk hd.1 hd.2.1 hd.2.2 hx hy hz ha hw hs) fun E σ H q => by
  obtain ⟨ρ, st, bs, rl, re, p⟩ := q
  refine ⟨ρ, st, bs, rl, re, p.bnd.imp fun ds st1 bs1 H1 e1 rl1 p1 vs rvs => ?_⟩
  match ds, rvs, p1 with
  | [d1, d2, d3], .cons r1 (.cons r2 (.cons r3 .nil)), p1 =>
    exact ⟨_, _, _, rfl, p1.now rl1 _ ((((re.ext e1).set r1 i).set r2 j).set r3 k)⟩
end Pm
end
section
set_option Elab.async false
set_option linter.all false
set_option maxRecDepth 100000
namespace Pm
open PySem PyProof.Rows L2 He HandSHeadRun
/-! ### what is looked at behind the top's run: at written addresses -/
def obY (ps : List Addr) (fs : List Fa) (ds : List DefD) (us : List Tab) (eb : PySem.W.Frag → Bool) (look : Addr → Option Obj) : AlX :=
  let F := He.frT look ps
  (obsT fs ds us F, eb F)
theorem saysY {ps : List Addr} {fs : List Fa} {ds : List DefD} {us : List Tab} {eb : PySem.W.Frag → Bool} {w : World} {hp : Heap} (e : obY ps fs ds us eb hp.get? = valX ds us w) : SaysX fs ds us [] eb w hp (He.frT hp.get? ps) where
  t := (Prod.ext_iff.mp e).1
  more := (Prod.ext_iff.mp e).2
  hd := fun _ z => nomatch z
  out := fun _ z => nomatch z
  empty := fun _ z => nomatch z
def hookY (ps : List Addr) (fs : List Fa) (ds : List DefD) (us : List Tab) (eb : PySem.W.Frag → Bool) : PySem.W.Hook :=
  { α := AlX
    obs := fun sh => obY ps fs ds us eb sh.heap.get?
    val := valX ds us
    says := fun w hp => ∃ F : PySem.W.Frag, F.In hp ∧ SaysX fs ds us [] eb w hp F
    of := fun _ sh e => ⟨He.frT sh.heap.get? ps, He.frT_in, saysY e⟩
    keeps := fun _ _ _ ⟨F, i, c⟩ k => ⟨F, i.keeps k, { t := c.t, more := c.more, hd := c.hd, out := c.out, empty := fun _ z => nomatch z }⟩ }
theorem obY_eq {ps : List Addr} {fs : List Fa} {ds : List DefD} {us : List Tab} {eb : PySem.W.Frag → Bool} (s : PySem.W.SharedT) : obY ps fs ds us eb (getT s) = (hookY ps fs ds us eb).obs s.abs := by
  rw [show getT s = s.abs.heap.get? from funext fun a => getT_eq s a]
  rfl
/-- looks at one run, told one by one -/
theorem lookAll {α β γ δ : Type} {e : Option α} {f : α → β} {f' : α → γ} {g : α → δ} {x : β} {y : γ} {z : δ} (h1 : e.map (fun s => (f s, f' s)) = some (x, y)) (h2 : e.map g = some z) : e.map (fun s => (f s, f' s, g s)) = some (x, y, z) := by
  cases e with
  | none => cases h1
  | some s =>
    have a : (f s, f' s) = (x, y) := Option.some.inj h1
    have b : g s = z := Option.some.inj h2
    obtain ⟨a1, a2⟩ := Prod.ext_iff.mp a
    subst b
    subst a1
    subst a2
    rfl
end Pm
end
section
set_option Elab.async false
set_option linter.all false
set_option maxRecDepth 100000
set_option maxHeartbeats 4000000
namespace Lk15
open PySem PySem.Spec PyProof.Rows L2 Pm
def top (i : Nat) : Stmt := PySem.Challenge.pw_onestillview_k15_beats_by_hand.main.body.getD i (.Pass ⟨0, 0, 0, 0⟩)
def kd_PARTS : List (Str × D) := [("mine", .int (0)), ("others", .int (0)), ("size", .int (0)), ("ahead", .int (0)), ("behind", .int (0)), ("count", .int (1)), ("marked", .int (2)), ("room", .int (1)), ("plus", .int (2)), ("less", .int (2)), ("same", .int (2)), ("half", .int (1)), ("turn", .int (1)), ("pick", .int (3))]
def k_FIGURES : D := .str "0123456789"
def k_LETTERS : D := .str "abcdefghijklmnopqrstuvwxyz"
def k_LINE_WORDS : D := .tup [.str "marks", .str "let", .str "step", .str "mark"]
def k_KINDS : D := .tup [.str "full", .str "one", .str "some", .str "eras"]
def tab_Program : List (Str × Bool) := [("Program", true)]
abbrev s_law_pot : Stmt := top 83
theorem sc_law_pot : FnScope ["script", "place", "cell", "own", "small"] ["script", "place"] (defScope s_law_pot) := ⟨rfl, rfl, rfl, by decide +kernel, rfl, by decide +kernel, by decide +kernel⟩
def b_law_pot (ns : List Int) : MS := (seqS (setS (.nm 2) (ifE (tstB (bin (rd 1) (appA (conA (rd 0) nilA) (bLen ns)) opLt)) (bin (rd 0) (rd 1) (opIx ns)) (bin (bin (bin (appA (conA (appA (conA (sli (rd 0) noP (som (kon (.int 1))) (opSl ns)) nilA) bSum) nilA) bInt) (kon (.int 1000003)) opMod) (bin (kon (.int 1451)) (rd 1) opMul) opAdd) (kon (.int 1121)) opAdd))) (seqS (setS (.nm 3) (bin (bin (appA (conA (appA (conA (rd 2) nilA) bAbs) nilA) bInt) (bin (bin (kon (.int 10)) (kon (.int 60)) opPow) (kon (.int 5)) opPow) opMod) (appA (conA (bin (appA (conA (rd 2) nilA) bAbs) (bin (kon (.int 10)) (kon (.int 18)) opPow) opGe) nilA) bInt) opMul)) (seqS (setS (.nm 4) (bin (appA (conA (rd 2) nilA) bInt) (kon (.int 2305843009213693951)) opMod)) (retS (lstE (conA (rd 3) (conA (bin (appA (conA (bin (bin (bin (rd 4) (kon (.int 85871)) opMul) (bin (bin (kon (.int 10081)) (rd 1) opMul) (rd 1) opMul) opAdd) (kon (.int 609)) opAdd) nilA) bInt) (kon (.int 2305843009213693921)) opMod) (conA (kon (.int 0)) nilA))))))))
def m_law_pot (ns : List Int) : List D → M D := runB 5 (b_law_pot ns)
abbrev s_law_cells : Stmt := top 86
theorem sc_law_cells : FnScope ["script", "limit"] ["script", "limit"] (defScope s_law_cells) := ⟨rfl, rfl, rfl, by decide +kernel, rfl, by decide +kernel, by decide +kernel⟩
def b_law_cells (ns : List Int) : MS := (retS (una (appA (conA (kon (.int 1)) (conA (appA (conA (rd 1) (conA (appA (conA (rd 0) nilA) (bLen ns)) nilA)) bMin) nilA)) bMax) bRg1))
def m_law_cells (ns : List Int) : List D → M D := runB 2 (b_law_cells ns)
abbrev s_has_only : Stmt := top 44
theorem sc_has_only : FnScope ["signs", "word", "sign"] ["signs", "word"] (defScope s_has_only) := ⟨rfl, rfl, rfl, by decide +kernel, rfl, by decide +kernel, by decide +kernel⟩
def b_has_only (ns : List Int) : MS := (retS (andV (bin (rd 1) (kon (.str "")) opNe) (appA (conA (lcE (iterA (rd 1)) (.nm 2) yesT (bin (rd 2) (rd 0) opIn) [2]) nilA) bAll)))
def m_has_only (ns : List Int) : List D → M D := runB 3 (b_has_only ns)
abbrev s_is_written : Stmt := top 45
theorem sc_is_written : FnScope ["word", "most", "figures"] ["word", "most"] (defScope s_is_written) := ⟨rfl, rfl, rfl, by decide +kernel, rfl, by decide +kernel, by decide +kernel⟩
def b_is_written (ns : List Int) : MS := (seqS (setS (.nm 2) (met1 (rd 0) (kon (.str "-")) opRemP)) (seqS (ifS (orT (tstB (bin (appA (conA (rd 2) nilA) (bLen ns)) (rd 1) opGt)) (notT (tstV (calE (conA (kon k_FIGURES) (conA (rd 2) nilA)) (ofLen 2 (m_has_only ns)))))) (retS (kon (.bl false))) nxS) (retS (orV (bin (rd 0) (kon (.str "0")) opEq) (notV (met1 (rd 2) (kon (.str "0")) opStarts))))))
def m_is_written (ns : List Int) : List D → M D := runB 3 (b_is_written ns)
abbrev s_is_figures : Stmt := top 46
theorem sc_is_figures : FnScope ["word"] ["word"] (defScope s_is_figures) := ⟨rfl, rfl, rfl, by decide +kernel, rfl, by decide +kernel, by decide +kernel⟩
def b_is_figures (ns : List Int) : MS := (retS (calE (conA (rd 0) (conA (kon (.int 2)) nilA)) (ofLen 2 (m_is_written ns))))
def m_is_figures (ns : List Int) : List D → M D := runB 1 (b_is_figures ns)
abbrev s_parts_of : Stmt := top 48
theorem sc_parts_of : FnScope ["word", "names"] ["word", "names"] (defScope s_parts_of) := ⟨rfl, rfl, rfl, by decide +kernel, rfl, by decide +kernel, by decide +kernel⟩
def b_parts_of (ns : List Int) : MS := (seqS (ifS (orT (tstV (calE (conA (rd 0) nilA) (ofLen 1 (m_is_figures ns)))) (tstB (bin (rd 0) (rd 1) opIn))) (retS (kon (.int 0))) nxS) (retS (una (rd 0) fun y => cGet kd_PARTS y .non)))
def m_parts_of (ns : List Int) : List D → M D := runB 2 (b_parts_of ns)
abbrev s_is_expression : Stmt := top 49
theorem sc_is_expression : FnScope ["words", "names", "depths", "word", "many"] ["words", "names"] (defScope s_is_expression) := ⟨rfl, rfl, rfl, by decide +kernel, rfl, by decide +kernel, by decide +kernel⟩
def b_is_expression (ns : List Int) : MS := (seqS (setS (.nm 2) (lstE nilA)) (seqS (forS (revA (rd 0)) (.nm 3) (seqS (setS (.nm 4) (calE (conA (rd 3) (conA (rd 1) nilA)) (ofLen 2 (m_parts_of ns)))) (seqS (ifS (orT (tstB (bin (rd 4) (kon .non) opIs)) (tstB (bin (rd 4) (appA (conA (rd 2) nilA) (bLen ns)) opGt))) (retS (kon (.bl false))) nxS) (setS (.nm 2) (bin (lstE (conA (bin (kon (.int 1)) (bin (sli (rd 2) noP (som (rd 4)) (opSl ns)) (kon (.int 0)) (opBestD true)) opAdd) nilA)) (sli (rd 2) (som (rd 4)) noP (opSl ns)) opAdd))))) (retS (andV (bin (appA (conA (rd 2) nilA) (bLen ns)) (kon (.int 1)) opEq) (bin (bin (rd 2) (kon (.int 0)) (opIx ns)) (kon (.int 10)) opLe)))))
def m_is_expression (ns : List Int) : List D → M D := runB 5 (b_is_expression ns)
abbrev s_is_new_name : Stmt := top 47
theorem sc_is_new_name : FnScope ["word", "names"] ["word", "names"] (defScope s_is_new_name) := ⟨rfl, rfl, rfl, by decide +kernel, rfl, by decide +kernel, by decide +kernel⟩
def b_is_new_name (ns : List Int) : MS := (seqS (ifS (orT (tstB (bin (appA (conA (rd 0) nilA) (bLen ns)) (kon (.int 6)) opGt)) (orT (notT (tstV (calE (conA (bin (kon k_LETTERS) (kon k_FIGURES) opAdd) (conA (rd 0) nilA)) (ofLen 2 (m_has_only ns))))) (tstB (bin (bin (rd 0) (kon (.int 0)) (opIx ns)) (kon k_FIGURES) opIn)))) (retS (kon (.bl false))) nxS) (retS (andV (bin (rd 0) (kon k_LINE_WORDS) opNotIn) (andV (una (rd 0) (cIn true kd_PARTS)) (bin (rd 0) (rd 1) opNotIn)))))
def m_is_new_name (ns : List Int) : List D → M D := runB 2 (b_is_new_name ns)
abbrev s_is_let_line : Stmt := top 50
theorem sc_is_let_line : FnScope ["words", "names"] ["words", "names"] (defScope s_is_let_line) := ⟨rfl, rfl, rfl, by decide +kernel, rfl, by decide +kernel, by decide +kernel⟩
def b_is_let_line (ns : List Int) : MS := (seqS (ifS (orT (tstB (bin (appA (conA (rd 0) nilA) (bLen ns)) (kon (.int 2)) opLtX)) (tstB (bin (appA (conA (rd 1) nilA) (bLen ns)) (kon (.int 6)) opEq))) (retS (kon (.bl false))) nxS) (retS (andV (calE (conA (bin (rd 0) (kon (.int 1)) (opIx ns)) (conA (rd 1) nilA)) (ofLen 2 (m_is_new_name ns))) (calE (conA (sli (rd 0) (som (kon (.int 2))) noP (opSl ns)) (conA (rd 1) nilA)) (ofLen 2 (m_is_expression ns))))))
def m_is_let_line (ns : List Int) : List D → M D := runB 2 (b_is_let_line ns)
abbrev s_can_stand : Stmt := top 51
theorem sc_can_stand : FnScope ["words", "names"] ["words", "names"] (defScope s_can_stand) := ⟨rfl, rfl, rfl, by decide +kernel, rfl, by decide +kernel, by decide +kernel⟩
def b_can_stand (ns : List Int) : MS := (seqS (ifS (tstB (bin (appA (conA (rd 0) nilA) (bLen ns)) (kon (.int 40)) opGt)) (retS (kon (.bl false))) nxS) (seqS (ifS (tstB (bin (bin (rd 0) (kon (.int 0)) (opIx ns)) (kon (.str "marks")) opEq)) (retS (andV (bin (appA (conA (rd 0) nilA) (bLen ns)) (kon (.int 2)) opEq) (bin (bin (rd 0) (kon (.int 1)) (opIx ns)) (tupE (conA (kon (.str "1")) (conA (kon (.str "2")) (conA (kon (.str "3")) (conA (kon (.str "4")) nilA))))) opIn))) nxS) (seqS (ifS (tstB (bin (bin (rd 0) (kon (.int 0)) (opIx ns)) (kon (.str "let")) opEq)) (retS (calE (conA (rd 0) (conA (rd 1) nilA)) (ofLen 2 (m_is_let_line ns)))) nxS) (retS (calE (conA (sli (rd 0) (som (kon (.int 1))) noP (opSl ns)) (conA (rd 1) nilA)) (ofLen 2 (m_is_expression ns)))))))
def m_can_stand (ns : List Int) : List D → M D := runB 2 (b_can_stand ns)
abbrev s_awaited_behind : Stmt := top 52
theorem sc_awaited_behind : FnScope ["word"] ["word"] (defScope s_awaited_behind) := ⟨rfl, rfl, rfl, by decide +kernel, rfl, by decide +kernel, by decide +kernel⟩
def b_awaited_behind (ns : List Int) : MS := (seqS (ifS (tstB (bin (rd 0) (tupE (conA (kon (.str "marks")) (conA (kon (.str "let")) nilA))) opIn)) (retS (tupE (conA (kon (.str "let")) (conA (kon (.str "step")) nilA)))) nxS) (retS (ifE (tstB (bin (rd 0) (kon (.str "step")) opEq)) (tupE (conA (kon (.str "mark")) nilA)) (tupE nilA))))
def m_awaited_behind (ns : List Int) : List D → M D := runB 1 (b_awaited_behind ns)
abbrev s_read_lines : Stmt := top 53
theorem sc_read_lines : FnScope ["text", "lines", "names", "awaited", "number", "words", "line"] ["text"] (defScope s_read_lines) := ⟨rfl, rfl, rfl, by decide +kernel, rfl, by decide +kernel, by decide +kernel⟩
def b_read_lines (ns : List Int) : MS := (seqS (ifS (notT (tstV (una (rd 0) (isi "str")))) nevS nxS) (seqS (setS (.nm 1) (lcE (iterA (met1 (rd 0) (kon (.str "\n")) opSplit)) (.nm 6) yesT (met1 (rd 6) (kon (.str " ")) opSplit) [6])) (seqS (setS (.nm 2) (lstE nilA)) (seqS (setS (.nm 3) (tupE (conA (kon (.str "marks")) nilA))) (seqS (forS (enuS (rd 1) 1) (.tp [(.nm 4), (.nm 5)]) (seqS (ifS (orT (tstB (bin (bin (rd 5) (kon (.int 0)) (opIx ns)) (rd 3) opNotIn)) (notT (tstV (calE (conA (rd 5) (conA (rd 2) nilA)) (ofLen 2 (m_can_stand ns)))))) nevS nxS) (seqS (ifS (tstB (bin (bin (rd 5) (kon (.int 0)) (opIx ns)) (kon (.str "let")) opEq)) (dropS (meth (rd 2) (conA (bin (rd 5) (kon (.int 1)) (opIx ns)) nilA) mAppend)) nxS) (setS (.nm 3) (calE (conA (bin (rd 5) (kon (.int 0)) (opIx ns)) nilA) (ofLen 1 (m_awaited_behind ns))))))) (seqS (ifS (tstV (rd 3)) nevS nxS) (retS (rd 1))))))))
def m_read_lines (ns : List Int) : List D → M D := runB 7 (b_read_lines ns)
abbrev s_read_expression : Stmt := top 54
theorem sc_read_expression : FnScope ["words", "word"] ["words"] (defScope s_read_expression) := ⟨rfl, rfl, rfl, by decide +kernel, rfl, by decide +kernel, by decide +kernel⟩
def b_read_expression (ns : List Int) : MS := (retS (appA (conA (lcE (iterA (rd 0)) (.nm 1) yesT (ifE (tstV (calE (conA (rd 1) nilA) (ofLen 1 (m_is_figures ns)))) (appA (conA (rd 1) nilA) bIntX) (rd 1)) [1]) nilA) bTuple))
def m_read_expression (ns : List Int) : List D → M D := runB 2 (b_read_expression ns)
abbrev s_Program___init__ : Stmt := L2.inClass (top 55) 0
theorem sc_Program___init__ : FnScope ["self", "text", "lines", "words"] ["self", "text"] (defScope s_Program___init__) := ⟨rfl, rfl, rfl, by decide +kernel, rfl, by decide +kernel, by decide +kernel⟩
def b_Program___init__ (ns : List Int) : MS := (seqS (setS (.nm 2) (calE (conA (rd 1) nilA) (ofLen 1 (m_read_lines ns)))) (seqS (fldS (rd 0) (rd 1) ["Program"] "text") (seqS (fldS (rd 0) (appA (conA (bin (bin (rd 2) (kon (.int 0)) (opIx ns)) (kon (.int 1)) (opIx ns)) nilA) bIntX) ["Program"] "marks") (seqS (fldS (rd 0) (appA (conA (lcE (iterA (sli (rd 2) (som (kon (.int 1))) (som (una (kon (.int 2)) opNeg)) (opSl ns))) (.nm 3) yesT (tupE (conA (bin (rd 3) (kon (.int 1)) (opIx ns)) (conA (calE (conA (sli (rd 3) (som (kon (.int 2))) noP (opSl ns)) nilA) (ofLen 1 (m_read_expression ns))) nilA))) [3]) nilA) bTuple) ["Program"] "lets") (seqS (fldS (rd 0) (calE (conA (sli (bin (rd 2) (una (kon (.int 2)) opNeg) (opIx ns)) (som (kon (.int 1))) noP (opSl ns)) nilA) (ofLen 1 (m_read_expression ns))) ["Program"] "for_step") (fldS (rd 0) (calE (conA (sli (bin (rd 2) (una (kon (.int 1)) opNeg) (opIx ns)) (som (kon (.int 1))) noP (opSl ns)) nilA) (ofLen 1 (m_read_expression ns))) ["Program"] "for_mark"))))))
def m_Program___init__ (ns : List Int) : List D → M D := runB 4 (b_Program___init__ ns)
abbrev s_is_integer : Stmt := top 13
theorem sc_is_integer : FnScope ["value"] ["value"] (defScope s_is_integer) := ⟨rfl, rfl, rfl, by decide +kernel, rfl, by decide +kernel, by decide +kernel⟩
def b_is_integer (ns : List Int) : MS := (retS (andV (una (rd 0) (isi "int")) (notV (una (rd 0) (isi "bool")))))
def m_is_integer (ns : List Int) : List D → M D := runB 1 (b_is_integer ns)
abbrev s_is_within : Stmt := top 14
theorem sc_is_within : FnScope ["value", "low", "high"] ["value", "low", "high"] (defScope s_is_within) := ⟨rfl, rfl, rfl, by decide +kernel, rfl, by decide +kernel, by decide +kernel⟩
def b_is_within (ns : List Int) : MS := (retS (andV (calE (conA (rd 0) nilA) (ofLen 1 (m_is_integer ns))) (chn (rd 1) (rd 0) (rd 2) opLe opLe)))
def m_is_within (ns : List Int) : List D → M D := runB 3 (b_is_within ns)
abbrev s_is_ascending : Stmt := top 16
theorem sc_is_ascending : FnScope ["value", "one", "other"] ["value"] (defScope s_is_ascending) := ⟨rfl, rfl, rfl, by decide +kernel, rfl, by decide +kernel, by decide +kernel⟩
def b_is_ascending (ns : List Int) : MS := (retS (appA (conA (lcE (zipI (rd 0) (sli (rd 0) (som (kon (.int 1))) noP (opSl ns))) (.tp [(.nm 1), (.nm 2)]) yesT (bin (rd 1) (rd 2) opLtX) [1, 2]) nilA) bAll))
def m_is_ascending (ns : List Int) : List D → M D := runB 3 (b_is_ascending ns)
abbrev s_is_lot : Stmt := top 23
theorem sc_is_lot : FnScope ["many", "value", "walker"] ["many", "value"] (defScope s_is_lot) := ⟨rfl, rfl, rfl, by decide +kernel, rfl, by decide +kernel, by decide +kernel⟩
def b_is_lot (ns : List Int) : MS := (seqS (ifS (orT (notT (tstV (una (rd 1) (isi "tuple")))) (tstB (bin (appA (conA (rd 1) nilA) (bLen ns)) (kon (.int 0)) opEq))) (retS (kon (.bl false))) nxS) (retS (andV (appA (conA (lcE (iterA (rd 1)) (.nm 2) yesT (calE (conA (rd 2) (conA (kon (.int 0)) (conA (bin (rd 0) (kon (.int 1)) opSub) nilA))) (ofLen 3 (m_is_within ns))) [2]) nilA) bAll) (calE (conA (rd 1) nilA) (ofLen 1 (m_is_ascending ns))))))
def m_is_lot (ns : List Int) : List D → M D := runB 3 (b_is_lot ns)
abbrev s_is_tuple_of : Stmt := top 15
theorem sc_is_tuple_of : FnScope ["value", "many"] ["value", "many"] (defScope s_is_tuple_of) := ⟨rfl, rfl, rfl, by decide +kernel, rfl, by decide +kernel, by decide +kernel⟩
def b_is_tuple_of (ns : List Int) : MS := (retS (andV (una (rd 0) (isi "tuple")) (bin (appA (conA (rd 0) nilA) (bLen ns)) (rd 1) opEq)))
def m_is_tuple_of (ns : List Int) : List D → M D := runB 2 (b_is_tuple_of ns)
abbrev s_is_floor : Stmt := top 19
theorem sc_is_floor : FnScope ["value", "kind", "size"] ["value"] (defScope s_is_floor) := ⟨rfl, rfl, rfl, by decide +kernel, rfl, by decide +kernel, by decide +kernel⟩
def b_is_floor (ns : List Int) : MS := (seqS (ifS (notT (tstV (calE (conA (rd 0) (conA (kon (.int 2)) nilA)) (ofLen 2 (m_is_tuple_of ns))))) (retS (kon (.bl false))) nxS) (seqS (setS (.tp [(.nm 1), (.nm 2)]) (rd 0)) (seqS (ifS (tstB (bin (rd 1) (kon (.str "ring")) opEq)) (retS (calE (conA (rd 2) (conA (kon (.int 3)) (conA (kon (.int 8)) nilA))) (ofLen 3 (m_is_within ns)))) nxS) (retS (andV (bin (rd 1) (kon (.str "row")) opEq) (calE (conA (rd 2) (conA (kon (.int 1)) (conA (kon (.int 8)) nilA))) (ofLen 3 (m_is_within ns))))))))
def m_is_floor (ns : List Int) : List D → M D := runB 3 (b_is_floor ns)
abbrev s_check_floor : Stmt := top 25
theorem sc_check_floor : FnScope ["value"] ["value"] (defScope s_check_floor) := ⟨rfl, rfl, rfl, by decide +kernel, rfl, by decide +kernel, by decide +kernel⟩
def b_check_floor (ns : List Int) : MS := (ifS (notT (tstV (calE (conA (rd 0) nilA) (ofLen 1 (m_is_floor ns))))) nevS nxS)
def m_check_floor (ns : List Int) : List D → M D := runB 1 (b_check_floor ns)
abbrev s_is_mark : Stmt := top 17
theorem sc_is_mark : FnScope ["value"] ["value"] (defScope s_is_mark) := ⟨rfl, rfl, rfl, by decide +kernel, rfl, by decide +kernel, by decide +kernel⟩
def b_is_mark (ns : List Int) : MS := (retS (calE (conA (rd 0) (conA (kon (.int 0)) (conA (kon (.int 3)) nilA))) (ofLen 3 (m_is_within ns))))
def m_is_mark (ns : List Int) : List D → M D := runB 1 (b_is_mark ns)
abbrev s_is_sense : Stmt := top 18
theorem sc_is_sense : FnScope ["value"] ["value"] (defScope s_is_sense) := ⟨rfl, rfl, rfl, by decide +kernel, rfl, by decide +kernel, by decide +kernel⟩
def b_is_sense (ns : List Int) : MS := (retS (andV (calE (conA (rd 0) (conA (una (kon (.int 1)) opNeg) (conA (kon (.int 1)) nilA))) (ofLen 3 (m_is_within ns))) (bin (rd 0) (kon (.int 0)) opNe)))
def m_is_sense (ns : List Int) : List D → M D := runB 1 (b_is_sense ns)
abbrev s_is_place : Stmt := top 20
theorem sc_is_place : FnScope ["floor", "value"] ["floor", "value"] (defScope s_is_place) := ⟨rfl, rfl, rfl, by decide +kernel, rfl, by decide +kernel, by decide +kernel⟩
def b_is_place (ns : List Int) : MS := (retS (calE (conA (rd 1) (conA (kon (.int 0)) (conA (bin (bin (rd 0) (kon (.int 1)) (opIx ns)) (kon (.int 1)) opSub) nilA))) (ofLen 3 (m_is_within ns))))
def m_is_place (ns : List Int) : List D → M D := runB 2 (b_is_place ns)
abbrev s_is_placed : Stmt := top 21
theorem sc_is_placed : FnScope ["floor", "value", "place", "mark", "sense"] ["floor", "value"] (defScope s_is_placed) := ⟨rfl, rfl, rfl, by decide +kernel, rfl, by decide +kernel, by decide +kernel⟩
def b_is_placed (ns : List Int) : MS := (seqS (ifS (notT (tstV (calE (conA (rd 1) (conA (kon (.int 3)) nilA)) (ofLen 2 (m_is_tuple_of ns))))) (retS (kon (.bl false))) nxS) (seqS (setS (.tp [(.nm 2), (.nm 3), (.nm 4)]) (rd 1)) (retS (andV (calE (conA (rd 0) (conA (rd 2) nilA)) (ofLen 2 (m_is_place ns))) (andV (calE (conA (rd 3) nilA) (ofLen 1 (m_is_mark ns))) (calE (conA (rd 4) nilA) (ofLen 1 (m_is_sense ns))))))))
def m_is_placed (ns : List Int) : List D → M D := runB 5 (b_is_placed ns)
abbrev s_is_standing : Stmt := top 22
theorem sc_is_standing : FnScope ["floor", "value", "entry"] ["floor", "value"] (defScope s_is_standing) := ⟨rfl, rfl, rfl, by decide +kernel, rfl, by decide +kernel, by decide +kernel⟩
def b_is_standing (ns : List Int) : MS := (seqS (ifS (orT (notT (tstV (una (rd 1) (isi "tuple")))) (notT (tstB (chn (kon (.int 1)) (appA (conA (rd 1) nilA) (bLen ns)) (kon (.int 5)) opLe opLe)))) (retS (kon (.bl false))) nxS) (retS (appA (conA (lcE (iterA (rd 1)) (.nm 2) yesT (calE (conA (rd 0) (conA (rd 2) nilA)) (ofLen 2 (m_is_placed ns))) [2]) nilA) bAll)))
def m_is_standing (ns : List Int) : List D → M D := runB 3 (b_is_standing ns)
abbrev s_check_standing : Stmt := top 26
theorem sc_check_standing : FnScope ["floor", "value"] ["floor", "value"] (defScope s_check_standing) := ⟨rfl, rfl, rfl, by decide +kernel, rfl, by decide +kernel, by decide +kernel⟩
def b_check_standing (ns : List Int) : MS := (ifS (notT (tstV (calE (conA (rd 0) (conA (rd 1) nilA)) (ofLen 2 (m_is_standing ns))))) nevS nxS)
def m_check_standing (ns : List Int) : List D → M D := runB 2 (b_check_standing ns)
abbrev s_check_program : Stmt := top 65
theorem sc_check_program : FnScope ["value"] ["value"] (defScope s_check_program) := ⟨rfl, rfl, rfl, by decide +kernel, rfl, by decide +kernel, by decide +kernel⟩
def b_check_program (ns : List Int) : MS := (ifS (notT (tstV (una (rd 0) (isC tab_Program)))) nevS nxS)
def m_check_program (ns : List Int) : List D → M D := runB 1 (b_check_program ns)
abbrev s_check_start : Stmt := top 66
theorem sc_check_start : FnScope ["program", "floor", "standing", "entry"] ["program", "floor", "standing"] (defScope s_check_start) := ⟨rfl, rfl, rfl, by decide +kernel, rfl, by decide +kernel, by decide +kernel⟩
def b_check_start (ns : List Int) : MS := (seqS (dropS (calE (conA (rd 0) nilA) (ofLen 1 (m_check_program ns)))) (seqS (dropS (calE (conA (rd 1) nilA) (ofLen 1 (m_check_floor ns)))) (seqS (dropS (calE (conA (rd 1) (conA (rd 2) nilA)) (ofLen 2 (m_check_standing ns)))) (ifS (notT (tstV (appA (conA (lcE (iterA (rd 2)) (.nm 3) yesT (bin (bin (rd 3) (kon (.int 1)) (opIx ns)) (fldE (rd 0) ["Program"] "marks") opLtX) [3]) nilA) bAll))) nevS nxS))))
def m_check_start (ns : List Int) : List D → M D := runB 4 (b_check_start ns)
abbrev s_cell_at : Stmt := top 30
theorem sc_cell_at : FnScope ["standing", "walker", "place", "marks", "number", "at", "mark", "_"] ["standing", "walker", "place"] (defScope s_cell_at) := ⟨rfl, rfl, rfl, by decide +kernel, rfl, by decide +kernel, by decide +kernel⟩
def b_cell_at (ns : List Int) : MS := (seqS (setS (.nm 3) (lcE (enuI (rd 0)) (.tp [(.nm 4), (.tp [(.nm 5), (.nm 6), (.nm 7)])]) (andT (tstB (bin (rd 5) (rd 2) opEq)) (tstB (bin (rd 4) (rd 1) opNe))) (rd 6) [4, 5, 6, 7])) (retS (appA (conA (appA (conA (rd 3) nilA) bSortX) nilA) bTuple)))
def m_cell_at (ns : List Int) : List D → M D := runB 8 (b_cell_at ns)
abbrev s_place_at : Stmt := top 29
theorem sc_place_at : FnScope ["floor", "place", "steps", "kind", "size", "reached"] ["floor", "place", "steps"] (defScope s_place_at) := ⟨rfl, rfl, rfl, by decide +kernel, rfl, by decide +kernel, by decide +kernel⟩
def b_place_at (ns : List Int) : MS := (seqS (setS (.tp [(.nm 3), (.nm 4)]) (rd 0)) (seqS (setS (.nm 5) (bin (rd 1) (rd 2) opAdd)) (seqS (ifS (tstB (bin (rd 3) (kon (.str "ring")) opEq)) (retS (bin (rd 5) (rd 4) opMod)) nxS) (retS (ifE (tstB (chn (kon (.int 0)) (rd 5) (rd 4) opLe opLtX)) (rd 5) (kon .non))))))
def m_place_at (ns : List Int) : List D → M D := runB 6 (b_place_at ns)
abbrev s_cells_towards : Stmt := top 31
theorem sc_cells_towards : FnScope ["floor", "standing", "walker", "sense", "own_place", "places", "steps", "place"] ["floor", "standing", "walker", "sense"] (defScope s_cells_towards) := ⟨rfl, rfl, rfl, by decide +kernel, rfl, by decide +kernel, by decide +kernel⟩
def b_cells_towards (ns : List Int) : MS := (seqS (setS (.nm 4) (bin (bin (rd 1) (rd 2) (opIx ns)) (kon (.int 0)) (opIx ns))) (seqS (setS (.nm 5) (lcE (rng2 (kon (.int 1)) (bin (rd 0) (kon (.int 1)) (opIx ns))) (.nm 6) yesT (calE (conA (rd 0) (conA (rd 4) (conA (bin (rd 3) (rd 6) opMul) nilA))) (ofLen 3 (m_place_at ns))) [6])) (retS (appA (conA (lcE (iterA (rd 5)) (.nm 7) (tstB (bin (rd 7) (kon .non) opIsNot)) (calE (conA (rd 1) (conA (rd 2) (conA (rd 7) nilA))) (ofLen 3 (m_cell_at ns))) [7]) nilA) bTuple))))
def m_cells_towards (ns : List Int) : List D → M D := runB 8 (b_cells_towards ns)
abbrev s_view_of : Stmt := top 32
theorem sc_view_of : FnScope ["floor", "standing", "walker", "place", "mark", "sense", "ahead", "behind"] ["floor", "standing", "walker"] (defScope s_view_of) := ⟨rfl, rfl, rfl, by decide +kernel, rfl, by decide +kernel, by decide +kernel⟩
def b_view_of (ns : List Int) : MS := (seqS (setS (.tp [(.nm 3), (.nm 4), (.nm 5)]) (bin (rd 1) (rd 2) (opIx ns))) (seqS (setS (.nm 6) (calE (conA (rd 0) (conA (rd 1) (conA (rd 2) (conA (rd 5) nilA)))) (ofLen 4 (m_cells_towards ns)))) (seqS (setS (.nm 7) (calE (conA (rd 0) (conA (rd 1) (conA (rd 2) (conA (una (rd 5) opNeg) nilA)))) (ofLen 4 (m_cells_towards ns)))) (retS (tupE (conA (rd 4) (conA (calE (conA (rd 1) (conA (rd 2) (conA (rd 3) nilA))) (ofLen 3 (m_cell_at ns))) (conA (rd 6) (conA (rd 7) nilA)))))))))
def m_view_of (ns : List Int) : List D → M D := runB 8 (b_view_of ns)
abbrev s_held : Stmt := top 56
theorem sc_held : FnScope ["value", "low", "high"] ["value", "low", "high"] (defScope s_held) := ⟨rfl, rfl, rfl, by decide +kernel, rfl, by decide +kernel, by decide +kernel⟩
def b_held (ns : List Int) : MS := (retS (appA (conA (rd 1) (conA (appA (conA (rd 0) (conA (rd 2) nilA)) bMin) nilA)) bMax))
def m_held (ns : List Int) : List D → M D := runB 3 (b_held ns)
abbrev s_seen_cell : Stmt := top 58
theorem sc_seen_cell : FnScope ["floor", "seen", "steps", "_", "here", "ahead", "behind", "cells"] ["floor", "seen", "steps"] (defScope s_seen_cell) := ⟨rfl, rfl, rfl, by decide +kernel, rfl, by decide +kernel, by decide +kernel⟩
def b_seen_cell (ns : List Int) : MS := (seqS (setS (.tp [(.nm 3), (.nm 4), (.nm 5), (.nm 6)]) (rd 1)) (seqS (ifS (tstB (bin (bin (rd 0) (kon (.int 0)) (opIx ns)) (kon (.str "ring")) opEq)) (setS (.nm 2) (bin (rd 2) (bin (rd 0) (kon (.int 1)) (opIx ns)) opMod)) nxS) (seqS (ifS (tstB (bin (rd 2) (kon (.int 0)) opEq)) (retS (rd 4)) nxS) (seqS (setS (.nm 7) (ifE (tstB (bin (rd 2) (kon (.int 0)) opGt)) (rd 5) (rd 6))) (retS (ifE (tstB (bin (appA (conA (rd 2) nilA) bAbs) (appA (conA (rd 7) nilA) (bLen ns)) opLe)) (bin (rd 7) (bin (appA (conA (rd 2) nilA) bAbs) (kon (.int 1)) opSub) (opIx ns)) (kon .non)))))))
def m_seen_cell (ns : List Int) : List D → M D := runB 8 (b_seen_cell ns)
abbrev s_counted : Stmt := top 59
theorem sc_counted : FnScope ["word", "cell", "parts"] ["word", "cell", "parts"] (defScope s_counted) := ⟨rfl, rfl, rfl, by decide +kernel, rfl, by decide +kernel, by decide +kernel⟩
def b_counted (ns : List Int) : MS := (seqS (ifS (tstB (bin (rd 0) (kon (.str "room")) opEq)) (retS (ifE (tstB (bin (rd 1) (kon .non) opIs)) (kon (.int 0)) (kon (.int 1)))) nxS) (seqS (ifS (tstB (bin (rd 1) (kon .non) opIs)) (retS (kon (.int 0))) nxS) (retS (ifE (tstB (bin (rd 0) (kon (.str "count")) opEq)) (appA (conA (rd 1) nilA) (bLen ns)) (metT (rd 1) (bin (rd 2) (kon (.int 1)) (opIx ns)) cntT)))))
def m_counted (ns : List Int) : List D → M D := runB 3 (b_counted ns)
abbrev s_reckoned : Stmt := top 60
theorem sc_reckoned : FnScope ["word", "parts", "first"] ["word", "parts"] (defScope s_reckoned) := ⟨rfl, rfl, rfl, by decide +kernel, rfl, by decide +kernel, by decide +kernel⟩
def b_reckoned (ns : List Int) : MS := (seqS (setS (.nm 2) (bin (rd 1) (kon (.int 0)) (opIx ns))) (seqS (ifS (tstB (bin (rd 0) (kon (.str "half")) opEq)) (retS (bin (rd 2) (kon (.int 2)) opFdiv)) nxS) (seqS (ifS (tstB (bin (rd 0) (kon (.str "turn")) opEq)) (retS (una (rd 2) opNeg)) nxS) (seqS (ifS (tstB (bin (rd 0) (kon (.str "plus")) opEq)) (retS (calE (conA (bin (rd 2) (bin (rd 1) (kon (.int 1)) (opIx ns)) opAdd) (conA (una (kon (.int 999)) opNeg) (conA (kon (.int 999)) nilA))) (ofLen 3 (m_held ns)))) nxS) (seqS (ifS (tstB (bin (rd 0) (kon (.str "less")) opEq)) (retS (ifE (tstB (bin (rd 2) (bin (rd 1) (kon (.int 1)) (opIx ns)) opLtX)) (kon (.int 1)) (kon (.int 0)))) nxS) (seqS (ifS (tstB (bin (rd 0) (kon (.str "same")) opEq)) (retS (ifE (tstB (bin (rd 2) (bin (rd 1) (kon (.int 1)) (opIx ns)) opEq)) (kon (.int 1)) (kon (.int 0)))) nxS) (retS (ifE (tstB (bin (rd 2) (kon (.int 0)) opEq)) (bin (rd 1) (kon (.int 1)) (opIx ns)) (bin (rd 1) (kon (.int 2)) (opIx ns))))))))))
def m_reckoned (ns : List Int) : List D → M D := runB 3 (b_reckoned ns)
abbrev s_value_of_word : Stmt := top 61
theorem sc_value_of_word : FnScope ["word", "parts", "known", "floor", "seen"] ["word", "parts", "known", "floor", "seen"] (defScope s_value_of_word) := ⟨rfl, rfl, rfl, by decide +kernel, rfl, by decide +kernel, by decide +kernel⟩
def b_value_of_word (ns : List Int) : MS := (seqS (ifS (tstV (una (rd 0) (isi "int"))) (retS (rd 0)) nxS) (seqS (ifS (tstB (bin (rd 0) (rd 2) opIn)) (retS (bin (rd 2) (rd 0) (opIx ns))) nxS) (seqS (ifS (tstB (bin (rd 0) (tupE (conA (kon (.str "count")) (conA (kon (.str "marked")) (conA (kon (.str "room")) nilA)))) opIn)) (retS (calE (conA (rd 0) (conA (calE (conA (rd 3) (conA (rd 4) (conA (bin (rd 1) (kon (.int 0)) (opIx ns)) nilA))) (ofLen 3 (m_seen_cell ns))) (conA (rd 1) nilA))) (ofLen 3 (m_counted ns)))) nxS) (retS (calE (conA (rd 0) (conA (rd 1) nilA)) (ofLen 2 (m_reckoned ns)))))))
def m_value_of_word (ns : List Int) : List D → M D := runB 5 (b_value_of_word ns)
abbrev s_value_of : Stmt := top 62
theorem sc_value_of : FnScope ["expression", "known", "floor", "seen", "values", "word", "many"] ["expression", "known", "floor", "seen"] (defScope s_value_of) := ⟨rfl, rfl, rfl, by decide +kernel, rfl, by decide +kernel, by decide +kernel⟩
def b_value_of (ns : List Int) : MS := (seqS (setS (.nm 4) (lstE nilA)) (seqS (forS (revA (rd 0)) (.nm 5) (seqS (setS (.nm 6) (bin (rd 5) (kon (.int 0)) (cGet kd_PARTS))) (setS (.nm 4) (bin (lstE (conA (calE (conA (rd 5) (conA (sli (rd 4) noP (som (rd 6)) (opSl ns)) (conA (rd 1) (conA (rd 2) (conA (rd 3) nilA))))) (ofLen 5 (m_value_of_word ns))) nilA)) (sli (rd 4) (som (rd 6)) noP (opSl ns)) opAdd)))) (retS (bin (rd 4) (kon (.int 0)) (opIx ns)))))
def m_value_of (ns : List Int) : List D → M D := runB 7 (b_value_of ns)
abbrev s_cells_seen : Stmt := top 33
theorem sc_cells_seen : FnScope ["floor", "seen", "_", "here", "ahead", "behind"] ["floor", "seen"] (defScope s_cells_seen) := ⟨rfl, rfl, rfl, by decide +kernel, rfl, by decide +kernel, by decide +kernel⟩
def b_cells_seen (ns : List Int) : MS := (seqS (setS (.tp [(.nm 2), (.nm 3), (.nm 4), (.nm 5)]) (rd 1)) (retS (ifE (tstB (bin (bin (rd 0) (kon (.int 0)) (opIx ns)) (kon (.str "ring")) opEq)) (lstE (conA (rd 3) (staA ns (rd 4) nilA))) (lstE (conA (rd 3) (staA ns (rd 4) (staA ns (rd 5) nilA)))))))
def m_cells_seen (ns : List Int) : List D → M D := runB 6 (b_cells_seen ns)
abbrev s_first_met : Stmt := top 57
theorem sc_first_met : FnScope ["cells", "number", "cell"] ["cells"] (defScope s_first_met) := ⟨rfl, rfl, rfl, by decide +kernel, rfl, by decide +kernel, by decide +kernel⟩
def b_first_met (ns : List Int) : MS := (seqS (forS (enuS (rd 0) 1) (.tp [(.nm 1), (.nm 2)]) (ifS (tstB (bin (rd 2) (tupE nilA) opNe)) (retS (rd 1)) nxS)) (retS (kon (.int 0))))
def m_first_met (ns : List Int) : List D → M D := runB 3 (b_first_met ns)
abbrev s_known_at_first : Stmt := top 63
theorem sc_known_at_first : FnScope ["floor", "seen", "mark", "_", "ahead", "behind", "cell"] ["floor", "seen"] (defScope s_known_at_first) := ⟨rfl, rfl, rfl, by decide +kernel, rfl, by decide +kernel, by decide +kernel⟩
def b_known_at_first (ns : List Int) : MS := (seqS (setS (.tp [(.nm 2), (.nm 3), (.nm 4), (.nm 5)]) (rd 1)) (retS (dctE [.inr "mine", .inr "others", .inr "size", .inr "ahead", .inr "behind"] (conA (rd 2) (conA (appA (conA (lcE (iterA (calE (conA (rd 0) (conA (rd 1) nilA)) (ofLen 2 (m_cells_seen ns)))) (.nm 6) yesT (appA (conA (rd 6) nilA) (bLen ns)) [6]) nilA) bSumX) (conA (bin (rd 0) (kon (.int 1)) (opIx ns)) (conA (calE (conA (rd 4) nilA) (ofLen 1 (m_first_met ns))) (conA (calE (conA (rd 5) nilA) (ofLen 1 (m_first_met ns))) nilA))))))))
def m_known_at_first (ns : List Int) : List D → M D := runB 7 (b_known_at_first ns)
abbrev s_thought_of : Stmt := top 64
theorem sc_thought_of : FnScope ["program", "floor", "seen", "known", "name", "expression", "step", "mark"] ["program", "floor", "seen"] (defScope s_thought_of) := ⟨rfl, rfl, rfl, by decide +kernel, rfl, by decide +kernel, by decide +kernel⟩
def b_thought_of (ns : List Int) : MS := (seqS (setS (.nm 3) (calE (conA (rd 1) (conA (rd 2) nilA)) (ofLen 2 (m_known_at_first ns)))) (seqS (forS (iterA (fldE (rd 0) ["Program"] "lets")) (.tp [(.nm 4), (.nm 5)]) (subS (calE (conA (rd 5) (conA (rd 3) (conA (rd 1) (conA (rd 2) nilA)))) (ofLen 4 (m_value_of ns))) (rd 3) (rd 4))) (seqS (setS (.nm 6) (calE (conA (fldE (rd 0) ["Program"] "for_step") (conA (rd 3) (conA (rd 1) (conA (rd 2) nilA)))) (ofLen 4 (m_value_of ns)))) (seqS (setS (.nm 7) (calE (conA (fldE (rd 0) ["Program"] "for_mark") (conA (rd 3) (conA (rd 1) (conA (rd 2) nilA)))) (ofLen 4 (m_value_of ns)))) (retS (tupE (conA (calE (conA (rd 6) (conA (una (kon (.int 1)) opNeg) (conA (kon (.int 1)) nilA))) (ofLen 3 (m_held ns))) (conA (calE (conA (rd 7) (conA (kon (.int 0)) (conA (bin (fldE (rd 0) ["Program"] "marks") (kon (.int 1)) opSub) nilA))) (ofLen 3 (m_held ns))) nilA))))))))
def m_thought_of (ns : List Int) : List D → M D := runB 8 (b_thought_of ns)
abbrev s_place_behind : Stmt := top 67
theorem sc_place_behind : FnScope ["floor", "place", "sense", "step", "reached"] ["floor", "place", "sense", "step"] (defScope s_place_behind) := ⟨rfl, rfl, rfl, by decide +kernel, rfl, by decide +kernel, by decide +kernel⟩
def b_place_behind (ns : List Int) : MS := (seqS (setS (.nm 4) (calE (conA (rd 0) (conA (rd 1) (conA (bin (rd 2) (rd 3) opMul) nilA))) (ofLen 3 (m_place_at ns)))) (retS (ifE (tstB (bin (rd 4) (kon .non) opIs)) (rd 1) (rd 4))))
def m_place_behind (ns : List Int) : List D → M D := runB 5 (b_place_behind ns)
abbrev s_entry_behind : Stmt := top 70
theorem sc_entry_behind : FnScope ["program", "floor", "standing", "walker", "place", "_", "sense", "step", "mark"] ["program", "floor", "standing", "walker"] (defScope s_entry_behind) := ⟨rfl, rfl, rfl, by decide +kernel, rfl, by decide +kernel, by decide +kernel⟩
def b_entry_behind (ns : List Int) : MS := (seqS (setS (.tp [(.nm 4), (.nm 5), (.nm 6)]) (bin (rd 2) (rd 3) (opIx ns))) (seqS (setS (.tp [(.nm 7), (.nm 8)]) (calE (conA (rd 0) (conA (rd 1) (conA (calE (conA (rd 1) (conA (rd 2) (conA (rd 3) nilA))) (ofLen 3 (m_view_of ns))) nilA))) (ofLen 3 (m_thought_of ns)))) (retS (tupE (conA (calE (conA (rd 1) (conA (rd 4) (conA (rd 6) (conA (rd 7) nilA)))) (ofLen 4 (m_place_behind ns))) (conA (rd 8) (conA (rd 6) nilA)))))))
def m_entry_behind (ns : List Int) : List D → M D := runB 9 (b_entry_behind ns)
abbrev s_standing_behind : Stmt := top 71
theorem sc_standing_behind : FnScope ["program", "floor", "standing", "lot", "entries", "walker", "entry"] ["program", "floor", "standing", "lot"] (defScope s_standing_behind) := ⟨rfl, rfl, rfl, by decide +kernel, rfl, by decide +kernel, by decide +kernel⟩
def b_standing_behind (ns : List Int) : MS := (seqS (setS (.nm 4) (lstE nilA)) (seqS (forS (enuI (rd 2)) (.tp [(.nm 5), (.nm 6)]) (dropS (meth (rd 4) (conA (ifE (tstB (bin (rd 5) (rd 3) opIn)) (calE (conA (rd 0) (conA (rd 1) (conA (rd 2) (conA (rd 5) nilA)))) (ofLen 4 (m_entry_behind ns))) (rd 6)) nilA) mAppend))) (retS (appA (conA (rd 4) nilA) bTuple))))
def m_standing_behind (ns : List Int) : List D → M D := runB 7 (b_standing_behind ns)
abbrev s_beat : Stmt := top 72
theorem sc_beat : FnScope ["program", "floor", "standing", "lot"] ["program", "floor", "standing", "lot"] (defScope s_beat) := ⟨rfl, rfl, rfl, by decide +kernel, rfl, by decide +kernel, by decide +kernel⟩
def b_beat (ns : List Int) : MS := (seqS (dropS (calE (conA (rd 0) (conA (rd 1) (conA (rd 2) nilA))) (ofLen 3 (m_check_start ns)))) (seqS (ifS (notT (tstV (calE (conA (appA (conA (rd 2) nilA) (bLen ns)) (conA (rd 3) nilA)) (ofLen 2 (m_is_lot ns))))) nevS nxS) (retS (calE (conA (rd 0) (conA (rd 1) (conA (rd 2) (conA (rd 3) nilA)))) (ofLen 4 (m_standing_behind ns))))))
def m_beat (ns : List Int) : List D → M D := runB 4 (b_beat ns)
abbrev s_are_lots : Stmt := top 24
theorem sc_are_lots : FnScope ["many", "value", "lot"] ["many", "value"] (defScope s_are_lots) := ⟨rfl, rfl, rfl, by decide +kernel, rfl, by decide +kernel, by decide +kernel⟩
def b_are_lots (ns : List Int) : MS := (retS (andV (una (rd 1) (isi "tuple")) (appA (conA (lcE (iterA (rd 1)) (.nm 2) yesT (calE (conA (rd 0) (conA (rd 2) nilA)) (ofLen 2 (m_is_lot ns))) [2]) nilA) bAll)))
def m_are_lots (ns : List Int) : List D → M D := runB 3 (b_are_lots ns)
abbrev s_run : Stmt := top 73
theorem sc_run : FnScope ["program", "floor", "standing", "lots", "standings", "lot"] ["program", "floor", "standing", "lots"] (defScope s_run) := ⟨rfl, rfl, rfl, by decide +kernel, rfl, by decide +kernel, by decide +kernel⟩
def b_run (ns : List Int) : MS := (seqS (dropS (calE (conA (rd 0) (conA (rd 1) (conA (rd 2) nilA))) (ofLen 3 (m_check_start ns)))) (seqS (ifS (notT (tstV (calE (conA (appA (conA (rd 2) nilA) (bLen ns)) (conA (rd 3) nilA)) (ofLen 2 (m_are_lots ns))))) nevS nxS) (seqS (setS (.nm 4) (lstE (conA (rd 2) nilA))) (seqS (forS (iterA (rd 3)) (.nm 5) (dropS (meth (rd 4) (conA (calE (conA (rd 0) (conA (rd 1) (conA (bin (rd 4) (una (kon (.int 1)) opNeg) (opIx ns)) (conA (rd 5) nilA)))) (ofLen 4 (m_standing_behind ns))) nilA) mAppend))) (retS (appA (conA (rd 4) nilA) bTuple))))))
def m_run (ns : List Int) : List D → M D := runB 6 (b_run ns)
abbrev s_law_take : Stmt := top 84
theorem sc_law_take : FnScope ["pot", "upto", "prime", "blend", "digit"] ["pot", "upto"] (defScope s_law_take) := ⟨rfl, rfl, rfl, by decide +kernel, rfl, by decide +kernel, by decide +kernel⟩
def b_law_take (ns : List Int) : MS := (seqS (ifS (tstB (bin (bin (rd 0) (kon (.int 0)) (opIx ns)) (kon (.int 0)) opGt)) (seqS (setS (.nm 4) (bin (appA (conA (bin (rd 0) (kon (.int 0)) (opIx ns)) nilA) bInt) (rd 1) opMod)) (seqS (subS (bin (bin (rd 0) (kon (.int 0)) (opIx ns)) (rd 1) opFdiv) (rd 0) (kon (.int 0))) (retS (rd 4)))) nxS) (seqS (subS (bin (bin (rd 0) (kon (.int 2)) (opIx ns)) (kon (.int 1)) opAdd) (rd 0) (kon (.int 2))) (seqS (setS (.nm 2) (bin (lstE (conA (kon (.int 2147483647)) (conA (kon (.int 2147483629)) (conA (kon (.int 2147483587)) (conA (kon (.int 2147483579)) (conA (kon (.int 2147483563)) nilA)))))) (bin (appA (conA (bin (rd 0) (kon (.int 2)) (opIx ns)) nilA) bInt) (kon (.int 5)) opMod) (opIx ns))) (seqS (setS (.nm 3) (bin (appA (conA (bin (appA (conA (bin (bin (bin (rd 0) (kon (.int 1)) (opIx ns)) (bin (bin (kon (.int 100389)) (bin (rd 0) (kon (.int 2)) (opIx ns)) opMul) (bin (rd 0) (kon (.int 2)) (opIx ns)) opMul) opAdd) (kon (.int 1251)) opAdd) nilA) bInt) (kon (.int 3)) opPow) nilA) bInt) (rd 2) opMod)) (retS (bin (appA (conA (bin (bin (rd 3) (bin (bin (appA (conA (rd 3) nilA) bInt) (kon (.int 10967)) opMod) (bin (kon (.int 453)) (bin (rd 0) (kon (.int 2)) (opIx ns)) opMul) opAdd) opMul) (kon (.int 269)) opFdiv) nilA) bInt) (rd 1) opMod))))))
def m_law_take (ns : List Int) : List D → M D := runB 5 (b_law_take ns)
abbrev s_law_are_steps_right : Stmt := top 87
theorem sc_law_are_steps_right : FnScope ["pot", "ahead", "size", "place", "mark", "forth", "back", "due", "told", "spots", "lap", "one"] ["pot"] (defScope s_law_are_steps_right) := ⟨rfl, rfl, rfl, by decide +kernel, rfl, by decide +kernel, by decide +kernel⟩
def b_law_are_steps_right (ns : List Int) : MS := (seqS (setS (.tp [(.nm 1), (.nm 2)]) (tupE (conA (makE "Program" 2 (conA (kon (.str "marks 2\nstep 1\nmark same mine 0")) nilA) (m_Program___init__ ns)) (conA (bin (kon (.int 3)) (calE (conA (rd 0) (conA (kon (.int 6)) nilA)) (ofLen 2 (m_law_take ns))) opAdd) nilA)))) (seqS (setS (.tp [(.nm 3), (.nm 4)]) (tupE (conA (calE (conA (rd 0) (conA (rd 2) nilA)) (ofLen 2 (m_law_take ns))) (conA (calE (conA (rd 0) (conA (kon (.int 2)) nilA)) (ofLen 2 (m_law_take ns))) nilA)))) (seqS (parS 5 6 (conA (tupE (conA (tupE (conA (rd 3) (conA (rd 4) (conA (kon (.int 1)) nilA)))) nilA)) (conA (tupE (conA (tupE (conA (rd 3) (conA (rd 4) (conA (una (kon (.int 1)) opNeg) nilA)))) nilA)) nilA))) (seqS (setS (.nm 7) (tupE (conA (tupE (conA (tupE (conA (bin (bin (rd 3) (kon (.int 1)) opAdd) (rd 2) opMod) (conA (bin (kon (.int 1)) (rd 4) opSub) (conA (kon (.int 1)) nilA)))) nilA)) (conA (tupE (conA (tupE (conA (bin (bin (rd 3) (kon (.int 1)) opSub) (rd 2) opMod) (conA (bin (kon (.int 1)) (rd 4) opSub) (conA (una (kon (.int 1)) opNeg) nilA)))) nilA)) nilA)))) (seqS (ifS (tstB (bin (appA (conA (tupE (conA (calE (conA (rd 1) (conA (tupE (conA (kon (.str "ring")) (conA (rd 2) nilA))) (conA (rd 5) (conA (tupE (conA (kon (.int 0)) nilA)) nilA)))) (ofLen 4 (m_beat ns))) (conA (calE (conA (rd 1) (conA (tupE (conA (kon (.str "ring")) (conA (rd 2) nilA))) (conA (rd 6) (conA (tupE (conA (kon (.int 0)) nilA)) nilA)))) (ofLen 4 (m_beat ns))) nilA))) nilA) bRepr) (appA (conA (rd 7) nilA) bRepr) opNe)) (retS (kon (.bl false))) nxS) (seqS (setS (.nm 8) (calE (conA (rd 1) (conA (tupE (conA (kon (.str "row")) (conA (rd 2) nilA))) (conA (rd 5) (conA (bin (tupE (conA (tupE (conA (kon (.int 0)) nilA)) nilA)) (rd 2) opRep) nilA)))) (ofLen 4 (m_run ns)))) (seqS (setS (.nm 9) (lcE (rng1 (bin (rd 2) (kon (.int 1)) opAdd)) (.nm 10) yesT (appA (conA (bin (rd 2) (kon (.int 1)) opSub) (conA (bin (rd 3) (rd 10) opAdd) nilA)) bMin) [10])) (seqS (ifS (orT (tstB (bin (appA (conA (lcE (iterA (rd 8)) (.nm 11) yesT (bin (bin (rd 11) (kon (.int 0)) (opIx ns)) (kon (.int 0)) (opIx ns)) [11]) nilA) bRepr) (appA (conA (rd 9) nilA) bRepr) opNe)) (tstB (bin (appA (conA (bin (rd 8) (una (kon (.int 1)) opNeg) (opIx ns)) nilA) bRepr) (appA (conA (tupE (conA (tupE (conA (bin (rd 2) (kon (.int 1)) opSub) (conA (bin (bin (rd 4) (rd 2) opAdd) (kon (.int 2)) opMod) (conA (kon (.int 1)) nilA)))) nilA)) nilA) bRepr) opNe))) (retS (kon (.bl false))) nxS) (retS (bin (appA (conA (calE (conA (rd 1) (conA (tupE (conA (kon (.str "row")) (conA (kon (.int 1)) nilA))) (conA (tupE (conA (tupE (conA (kon (.int 0)) (conA (kon (.int 0)) (conA (una (kon (.int 1)) opNeg) nilA)))) nilA)) (conA (tupE (conA (kon (.int 0)) nilA)) nilA)))) (ofLen 4 (m_beat ns))) nilA) bRepr) (appA (conA (tupE (conA (tupE (conA (kon (.int 0)) (conA (kon (.int 1)) (conA (una (kon (.int 1)) opNeg) nilA)))) nilA)) nilA) bRepr) opEq))))))))))
def m_law_are_steps_right (ns : List Int) : List D → M D := runB 12 (b_law_are_steps_right ns)
abbrev s_law_of : Stmt := top 85
theorem sc_law_of : FnScope ["pot", "some"] ["pot", "some"] (defScope s_law_of) := ⟨rfl, rfl, rfl, by decide +kernel, rfl, by decide +kernel, by decide +kernel⟩
def b_law_of (ns : List Int) : MS := (retS (bin (rd 1) (calE (conA (rd 0) (conA (appA (conA (rd 1) nilA) (bLen ns)) nilA)) (ofLen 2 (m_law_take ns))) (opIx ns)))
def m_law_of (ns : List Int) : List D → M D := runB 2 (b_law_of ns)
abbrev s_law_are_exchanges_right : Stmt := top 88
theorem sc_law_are_exchanges_right : FnScope ["pot", "near", "size", "place", "two", "both", "told", "met"] ["pot"] (defScope s_law_are_exchanges_right) := ⟨rfl, rfl, rfl, by decide +kernel, rfl, by decide +kernel, by decide +kernel⟩
def b_law_are_exchanges_right (ns : List Int) : MS := (seqS (setS (.nm 1) (makE "Program" 2 (conA (kon (.str "marks 1\nstep pick same ahead 1 pick same behind 1 0 -1 1\nmark 0")) nilA) (m_Program___init__ ns))) (seqS (parS 2 3 (conA (bin (kon (.int 4)) (calE (conA (rd 0) (conA (kon (.int 5)) nilA)) (ofLen 2 (m_law_take ns))) opAdd) (conA (calE (conA (rd 0) (conA (kon (.int 3)) nilA)) (ofLen 2 (m_law_take ns))) nilA))) (seqS (setS (.nm 4) (tupE (conA (tupE (conA (rd 3) (conA (kon (.int 0)) (conA (calE (conA (rd 0) (conA (lstE (conA (kon (.int 1)) (conA (una (kon (.int 1)) opNeg) nilA))) nilA)) (ofLen 2 (m_law_of ns))) nilA)))) (conA (tupE (conA (bin (rd 3) (kon (.int 1)) opAdd) (conA (kon (.int 0)) (conA (calE (conA (rd 0) (conA (lstE (conA (kon (.int 1)) (conA (una (kon (.int 1)) opNeg) nilA))) nilA)) (ofLen 2 (m_law_of ns))) nilA)))) nilA)))) (seqS (setS (.nm 5) (tupE (conA (tupE (conA (bin (rd 3) (kon (.int 1)) opAdd) (conA (kon (.int 0)) (conA (bin (bin (rd 4) (kon (.int 0)) (opIx ns)) (kon (.int 2)) (opIx ns)) nilA)))) (conA (tupE (conA (rd 3) (conA (kon (.int 0)) (conA (bin (bin (rd 4) (kon (.int 1)) (opIx ns)) (kon (.int 2)) (opIx ns)) nilA)))) nilA)))) (seqS (ifS (tstB (bin (appA (conA (calE (conA (rd 1) (conA (tupE (conA (kon (.str "row")) (conA (rd 2) nilA))) (conA (rd 4) (conA (tupE (conA (kon (.int 0)) (conA (kon (.int 1)) nilA))) nilA)))) (ofLen 4 (m_beat ns))) nilA) bRepr) (appA (conA (rd 5) nilA) bRepr) opNe)) (retS (kon (.bl false))) nxS) (seqS (setS (.nm 6) (calE (conA (rd 1) (conA (tupE (conA (kon (.str "row")) (conA (rd 2) nilA))) (conA (rd 4) (conA (tupE (conA (tupE (conA (kon (.int 1)) nilA)) (conA (tupE (conA (kon (.int 0)) nilA)) nilA))) nilA)))) (ofLen 4 (m_run ns)))) (seqS (setS (.nm 7) (tupE (conA (bin (rd 4) (kon (.int 0)) (opIx ns)) (conA (tupE (conA (rd 3) (conA (kon (.int 0)) (conA (bin (bin (rd 4) (kon (.int 1)) (opIx ns)) (kon (.int 2)) (opIx ns)) nilA)))) nilA)))) (retS (bin (appA (conA (rd 6) nilA) bRepr) (appA (conA (tupE (conA (rd 4) (conA (rd 7) (conA (rd 7) nilA)))) nilA) bRepr) opEq)))))))))
def m_law_are_exchanges_right (ns : List Int) : List D → M D := runB 8 (b_law_are_exchanges_right ns)
abbrev s_check_many : Stmt := top 27
theorem sc_check_many : FnScope ["value"] ["value"] (defScope s_check_many) := ⟨rfl, rfl, rfl, by decide +kernel, rfl, by decide +kernel, by decide +kernel⟩
def b_check_many (ns : List Int) : MS := (ifS (notT (tstV (calE (conA (rd 0) (conA (kon (.int 1)) (conA (kon (.int 5)) nilA))) (ofLen 3 (m_is_within ns))))) nevS nxS)
def m_check_many (ns : List Int) : List D → M D := runB 1 (b_check_many ns)
abbrev s_cut_in_eras : Stmt := top 74
theorem sc_cut_in_eras : FnScope ["many", "lots", "found", "missing", "lot", "walker", "era"] ["many", "lots"] (defScope s_cut_in_eras) := ⟨rfl, rfl, rfl, by decide +kernel, rfl, by decide +kernel, by decide +kernel⟩
def b_cut_in_eras (ns : List Int) : MS := (seqS (setS (.nm 2) (lstE nilA)) (seqS (setS (.nm 3) (lstE nilA)) (seqS (forS (iterA (rd 1)) (.nm 4) (seqS (ifS (tstB (bin (appA (conA (rd 3) nilA) (bLen ns)) (kon (.int 0)) opEq)) (seqS (dropS (meth (rd 2) (conA (lstE nilA) nilA) mAppend)) (setS (.nm 3) (una (rd 0) bRg1))) nxS) (seqS (ifS (notT (tstV (appA (conA (lcE (iterA (rd 4)) (.nm 5) yesT (bin (rd 5) (rd 3) opIn) [5]) nilA) bAll))) (retS (kon .non)) nxS) (seqS (dropS (meth (bin (rd 2) (una (kon (.int 1)) opNeg) (opIx ns)) (conA (rd 4) nilA) mAppend)) (setS (.nm 3) (lcE (iterA (rd 3)) (.nm 5) (tstB (bin (rd 5) (rd 4) opNotIn)) (rd 5) [5])))))) (retS (appA (conA (lcE (iterA (rd 2)) (.nm 6) yesT (appA (conA (rd 6) nilA) bTuple) [6]) nilA) bTuple)))))
def m_cut_in_eras (ns : List Int) : List D → M D := runB 7 (b_cut_in_eras ns)
abbrev s_is_of_kind : Stmt := top 75
theorem sc_is_of_kind : FnScope ["kind", "many", "value", "lot"] ["kind", "many", "value"] (defScope s_is_of_kind) := ⟨rfl, rfl, rfl, by decide +kernel, rfl, by decide +kernel, by decide +kernel⟩
def b_is_of_kind (ns : List Int) : MS := (seqS (ifS (notT (tstV (calE (conA (rd 1) (conA (rd 2) nilA)) (ofLen 2 (m_are_lots ns))))) (retS (kon (.bl false))) nxS) (seqS (ifS (tstB (bin (rd 0) (kon (.str "full")) opEq)) (retS (appA (conA (lcE (iterA (rd 2)) (.nm 3) yesT (bin (appA (conA (rd 3) nilA) (bLen ns)) (rd 1) opEq) [3]) nilA) bAll)) nxS) (seqS (ifS (tstB (bin (rd 0) (kon (.str "one")) opEq)) (retS (appA (conA (lcE (iterA (rd 2)) (.nm 3) yesT (bin (appA (conA (rd 3) nilA) (bLen ns)) (kon (.int 1)) opEq) [3]) nilA) bAll)) nxS) (retS (orV (bin (rd 0) (kon (.str "some")) opEq) (bin (calE (conA (rd 1) (conA (rd 2) nilA)) (ofLen 2 (m_cut_in_eras ns))) (kon .non) opIsNot))))))
def m_is_of_kind (ns : List Int) : List D → M D := runB 4 (b_is_of_kind ns)
abbrev s_check_lots : Stmt := top 77
theorem sc_check_lots : FnScope ["kind", "many", "value"] ["kind", "many", "value"] (defScope s_check_lots) := ⟨rfl, rfl, rfl, by decide +kernel, rfl, by decide +kernel, by decide +kernel⟩
def b_check_lots (ns : List Int) : MS := (ifS (notT (tstV (calE (conA (rd 0) (conA (rd 1) (conA (rd 2) nilA))) (ofLen 3 (m_is_of_kind ns))))) nevS nxS)
def m_check_lots (ns : List Int) : List D → M D := runB 3 (b_check_lots ns)
abbrev s_eras : Stmt := top 78
theorem sc_eras : FnScope ["many", "lots"] ["many", "lots"] (defScope s_eras) := ⟨rfl, rfl, rfl, by decide +kernel, rfl, by decide +kernel, by decide +kernel⟩
def b_eras (ns : List Int) : MS := (seqS (dropS (calE (conA (rd 0) nilA) (ofLen 1 (m_check_many ns)))) (seqS (dropS (calE (conA (kon (.str "eras")) (conA (rd 0) (conA (rd 1) nilA))) (ofLen 3 (m_check_lots ns)))) (retS (calE (conA (rd 0) (conA (rd 1) nilA)) (ofLen 2 (m_cut_in_eras ns))))))
def m_eras (ns : List Int) : List D → M D := runB 2 (b_eras ns)
abbrev s_left : Stmt := top 79
theorem sc_left : FnScope ["many", "lots", "last", "present", "era", "lot", "walker"] ["many", "lots"] (defScope s_left) := ⟨rfl, rfl, rfl, by decide +kernel, rfl, by decide +kernel, by decide +kernel⟩
def b_left (ns : List Int) : MS := (seqS (dropS (calE (conA (rd 0) nilA) (ofLen 1 (m_check_many ns)))) (seqS (dropS (calE (conA (kon (.str "eras")) (conA (rd 0) (conA (rd 1) nilA))) (ofLen 3 (m_check_lots ns)))) (seqS (setS (.nm 2) (sli (calE (conA (rd 0) (conA (rd 1) nilA)) (ofLen 2 (m_cut_in_eras ns))) (som (una (kon (.int 1)) opNeg)) noP (opSl ns))) (seqS (setS (.nm 3) (lcEI (iterA (rd 2)) (.nm 4) yesT (mCl (iterA (rd 4)) (.nm 5) yesT (mCl (iterA (rd 5)) (.nm 6) yesT (mAp (rd 6)) [6]) [5, 6]) [4, 5, 6])) (retS (appA (conA (lcE (rng1 (rd 0)) (.nm 6) (orT (tstB (bin (appA (conA (rd 3) nilA) (bLen ns)) (rd 0) opEq)) (tstB (bin (rd 6) (rd 3) opNotIn))) (rd 6) [6]) nilA) bTuple))))))
def m_left (ns : List Int) : List D → M D := runB 7 (b_left ns)
abbrev s_check_kind : Stmt := top 76
theorem sc_check_kind : FnScope ["value"] ["value"] (defScope s_check_kind) := ⟨rfl, rfl, rfl, by decide +kernel, rfl, by decide +kernel, by decide +kernel⟩
def b_check_kind (ns : List Int) : MS := (ifS (tstB (bin (rd 0) (kon k_KINDS) opNotIn)) nevS nxS)
def m_check_kind (ns : List Int) : List D → M D := runB 1 (b_check_kind ns)
abbrev s_lots_among : Stmt := top 80
theorem sc_lots_among : FnScope ["walkers", "found", "walker", "lot"] ["walkers"] (defScope s_lots_among) := ⟨rfl, rfl, rfl, by decide +kernel, rfl, by decide +kernel, by decide +kernel⟩
def b_lots_among (ns : List Int) : MS := (seqS (setS (.nm 1) (lstE nilA)) (seqS (forS (iterA (rd 0)) (.nm 2) (setS (.nm 1) (bin (bin (rd 1) (lcE (iterA (rd 1)) (.nm 3) yesT (tupE (staA ns (rd 3) (conA (rd 2) nilA))) [3]) opAdd) (lstE (conA (tupE (conA (rd 2) nilA)) nilA)) opAdd))) (retS (appA (conA (rd 1) nilA) bSortX))))
def m_lots_among (ns : List Int) : List D → M D := runB 4 (b_lots_among ns)
abbrev s_next_lots : Stmt := top 81
theorem sc_next_lots : FnScope ["kind", "many", "lots", "lot"] ["kind", "many", "lots"] (defScope s_next_lots) := ⟨rfl, rfl, rfl, by decide +kernel, rfl, by decide +kernel, by decide +kernel⟩
def b_next_lots (ns : List Int) : MS := (seqS (dropS (calE (conA (rd 0) nilA) (ofLen 1 (m_check_kind ns)))) (seqS (dropS (calE (conA (rd 1) nilA) (ofLen 1 (m_check_many ns)))) (seqS (dropS (calE (conA (rd 0) (conA (rd 1) (conA (rd 2) nilA))) (ofLen 3 (m_check_lots ns)))) (retS (appA (conA (lcE (iterA (calE (conA (una (rd 1) bRg1) nilA) (ofLen 1 (m_lots_among ns)))) (.nm 3) (tstV (calE (conA (rd 0) (conA (rd 1) (conA (tupE (staA ns (rd 2) (conA (rd 3) nilA))) nilA))) (ofLen 3 (m_is_of_kind ns)))) (rd 3) [3]) nilA) bTuple)))))
def m_next_lots (ns : List Int) : List D → M D := runB 4 (b_next_lots ns)
abbrev s_law_are_lots_right : Stmt := top 89
theorem sc_law_are_lots_right : FnScope ["lots"] [] (defScope s_law_are_lots_right) := ⟨rfl, rfl, rfl, by decide +kernel, rfl, by decide +kernel, by decide +kernel⟩
def b_law_are_lots_right (ns : List Int) : MS := (seqS (setS (.nm 0) (tupE (conA (tupE (conA (kon (.int 1)) nilA)) (conA (tupE (conA (kon (.int 0)) (conA (kon (.int 2)) nilA))) (conA (tupE (conA (kon (.int 0)) (conA (kon (.int 1)) (conA (kon (.int 2)) nilA)))) (conA (tupE (conA (kon (.int 2)) nilA)) nilA)))))) (seqS (ifS (tstB (bin (appA (conA (tupE (conA (calE (conA (kon (.int 3)) (conA (rd 0) nilA)) (ofLen 2 (m_eras ns))) (conA (calE (conA (kon (.int 3)) (conA (rd 0) nilA)) (ofLen 2 (m_left ns))) nilA))) nilA) bRepr) (appA (conA (tupE (conA (tupE (conA (tupE (conA (tupE (conA (kon (.int 1)) nilA)) (conA (tupE (conA (kon (.int 0)) (conA (kon (.int 2)) nilA))) nilA))) (conA (tupE (conA (tupE (conA (kon (.int 0)) (conA (kon (.int 1)) (conA (kon (.int 2)) nilA)))) nilA)) (conA (tupE (conA (tupE (conA (kon (.int 2)) nilA)) nilA)) nilA)))) (conA (tupE (conA (kon (.int 0)) (conA (kon (.int 1)) nilA))) nilA))) nilA) bRepr) opNe)) (retS (kon (.bl false))) nxS) (retS (andV (bin (appA (conA (calE (conA (kon (.str "eras")) (conA (kon (.int 3)) (conA (rd 0) nilA))) (ofLen 3 (m_next_lots ns))) nilA) bRepr) (kon (.str "((0,), (0, 1), (1,))")) opEq) (bin (appA (conA (calE (conA (kon (.str "full")) (conA (kon (.int 2)) (conA (tupE nilA) nilA))) (ofLen 3 (m_next_lots ns))) nilA) bRepr) (kon (.str "((0, 1),)")) opEq)))))
def m_law_are_lots_right (ns : List Int) : List D → M D := runB 1 (b_law_are_lots_right ns)
abbrev s_law_right : Stmt := top 90
theorem sc_law_right : FnScope ["pot"] ["pot"] (defScope s_law_right) := ⟨rfl, rfl, rfl, by decide +kernel, rfl, by decide +kernel, by decide +kernel⟩
def b_law_right (ns : List Int) : MS := (retS (andV (calE (conA (rd 0) nilA) (ofLen 1 (m_law_are_steps_right ns))) (andV (calE (conA (rd 0) nilA) (ofLen 1 (m_law_are_exchanges_right ns))) (calE nilA (m_law_are_lots_right ns)))))
def m_law_right (ns : List Int) : List D → M D := runB 1 (b_law_right ns)
abbrev s_law : Stmt := top 91
theorem sc_law : FnScope ["script", "place"] ["script"] (defScope s_law) := ⟨rfl, rfl, rfl, by decide +kernel, rfl, by decide +kernel, by decide +kernel⟩
def b_law (ns : List Int) : MS := (retS (appA (conA (lcE (iterA (calE (conA (rd 0) (conA (kon (.int 2)) nilA)) (ofLen 2 (m_law_cells ns)))) (.nm 1) yesT (calE (conA (calE (conA (rd 0) (conA (rd 1) nilA)) (ofLen 2 (m_law_pot ns))) nilA) (ofLen 1 (m_law_right ns))) [1]) nilA) bAll))
def m_law (ns : List Int) : List D → M D := runB 2 (b_law ns)
structure Tx (K : PySem.W.Frag) (w : World) (mg : Str → Option Value) : Prop where
  k_FIGURES : KD K mg "FIGURES" k_FIGURES
  k_LETTERS : KD K mg "LETTERS" k_LETTERS
  k_LINE_WORDS : KD K mg "LINE_WORDS" k_LINE_WORDS
  k_KINDS : KD K mg "KINDS" k_KINDS
  kd_PARTS : KC K w mg "PARTS" kd_PARTS
  c_Program : Cls K (He.ga K "Program")
  n_Program_for_mark : NoAttr K (He.ga K "Program") "for_mark"
  n_Program_for_step : NoAttr K (He.ga K "Program") "for_step"
  n_Program_lets : NoAttr K (He.ga K "Program") "lets"
  n_Program_marks : NoAttr K (He.ga K "Program") "marks"
  n_Program_text : NoAttr K (He.ga K "Program") "text"
  is_Program : ∀ (sa : Addr) (ns : List Int), IsF ⟨K, sa, ns, clK K⟩ mg "Program" tab_Program
  z_abs : mg "abs" = none
  z_all : mg "all" = none
  z_bool : mg "bool" = none
  z_enumerate : mg "enumerate" = none
  z_int : mg "int" = none
  z_isinstance : mg "isinstance" = none
  z_len : mg "len" = none
  z_list : mg "list" = none
  z_max : mg "max" = none
  z_min : mg "min" = none
  z_range : mg "range" = none
  z_repr : mg "repr" = none
  z_reversed : mg "reversed" = none
  z_sorted : mg "sorted" = none
  z_str : mg "str" = none
  z_sum : mg "sum" = none
  z_tuple : mg "tuple" = none
  z_zip : mg "zip" = none
  i_MOST_DEEP : ∃ t, mg "MOST_DEEP" = some (.int 10 t)
  i_MOST_LETS : ∃ t, mg "MOST_LETS" = some (.int 6 t)
  i_MOST_MARK : ∃ t, mg "MOST_MARK" = some (.int 3 t)
  i_MOST_SIGNS : ∃ t, mg "MOST_SIGNS" = some (.int 6 t)
  i_MOST_SUM : ∃ t, mg "MOST_SUM" = some (.int 999 t)
  i_MOST_WALKERS : ∃ t, mg "MOST_WALKERS" = some (.int 5 t)
  i_MOST_WORDS : ∃ t, mg "MOST_WORDS" = some (.int 40 t)
section
variable {P : Program} {w : World} {K : PySem.W.Frag} {mg : Str → Option Value} {base : Heap} {sa : Addr} {ns : List Int} {cl : Str → Option Addr} {f : Addr} {fd : FuncData}
theorem g_law_pot (F : FnP K "_law_pot" s_law_pot f fd) (T : Tx K w mg) : FnG P w K mg base (L2.CX P w) 1 f fd ["script", "place"] (spM ⟨K, sa, ns, clK K⟩ wF 2 (m_law_pot ns)) :=
  fn_m F sc_law_pot fun cdv A out s H E hr hgd => (mss_cons (ms_set sc_law_pot.nd (md_if (mt_cmp co_lt (md_var 1) (md_callB (cb_len rfl) (by rfl) T.z_len (by decide +kernel) (ma_cons (md_var 0) ma_nil))) (md_ix rfl hr.units (md_var 0) (md_var 1)) (md_add rfl (md_add rfl (md_mod (md_callTy cb_int (by rfl) T.z_int (by decide +kernel) (ma_cons (md_callB (cb_sum rfl rfl) (by rfl) T.z_sum (by decide +kernel) (ma_cons (md_sl rfl (md_var 0) mo_none (mo_some md_int)) ma_nil)) ma_nil)) md_int) (md_mul md_int (md_var 1))) md_int))) (mss_cons (ms_set sc_law_pot.nd (md_mul (md_mod (md_callTy cb_int (by rfl) T.z_int (by decide +kernel) (ma_cons (md_callB cb_abs (by rfl) T.z_abs (by decide +kernel) (ma_cons (md_var 2) ma_nil)) ma_nil)) (md_pow (md_pow md_int md_int) md_int)) (md_callTy cb_int (by rfl) T.z_int (by decide +kernel) (ma_cons (md_cmp co_ge (md_callB cb_abs (by rfl) T.z_abs (by decide +kernel) (ma_cons (md_var 2) ma_nil)) (md_pow md_int md_int)) ma_nil)))) (mss_cons (ms_set sc_law_pot.nd (md_mod (md_callTy cb_int (by rfl) T.z_int (by decide +kernel) (ma_cons (md_var 2) ma_nil)) md_int)) (mss_one (ms_ret (md_lst (ma_cons (md_var 3) (ma_cons (md_mod (md_callTy cb_int (by rfl) T.z_int (by decide +kernel) (ma_cons (md_add rfl (md_add rfl (md_mul (md_var 4) md_int) (md_mul (md_mul md_int (md_var 1)) (md_var 1))) md_int) ma_nil)) md_int) (ma_cons md_int ma_nil)))))))))
theorem g_law_cells (F : FnP K "_law_cells" s_law_cells f fd) (T : Tx K w mg) : FnG P w K mg base (L2.CX P w) 1 f fd ["script", "limit"] (spM ⟨K, sa, ns, clK K⟩ wF 2 (m_law_cells ns)) :=
  fn_m F sc_law_cells fun cdv A out s H E hr hgd => (mss_one (ms_ret (md_listRg rfl (by rfl) T.z_list (by rfl) T.z_range (md_callB (cb_max rfl) (by rfl) T.z_max (by decide +kernel) (ma_cons md_int (ma_cons (md_callB (cb_min rfl) (by rfl) T.z_min (by decide +kernel) (ma_cons (md_var 1) (ma_cons (md_callB (cb_len rfl) (by rfl) T.z_len (by decide +kernel) (ma_cons (md_var 0) ma_nil)) ma_nil))) ma_nil))))))
theorem g_has_only (F : FnP K "has_only" s_has_only f fd) (T : Tx K w mg) : FnG P w K mg base (L2.CX P w) 1 f fd ["signs", "word"] (spM ⟨K, sa, ns, clK K⟩ wF 2 (m_has_only ns)) :=
  fn_m F sc_has_only fun cdv A out s H E hr hgd => (mss_one (ms_ret (md_and rfl (md_cmp (co_ne rfl hr.units) (md_var 1) md_str) (md_one (md_callB (cb_all rfl rfl) (by rfl) T.z_all (by decide +kernel) (ma_cons (md_lc rfl sc_has_only.nd (mi_seq rfl (md_var 1)) (blkOk_by (N := ["signs", "word", "sign"]) (sc := defScope s_has_only) (own := [("sign", 2)]) (by decide +kernel)) (fun _ _ _ _ _ => (mg_name sc_has_only.nd)) (fun _ _ _ _ _ => mts_nil) (fun _ _ _ _ _ => (md_cmp (co_in rfl hr.units) (md_var 2) (md_var 0)))) ma_nil))))))
theorem g_is_written (F : FnP K "is_written" s_is_written f fd) (T : Tx K w mg) (C_has_only : Cal P w K mg base ⟨K, sa, ns, clK K⟩ "has_only" 2 1 (m_has_only ns)) : FnG P w K mg base (L2.CX P w) 2 f fd ["word", "most"] (spM ⟨K, sa, ns, clK K⟩ wF 2 (m_is_written ns)) :=
  fn_m F sc_is_written fun cdv A out s H E hr hgd => (mss_cons (ms_set sc_is_written.nd (md_remP (md_var 0) md_str)) (mss_cons (ms_if (PW.pt (mw_or (mt_cmp co_gt (md_callB (cb_len rfl) (by rfl) T.z_len (by decide +kernel) (ma_cons (md_var 2) ma_nil)) (md_var 1)) (mw_or1 (mt_not (mt_tru rfl (md_c C_has_only hr (by decide) hgd (by rfl) (ma_cons (md_con T.k_FIGURES rfl (by rfl) rfl) (ma_cons (md_var 2) ma_nil)))))))) (mss_one (ms_ret md_bl)) mss_nil) (mss_one (ms_ret (md_or rfl (md_cmp (co_eq rfl hr.units) (md_var 0) md_str) (md_one (md_not rfl (md_starts (md_var 2) md_str))))))))
theorem g_is_figures (F : FnP K "is_figures" s_is_figures f fd) (T : Tx K w mg) (C_is_written : Cal P w K mg base ⟨K, sa, ns, clK K⟩ "is_written" 2 2 (m_is_written ns)) : FnG P w K mg base (L2.CX P w) 3 f fd ["word"] (spM ⟨K, sa, ns, clK K⟩ wF 1 (m_is_figures ns)) :=
  fn_m F sc_is_figures fun cdv A out s H E hr hgd => (mss_one (ms_ret (md_c C_is_written hr (by decide) hgd (by rfl) (ma_cons (md_var 0) (ma_cons md_int ma_nil)))))
theorem g_parts_of (F : FnP K "parts_of" s_parts_of f fd) (T : Tx K w mg) (C_is_figures : Cal P w K mg base ⟨K, sa, ns, clK K⟩ "is_figures" 1 3 (m_is_figures ns)) : FnG P w K mg base (L2.CX P w) 4 f fd ["word", "names"] (spM ⟨K, sa, ns, clK K⟩ wF 2 (m_parts_of ns)) :=
  fn_m F sc_parts_of fun cdv A out s H E hr hgd => (mss_cons (ms_if (PW.pt (mw_or (mt_tru rfl (md_c C_is_figures hr (by decide) hgd (by rfl) (ma_cons (md_var 0) ma_nil))) (mw_or1 (mt_cmp (co_in rfl hr.units) (md_var 0) (md_var 1))))) (mss_one (ms_ret md_int)) mss_nil) (mss_one (ms_ret (md_cget1 hr.units rfl T.kd_PARTS (by rfl) (by decide) (md_var 0)))))
theorem g_is_expression (F : FnP K "is_expression" s_is_expression f fd) (T : Tx K w mg) (C_parts_of : Cal P w K mg base ⟨K, sa, ns, clK K⟩ "parts_of" 2 4 (m_parts_of ns)) : FnG P w K mg base (L2.CX P w) 5 f fd ["words", "names"] (spM ⟨K, sa, ns, clK K⟩ wF 2 (m_is_expression ns)) :=
  fn_m F sc_is_expression fun cdv A out s H E hr hgd => (mss_cons (ms_set sc_is_expression.nd (md_lst ma_nil)) (mss_cons (ms_for pass_own rfl (mi_rev rfl (by rfl) T.z_reversed (md_var 0)) (mg_name sc_is_expression.nd) (mss_cons (ms_set sc_is_expression.nd (md_c C_parts_of hr (by decide) hgd (by rfl) (ma_cons (md_var 3) (ma_cons (md_var 1) ma_nil)))) (mss_cons (ms_if (PW.pt (mw_or (mt_cmp co_is (md_var 4) md_non) (mw_or1 (mt_cmp co_gt (md_var 4) (md_callB (cb_len rfl) (by rfl) T.z_len (by decide +kernel) (ma_cons (md_var 2) ma_nil)))))) (mss_one (ms_ret md_bl)) mss_nil) (mss_one (ms_set sc_is_expression.nd (md_add rfl (md_lst (ma_cons (md_add rfl md_int (md_maxD rfl rfl (by rfl) T.z_max (md_sl rfl (md_var 2) mo_none (mo_some (md_var 4))) md_int)) ma_nil)) (md_sl rfl (md_var 2) (mo_some (md_var 4)) mo_none))))))) (mss_one (ms_ret (md_and rfl (md_cmp (co_eq rfl hr.units) (md_callB (cb_len rfl) (by rfl) T.z_len (by decide +kernel) (ma_cons (md_var 2) ma_nil)) md_int) (md_one (md_cmp co_le (md_ix rfl hr.units (md_var 2) md_int) (md_gint T.i_MOST_DEEP (by rfl)))))))))
theorem g_is_new_name (F : FnP K "is_new_name" s_is_new_name f fd) (T : Tx K w mg) (C_has_only : Cal P w K mg base ⟨K, sa, ns, clK K⟩ "has_only" 2 1 (m_has_only ns)) : FnG P w K mg base (L2.CX P w) 2 f fd ["word", "names"] (spM ⟨K, sa, ns, clK K⟩ wF 2 (m_is_new_name ns)) :=
  fn_m F sc_is_new_name fun cdv A out s H E hr hgd => (mss_cons (ms_if (PW.pt (mw_or (mt_cmp co_gt (md_callB (cb_len rfl) (by rfl) T.z_len (by decide +kernel) (ma_cons (md_var 0) ma_nil)) (md_gint T.i_MOST_SIGNS (by rfl))) (mw_or (mt_not (mt_tru rfl (md_c C_has_only hr (by decide) hgd (by rfl) (ma_cons (md_add rfl (md_con T.k_LETTERS rfl (by rfl) rfl) (md_con T.k_FIGURES rfl (by rfl) rfl)) (ma_cons (md_var 0) ma_nil))))) (mw_or1 (mt_cmp (co_in rfl hr.units) (md_ix rfl hr.units (md_var 0) md_int) (md_con T.k_FIGURES rfl (by rfl) rfl)))))) (mss_one (ms_ret md_bl)) mss_nil) (mss_one (ms_ret (md_and rfl (md_cmp (co_notin rfl hr.units) (md_var 0) (md_con T.k_LINE_WORDS rfl (by rfl) rfl)) (md_and rfl (md_cnin rfl T.kd_PARTS (by rfl) (md_var 0)) (md_one (md_cmp (co_notin rfl hr.units) (md_var 0) (md_var 1))))))))
theorem g_is_let_line (F : FnP K "is_let_line" s_is_let_line f fd) (T : Tx K w mg) (C_is_new_name : Cal P w K mg base ⟨K, sa, ns, clK K⟩ "is_new_name" 2 2 (m_is_new_name ns)) (C_is_expression : Cal P w K mg base ⟨K, sa, ns, clK K⟩ "is_expression" 2 5 (m_is_expression ns)) : FnG P w K mg base (L2.CX P w) 6 f fd ["words", "names"] (spM ⟨K, sa, ns, clK K⟩ wF 2 (m_is_let_line ns)) :=
  fn_m F sc_is_let_line fun cdv A out s H E hr hgd => (mss_cons (ms_if (PW.pt (mw_or (mt_cmp co_ltX (md_callB (cb_len rfl) (by rfl) T.z_len (by decide +kernel) (ma_cons (md_var 0) ma_nil)) md_int) (mw_or1 (mt_cmp (co_eq rfl hr.units) (md_callB (cb_len rfl) (by rfl) T.z_len (by decide +kernel) (ma_cons (md_var 1) ma_nil)) (md_gint T.i_MOST_LETS (by rfl)))))) (mss_one (ms_ret md_bl)) mss_nil) (mss_one (ms_ret (md_and rfl (md_c C_is_new_name hr (by decide) hgd (by rfl) (ma_cons (md_ix rfl hr.units (md_var 0) md_int) (ma_cons (md_var 1) ma_nil))) (md_one (md_c C_is_expression hr (by decide) hgd (by rfl) (ma_cons (md_sl rfl (md_var 0) (mo_some md_int) mo_none) (ma_cons (md_var 1) ma_nil))))))))
theorem g_can_stand (F : FnP K "can_stand" s_can_stand f fd) (T : Tx K w mg) (C_is_expression : Cal P w K mg base ⟨K, sa, ns, clK K⟩ "is_expression" 2 5 (m_is_expression ns)) (C_is_let_line : Cal P w K mg base ⟨K, sa, ns, clK K⟩ "is_let_line" 2 6 (m_is_let_line ns)) : FnG P w K mg base (L2.CX P w) 7 f fd ["words", "names"] (spM ⟨K, sa, ns, clK K⟩ wF 2 (m_can_stand ns)) :=
  fn_m F sc_can_stand fun cdv A out s H E hr hgd => (mss_cons (ms_if (mt_cmp co_gt (md_callB (cb_len rfl) (by rfl) T.z_len (by decide +kernel) (ma_cons (md_var 0) ma_nil)) (md_gint T.i_MOST_WORDS (by rfl))) (mss_one (ms_ret md_bl)) mss_nil) (mss_cons (ms_if (mt_cmp (co_eq rfl hr.units) (md_ix rfl hr.units (md_var 0) md_int) md_str) (mss_one (ms_ret (md_and rfl (md_cmp (co_eq rfl hr.units) (md_callB (cb_len rfl) (by rfl) T.z_len (by decide +kernel) (ma_cons (md_var 0) ma_nil)) md_int) (md_one (md_cmp (co_in rfl hr.units) (md_ix rfl hr.units (md_var 0) md_int) (md_tup (ma_cons md_str (ma_cons md_str (ma_cons md_str (ma_cons md_str ma_nil)))))))))) mss_nil) (mss_cons (ms_if (mt_cmp (co_eq rfl hr.units) (md_ix rfl hr.units (md_var 0) md_int) md_str) (mss_one (ms_ret (md_c C_is_let_line hr (by decide) hgd (by rfl) (ma_cons (md_var 0) (ma_cons (md_var 1) ma_nil))))) mss_nil) (mss_one (ms_ret (md_c C_is_expression hr (by decide) hgd (by rfl) (ma_cons (md_sl rfl (md_var 0) (mo_some md_int) mo_none) (ma_cons (md_var 1) ma_nil))))))))
theorem g_awaited_behind (F : FnP K "awaited_behind" s_awaited_behind f fd) (T : Tx K w mg) : FnG P w K mg base (L2.CX P w) 1 f fd ["word"] (spM ⟨K, sa, ns, clK K⟩ wF 1 (m_awaited_behind ns)) :=
  fn_m F sc_awaited_behind fun cdv A out s H E hr hgd => (mss_cons (ms_if (mt_cmp (co_in rfl hr.units) (md_var 0) (md_tup (ma_cons md_str (ma_cons md_str ma_nil)))) (mss_one (ms_ret (md_tup (ma_cons md_str (ma_cons md_str ma_nil))))) mss_nil) (mss_one (ms_ret (md_if (mt_cmp (co_eq rfl hr.units) (md_var 0) md_str) (md_tup (ma_cons md_str ma_nil)) (md_tup ma_nil)))))
theorem g_read_lines (F : FnP K "read_lines" s_read_lines f fd) (T : Tx K w mg) (C_can_stand : Cal P w K mg base ⟨K, sa, ns, clK K⟩ "can_stand" 2 7 (m_can_stand ns)) (C_awaited_behind : Cal P w K mg base ⟨K, sa, ns, clK K⟩ "awaited_behind" 1 1 (m_awaited_behind ns)) : FnG P w K mg base (L2.CX P w) 8 f fd ["text"] (spM ⟨K, sa, ns, clK K⟩ wF 1 (m_read_lines ns)) :=
  fn_m F sc_read_lines fun cdv A out s H E hr hgd => (mss_cons (ms_if (mt_not (mt_tru rfl (md_isi rfl (by decide +kernel) (by rfl) T.z_isinstance (by decide +kernel) (md_var 0) (by rfl) T.z_str (by decide +kernel)))) (mss_one ms_never) mss_nil) (mss_cons (ms_setLc rfl sc_read_lines.nd (mi_seq rfl (md_split (md_var 0) md_str)) (blkOk_by (N := ["text", "lines", "names", "awaited", "number", "words", "line"]) (sc := defScope s_read_lines) (own := [("line", 6)]) (by decide +kernel)) (fun _ _ _ _ _ => (mg_name sc_read_lines.nd)) (fun _ _ _ _ _ => mts_nil) (fun _ _ _ _ _ => (md_split (md_var 6) md_str)) (sw_true rfl rfl rfl (by decide +kernel))) (mss_cons (ms_set sc_read_lines.nd (md_lst ma_nil)) (mss_cons (ms_set sc_read_lines.nd (md_tup (ma_cons md_str ma_nil))) (mss_cons (ms_for pass_own rfl (mi_enS (m := 1) rfl (by rfl) T.z_enumerate (by decide) (md_var 1)) (mg_tup rfl rfl (mg_cons (mg_name sc_read_lines.nd) (mg_cons (mg_name sc_read_lines.nd) mg_nil))) (mss_cons (ms_if (PW.pt (mw_or (mt_cmp (co_notin rfl hr.units) (md_ix rfl hr.units (md_var 5) md_int) (md_var 3)) (mw_or1 (mt_not (mt_tru rfl (md_c C_can_stand hr (by decide) hgd (by rfl) (ma_cons (md_var 5) (ma_cons (md_var 2) ma_nil)))))))) (mss_one ms_never) mss_nil) (mss_cons (ms_if (mt_cmp (co_eq rfl hr.units) (md_ix rfl hr.units (md_var 5) md_int) md_str) (mss_one (ms_expr (md_append rfl (md_var 2) (ma_cons (md_ix rfl hr.units (md_var 5) md_int) ma_nil)))) mss_nil) (mss_one (ms_set sc_read_lines.nd (md_c C_awaited_behind hr (by decide) hgd (by rfl) (ma_cons (md_ix rfl hr.units (md_var 5) md_int) ma_nil))))))) (mss_cons (ms_if (mt_tru rfl (md_var 3)) (mss_one ms_never) mss_nil) (mss_one (ms_ret (md_var 1)))))))))
theorem g_read_expression (F : FnP K "read_expression" s_read_expression f fd) (T : Tx K w mg) (C_is_figures : Cal P w K mg base ⟨K, sa, ns, clK K⟩ "is_figures" 1 3 (m_is_figures ns)) : FnG P w K mg base (L2.CX P w) 4 f fd ["words"] (spM ⟨K, sa, ns, clK K⟩ wF 1 (m_read_expression ns)) :=
  fn_m F sc_read_expression fun cdv A out s H E hr hgd => (mss_one (ms_ret (md_callTy (cb_tuple rfl) (by rfl) T.z_tuple (by decide +kernel) (ma_cons (md_lc rfl sc_read_expression.nd (mi_seq rfl (md_var 0)) (blkOk_by (N := ["words", "word"]) (sc := defScope s_read_expression) (own := [("word", 1)]) (by decide +kernel)) (fun _ _ _ _ _ => (mg_name sc_read_expression.nd)) (fun _ _ _ _ _ => mts_nil) (fun _ _ _ _ _ => (md_if (mt_tru rfl (md_c C_is_figures hr (by decide) hgd (by rfl) (ma_cons (md_var 1) ma_nil))) (md_callTy cb_intX (by rfl) T.z_int (by decide +kernel) (ma_cons (md_var 1) ma_nil)) (md_var 1)))) ma_nil))))
theorem g_Program___init__ (F : FnQ K "__init__" "Program.__init__" s_Program___init__ f fd) (T : Tx K w mg) (C_read_lines : Cal P w K mg base ⟨K, sa, ns, clK K⟩ "read_lines" 1 8 (m_read_lines ns)) (C_read_expression : Cal P w K mg base ⟨K, sa, ns, clK K⟩ "read_expression" 1 4 (m_read_expression ns)) : FnG P w K mg base (L2.CX P w) 9 f fd ["self", "text"] (spM ⟨K, sa, ns, clK K⟩ wF 2 (m_Program___init__ ns)) :=
  fn_m F sc_Program___init__ fun cdv A out s H E hr hgd => (mss_cons (ms_set sc_Program___init__.nd (md_c C_read_lines hr (by decide) hgd (by rfl) (ma_cons (md_var 1) ma_nil))) (mss_cons (ms_fld rfl (clsF_cons (clsF_of T.c_Program T.n_Program_text) clsF_nil) (md_var 0) (md_var 1)) (mss_cons (ms_fld rfl (clsF_cons (clsF_of T.c_Program T.n_Program_marks) clsF_nil) (md_var 0) (md_callTy cb_intX (by rfl) T.z_int (by decide +kernel) (ma_cons (md_ix rfl hr.units (md_ix rfl hr.units (md_var 2) md_int) md_int) ma_nil))) (mss_cons (ms_fld rfl (clsF_cons (clsF_of T.c_Program T.n_Program_lets) clsF_nil) (md_var 0) (md_callTy (cb_tuple rfl) (by rfl) T.z_tuple (by decide +kernel) (ma_cons (md_lc rfl sc_Program___init__.nd (mi_seq rfl (md_sl rfl (md_var 2) (mo_some md_int) (mo_some (md_neg md_int)))) (blkOk_by (N := ["self", "text", "lines", "words"]) (sc := defScope s_Program___init__) (own := [("words", 3)]) (by decide +kernel)) (fun _ _ _ _ _ => (mg_name sc_Program___init__.nd)) (fun _ _ _ _ _ => mts_nil) (fun _ _ _ _ _ => (md_tup (ma_cons (md_ix rfl hr.units (md_var 3) md_int) (ma_cons (md_c C_read_expression hr (by decide) hgd (by rfl) (ma_cons (md_sl rfl (md_var 3) (mo_some md_int) mo_none) ma_nil)) ma_nil))))) ma_nil))) (mss_cons (ms_fld rfl (clsF_cons (clsF_of T.c_Program T.n_Program_for_step) clsF_nil) (md_var 0) (md_c C_read_expression hr (by decide) hgd (by rfl) (ma_cons (md_sl rfl (md_ix rfl hr.units (md_var 2) (md_neg md_int)) (mo_some md_int) mo_none) ma_nil))) (mss_one (ms_fld rfl (clsF_cons (clsF_of T.c_Program T.n_Program_for_mark) clsF_nil) (md_var 0) (md_c C_read_expression hr (by decide) hgd (by rfl) (ma_cons (md_sl rfl (md_ix rfl hr.units (md_var 2) (md_neg md_int)) (mo_some md_int) mo_none) ma_nil)))))))))
theorem g_is_integer (F : FnP K "is_integer" s_is_integer f fd) (T : Tx K w mg) : FnG P w K mg base (L2.CX P w) 1 f fd ["value"] (spM ⟨K, sa, ns, clK K⟩ wF 1 (m_is_integer ns)) :=
  fn_m F sc_is_integer fun cdv A out s H E hr hgd => (mss_one (ms_ret (md_and rfl (md_isi rfl (by decide +kernel) (by rfl) T.z_isinstance (by decide +kernel) (md_var 0) (by rfl) T.z_int (by decide +kernel)) (md_one (md_not rfl (md_isi rfl (by decide +kernel) (by rfl) T.z_isinstance (by decide +kernel) (md_var 0) (by rfl) T.z_bool (by decide +kernel)))))))
theorem g_is_within (F : FnP K "is_within" s_is_within f fd) (T : Tx K w mg) (C_is_integer : Cal P w K mg base ⟨K, sa, ns, clK K⟩ "is_integer" 1 1 (m_is_integer ns)) : FnG P w K mg base (L2.CX P w) 2 f fd ["value", "low", "high"] (spM ⟨K, sa, ns, clK K⟩ wF 3 (m_is_within ns)) :=
  fn_m F sc_is_within fun cdv A out s H E hr hgd => (mss_one (ms_ret (md_and rfl (md_c C_is_integer hr (by decide) hgd (by rfl) (ma_cons (md_var 0) ma_nil)) (md_one (md_chain co_le co_le (md_var 1) (md_var 0) (md_var 2))))))
theorem g_is_ascending (F : FnP K "is_ascending" s_is_ascending f fd) (T : Tx K w mg) : FnG P w K mg base (L2.CX P w) 1 f fd ["value"] (spM ⟨K, sa, ns, clK K⟩ wF 1 (m_is_ascending ns)) :=
  fn_m F sc_is_ascending fun cdv A out s H E hr hgd => (mss_one (ms_ret (md_callB (cb_all rfl rfl) (by rfl) T.z_all (by decide +kernel) (ma_cons (md_lc rfl sc_is_ascending.nd (mi_zip rfl (by rfl) T.z_zip (md_var 0) (md_sl rfl (md_var 0) (mo_some md_int) mo_none)) (blkOk_by (N := ["value", "one", "other"]) (sc := defScope s_is_ascending) (own := [("one", 1), ("other", 2)]) (by decide +kernel)) (fun _ _ _ _ _ => (mg_tup rfl rfl (mg_cons (mg_name sc_is_ascending.nd) (mg_cons (mg_name sc_is_ascending.nd) mg_nil)))) (fun _ _ _ _ _ => mts_nil) (fun _ _ _ _ _ => (md_cmp co_ltX (md_var 1) (md_var 2)))) ma_nil))))
theorem g_is_lot (F : FnP K "is_lot" s_is_lot f fd) (T : Tx K w mg) (C_is_within : Cal P w K mg base ⟨K, sa, ns, clK K⟩ "is_within" 3 2 (m_is_within ns)) (C_is_ascending : Cal P w K mg base ⟨K, sa, ns, clK K⟩ "is_ascending" 1 1 (m_is_ascending ns)) : FnG P w K mg base (L2.CX P w) 3 f fd ["many", "value"] (spM ⟨K, sa, ns, clK K⟩ wF 2 (m_is_lot ns)) :=
  fn_m F sc_is_lot fun cdv A out s H E hr hgd => (mss_cons (ms_if (PW.pt (mw_or (mt_not (mt_tru rfl (md_isi rfl (by decide +kernel) (by rfl) T.z_isinstance (by decide +kernel) (md_var 1) (by rfl) T.z_tuple (by decide +kernel)))) (mw_or1 (mt_cmp (co_eq rfl hr.units) (md_callB (cb_len rfl) (by rfl) T.z_len (by decide +kernel) (ma_cons (md_var 1) ma_nil)) md_int)))) (mss_one (ms_ret md_bl)) mss_nil) (mss_one (ms_ret (md_and rfl (md_callB (cb_all rfl rfl) (by rfl) T.z_all (by decide +kernel) (ma_cons (md_lc rfl sc_is_lot.nd (mi_seq rfl (md_var 1)) (blkOk_by (N := ["many", "value", "walker"]) (sc := defScope s_is_lot) (own := [("walker", 2)]) (by decide +kernel)) (fun _ _ _ _ _ => (mg_name sc_is_lot.nd)) (fun _ _ _ _ _ => mts_nil) (fun _ _ _ _ _ => (md_c C_is_within hr (by decide) hgd (by rfl) (ma_cons (md_var 2) (ma_cons md_int (ma_cons (md_sub (md_var 0) md_int) ma_nil)))))) ma_nil)) (md_one (md_c C_is_ascending hr (by decide) hgd (by rfl) (ma_cons (md_var 1) ma_nil)))))))
theorem g_is_tuple_of (F : FnP K "is_tuple_of" s_is_tuple_of f fd) (T : Tx K w mg) : FnG P w K mg base (L2.CX P w) 1 f fd ["value", "many"] (spM ⟨K, sa, ns, clK K⟩ wF 2 (m_is_tuple_of ns)) :=
  fn_m F sc_is_tuple_of fun cdv A out s H E hr hgd => (mss_one (ms_ret (md_and rfl (md_isi rfl (by decide +kernel) (by rfl) T.z_isinstance (by decide +kernel) (md_var 0) (by rfl) T.z_tuple (by decide +kernel)) (md_one (md_cmp (co_eq rfl hr.units) (md_callB (cb_len rfl) (by rfl) T.z_len (by decide +kernel) (ma_cons (md_var 0) ma_nil)) (md_var 1))))))
theorem g_is_floor (F : FnP K "is_floor" s_is_floor f fd) (T : Tx K w mg) (C_is_within : Cal P w K mg base ⟨K, sa, ns, clK K⟩ "is_within" 3 2 (m_is_within ns)) (C_is_tuple_of : Cal P w K mg base ⟨K, sa, ns, clK K⟩ "is_tuple_of" 2 1 (m_is_tuple_of ns)) : FnG P w K mg base (L2.CX P w) 3 f fd ["value"] (spM ⟨K, sa, ns, clK K⟩ wF 1 (m_is_floor ns)) :=
  fn_m F sc_is_floor fun cdv A out s H E hr hgd => (mss_cons (ms_if (mt_not (mt_tru rfl (md_c C_is_tuple_of hr (by decide) hgd (by rfl) (ma_cons (md_var 0) (ma_cons md_int ma_nil))))) (mss_one (ms_ret md_bl)) mss_nil) (mss_cons (ms_asg (md_var 0) (mg_tup rfl rfl (mg_cons (mg_name sc_is_floor.nd) (mg_cons (mg_name sc_is_floor.nd) mg_nil)))) (mss_cons (ms_if (mt_cmp (co_eq rfl hr.units) (md_var 1) md_str) (mss_one (ms_ret (md_c C_is_within hr (by decide) hgd (by rfl) (ma_cons (md_var 2) (ma_cons md_int (ma_cons md_int ma_nil)))))) mss_nil) (mss_one (ms_ret (md_and rfl (md_cmp (co_eq rfl hr.units) (md_var 1) md_str) (md_one (md_c C_is_within hr (by decide) hgd (by rfl) (ma_cons (md_var 2) (ma_cons md_int (ma_cons md_int ma_nil)))))))))))
theorem g_check_floor (F : FnP K "check_floor" s_check_floor f fd) (T : Tx K w mg) (C_is_floor : Cal P w K mg base ⟨K, sa, ns, clK K⟩ "is_floor" 1 3 (m_is_floor ns)) : FnG P w K mg base (L2.CX P w) 4 f fd ["value"] (spM ⟨K, sa, ns, clK K⟩ wF 1 (m_check_floor ns)) :=
  fn_m F sc_check_floor fun cdv A out s H E hr hgd => (mss_one (ms_if (mt_not (mt_tru rfl (md_c C_is_floor hr (by decide) hgd (by rfl) (ma_cons (md_var 0) ma_nil)))) (mss_one ms_never) mss_nil))
theorem g_is_mark (F : FnP K "is_mark" s_is_mark f fd) (T : Tx K w mg) (C_is_within : Cal P w K mg base ⟨K, sa, ns, clK K⟩ "is_within" 3 2 (m_is_within ns)) : FnG P w K mg base (L2.CX P w) 3 f fd ["value"] (spM ⟨K, sa, ns, clK K⟩ wF 1 (m_is_mark ns)) :=
  fn_m F sc_is_mark fun cdv A out s H E hr hgd => (mss_one (ms_ret (md_c C_is_within hr (by decide) hgd (by rfl) (ma_cons (md_var 0) (ma_cons md_int (ma_cons (md_gint T.i_MOST_MARK (by rfl)) ma_nil))))))
theorem g_is_sense (F : FnP K "is_sense" s_is_sense f fd) (T : Tx K w mg) (C_is_within : Cal P w K mg base ⟨K, sa, ns, clK K⟩ "is_within" 3 2 (m_is_within ns)) : FnG P w K mg base (L2.CX P w) 3 f fd ["value"] (spM ⟨K, sa, ns, clK K⟩ wF 1 (m_is_sense ns)) :=
  fn_m F sc_is_sense fun cdv A out s H E hr hgd => (mss_one (ms_ret (md_and rfl (md_c C_is_within hr (by decide) hgd (by rfl) (ma_cons (md_var 0) (ma_cons (md_neg md_int) (ma_cons md_int ma_nil)))) (md_one (md_cmp (co_ne rfl hr.units) (md_var 0) md_int)))))
theorem g_is_place (F : FnP K "is_place" s_is_place f fd) (T : Tx K w mg) (C_is_within : Cal P w K mg base ⟨K, sa, ns, clK K⟩ "is_within" 3 2 (m_is_within ns)) : FnG P w K mg base (L2.CX P w) 3 f fd ["floor", "value"] (spM ⟨K, sa, ns, clK K⟩ wF 2 (m_is_place ns)) :=
  fn_m F sc_is_place fun cdv A out s H E hr hgd => (mss_one (ms_ret (md_c C_is_within hr (by decide) hgd (by rfl) (ma_cons (md_var 1) (ma_cons md_int (ma_cons (md_sub (md_ix rfl hr.units (md_var 0) md_int) md_int) ma_nil))))))
theorem g_is_placed (F : FnP K "is_placed" s_is_placed f fd) (T : Tx K w mg) (C_is_tuple_of : Cal P w K mg base ⟨K, sa, ns, clK K⟩ "is_tuple_of" 2 1 (m_is_tuple_of ns)) (C_is_mark : Cal P w K mg base ⟨K, sa, ns, clK K⟩ "is_mark" 1 3 (m_is_mark ns)) (C_is_sense : Cal P w K mg base ⟨K, sa, ns, clK K⟩ "is_sense" 1 3 (m_is_sense ns)) (C_is_place : Cal P w K mg base ⟨K, sa, ns, clK K⟩ "is_place" 2 3 (m_is_place ns)) : FnG P w K mg base (L2.CX P w) 4 f fd ["floor", "value"] (spM ⟨K, sa, ns, clK K⟩ wF 2 (m_is_placed ns)) :=
  fn_m F sc_is_placed fun cdv A out s H E hr hgd => (mss_cons (ms_if (mt_not (mt_tru rfl (md_c C_is_tuple_of hr (by decide) hgd (by rfl) (ma_cons (md_var 1) (ma_cons md_int ma_nil))))) (mss_one (ms_ret md_bl)) mss_nil) (mss_cons (ms_asg (md_var 1) (mg_tup rfl rfl (mg_cons (mg_name sc_is_placed.nd) (mg_cons (mg_name sc_is_placed.nd) (mg_cons (mg_name sc_is_placed.nd) mg_nil))))) (mss_one (ms_ret (md_and rfl (md_c C_is_place hr (by decide) hgd (by rfl) (ma_cons (md_var 0) (ma_cons (md_var 2) ma_nil))) (md_and rfl (md_c C_is_mark hr (by decide) hgd (by rfl) (ma_cons (md_var 3) ma_nil)) (md_one (md_c C_is_sense hr (by decide) hgd (by rfl) (ma_cons (md_var 4) ma_nil)))))))))
theorem g_is_standing (F : FnP K "is_standing" s_is_standing f fd) (T : Tx K w mg) (C_is_placed : Cal P w K mg base ⟨K, sa, ns, clK K⟩ "is_placed" 2 4 (m_is_placed ns)) : FnG P w K mg base (L2.CX P w) 5 f fd ["floor", "value"] (spM ⟨K, sa, ns, clK K⟩ wF 2 (m_is_standing ns)) :=
  fn_m F sc_is_standing fun cdv A out s H E hr hgd => (mss_cons (ms_if (PW.pt (mw_or (mt_not (mt_tru rfl (md_isi rfl (by decide +kernel) (by rfl) T.z_isinstance (by decide +kernel) (md_var 1) (by rfl) T.z_tuple (by decide +kernel)))) (mw_or1 (mt_not (mt_chain co_le co_le md_int (md_callB (cb_len rfl) (by rfl) T.z_len (by decide +kernel) (ma_cons (md_var 1) ma_nil)) (md_gint T.i_MOST_WALKERS (by rfl))))))) (mss_one (ms_ret md_bl)) mss_nil) (mss_one (ms_ret (md_callB (cb_all rfl rfl) (by rfl) T.z_all (by decide +kernel) (ma_cons (md_lc rfl sc_is_standing.nd (mi_seq rfl (md_var 1)) (blkOk_by (N := ["floor", "value", "entry"]) (sc := defScope s_is_standing) (own := [("entry", 2)]) (by decide +kernel)) (fun _ _ _ _ _ => (mg_name sc_is_standing.nd)) (fun _ _ _ _ _ => mts_nil) (fun _ _ _ _ _ => (md_c C_is_placed hr (by decide) hgd (by rfl) (ma_cons (md_var 0) (ma_cons (md_var 2) ma_nil))))) ma_nil)))))
theorem g_check_standing (F : FnP K "check_standing" s_check_standing f fd) (T : Tx K w mg) (C_is_standing : Cal P w K mg base ⟨K, sa, ns, clK K⟩ "is_standing" 2 5 (m_is_standing ns)) : FnG P w K mg base (L2.CX P w) 6 f fd ["floor", "value"] (spM ⟨K, sa, ns, clK K⟩ wF 2 (m_check_standing ns)) :=
  fn_m F sc_check_standing fun cdv A out s H E hr hgd => (mss_one (ms_if (mt_not (mt_tru rfl (md_c C_is_standing hr (by decide) hgd (by rfl) (ma_cons (md_var 0) (ma_cons (md_var 1) ma_nil))))) (mss_one ms_never) mss_nil))
theorem g_check_program (F : FnP K "check_program" s_check_program f fd) (T : Tx K w mg) : FnG P w K mg base (L2.CX P w) 1 f fd ["value"] (spM ⟨K, sa, ns, clK K⟩ wF 1 (m_check_program ns)) :=
  fn_m F sc_check_program fun cdv A out s H E hr hgd => (mss_one (ms_if (mt_not (mt_tru rfl (md_isC rfl (T.is_Program _ _) (by rfl) T.z_isinstance (by decide +kernel) (md_var 0) (by rfl)))) (mss_one ms_never) mss_nil))
theorem g_check_start (F : FnP K "check_start" s_check_start f fd) (T : Tx K w mg) (C_check_floor : Cal P w K mg base ⟨K, sa, ns, clK K⟩ "check_floor" 1 4 (m_check_floor ns)) (C_check_standing : Cal P w K mg base ⟨K, sa, ns, clK K⟩ "check_standing" 2 6 (m_check_standing ns)) (C_check_program : Cal P w K mg base ⟨K, sa, ns, clK K⟩ "check_program" 1 1 (m_check_program ns)) : FnG P w K mg base (L2.CX P w) 7 f fd ["program", "floor", "standing"] (spM ⟨K, sa, ns, clK K⟩ wF 3 (m_check_start ns)) :=
  fn_m F sc_check_start fun cdv A out s H E hr hgd => (mss_cons (ms_expr (md_c C_check_program hr (by decide) hgd (by rfl) (ma_cons (md_var 0) ma_nil))) (mss_cons (ms_expr (md_c C_check_floor hr (by decide) hgd (by rfl) (ma_cons (md_var 1) ma_nil))) (mss_cons (ms_expr (md_c C_check_standing hr (by decide) hgd (by rfl) (ma_cons (md_var 1) (ma_cons (md_var 2) ma_nil)))) (mss_one (ms_if (mt_not (mt_tru rfl (md_callB (cb_all rfl rfl) (by rfl) T.z_all (by decide +kernel) (ma_cons (md_lc rfl sc_check_start.nd (mi_seq rfl (md_var 2)) (blkOk_by (N := ["program", "floor", "standing", "entry"]) (sc := defScope s_check_start) (own := [("entry", 3)]) (by decide +kernel)) (fun _ _ _ _ _ => (mg_name sc_check_start.nd)) (fun _ _ _ _ _ => mts_nil) (fun _ _ _ _ _ => (md_cmp co_ltX (md_ix rfl hr.units (md_var 3) md_int) (md_fld rfl (clsF_cons (clsF_of T.c_Program T.n_Program_marks) clsF_nil) (md_var 0))))) ma_nil)))) (mss_one ms_never) mss_nil)))))
theorem g_cell_at (F : FnP K "cell_at" s_cell_at f fd) (T : Tx K w mg) : FnG P w K mg base (L2.CX P w) 1 f fd ["standing", "walker", "place"] (spM ⟨K, sa, ns, clK K⟩ wF 3 (m_cell_at ns)) :=
  fn_m F sc_cell_at fun cdv A out s H E hr hgd => (mss_cons (ms_setLc rfl sc_cell_at.nd (mi_enu rfl (by rfl) T.z_enumerate (md_var 0)) (blkOk_by (N := ["standing", "walker", "place", "marks", "number", "at", "mark", "_"]) (sc := defScope s_cell_at) (own := [("number", 4), ("at", 5), ("mark", 6), ("_", 7)]) (by decide +kernel)) (fun _ _ _ _ _ => (mg_tup rfl rfl (mg_cons (mg_name sc_cell_at.nd) (mg_cons (mg_tup rfl rfl (mg_cons (mg_name sc_cell_at.nd) (mg_cons (mg_name sc_cell_at.nd) (mg_cons (mg_name sc_cell_at.nd) mg_nil)))) mg_nil)))) (fun _ _ _ _ _ => (mts_one (PW.pt (mw_and (mt_cmp (co_eq rfl hr.units) (md_var 5) (md_var 2)) (mw_and1 (mt_cmp (co_ne rfl hr.units) (md_var 4) (md_var 1))))))) (fun _ _ _ _ _ => (md_var 6)) (sw_true rfl rfl rfl (by decide +kernel))) (mss_one (ms_ret (md_callTy (cb_tuple rfl) (by rfl) T.z_tuple (by decide +kernel) (ma_cons (md_callB (cb_sortX rfl) (by rfl) T.z_sorted (by decide +kernel) (ma_cons (md_var 3) ma_nil)) ma_nil)))))
theorem g_place_at (F : FnP K "place_at" s_place_at f fd) (T : Tx K w mg) : FnG P w K mg base (L2.CX P w) 1 f fd ["floor", "place", "steps"] (spM ⟨K, sa, ns, clK K⟩ wF 3 (m_place_at ns)) :=
  fn_m F sc_place_at fun cdv A out s H E hr hgd => (mss_cons (ms_asg (md_var 0) (mg_tup rfl rfl (mg_cons (mg_name sc_place_at.nd) (mg_cons (mg_name sc_place_at.nd) mg_nil)))) (mss_cons (ms_set sc_place_at.nd (md_add rfl (md_var 1) (md_var 2))) (mss_cons (ms_if (mt_cmp (co_eq rfl hr.units) (md_var 3) md_str) (mss_one (ms_ret (md_mod (md_var 5) (md_var 4)))) mss_nil) (mss_one (ms_ret (md_if (mt_chain co_le co_ltX md_int (md_var 5) (md_var 4)) (md_var 5) md_non))))))
theorem g_cells_towards (F : FnP K "cells_towards" s_cells_towards f fd) (T : Tx K w mg) (C_place_at : Cal P w K mg base ⟨K, sa, ns, clK K⟩ "place_at" 3 1 (m_place_at ns)) (C_cell_at : Cal P w K mg base ⟨K, sa, ns, clK K⟩ "cell_at" 3 1 (m_cell_at ns)) : FnG P w K mg base (L2.CX P w) 2 f fd ["floor", "standing", "walker", "sense"] (spM ⟨K, sa, ns, clK K⟩ wF 4 (m_cells_towards ns)) :=
  fn_m F sc_cells_towards fun cdv A out s H E hr hgd => (mss_cons (ms_set sc_cells_towards.nd (md_ix rfl hr.units (md_ix rfl hr.units (md_var 1) (md_var 2)) md_int)) (mss_cons (ms_setLc rfl sc_cells_towards.nd (mi_rng2 (by rfl) T.z_range md_int (md_ix rfl hr.units (md_var 0) md_int)) (blkOk_by (N := ["floor", "standing", "walker", "sense", "own_place", "places", "steps", "place"]) (sc := defScope s_cells_towards) (own := [("steps", 6)]) (by decide +kernel)) (fun _ _ _ _ _ => (mg_name sc_cells_towards.nd)) (fun _ _ _ _ _ => mts_nil) (fun _ _ _ _ _ => (md_c C_place_at hr (by decide) hgd (by rfl) (ma_cons (md_var 0) (ma_cons (md_var 4) (ma_cons (md_mul (md_var 3) (md_var 6)) ma_nil))))) (sw_true rfl rfl rfl (by decide +kernel))) (mss_one (ms_ret (md_callTy (cb_tuple rfl) (by rfl) T.z_tuple (by decide +kernel) (ma_cons (md_lc rfl sc_cells_towards.nd (mi_seq rfl (md_var 5)) (blkOk_by (N := ["floor", "standing", "walker", "sense", "own_place", "places", "steps", "place"]) (sc := defScope s_cells_towards) (own := [("place", 7)]) (by decide +kernel)) (fun _ _ _ _ _ => (mg_name sc_cells_towards.nd)) (fun _ _ _ _ _ => (mts_one (mt_cmp co_isnot (md_var 7) md_non))) (fun _ _ _ _ _ => (md_c C_cell_at hr (by decide) hgd (by rfl) (ma_cons (md_var 1) (ma_cons (md_var 2) (ma_cons (md_var 7) ma_nil)))))) ma_nil))))))
theorem g_view_of (F : FnP K "view_of" s_view_of f fd) (T : Tx K w mg) (C_cell_at : Cal P w K mg base ⟨K, sa, ns, clK K⟩ "cell_at" 3 1 (m_cell_at ns)) (C_cells_towards : Cal P w K mg base ⟨K, sa, ns, clK K⟩ "cells_towards" 4 2 (m_cells_towards ns)) : FnG P w K mg base (L2.CX P w) 3 f fd ["floor", "standing", "walker"] (spM ⟨K, sa, ns, clK K⟩ wF 3 (m_view_of ns)) :=
  fn_m F sc_view_of fun cdv A out s H E hr hgd => (mss_cons (ms_asg (md_ix rfl hr.units (md_var 1) (md_var 2)) (mg_tup rfl rfl (mg_cons (mg_name sc_view_of.nd) (mg_cons (mg_name sc_view_of.nd) (mg_cons (mg_name sc_view_of.nd) mg_nil))))) (mss_cons (ms_set sc_view_of.nd (md_c C_cells_towards hr (by decide) hgd (by rfl) (ma_cons (md_var 0) (ma_cons (md_var 1) (ma_cons (md_var 2) (ma_cons (md_var 5) ma_nil)))))) (mss_cons (ms_set sc_view_of.nd (md_c C_cells_towards hr (by decide) hgd (by rfl) (ma_cons (md_var 0) (ma_cons (md_var 1) (ma_cons (md_var 2) (ma_cons (md_neg (md_var 5)) ma_nil)))))) (mss_one (ms_ret (md_tup (ma_cons (md_var 4) (ma_cons (md_c C_cell_at hr (by decide) hgd (by rfl) (ma_cons (md_var 1) (ma_cons (md_var 2) (ma_cons (md_var 3) ma_nil)))) (ma_cons (md_var 6) (ma_cons (md_var 7) ma_nil))))))))))
theorem g_held (F : FnP K "held" s_held f fd) (T : Tx K w mg) : FnG P w K mg base (L2.CX P w) 1 f fd ["value", "low", "high"] (spM ⟨K, sa, ns, clK K⟩ wF 3 (m_held ns)) :=
  fn_m F sc_held fun cdv A out s H E hr hgd => (mss_one (ms_ret (md_callB (cb_max rfl) (by rfl) T.z_max (by decide +kernel) (ma_cons (md_var 1) (ma_cons (md_callB (cb_min rfl) (by rfl) T.z_min (by decide +kernel) (ma_cons (md_var 0) (ma_cons (md_var 2) ma_nil))) ma_nil)))))
theorem g_seen_cell (F : FnP K "seen_cell" s_seen_cell f fd) (T : Tx K w mg) : FnG P w K mg base (L2.CX P w) 1 f fd ["floor", "seen", "steps"] (spM ⟨K, sa, ns, clK K⟩ wF 3 (m_seen_cell ns)) :=
  fn_m F sc_seen_cell fun cdv A out s H E hr hgd => (mss_cons (ms_asg (md_var 1) (mg_tup rfl rfl (mg_cons (mg_name sc_seen_cell.nd) (mg_cons (mg_name sc_seen_cell.nd) (mg_cons (mg_name sc_seen_cell.nd) (mg_cons (mg_name sc_seen_cell.nd) mg_nil)))))) (mss_cons (ms_if (mt_cmp (co_eq rfl hr.units) (md_ix rfl hr.units (md_var 0) md_int) md_str) (mss_one (ms_set sc_seen_cell.nd (md_mod (md_var 2) (md_ix rfl hr.units (md_var 0) md_int)))) mss_nil) (mss_cons (ms_if (mt_cmp (co_eq rfl hr.units) (md_var 2) md_int) (mss_one (ms_ret (md_var 4))) mss_nil) (mss_cons (ms_set sc_seen_cell.nd (md_if (mt_cmp co_gt (md_var 2) md_int) (md_var 5) (md_var 6))) (mss_one (ms_ret (md_if (mt_cmp co_le (md_callB cb_abs (by rfl) T.z_abs (by decide +kernel) (ma_cons (md_var 2) ma_nil)) (md_callB (cb_len rfl) (by rfl) T.z_len (by decide +kernel) (ma_cons (md_var 7) ma_nil))) (md_ix rfl hr.units (md_var 7) (md_sub (md_callB cb_abs (by rfl) T.z_abs (by decide +kernel) (ma_cons (md_var 2) ma_nil)) md_int)) md_non)))))))
theorem g_counted (F : FnP K "counted" s_counted f fd) (T : Tx K w mg) : FnG P w K mg base (L2.CX P w) 1 f fd ["word", "cell", "parts"] (spM ⟨K, sa, ns, clK K⟩ wF 3 (m_counted ns)) :=
  fn_m F sc_counted fun cdv A out s H E hr hgd => (mss_cons (ms_if (mt_cmp (co_eq rfl hr.units) (md_var 0) md_str) (mss_one (ms_ret (md_if (mt_cmp co_is (md_var 1) md_non) md_int md_int))) mss_nil) (mss_cons (ms_if (mt_cmp co_is (md_var 1) md_non) (mss_one (ms_ret md_int)) mss_nil) (mss_one (ms_ret (md_if (mt_cmp (co_eq rfl hr.units) (md_var 0) md_str) (md_callB (cb_len rfl) (by rfl) T.z_len (by decide +kernel) (ma_cons (md_var 1) ma_nil)) (md_count rfl (md_var 1) (md_ix rfl hr.units (md_var 2) md_int)))))))
theorem g_reckoned (F : FnP K "reckoned" s_reckoned f fd) (T : Tx K w mg) (C_held : Cal P w K mg base ⟨K, sa, ns, clK K⟩ "held" 3 1 (m_held ns)) : FnG P w K mg base (L2.CX P w) 2 f fd ["word", "parts"] (spM ⟨K, sa, ns, clK K⟩ wF 2 (m_reckoned ns)) :=
  fn_m F sc_reckoned fun cdv A out s H E hr hgd => (mss_cons (ms_set sc_reckoned.nd (md_ix rfl hr.units (md_var 1) md_int)) (mss_cons (ms_if (mt_cmp (co_eq rfl hr.units) (md_var 0) md_str) (mss_one (ms_ret (md_fdiv (md_var 2) md_int))) mss_nil) (mss_cons (ms_if (mt_cmp (co_eq rfl hr.units) (md_var 0) md_str) (mss_one (ms_ret (md_neg (md_var 2)))) mss_nil) (mss_cons (ms_if (mt_cmp (co_eq rfl hr.units) (md_var 0) md_str) (mss_one (ms_ret (md_c C_held hr (by decide) hgd (by rfl) (ma_cons (md_add rfl (md_var 2) (md_ix rfl hr.units (md_var 1) md_int)) (ma_cons (md_neg (md_gint T.i_MOST_SUM (by rfl))) (ma_cons (md_gint T.i_MOST_SUM (by rfl)) ma_nil)))))) mss_nil) (mss_cons (ms_if (mt_cmp (co_eq rfl hr.units) (md_var 0) md_str) (mss_one (ms_ret (md_if (mt_cmp co_ltX (md_var 2) (md_ix rfl hr.units (md_var 1) md_int)) md_int md_int))) mss_nil) (mss_cons (ms_if (mt_cmp (co_eq rfl hr.units) (md_var 0) md_str) (mss_one (ms_ret (md_if (mt_cmp (co_eq rfl hr.units) (md_var 2) (md_ix rfl hr.units (md_var 1) md_int)) md_int md_int))) mss_nil) (mss_one (ms_ret (md_if (mt_cmp (co_eq rfl hr.units) (md_var 2) md_int) (md_ix rfl hr.units (md_var 1) md_int) (md_ix rfl hr.units (md_var 1) md_int))))))))))
theorem g_value_of_word (F : FnP K "value_of_word" s_value_of_word f fd) (T : Tx K w mg) (C_seen_cell : Cal P w K mg base ⟨K, sa, ns, clK K⟩ "seen_cell" 3 1 (m_seen_cell ns)) (C_counted : Cal P w K mg base ⟨K, sa, ns, clK K⟩ "counted" 3 1 (m_counted ns)) (C_reckoned : Cal P w K mg base ⟨K, sa, ns, clK K⟩ "reckoned" 2 2 (m_reckoned ns)) : FnG P w K mg base (L2.CX P w) 3 f fd ["word", "parts", "known", "floor", "seen"] (spM ⟨K, sa, ns, clK K⟩ wF 5 (m_value_of_word ns)) :=
  fn_m F sc_value_of_word fun cdv A out s H E hr hgd => (mss_cons (ms_if (mt_tru rfl (md_isi rfl (by decide +kernel) (by rfl) T.z_isinstance (by decide +kernel) (md_var 0) (by rfl) T.z_int (by decide +kernel))) (mss_one (ms_ret (md_var 0))) mss_nil) (mss_cons (ms_if (mt_cmp (co_in rfl hr.units) (md_var 0) (md_var 2)) (mss_one (ms_ret (md_ix rfl hr.units (md_var 2) (md_var 0)))) mss_nil) (mss_cons (ms_if (mt_cmp (co_in rfl hr.units) (md_var 0) (md_tup (ma_cons md_str (ma_cons md_str (ma_cons md_str ma_nil))))) (mss_one (ms_ret (md_c C_counted hr (by decide) hgd (by rfl) (ma_cons (md_var 0) (ma_cons (md_c C_seen_cell hr (by decide) hgd (by rfl) (ma_cons (md_var 3) (ma_cons (md_var 4) (ma_cons (md_ix rfl hr.units (md_var 1) md_int) ma_nil)))) (ma_cons (md_var 1) ma_nil)))))) mss_nil) (mss_one (ms_ret (md_c C_reckoned hr (by decide) hgd (by rfl) (ma_cons (md_var 0) (ma_cons (md_var 1) ma_nil))))))))
theorem g_value_of (F : FnP K "value_of" s_value_of f fd) (T : Tx K w mg) (C_value_of_word : Cal P w K mg base ⟨K, sa, ns, clK K⟩ "value_of_word" 5 3 (m_value_of_word ns)) : FnG P w K mg base (L2.CX P w) 4 f fd ["expression", "known", "floor", "seen"] (spM ⟨K, sa, ns, clK K⟩ wF 4 (m_value_of ns)) :=
  fn_m F sc_value_of fun cdv A out s H E hr hgd => (mss_cons (ms_set sc_value_of.nd (md_lst ma_nil)) (mss_cons (ms_for pass_own rfl (mi_rev rfl (by rfl) T.z_reversed (md_var 0)) (mg_name sc_value_of.nd) (mss_cons (ms_set sc_value_of.nd (md_cget2 hr.units rfl T.kd_PARTS (by rfl) (by decide) (md_var 5) md_int)) (mss_one (ms_set sc_value_of.nd (md_add rfl (md_lst (ma_cons (md_c C_value_of_word hr (by decide) hgd (by rfl) (ma_cons (md_var 5) (ma_cons (md_sl rfl (md_var 4) mo_none (mo_some (md_var 6))) (ma_cons (md_var 1) (ma_cons (md_var 2) (ma_cons (md_var 3) ma_nil)))))) ma_nil)) (md_sl rfl (md_var 4) (mo_some (md_var 6)) mo_none)))))) (mss_one (ms_ret (md_ix rfl hr.units (md_var 4) md_int)))))
theorem g_cells_seen (F : FnP K "cells_seen" s_cells_seen f fd) (T : Tx K w mg) : FnG P w K mg base (L2.CX P w) 1 f fd ["floor", "seen"] (spM ⟨K, sa, ns, clK K⟩ wF 2 (m_cells_seen ns)) :=
  fn_m F sc_cells_seen fun cdv A out s H E hr hgd => (mss_cons (ms_asg (md_var 1) (mg_tup rfl rfl (mg_cons (mg_name sc_cells_seen.nd) (mg_cons (mg_name sc_cells_seen.nd) (mg_cons (mg_name sc_cells_seen.nd) (mg_cons (mg_name sc_cells_seen.nd) mg_nil)))))) (mss_one (ms_ret (md_if (mt_cmp (co_eq rfl hr.units) (md_ix rfl hr.units (md_var 0) md_int) md_str) (md_lst (ma_cons (md_var 3) (ma_star rfl (md_var 4) ma_nil))) (md_lst (ma_cons (md_var 3) (ma_star rfl (md_var 4) (ma_star rfl (md_var 5) ma_nil))))))))
theorem g_first_met (F : FnP K "first_met" s_first_met f fd) (T : Tx K w mg) : FnG P w K mg base (L2.CX P w) 1 f fd ["cells"] (spM ⟨K, sa, ns, clK K⟩ wF 1 (m_first_met ns)) :=
  fn_m F sc_first_met fun cdv A out s H E hr hgd => (mss_cons (ms_for pass_own rfl (mi_enS (m := 1) rfl (by rfl) T.z_enumerate (by decide) (md_var 0)) (mg_tup rfl rfl (mg_cons (mg_name sc_first_met.nd) (mg_cons (mg_name sc_first_met.nd) mg_nil))) (mss_one (ms_if (mt_cmp (co_ne rfl hr.units) (md_var 2) (md_tup ma_nil)) (mss_one (ms_ret (md_var 1))) mss_nil))) (mss_one (ms_ret md_int)))
theorem g_known_at_first (F : FnP K "known_at_first" s_known_at_first f fd) (T : Tx K w mg) (C_cells_seen : Cal P w K mg base ⟨K, sa, ns, clK K⟩ "cells_seen" 2 1 (m_cells_seen ns)) (C_first_met : Cal P w K mg base ⟨K, sa, ns, clK K⟩ "first_met" 1 1 (m_first_met ns)) : FnG P w K mg base (L2.CX P w) 2 f fd ["floor", "seen"] (spM ⟨K, sa, ns, clK K⟩ wF 2 (m_known_at_first ns)) :=
  fn_m F sc_known_at_first fun cdv A out s H E hr hgd => (mss_cons (ms_asg (md_var 1) (mg_tup rfl rfl (mg_cons (mg_name sc_known_at_first.nd) (mg_cons (mg_name sc_known_at_first.nd) (mg_cons (mg_name sc_known_at_first.nd) (mg_cons (mg_name sc_known_at_first.nd) mg_nil)))))) (mss_one (ms_ret (md_dct (mp_str (md_var 2) (mp_str (md_callB (cb_sumX rfl rfl) (by rfl) T.z_sum (by decide +kernel) (ma_cons (md_lc rfl sc_known_at_first.nd (mi_seq rfl (md_c C_cells_seen hr (by decide) hgd (by rfl) (ma_cons (md_var 0) (ma_cons (md_var 1) ma_nil)))) (blkOk_by (N := ["floor", "seen", "mark", "_", "ahead", "behind", "cell"]) (sc := defScope s_known_at_first) (own := [("cell", 6)]) (by decide +kernel)) (fun _ _ _ _ _ => (mg_name sc_known_at_first.nd)) (fun _ _ _ _ _ => mts_nil) (fun _ _ _ _ _ => (md_callB (cb_len rfl) (by rfl) T.z_len (by decide +kernel) (ma_cons (md_var 6) ma_nil)))) ma_nil)) (mp_str (md_ix rfl hr.units (md_var 0) md_int) (mp_str (md_c C_first_met hr (by decide) hgd (by rfl) (ma_cons (md_var 4) ma_nil)) (mp_str (md_c C_first_met hr (by decide) hgd (by rfl) (ma_cons (md_var 5) ma_nil)) mp_nil)))))))))
theorem g_thought_of (F : FnP K "thought_of" s_thought_of f fd) (T : Tx K w mg) (C_held : Cal P w K mg base ⟨K, sa, ns, clK K⟩ "held" 3 1 (m_held ns)) (C_value_of : Cal P w K mg base ⟨K, sa, ns, clK K⟩ "value_of" 4 4 (m_value_of ns)) (C_known_at_first : Cal P w K mg base ⟨K, sa, ns, clK K⟩ "known_at_first" 2 2 (m_known_at_first ns)) : FnG P w K mg base (L2.CX P w) 5 f fd ["program", "floor", "seen"] (spM ⟨K, sa, ns, clK K⟩ wF 3 (m_thought_of ns)) :=
  fn_m F sc_thought_of fun cdv A out s H E hr hgd => (mss_cons (ms_set sc_thought_of.nd (md_c C_known_at_first hr (by decide) hgd (by rfl) (ma_cons (md_var 1) (ma_cons (md_var 2) ma_nil)))) (mss_cons (ms_for pass_own rfl (mi_seq rfl (md_fld rfl (clsF_cons (clsF_of T.c_Program T.n_Program_lets) clsF_nil) (md_var 0))) (mg_tup rfl rfl (mg_cons (mg_name sc_thought_of.nd) (mg_cons (mg_name sc_thought_of.nd) mg_nil))) (mss_one (ms_sub hr.units (md_c C_value_of hr (by decide) hgd (by rfl) (ma_cons (md_var 5) (ma_cons (md_var 3) (ma_cons (md_var 1) (ma_cons (md_var 2) ma_nil))))) (md_var 3) (md_var 4)))) (mss_cons (ms_set sc_thought_of.nd (md_c C_value_of hr (by decide) hgd (by rfl) (ma_cons (md_fld rfl (clsF_cons (clsF_of T.c_Program T.n_Program_for_step) clsF_nil) (md_var 0)) (ma_cons (md_var 3) (ma_cons (md_var 1) (ma_cons (md_var 2) ma_nil)))))) (mss_cons (ms_set sc_thought_of.nd (md_c C_value_of hr (by decide) hgd (by rfl) (ma_cons (md_fld rfl (clsF_cons (clsF_of T.c_Program T.n_Program_for_mark) clsF_nil) (md_var 0)) (ma_cons (md_var 3) (ma_cons (md_var 1) (ma_cons (md_var 2) ma_nil)))))) (mss_one (ms_ret (md_tup (ma_cons (md_c C_held hr (by decide) hgd (by rfl) (ma_cons (md_var 6) (ma_cons (md_neg md_int) (ma_cons md_int ma_nil)))) (ma_cons (md_c C_held hr (by decide) hgd (by rfl) (ma_cons (md_var 7) (ma_cons md_int (ma_cons (md_sub (md_fld rfl (clsF_cons (clsF_of T.c_Program T.n_Program_marks) clsF_nil) (md_var 0)) md_int) ma_nil)))) ma_nil)))))))))
theorem g_place_behind (F : FnP K "place_behind" s_place_behind f fd) (T : Tx K w mg) (C_place_at : Cal P w K mg base ⟨K, sa, ns, clK K⟩ "place_at" 3 1 (m_place_at ns)) : FnG P w K mg base (L2.CX P w) 2 f fd ["floor", "place", "sense", "step"] (spM ⟨K, sa, ns, clK K⟩ wF 4 (m_place_behind ns)) :=
  fn_m F sc_place_behind fun cdv A out s H E hr hgd => (mss_cons (ms_set sc_place_behind.nd (md_c C_place_at hr (by decide) hgd (by rfl) (ma_cons (md_var 0) (ma_cons (md_var 1) (ma_cons (md_mul (md_var 2) (md_var 3)) ma_nil))))) (mss_one (ms_ret (md_if (mt_cmp co_is (md_var 4) md_non) (md_var 1) (md_var 4)))))
theorem g_entry_behind (F : FnP K "entry_behind" s_entry_behind f fd) (T : Tx K w mg) (C_view_of : Cal P w K mg base ⟨K, sa, ns, clK K⟩ "view_of" 3 3 (m_view_of ns)) (C_thought_of : Cal P w K mg base ⟨K, sa, ns, clK K⟩ "thought_of" 3 5 (m_thought_of ns)) (C_place_behind : Cal P w K mg base ⟨K, sa, ns, clK K⟩ "place_behind" 4 2 (m_place_behind ns)) : FnG P w K mg base (L2.CX P w) 6 f fd ["program", "floor", "standing", "walker"] (spM ⟨K, sa, ns, clK K⟩ wF 4 (m_entry_behind ns)) :=
  fn_m F sc_entry_behind fun cdv A out s H E hr hgd => (mss_cons (ms_asg (md_ix rfl hr.units (md_var 2) (md_var 3)) (mg_tup rfl rfl (mg_cons (mg_name sc_entry_behind.nd) (mg_cons (mg_name sc_entry_behind.nd) (mg_cons (mg_name sc_entry_behind.nd) mg_nil))))) (mss_cons (ms_asg (md_c C_thought_of hr (by decide) hgd (by rfl) (ma_cons (md_var 0) (ma_cons (md_var 1) (ma_cons (md_c C_view_of hr (by decide) hgd (by rfl) (ma_cons (md_var 1) (ma_cons (md_var 2) (ma_cons (md_var 3) ma_nil)))) ma_nil)))) (mg_tup rfl rfl (mg_cons (mg_name sc_entry_behind.nd) (mg_cons (mg_name sc_entry_behind.nd) mg_nil)))) (mss_one (ms_ret (md_tup (ma_cons (md_c C_place_behind hr (by decide) hgd (by rfl) (ma_cons (md_var 1) (ma_cons (md_var 4) (ma_cons (md_var 6) (ma_cons (md_var 7) ma_nil))))) (ma_cons (md_var 8) (ma_cons (md_var 6) ma_nil))))))))
theorem g_standing_behind (F : FnP K "standing_behind" s_standing_behind f fd) (T : Tx K w mg) (C_entry_behind : Cal P w K mg base ⟨K, sa, ns, clK K⟩ "entry_behind" 4 6 (m_entry_behind ns)) : FnG P w K mg base (L2.CX P w) 7 f fd ["program", "floor", "standing", "lot"] (spM ⟨K, sa, ns, clK K⟩ wF 4 (m_standing_behind ns)) :=
  fn_m F sc_standing_behind fun cdv A out s H E hr hgd => (mss_cons (ms_set sc_standing_behind.nd (md_lst ma_nil)) (mss_cons (ms_for pass_own rfl (mi_enu rfl (by rfl) T.z_enumerate (md_var 2)) (mg_tup rfl rfl (mg_cons (mg_name sc_standing_behind.nd) (mg_cons (mg_name sc_standing_behind.nd) mg_nil))) (mss_one (ms_expr (md_append rfl (md_var 4) (ma_cons (md_if (mt_cmp (co_in rfl hr.units) (md_var 5) (md_var 3)) (md_c C_entry_behind hr (by decide) hgd (by rfl) (ma_cons (md_var 0) (ma_cons (md_var 1) (ma_cons (md_var 2) (ma_cons (md_var 5) ma_nil))))) (md_var 6)) ma_nil))))) (mss_one (ms_ret (md_callTy (cb_tuple rfl) (by rfl) T.z_tuple (by decide +kernel) (ma_cons (md_var 4) ma_nil))))))
theorem g_beat (F : FnP K "beat" s_beat f fd) (T : Tx K w mg) (C_is_lot : Cal P w K mg base ⟨K, sa, ns, clK K⟩ "is_lot" 2 3 (m_is_lot ns)) (C_check_start : Cal P w K mg base ⟨K, sa, ns, clK K⟩ "check_start" 3 7 (m_check_start ns)) (C_standing_behind : Cal P w K mg base ⟨K, sa, ns, clK K⟩ "standing_behind" 4 7 (m_standing_behind ns)) : FnG P w K mg base (L2.CX P w) 8 f fd ["program", "floor", "standing", "lot"] (spM ⟨K, sa, ns, clK K⟩ wF 4 (m_beat ns)) :=
  fn_m F sc_beat fun cdv A out s H E hr hgd => (mss_cons (ms_expr (md_c C_check_start hr (by decide) hgd (by rfl) (ma_cons (md_var 0) (ma_cons (md_var 1) (ma_cons (md_var 2) ma_nil))))) (mss_cons (ms_if (mt_not (mt_tru rfl (md_c C_is_lot hr (by decide) hgd (by rfl) (ma_cons (md_callB (cb_len rfl) (by rfl) T.z_len (by decide +kernel) (ma_cons (md_var 2) ma_nil)) (ma_cons (md_var 3) ma_nil))))) (mss_one ms_never) mss_nil) (mss_one (ms_ret (md_c C_standing_behind hr (by decide) hgd (by rfl) (ma_cons (md_var 0) (ma_cons (md_var 1) (ma_cons (md_var 2) (ma_cons (md_var 3) ma_nil)))))))))
theorem g_are_lots (F : FnP K "are_lots" s_are_lots f fd) (T : Tx K w mg) (C_is_lot : Cal P w K mg base ⟨K, sa, ns, clK K⟩ "is_lot" 2 3 (m_is_lot ns)) : FnG P w K mg base (L2.CX P w) 4 f fd ["many", "value"] (spM ⟨K, sa, ns, clK K⟩ wF 2 (m_are_lots ns)) :=
  fn_m F sc_are_lots fun cdv A out s H E hr hgd => (mss_one (ms_ret (md_and rfl (md_isi rfl (by decide +kernel) (by rfl) T.z_isinstance (by decide +kernel) (md_var 1) (by rfl) T.z_tuple (by decide +kernel)) (md_one (md_callB (cb_all rfl rfl) (by rfl) T.z_all (by decide +kernel) (ma_cons (md_lc rfl sc_are_lots.nd (mi_seq rfl (md_var 1)) (blkOk_by (N := ["many", "value", "lot"]) (sc := defScope s_are_lots) (own := [("lot", 2)]) (by decide +kernel)) (fun _ _ _ _ _ => (mg_name sc_are_lots.nd)) (fun _ _ _ _ _ => mts_nil) (fun _ _ _ _ _ => (md_c C_is_lot hr (by decide) hgd (by rfl) (ma_cons (md_var 0) (ma_cons (md_var 2) ma_nil))))) ma_nil))))))
theorem g_run (F : FnP K "run" s_run f fd) (T : Tx K w mg) (C_are_lots : Cal P w K mg base ⟨K, sa, ns, clK K⟩ "are_lots" 2 4 (m_are_lots ns)) (C_check_start : Cal P w K mg base ⟨K, sa, ns, clK K⟩ "check_start" 3 7 (m_check_start ns)) (C_standing_behind : Cal P w K mg base ⟨K, sa, ns, clK K⟩ "standing_behind" 4 7 (m_standing_behind ns)) : FnG P w K mg base (L2.CX P w) 8 f fd ["program", "floor", "standing", "lots"] (spM ⟨K, sa, ns, clK K⟩ wF 4 (m_run ns)) :=
  fn_m F sc_run fun cdv A out s H E hr hgd => (mss_cons (ms_expr (md_c C_check_start hr (by decide) hgd (by rfl) (ma_cons (md_var 0) (ma_cons (md_var 1) (ma_cons (md_var 2) ma_nil))))) (mss_cons (ms_if (mt_not (mt_tru rfl (md_c C_are_lots hr (by decide) hgd (by rfl) (ma_cons (md_callB (cb_len rfl) (by rfl) T.z_len (by decide +kernel) (ma_cons (md_var 2) ma_nil)) (ma_cons (md_var 3) ma_nil))))) (mss_one ms_never) mss_nil) (mss_cons (ms_set sc_run.nd (md_lst (ma_cons (md_var 2) ma_nil))) (mss_cons (ms_for pass_own rfl (mi_seq rfl (md_var 3)) (mg_name sc_run.nd) (mss_one (ms_expr (md_append rfl (md_var 4) (ma_cons (md_c C_standing_behind hr (by decide) hgd (by rfl) (ma_cons (md_var 0) (ma_cons (md_var 1) (ma_cons (md_ix rfl hr.units (md_var 4) (md_neg md_int)) (ma_cons (md_var 5) ma_nil))))) ma_nil))))) (mss_one (ms_ret (md_callTy (cb_tuple rfl) (by rfl) T.z_tuple (by decide +kernel) (ma_cons (md_var 4) ma_nil))))))))
theorem g_law_take (F : FnP K "_law_take" s_law_take f fd) (T : Tx K w mg) : FnG P w K mg base (L2.CX P w) 1 f fd ["pot", "upto"] (spM ⟨K, sa, ns, clK K⟩ wF 2 (m_law_take ns)) :=
  fn_m F sc_law_take fun cdv A out s H E hr hgd => (mss_cons (ms_if (mt_cmp co_gt (md_ix rfl hr.units (md_var 0) md_int) md_int) (mss_cons (ms_set sc_law_take.nd (md_mod (md_callTy cb_int (by rfl) T.z_int (by decide +kernel) (ma_cons (md_ix rfl hr.units (md_var 0) md_int) ma_nil)) (md_var 1))) (mss_cons (ms_sub hr.units (md_fdiv (md_ix rfl hr.units (md_var 0) md_int) (md_var 1)) (md_var 0) md_int) (mss_one (ms_ret (md_var 4))))) mss_nil) (mss_cons (ms_sub hr.units (md_add rfl (md_ix rfl hr.units (md_var 0) md_int) md_int) (md_var 0) md_int) (mss_cons (ms_set sc_law_take.nd (md_ix rfl hr.units (md_lst (ma_cons md_int (ma_cons md_int (ma_cons md_int (ma_cons md_int (ma_cons md_int ma_nil)))))) (md_mod (md_callTy cb_int (by rfl) T.z_int (by decide +kernel) (ma_cons (md_ix rfl hr.units (md_var 0) md_int) ma_nil)) md_int))) (mss_cons (ms_set sc_law_take.nd (md_mod (md_callTy cb_int (by rfl) T.z_int (by decide +kernel) (ma_cons (md_pow (md_callTy cb_int (by rfl) T.z_int (by decide +kernel) (ma_cons (md_add rfl (md_add rfl (md_ix rfl hr.units (md_var 0) md_int) (md_mul (md_mul md_int (md_ix rfl hr.units (md_var 0) md_int)) (md_ix rfl hr.units (md_var 0) md_int))) md_int) ma_nil)) md_int) ma_nil)) (md_var 2))) (mss_one (ms_ret (md_mod (md_callTy cb_int (by rfl) T.z_int (by decide +kernel) (ma_cons (md_fdiv (md_mul (md_var 3) (md_add rfl (md_mod (md_callTy cb_int (by rfl) T.z_int (by decide +kernel) (ma_cons (md_var 3) ma_nil)) md_int) (md_mul md_int (md_ix rfl hr.units (md_var 0) md_int)))) md_int) ma_nil)) (md_var 1))))))))
theorem g_law_are_steps_right (F : FnP K "_law_are_steps_right" s_law_are_steps_right f fd) (T : Tx K w mg) (C_beat : Cal P w K mg base ⟨K, sa, ns, clK K⟩ "beat" 4 8 (m_beat ns)) (C_run : Cal P w K mg base ⟨K, sa, ns, clK K⟩ "run" 4 8 (m_run ns)) (C_law_take : Cal P w K mg base ⟨K, sa, ns, clK K⟩ "_law_take" 2 1 (m_law_take ns)) (N_Program : CalN P w K mg base ⟨K, sa, ns, clK K⟩ "Program" 2 9 (m_Program___init__ ns)) : FnG P w K mg base (L2.CX P w) 11 f fd ["pot"] (spM ⟨K, sa, ns, clK K⟩ wF 1 (m_law_are_steps_right ns)) :=
  fn_m F sc_law_are_steps_right fun cdv A out s H E hr hgd => (mss_cons (ms_asg (md_tup (ma_cons (md_new N_Program hr (by decide) hgd (by rfl) (ma_cons md_str ma_nil)) (ma_cons (md_add rfl md_int (md_c C_law_take hr (by decide) hgd (by rfl) (ma_cons (md_var 0) (ma_cons md_int ma_nil)))) ma_nil))) (mg_tup rfl rfl (mg_cons (mg_name sc_law_are_steps_right.nd) (mg_cons (mg_name sc_law_are_steps_right.nd) mg_nil)))) (mss_cons (ms_asg (md_tup (ma_cons (md_c C_law_take hr (by decide) hgd (by rfl) (ma_cons (md_var 0) (ma_cons (md_var 2) ma_nil))) (ma_cons (md_c C_law_take hr (by decide) hgd (by rfl) (ma_cons (md_var 0) (ma_cons md_int ma_nil))) ma_nil))) (mg_tup rfl rfl (mg_cons (mg_name sc_law_are_steps_right.nd) (mg_cons (mg_name sc_law_are_steps_right.nd) mg_nil)))) (mss_cons (ms_par rfl sc_law_are_steps_right.nd (by decide) (ma_cons (md_tup (ma_cons (md_tup (ma_cons (md_var 3) (ma_cons (md_var 4) (ma_cons md_int ma_nil)))) ma_nil)) (ma_cons (md_tup (ma_cons (md_tup (ma_cons (md_var 3) (ma_cons (md_var 4) (ma_cons (md_neg md_int) ma_nil)))) ma_nil)) ma_nil))) (mss_cons (ms_set sc_law_are_steps_right.nd (md_tup (ma_cons (md_tup (ma_cons (md_tup (ma_cons (md_mod (md_add rfl (md_var 3) md_int) (md_var 2)) (ma_cons (md_sub md_int (md_var 4)) (ma_cons md_int ma_nil)))) ma_nil)) (ma_cons (md_tup (ma_cons (md_tup (ma_cons (md_mod (md_sub (md_var 3) md_int) (md_var 2)) (ma_cons (md_sub md_int (md_var 4)) (ma_cons (md_neg md_int) ma_nil)))) ma_nil)) ma_nil)))) (mss_cons (ms_if (mt_cmp (co_ne rfl hr.units) (md_callB (cb_repr rfl hgd hr.units) (by rfl) T.z_repr (by decide +kernel) (ma_cons (md_tup (ma_cons (md_c C_beat hr (by decide) hgd (by rfl) (ma_cons (md_var 1) (ma_cons (md_tup (ma_cons md_str (ma_cons (md_var 2) ma_nil))) (ma_cons (md_var 5) (ma_cons (md_tup (ma_cons md_int ma_nil)) ma_nil))))) (ma_cons (md_c C_beat hr (by decide) hgd (by rfl) (ma_cons (md_var 1) (ma_cons (md_tup (ma_cons md_str (ma_cons (md_var 2) ma_nil))) (ma_cons (md_var 6) (ma_cons (md_tup (ma_cons md_int ma_nil)) ma_nil))))) ma_nil))) ma_nil)) (md_callB (cb_repr rfl hgd hr.units) (by rfl) T.z_repr (by decide +kernel) (ma_cons (md_var 7) ma_nil))) (mss_one (ms_ret md_bl)) mss_nil) (mss_cons (ms_set sc_law_are_steps_right.nd (md_c C_run hr (by decide) hgd (by rfl) (ma_cons (md_var 1) (ma_cons (md_tup (ma_cons md_str (ma_cons (md_var 2) ma_nil))) (ma_cons (md_var 5) (ma_cons (md_rep rfl (md_tup (ma_cons (md_tup (ma_cons md_int ma_nil)) ma_nil)) (md_var 2)) ma_nil)))))) (mss_cons (ms_setLc rfl sc_law_are_steps_right.nd (mi_rng1 (by rfl) T.z_range (md_add rfl (md_var 2) md_int)) (blkOk_by (N := ["pot", "ahead", "size", "place", "mark", "forth", "back", "due", "told", "spots", "lap", "one"]) (sc := defScope s_law_are_steps_right) (own := [("lap", 10)]) (by decide +kernel)) (fun _ _ _ _ _ => (mg_name sc_law_are_steps_right.nd)) (fun _ _ _ _ _ => mts_nil) (fun _ _ _ _ _ => (md_callB (cb_min rfl) (by rfl) T.z_min (by decide +kernel) (ma_cons (md_sub (md_var 2) md_int) (ma_cons (md_add rfl (md_var 3) (md_var 10)) ma_nil)))) (sw_true rfl rfl rfl (by decide +kernel))) (mss_cons (ms_if (PW.pt (mw_or (mt_cmp (co_ne rfl hr.units) (md_callB (cb_repr rfl hgd hr.units) (by rfl) T.z_repr (by decide +kernel) (ma_cons (md_lc rfl sc_law_are_steps_right.nd (mi_seq rfl (md_var 8)) (blkOk_by (N := ["pot", "ahead", "size", "place", "mark", "forth", "back", "due", "told", "spots", "lap", "one"]) (sc := defScope s_law_are_steps_right) (own := [("one", 11)]) (by decide +kernel)) (fun _ _ _ _ _ => (mg_name sc_law_are_steps_right.nd)) (fun _ _ _ _ _ => mts_nil) (fun _ _ _ _ _ => (md_ix rfl hr.units (md_ix rfl hr.units (md_var 11) md_int) md_int))) ma_nil)) (md_callB (cb_repr rfl hgd hr.units) (by rfl) T.z_repr (by decide +kernel) (ma_cons (md_var 9) ma_nil))) (mw_or1 (mt_cmp (co_ne rfl hr.units) (md_callB (cb_repr rfl hgd hr.units) (by rfl) T.z_repr (by decide +kernel) (ma_cons (md_ix rfl hr.units (md_var 8) (md_neg md_int)) ma_nil)) (md_callB (cb_repr rfl hgd hr.units) (by rfl) T.z_repr (by decide +kernel) (ma_cons (md_tup (ma_cons (md_tup (ma_cons (md_sub (md_var 2) md_int) (ma_cons (md_mod (md_add rfl (md_var 4) (md_var 2)) md_int) (ma_cons md_int ma_nil)))) ma_nil)) ma_nil)))))) (mss_one (ms_ret md_bl)) mss_nil) (mss_one (ms_ret (md_cmp (co_eq rfl hr.units) (md_callB (cb_repr rfl hgd hr.units) (by rfl) T.z_repr (by decide +kernel) (ma_cons (md_c C_beat hr (by decide) hgd (by rfl) (ma_cons (md_var 1) (ma_cons (md_tup (ma_cons md_str (ma_cons md_int ma_nil))) (ma_cons (md_tup (ma_cons (md_tup (ma_cons md_int (ma_cons md_int (ma_cons (md_neg md_int) ma_nil)))) ma_nil)) (ma_cons (md_tup (ma_cons md_int ma_nil)) ma_nil))))) ma_nil)) (md_callB (cb_repr rfl hgd hr.units) (by rfl) T.z_repr (by decide +kernel) (ma_cons (md_tup (ma_cons (md_tup (ma_cons md_int (ma_cons md_int (ma_cons (md_neg md_int) ma_nil)))) ma_nil)) ma_nil)))))))))))))
theorem g_law_of (F : FnP K "_law_of" s_law_of f fd) (T : Tx K w mg) (C_law_take : Cal P w K mg base ⟨K, sa, ns, clK K⟩ "_law_take" 2 1 (m_law_take ns)) : FnG P w K mg base (L2.CX P w) 2 f fd ["pot", "some"] (spM ⟨K, sa, ns, clK K⟩ wF 2 (m_law_of ns)) :=
  fn_m F sc_law_of fun cdv A out s H E hr hgd => (mss_one (ms_ret (md_ix rfl hr.units (md_var 1) (md_c C_law_take hr (by decide) hgd (by rfl) (ma_cons (md_var 0) (ma_cons (md_callB (cb_len rfl) (by rfl) T.z_len (by decide +kernel) (ma_cons (md_var 1) ma_nil)) ma_nil))))))
theorem g_law_are_exchanges_right (F : FnP K "_law_are_exchanges_right" s_law_are_exchanges_right f fd) (T : Tx K w mg) (C_beat : Cal P w K mg base ⟨K, sa, ns, clK K⟩ "beat" 4 8 (m_beat ns)) (C_run : Cal P w K mg base ⟨K, sa, ns, clK K⟩ "run" 4 8 (m_run ns)) (C_law_take : Cal P w K mg base ⟨K, sa, ns, clK K⟩ "_law_take" 2 1 (m_law_take ns)) (C_law_of : Cal P w K mg base ⟨K, sa, ns, clK K⟩ "_law_of" 2 2 (m_law_of ns)) (N_Program : CalN P w K mg base ⟨K, sa, ns, clK K⟩ "Program" 2 9 (m_Program___init__ ns)) : FnG P w K mg base (L2.CX P w) 11 f fd ["pot"] (spM ⟨K, sa, ns, clK K⟩ wF 1 (m_law_are_exchanges_right ns)) :=
  fn_m F sc_law_are_exchanges_right fun cdv A out s H E hr hgd => (mss_cons (ms_set sc_law_are_exchanges_right.nd (md_new N_Program hr (by decide) hgd (by rfl) (ma_cons md_str ma_nil))) (mss_cons (ms_par rfl sc_law_are_exchanges_right.nd (by decide) (ma_cons (md_add rfl md_int (md_c C_law_take hr (by decide) hgd (by rfl) (ma_cons (md_var 0) (ma_cons md_int ma_nil)))) (ma_cons (md_c C_law_take hr (by decide) hgd (by rfl) (ma_cons (md_var 0) (ma_cons md_int ma_nil))) ma_nil))) (mss_cons (ms_set sc_law_are_exchanges_right.nd (md_tup (ma_cons (md_tup (ma_cons (md_var 3) (ma_cons md_int (ma_cons (md_c C_law_of hr (by decide) hgd (by rfl) (ma_cons (md_var 0) (ma_cons (md_lst (ma_cons md_int (ma_cons (md_neg md_int) ma_nil))) ma_nil))) ma_nil)))) (ma_cons (md_tup (ma_cons (md_add rfl (md_var 3) md_int) (ma_cons md_int (ma_cons (md_c C_law_of hr (by decide) hgd (by rfl) (ma_cons (md_var 0) (ma_cons (md_lst (ma_cons md_int (ma_cons (md_neg md_int) ma_nil))) ma_nil))) ma_nil)))) ma_nil)))) (mss_cons (ms_set sc_law_are_exchanges_right.nd (md_tup (ma_cons (md_tup (ma_cons (md_add rfl (md_var 3) md_int) (ma_cons md_int (ma_cons (md_ix rfl hr.units (md_ix rfl hr.units (md_var 4) md_int) md_int) ma_nil)))) (ma_cons (md_tup (ma_cons (md_var 3) (ma_cons md_int (ma_cons (md_ix rfl hr.units (md_ix rfl hr.units (md_var 4) md_int) md_int) ma_nil)))) ma_nil)))) (mss_cons (ms_if (mt_cmp (co_ne rfl hr.units) (md_callB (cb_repr rfl hgd hr.units) (by rfl) T.z_repr (by decide +kernel) (ma_cons (md_c C_beat hr (by decide) hgd (by rfl) (ma_cons (md_var 1) (ma_cons (md_tup (ma_cons md_str (ma_cons (md_var 2) ma_nil))) (ma_cons (md_var 4) (ma_cons (md_tup (ma_cons md_int (ma_cons md_int ma_nil))) ma_nil))))) ma_nil)) (md_callB (cb_repr rfl hgd hr.units) (by rfl) T.z_repr (by decide +kernel) (ma_cons (md_var 5) ma_nil))) (mss_one (ms_ret md_bl)) mss_nil) (mss_cons (ms_set sc_law_are_exchanges_right.nd (md_c C_run hr (by decide) hgd (by rfl) (ma_cons (md_var 1) (ma_cons (md_tup (ma_cons md_str (ma_cons (md_var 2) ma_nil))) (ma_cons (md_var 4) (ma_cons (md_tup (ma_cons (md_tup (ma_cons md_int ma_nil)) (ma_cons (md_tup (ma_cons md_int ma_nil)) ma_nil))) ma_nil)))))) (mss_cons (ms_set sc_law_are_exchanges_right.nd (md_tup (ma_cons (md_ix rfl hr.units (md_var 4) md_int) (ma_cons (md_tup (ma_cons (md_var 3) (ma_cons md_int (ma_cons (md_ix rfl hr.units (md_ix rfl hr.units (md_var 4) md_int) md_int) ma_nil)))) ma_nil)))) (mss_one (ms_ret (md_cmp (co_eq rfl hr.units) (md_callB (cb_repr rfl hgd hr.units) (by rfl) T.z_repr (by decide +kernel) (ma_cons (md_var 6) ma_nil)) (md_callB (cb_repr rfl hgd hr.units) (by rfl) T.z_repr (by decide +kernel) (ma_cons (md_tup (ma_cons (md_var 4) (ma_cons (md_var 7) (ma_cons (md_var 7) ma_nil)))) ma_nil))))))))))))
theorem g_check_many (F : FnP K "check_many" s_check_many f fd) (T : Tx K w mg) (C_is_within : Cal P w K mg base ⟨K, sa, ns, clK K⟩ "is_within" 3 2 (m_is_within ns)) : FnG P w K mg base (L2.CX P w) 3 f fd ["value"] (spM ⟨K, sa, ns, clK K⟩ wF 1 (m_check_many ns)) :=
  fn_m F sc_check_many fun cdv A out s H E hr hgd => (mss_one (ms_if (mt_not (mt_tru rfl (md_c C_is_within hr (by decide) hgd (by rfl) (ma_cons (md_var 0) (ma_cons md_int (ma_cons (md_gint T.i_MOST_WALKERS (by rfl)) ma_nil)))))) (mss_one ms_never) mss_nil))
theorem g_cut_in_eras (F : FnP K "cut_in_eras" s_cut_in_eras f fd) (T : Tx K w mg) : FnG P w K mg base (L2.CX P w) 1 f fd ["many", "lots"] (spM ⟨K, sa, ns, clK K⟩ wF 2 (m_cut_in_eras ns)) :=
  fn_m F sc_cut_in_eras fun cdv A out s H E hr hgd => (mss_cons (ms_set sc_cut_in_eras.nd (md_lst ma_nil)) (mss_cons (ms_set sc_cut_in_eras.nd (md_lst ma_nil)) (mss_cons (ms_for pass_own rfl (mi_seq rfl (md_var 1)) (mg_name sc_cut_in_eras.nd) (mss_cons (ms_if (mt_cmp (co_eq rfl hr.units) (md_callB (cb_len rfl) (by rfl) T.z_len (by decide +kernel) (ma_cons (md_var 3) ma_nil)) md_int) (mss_cons (ms_expr (md_append rfl (md_var 2) (ma_cons (md_lst ma_nil) ma_nil))) (mss_one (ms_set sc_cut_in_eras.nd (md_listRg rfl (by rfl) T.z_list (by rfl) T.z_range (md_var 0))))) mss_nil) (mss_cons (ms_if (mt_not (mt_tru rfl (md_callB (cb_all rfl rfl) (by rfl) T.z_all (by decide +kernel) (ma_cons (md_lc rfl sc_cut_in_eras.nd (mi_seq rfl (md_var 4)) (blkOk_by (N := ["many", "lots", "found", "missing", "lot", "walker", "era"]) (sc := defScope s_cut_in_eras) (own := [("walker", 5)]) (by decide +kernel)) (fun _ _ _ _ _ => (mg_name sc_cut_in_eras.nd)) (fun _ _ _ _ _ => mts_nil) (fun _ _ _ _ _ => (md_cmp (co_in rfl hr.units) (md_var 5) (md_var 3)))) ma_nil)))) (mss_one (ms_ret md_non)) mss_nil) (mss_cons (ms_expr (md_append rfl (md_ix rfl hr.units (md_var 2) (md_neg md_int)) (ma_cons (md_var 4) ma_nil))) (mss_one (ms_set sc_cut_in_eras.nd (md_lc rfl sc_cut_in_eras.nd (mi_seq rfl (md_var 3)) (blkOk_by (N := ["many", "lots", "found", "missing", "lot", "walker", "era"]) (sc := defScope s_cut_in_eras) (own := [("walker", 5)]) (by decide +kernel)) (fun _ _ _ _ _ => (mg_name sc_cut_in_eras.nd)) (fun _ _ _ _ _ => (mts_one (mt_cmp (co_notin rfl hr.units) (md_var 5) (md_var 4)))) (fun _ _ _ _ _ => (md_var 5))))))))) (mss_one (ms_ret (md_callTy (cb_tuple rfl) (by rfl) T.z_tuple (by decide +kernel) (ma_cons (md_lc rfl sc_cut_in_eras.nd (mi_seq rfl (md_var 2)) (blkOk_by (N := ["many", "lots", "found", "missing", "lot", "walker", "era"]) (sc := defScope s_cut_in_eras) (own := [("era", 6)]) (by decide +kernel)) (fun _ _ _ _ _ => (mg_name sc_cut_in_eras.nd)) (fun _ _ _ _ _ => mts_nil) (fun _ _ _ _ _ => (md_callTy (cb_tuple rfl) (by rfl) T.z_tuple (by decide +kernel) (ma_cons (md_var 6) ma_nil)))) ma_nil)))))))
theorem g_is_of_kind (F : FnP K "is_of_kind" s_is_of_kind f fd) (T : Tx K w mg) (C_are_lots : Cal P w K mg base ⟨K, sa, ns, clK K⟩ "are_lots" 2 4 (m_are_lots ns)) (C_cut_in_eras : Cal P w K mg base ⟨K, sa, ns, clK K⟩ "cut_in_eras" 2 1 (m_cut_in_eras ns)) : FnG P w K mg base (L2.CX P w) 5 f fd ["kind", "many", "value"] (spM ⟨K, sa, ns, clK K⟩ wF 3 (m_is_of_kind ns)) :=
  fn_m F sc_is_of_kind fun cdv A out s H E hr hgd => (mss_cons (ms_if (mt_not (mt_tru rfl (md_c C_are_lots hr (by decide) hgd (by rfl) (ma_cons (md_var 1) (ma_cons (md_var 2) ma_nil))))) (mss_one (ms_ret md_bl)) mss_nil) (mss_cons (ms_if (mt_cmp (co_eq rfl hr.units) (md_var 0) md_str) (mss_one (ms_ret (md_callB (cb_all rfl rfl) (by rfl) T.z_all (by decide +kernel) (ma_cons (md_lc rfl sc_is_of_kind.nd (mi_seq rfl (md_var 2)) (blkOk_by (N := ["kind", "many", "value", "lot"]) (sc := defScope s_is_of_kind) (own := [("lot", 3)]) (by decide +kernel)) (fun _ _ _ _ _ => (mg_name sc_is_of_kind.nd)) (fun _ _ _ _ _ => mts_nil) (fun _ _ _ _ _ => (md_cmp (co_eq rfl hr.units) (md_callB (cb_len rfl) (by rfl) T.z_len (by decide +kernel) (ma_cons (md_var 3) ma_nil)) (md_var 1)))) ma_nil)))) mss_nil) (mss_cons (ms_if (mt_cmp (co_eq rfl hr.units) (md_var 0) md_str) (mss_one (ms_ret (md_callB (cb_all rfl rfl) (by rfl) T.z_all (by decide +kernel) (ma_cons (md_lc rfl sc_is_of_kind.nd (mi_seq rfl (md_var 2)) (blkOk_by (N := ["kind", "many", "value", "lot"]) (sc := defScope s_is_of_kind) (own := [("lot", 3)]) (by decide +kernel)) (fun _ _ _ _ _ => (mg_name sc_is_of_kind.nd)) (fun _ _ _ _ _ => mts_nil) (fun _ _ _ _ _ => (md_cmp (co_eq rfl hr.units) (md_callB (cb_len rfl) (by rfl) T.z_len (by decide +kernel) (ma_cons (md_var 3) ma_nil)) md_int))) ma_nil)))) mss_nil) (mss_one (ms_ret (md_or rfl (md_cmp (co_eq rfl hr.units) (md_var 0) md_str) (md_one (md_cmp co_isnot (md_c C_cut_in_eras hr (by decide) hgd (by rfl) (ma_cons (md_var 1) (ma_cons (md_var 2) ma_nil))) md_non))))))))
theorem g_check_lots (F : FnP K "check_lots" s_check_lots f fd) (T : Tx K w mg) (C_is_of_kind : Cal P w K mg base ⟨K, sa, ns, clK K⟩ "is_of_kind" 3 5 (m_is_of_kind ns)) : FnG P w K mg base (L2.CX P w) 6 f fd ["kind", "many", "value"] (spM ⟨K, sa, ns, clK K⟩ wF 3 (m_check_lots ns)) :=
  fn_m F sc_check_lots fun cdv A out s H E hr hgd => (mss_one (ms_if (mt_not (mt_tru rfl (md_c C_is_of_kind hr (by decide) hgd (by rfl) (ma_cons (md_var 0) (ma_cons (md_var 1) (ma_cons (md_var 2) ma_nil)))))) (mss_one ms_never) mss_nil))
theorem g_eras (F : FnP K "eras" s_eras f fd) (T : Tx K w mg) (C_check_many : Cal P w K mg base ⟨K, sa, ns, clK K⟩ "check_many" 1 3 (m_check_many ns)) (C_cut_in_eras : Cal P w K mg base ⟨K, sa, ns, clK K⟩ "cut_in_eras" 2 1 (m_cut_in_eras ns)) (C_check_lots : Cal P w K mg base ⟨K, sa, ns, clK K⟩ "check_lots" 3 6 (m_check_lots ns)) : FnG P w K mg base (L2.CX P w) 7 f fd ["many", "lots"] (spM ⟨K, sa, ns, clK K⟩ wF 2 (m_eras ns)) :=
  fn_m F sc_eras fun cdv A out s H E hr hgd => (mss_cons (ms_expr (md_c C_check_many hr (by decide) hgd (by rfl) (ma_cons (md_var 0) ma_nil))) (mss_cons (ms_expr (md_c C_check_lots hr (by decide) hgd (by rfl) (ma_cons md_str (ma_cons (md_var 0) (ma_cons (md_var 1) ma_nil))))) (mss_one (ms_ret (md_c C_cut_in_eras hr (by decide) hgd (by rfl) (ma_cons (md_var 0) (ma_cons (md_var 1) ma_nil)))))))
theorem g_left (F : FnP K "left" s_left f fd) (T : Tx K w mg) (C_check_many : Cal P w K mg base ⟨K, sa, ns, clK K⟩ "check_many" 1 3 (m_check_many ns)) (C_cut_in_eras : Cal P w K mg base ⟨K, sa, ns, clK K⟩ "cut_in_eras" 2 1 (m_cut_in_eras ns)) (C_check_lots : Cal P w K mg base ⟨K, sa, ns, clK K⟩ "check_lots" 3 6 (m_check_lots ns)) : FnG P w K mg base (L2.CX P w) 7 f fd ["many", "lots"] (spM ⟨K, sa, ns, clK K⟩ wF 2 (m_left ns)) :=
  fn_m F sc_left fun cdv A out s H E hr hgd => (mss_cons (ms_expr (md_c C_check_many hr (by decide) hgd (by rfl) (ma_cons (md_var 0) ma_nil))) (mss_cons (ms_expr (md_c C_check_lots hr (by decide) hgd (by rfl) (ma_cons md_str (ma_cons (md_var 0) (ma_cons (md_var 1) ma_nil))))) (mss_cons (ms_set sc_left.nd (md_sl rfl (md_c C_cut_in_eras hr (by decide) hgd (by rfl) (ma_cons (md_var 0) (ma_cons (md_var 1) ma_nil))) (mo_some (md_neg md_int)) mo_none)) (mss_cons (ms_set sc_left.nd (md_lc3 rfl sc_left.nd (mi_seq rfl (md_var 2)) (blkOk_by (N := ["many", "lots", "last", "present", "era", "lot", "walker"]) (sc := defScope s_left) (own := [("era", 4), ("lot", 5), ("walker", 6)]) (by decide +kernel)) (fun _ _ _ _ _ => (mg_name sc_left.nd)) (fun _ _ _ _ _ => mts_nil) (fun _ _ _ _ _ => (mi_seq rfl (md_var 4))) (fun _ _ _ _ _ => (mg_name sc_left.nd)) (fun _ _ _ _ _ => mts_nil) (fun _ _ _ _ _ => (mi_seq rfl (md_var 5))) (fun _ _ _ _ _ => (mg_name sc_left.nd)) (fun _ _ _ _ _ => mts_nil) (fun _ _ _ _ _ => (md_var 6)))) (mss_one (ms_ret (md_callTy (cb_tuple rfl) (by rfl) T.z_tuple (by decide +kernel) (ma_cons (md_lc rfl sc_left.nd (mi_rng1 (by rfl) T.z_range (md_var 0)) (blkOk_by (N := ["many", "lots", "last", "present", "era", "lot", "walker"]) (sc := defScope s_left) (own := [("walker", 6)]) (by decide +kernel)) (fun _ _ _ _ _ => (mg_name sc_left.nd)) (fun _ _ _ _ _ => (mts_one (PW.pt (mw_or (mt_cmp (co_eq rfl hr.units) (md_callB (cb_len rfl) (by rfl) T.z_len (by decide +kernel) (ma_cons (md_var 3) ma_nil)) (md_var 0)) (mw_or1 (mt_cmp (co_notin rfl hr.units) (md_var 6) (md_var 3))))))) (fun _ _ _ _ _ => (md_var 6))) ma_nil))))))))
theorem g_check_kind (F : FnP K "check_kind" s_check_kind f fd) (T : Tx K w mg) : FnG P w K mg base (L2.CX P w) 1 f fd ["value"] (spM ⟨K, sa, ns, clK K⟩ wF 1 (m_check_kind ns)) :=
  fn_m F sc_check_kind fun cdv A out s H E hr hgd => (mss_one (ms_if (mt_cmp (co_notin rfl hr.units) (md_var 0) (md_con T.k_KINDS rfl (by rfl) rfl)) (mss_one ms_never) mss_nil))
theorem g_lots_among (F : FnP K "lots_among" s_lots_among f fd) (T : Tx K w mg) : FnG P w K mg base (L2.CX P w) 1 f fd ["walkers"] (spM ⟨K, sa, ns, clK K⟩ wF 1 (m_lots_among ns)) :=
  fn_m F sc_lots_among fun cdv A out s H E hr hgd => (mss_cons (ms_set sc_lots_among.nd (md_lst ma_nil)) (mss_cons (ms_for pass_own rfl (mi_seq rfl (md_var 0)) (mg_name sc_lots_among.nd) (mss_one (ms_set sc_lots_among.nd (md_add rfl (md_add rfl (md_var 1) (md_lc rfl sc_lots_among.nd (mi_seq rfl (md_var 1)) (blkOk_by (N := ["walkers", "found", "walker", "lot"]) (sc := defScope s_lots_among) (own := [("lot", 3)]) (by decide +kernel)) (fun _ _ _ _ _ => (mg_name sc_lots_among.nd)) (fun _ _ _ _ _ => mts_nil) (fun _ _ _ _ _ => (md_tup (ma_star rfl (md_var 3) (ma_cons (md_var 2) ma_nil)))))) (md_lst (ma_cons (md_tup (ma_cons (md_var 2) ma_nil)) ma_nil)))))) (mss_one (ms_ret (md_callB (cb_sortX rfl) (by rfl) T.z_sorted (by decide +kernel) (ma_cons (md_var 1) ma_nil))))))
theorem g_next_lots (F : FnP K "next_lots" s_next_lots f fd) (T : Tx K w mg) (C_check_many : Cal P w K mg base ⟨K, sa, ns, clK K⟩ "check_many" 1 3 (m_check_many ns)) (C_is_of_kind : Cal P w K mg base ⟨K, sa, ns, clK K⟩ "is_of_kind" 3 5 (m_is_of_kind ns)) (C_check_kind : Cal P w K mg base ⟨K, sa, ns, clK K⟩ "check_kind" 1 1 (m_check_kind ns)) (C_check_lots : Cal P w K mg base ⟨K, sa, ns, clK K⟩ "check_lots" 3 6 (m_check_lots ns)) (C_lots_among : Cal P w K mg base ⟨K, sa, ns, clK K⟩ "lots_among" 1 1 (m_lots_among ns)) : FnG P w K mg base (L2.CX P w) 7 f fd ["kind", "many", "lots"] (spM ⟨K, sa, ns, clK K⟩ wF 3 (m_next_lots ns)) :=
  fn_m F sc_next_lots fun cdv A out s H E hr hgd => (mss_cons (ms_expr (md_c C_check_kind hr (by decide) hgd (by rfl) (ma_cons (md_var 0) ma_nil))) (mss_cons (ms_expr (md_c C_check_many hr (by decide) hgd (by rfl) (ma_cons (md_var 1) ma_nil))) (mss_cons (ms_expr (md_c C_check_lots hr (by decide) hgd (by rfl) (ma_cons (md_var 0) (ma_cons (md_var 1) (ma_cons (md_var 2) ma_nil))))) (mss_one (ms_ret (md_callTy (cb_tuple rfl) (by rfl) T.z_tuple (by decide +kernel) (ma_cons (md_lc rfl sc_next_lots.nd (mi_seq rfl (md_c C_lots_among hr (by decide) hgd (by rfl) (ma_cons (md_listRg rfl (by rfl) T.z_list (by rfl) T.z_range (md_var 1)) ma_nil))) (blkOk_by (N := ["kind", "many", "lots", "lot"]) (sc := defScope s_next_lots) (own := [("lot", 3)]) (by decide +kernel)) (fun _ _ _ _ _ => (mg_name sc_next_lots.nd)) (fun _ _ _ _ _ => (mts_one (mt_tru rfl (md_c C_is_of_kind hr (by decide) hgd (by rfl) (ma_cons (md_var 0) (ma_cons (md_var 1) (ma_cons (md_tup (ma_star rfl (md_var 2) (ma_cons (md_var 3) ma_nil))) ma_nil))))))) (fun _ _ _ _ _ => (md_var 3))) ma_nil)))))))
theorem g_law_are_lots_right (F : FnP K "_law_are_lots_right" s_law_are_lots_right f fd) (T : Tx K w mg) (C_eras : Cal P w K mg base ⟨K, sa, ns, clK K⟩ "eras" 2 7 (m_eras ns)) (C_left : Cal P w K mg base ⟨K, sa, ns, clK K⟩ "left" 2 7 (m_left ns)) (C_next_lots : Cal P w K mg base ⟨K, sa, ns, clK K⟩ "next_lots" 3 7 (m_next_lots ns)) : FnG P w K mg base (L2.CX P w) 8 f fd [] (spM ⟨K, sa, ns, clK K⟩ wF 0 (m_law_are_lots_right ns)) :=
  fn_m F sc_law_are_lots_right fun cdv A out s H E hr hgd => (mss_cons (ms_set sc_law_are_lots_right.nd (md_tup (ma_cons (md_tup (ma_cons md_int ma_nil)) (ma_cons (md_tup (ma_cons md_int (ma_cons md_int ma_nil))) (ma_cons (md_tup (ma_cons md_int (ma_cons md_int (ma_cons md_int ma_nil)))) (ma_cons (md_tup (ma_cons md_int ma_nil)) ma_nil)))))) (mss_cons (ms_if (mt_cmp (co_ne rfl hr.units) (md_callB (cb_repr rfl hgd hr.units) (by rfl) T.z_repr (by decide +kernel) (ma_cons (md_tup (ma_cons (md_c C_eras hr (by decide) hgd (by rfl) (ma_cons md_int (ma_cons (md_var 0) ma_nil))) (ma_cons (md_c C_left hr (by decide) hgd (by rfl) (ma_cons md_int (ma_cons (md_var 0) ma_nil))) ma_nil))) ma_nil)) (md_callB (cb_repr rfl hgd hr.units) (by rfl) T.z_repr (by decide +kernel) (ma_cons (md_tup (ma_cons (md_tup (ma_cons (md_tup (ma_cons (md_tup (ma_cons md_int ma_nil)) (ma_cons (md_tup (ma_cons md_int (ma_cons md_int ma_nil))) ma_nil))) (ma_cons (md_tup (ma_cons (md_tup (ma_cons md_int (ma_cons md_int (ma_cons md_int ma_nil)))) ma_nil)) (ma_cons (md_tup (ma_cons (md_tup (ma_cons md_int ma_nil)) ma_nil)) ma_nil)))) (ma_cons (md_tup (ma_cons md_int (ma_cons md_int ma_nil))) ma_nil))) ma_nil))) (mss_one (ms_ret md_bl)) mss_nil) (mss_one (ms_ret (md_and rfl (md_cmp (co_eq rfl hr.units) (md_callB (cb_repr rfl hgd hr.units) (by rfl) T.z_repr (by decide +kernel) (ma_cons (md_c C_next_lots hr (by decide) hgd (by rfl) (ma_cons md_str (ma_cons md_int (ma_cons (md_var 0) ma_nil)))) ma_nil)) md_str) (md_one (md_cmp (co_eq rfl hr.units) (md_callB (cb_repr rfl hgd hr.units) (by rfl) T.z_repr (by decide +kernel) (ma_cons (md_c C_next_lots hr (by decide) hgd (by rfl) (ma_cons md_str (ma_cons md_int (ma_cons (md_tup ma_nil) ma_nil)))) ma_nil)) md_str)))))))
theorem g_law_right (F : FnP K "_law_right" s_law_right f fd) (T : Tx K w mg) (C_law_are_steps_right : Cal P w K mg base ⟨K, sa, ns, clK K⟩ "_law_are_steps_right" 1 11 (m_law_are_steps_right ns)) (C_law_are_exchanges_right : Cal P w K mg base ⟨K, sa, ns, clK K⟩ "_law_are_exchanges_right" 1 11 (m_law_are_exchanges_right ns)) (C_law_are_lots_right : Cal P w K mg base ⟨K, sa, ns, clK K⟩ "_law_are_lots_right" 0 8 (m_law_are_lots_right ns)) : FnG P w K mg base (L2.CX P w) 12 f fd ["pot"] (spM ⟨K, sa, ns, clK K⟩ wF 1 (m_law_right ns)) :=
  fn_m F sc_law_right fun cdv A out s H E hr hgd => (mss_one (ms_ret (md_and rfl (md_c C_law_are_steps_right hr (by decide) hgd (by rfl) (ma_cons (md_var 0) ma_nil)) (md_and rfl (md_c C_law_are_exchanges_right hr (by decide) hgd (by rfl) (ma_cons (md_var 0) ma_nil)) (md_one (md_c0 C_law_are_lots_right hr (by decide) hgd (by rfl)))))))
theorem g_law (F : FnP K "law" s_law f fd) (T : Tx K w mg) (C_law_pot : Cal P w K mg base ⟨K, sa, ns, clK K⟩ "_law_pot" 2 1 (m_law_pot ns)) (C_law_cells : Cal P w K mg base ⟨K, sa, ns, clK K⟩ "_law_cells" 2 1 (m_law_cells ns)) (C_law_right : Cal P w K mg base ⟨K, sa, ns, clK K⟩ "_law_right" 1 12 (m_law_right ns)) : FnG P w K mg base (L2.CX P w) 13 f fd ["script"] (spM ⟨K, sa, ns, clK K⟩ wF 1 (m_law ns)) :=
  fn_m F sc_law fun cdv A out s H E hr hgd => (mss_one (ms_ret (md_callB (cb_all rfl rfl) (by rfl) T.z_all (by decide +kernel) (ma_cons (md_lc rfl sc_law.nd (mi_seq rfl (md_c C_law_cells hr (by decide) hgd (by rfl) (ma_cons (md_var 0) (ma_cons md_int ma_nil)))) (blkOk_by (N := ["script", "place"]) (sc := defScope s_law) (own := [("place", 1)]) (by decide +kernel)) (fun _ _ _ _ _ => (mg_name sc_law.nd)) (fun _ _ _ _ _ => mts_nil) (fun _ _ _ _ _ => (md_c C_law_right hr (by decide) hgd (by rfl) (ma_cons (md_c C_law_pot hr (by decide) hgd (by rfl) (ma_cons (md_var 0) (ma_cons (md_var 1) ma_nil))) ma_nil)))) ma_nil))))
end
def d_law_pot : He.DefD := ⟨("_law_pot", none), "_law_pot", "_law_pot", defArgs s_law_pot, defBody s_law_pot, defScope s_law_pot, [], []⟩
def d_law_cells : He.DefD := ⟨("_law_cells", none), "_law_cells", "_law_cells", defArgs s_law_cells, defBody s_law_cells, defScope s_law_cells, [], []⟩
def d_has_only : He.DefD := ⟨("has_only", none), "has_only", "has_only", defArgs s_has_only, defBody s_has_only, defScope s_has_only, [], []⟩
def d_is_written : He.DefD := ⟨("is_written", none), "is_written", "is_written", defArgs s_is_written, defBody s_is_written, defScope s_is_written, [], []⟩
def d_is_figures : He.DefD := ⟨("is_figures", none), "is_figures", "is_figures", defArgs s_is_figures, defBody s_is_figures, defScope s_is_figures, [], []⟩
def d_parts_of : He.DefD := ⟨("parts_of", none), "parts_of", "parts_of", defArgs s_parts_of, defBody s_parts_of, defScope s_parts_of, [], []⟩
def d_is_expression : He.DefD := ⟨("is_expression", none), "is_expression", "is_expression", defArgs s_is_expression, defBody s_is_expression, defScope s_is_expression, [], []⟩
def d_is_new_name : He.DefD := ⟨("is_new_name", none), "is_new_name", "is_new_name", defArgs s_is_new_name, defBody s_is_new_name, defScope s_is_new_name, [], []⟩
def d_is_let_line : He.DefD := ⟨("is_let_line", none), "is_let_line", "is_let_line", defArgs s_is_let_line, defBody s_is_let_line, defScope s_is_let_line, [], []⟩
def d_can_stand : He.DefD := ⟨("can_stand", none), "can_stand", "can_stand", defArgs s_can_stand, defBody s_can_stand, defScope s_can_stand, [], []⟩
def d_awaited_behind : He.DefD := ⟨("awaited_behind", none), "awaited_behind", "awaited_behind", defArgs s_awaited_behind, defBody s_awaited_behind, defScope s_awaited_behind, [], []⟩
def d_read_lines : He.DefD := ⟨("read_lines", none), "read_lines", "read_lines", defArgs s_read_lines, defBody s_read_lines, defScope s_read_lines, [], []⟩
def d_read_expression : He.DefD := ⟨("read_expression", none), "read_expression", "read_expression", defArgs s_read_expression, defBody s_read_expression, defScope s_read_expression, [], []⟩
def d_Program___init__ : He.DefD := ⟨("Program", some "__init__"), "__init__", "Program.__init__", defArgs s_Program___init__, defBody s_Program___init__, defScope s_Program___init__, [], []⟩
def d_is_integer : He.DefD := ⟨("is_integer", none), "is_integer", "is_integer", defArgs s_is_integer, defBody s_is_integer, defScope s_is_integer, [], []⟩
def d_is_within : He.DefD := ⟨("is_within", none), "is_within", "is_within", defArgs s_is_within, defBody s_is_within, defScope s_is_within, [], []⟩
def d_is_ascending : He.DefD := ⟨("is_ascending", none), "is_ascending", "is_ascending", defArgs s_is_ascending, defBody s_is_ascending, defScope s_is_ascending, [], []⟩
def d_is_lot : He.DefD := ⟨("is_lot", none), "is_lot", "is_lot", defArgs s_is_lot, defBody s_is_lot, defScope s_is_lot, [], []⟩
def d_is_tuple_of : He.DefD := ⟨("is_tuple_of", none), "is_tuple_of", "is_tuple_of", defArgs s_is_tuple_of, defBody s_is_tuple_of, defScope s_is_tuple_of, [], []⟩
def d_is_floor : He.DefD := ⟨("is_floor", none), "is_floor", "is_floor", defArgs s_is_floor, defBody s_is_floor, defScope s_is_floor, [], []⟩
def d_check_floor : He.DefD := ⟨("check_floor", none), "check_floor", "check_floor", defArgs s_check_floor, defBody s_check_floor, defScope s_check_floor, [], []⟩
def d_is_mark : He.DefD := ⟨("is_mark", none), "is_mark", "is_mark", defArgs s_is_mark, defBody s_is_mark, defScope s_is_mark, [], []⟩
def d_is_sense : He.DefD := ⟨("is_sense", none), "is_sense", "is_sense", defArgs s_is_sense, defBody s_is_sense, defScope s_is_sense, [], []⟩
def d_is_place : He.DefD := ⟨("is_place", none), "is_place", "is_place", defArgs s_is_place, defBody s_is_place, defScope s_is_place, [], []⟩
def d_is_placed : He.DefD := ⟨("is_placed", none), "is_placed", "is_placed", defArgs s_is_placed, defBody s_is_placed, defScope s_is_placed, [], []⟩
def d_is_standing : He.DefD := ⟨("is_standing", none), "is_standing", "is_standing", defArgs s_is_standing, defBody s_is_standing, defScope s_is_standing, [], []⟩
def d_check_standing : He.DefD := ⟨("check_standing", none), "check_standing", "check_standing", defArgs s_check_standing, defBody s_check_standing, defScope s_check_standing, [], []⟩
def d_check_program : He.DefD := ⟨("check_program", none), "check_program", "check_program", defArgs s_check_program, defBody s_check_program, defScope s_check_program, [], []⟩
def d_check_start : He.DefD := ⟨("check_start", none), "check_start", "check_start", defArgs s_check_start, defBody s_check_start, defScope s_check_start, [], []⟩
def d_cell_at : He.DefD := ⟨("cell_at", none), "cell_at", "cell_at", defArgs s_cell_at, defBody s_cell_at, defScope s_cell_at, [], []⟩
def d_place_at : He.DefD := ⟨("place_at", none), "place_at", "place_at", defArgs s_place_at, defBody s_place_at, defScope s_place_at, [], []⟩
def d_cells_towards : He.DefD := ⟨("cells_towards", none), "cells_towards", "cells_towards", defArgs s_cells_towards, defBody s_cells_towards, defScope s_cells_towards, [], []⟩
def d_view_of : He.DefD := ⟨("view_of", none), "view_of", "view_of", defArgs s_view_of, defBody s_view_of, defScope s_view_of, [], []⟩
def d_held : He.DefD := ⟨("held", none), "held", "held", defArgs s_held, defBody s_held, defScope s_held, [], []⟩
def d_seen_cell : He.DefD := ⟨("seen_cell", none), "seen_cell", "seen_cell", defArgs s_seen_cell, defBody s_seen_cell, defScope s_seen_cell, [], []⟩
def d_counted : He.DefD := ⟨("counted", none), "counted", "counted", defArgs s_counted, defBody s_counted, defScope s_counted, [], []⟩
def d_reckoned : He.DefD := ⟨("reckoned", none), "reckoned", "reckoned", defArgs s_reckoned, defBody s_reckoned, defScope s_reckoned, [], []⟩
def d_value_of_word : He.DefD := ⟨("value_of_word", none), "value_of_word", "value_of_word", defArgs s_value_of_word, defBody s_value_of_word, defScope s_value_of_word, [], []⟩
def d_value_of : He.DefD := ⟨("value_of", none), "value_of", "value_of", defArgs s_value_of, defBody s_value_of, defScope s_value_of, [], []⟩
def d_cells_seen : He.DefD := ⟨("cells_seen", none), "cells_seen", "cells_seen", defArgs s_cells_seen, defBody s_cells_seen, defScope s_cells_seen, [], []⟩
def d_first_met : He.DefD := ⟨("first_met", none), "first_met", "first_met", defArgs s_first_met, defBody s_first_met, defScope s_first_met, [], []⟩
def d_known_at_first : He.DefD := ⟨("known_at_first", none), "known_at_first", "known_at_first", defArgs s_known_at_first, defBody s_known_at_first, defScope s_known_at_first, [], []⟩
def d_thought_of : He.DefD := ⟨("thought_of", none), "thought_of", "thought_of", defArgs s_thought_of, defBody s_thought_of, defScope s_thought_of, [], []⟩
def d_place_behind : He.DefD := ⟨("place_behind", none), "place_behind", "place_behind", defArgs s_place_behind, defBody s_place_behind, defScope s_place_behind, [], []⟩
def d_entry_behind : He.DefD := ⟨("entry_behind", none), "entry_behind", "entry_behind", defArgs s_entry_behind, defBody s_entry_behind, defScope s_entry_behind, [], []⟩
def d_standing_behind : He.DefD := ⟨("standing_behind", none), "standing_behind", "standing_behind", defArgs s_standing_behind, defBody s_standing_behind, defScope s_standing_behind, [], []⟩
def d_beat : He.DefD := ⟨("beat", none), "beat", "beat", defArgs s_beat, defBody s_beat, defScope s_beat, [], []⟩
def d_are_lots : He.DefD := ⟨("are_lots", none), "are_lots", "are_lots", defArgs s_are_lots, defBody s_are_lots, defScope s_are_lots, [], []⟩
def d_run : He.DefD := ⟨("run", none), "run", "run", defArgs s_run, defBody s_run, defScope s_run, [], []⟩
def d_law_take : He.DefD := ⟨("_law_take", none), "_law_take", "_law_take", defArgs s_law_take, defBody s_law_take, defScope s_law_take, [], []⟩
def d_law_are_steps_right : He.DefD := ⟨("_law_are_steps_right", none), "_law_are_steps_right", "_law_are_steps_right", defArgs s_law_are_steps_right, defBody s_law_are_steps_right, defScope s_law_are_steps_right, [], []⟩
def d_law_of : He.DefD := ⟨("_law_of", none), "_law_of", "_law_of", defArgs s_law_of, defBody s_law_of, defScope s_law_of, [], []⟩
def d_law_are_exchanges_right : He.DefD := ⟨("_law_are_exchanges_right", none), "_law_are_exchanges_right", "_law_are_exchanges_right", defArgs s_law_are_exchanges_right, defBody s_law_are_exchanges_right, defScope s_law_are_exchanges_right, [], []⟩
def d_check_many : He.DefD := ⟨("check_many", none), "check_many", "check_many", defArgs s_check_many, defBody s_check_many, defScope s_check_many, [], []⟩
def d_cut_in_eras : He.DefD := ⟨("cut_in_eras", none), "cut_in_eras", "cut_in_eras", defArgs s_cut_in_eras, defBody s_cut_in_eras, defScope s_cut_in_eras, [], []⟩
def d_is_of_kind : He.DefD := ⟨("is_of_kind", none), "is_of_kind", "is_of_kind", defArgs s_is_of_kind, defBody s_is_of_kind, defScope s_is_of_kind, [], []⟩
def d_check_lots : He.DefD := ⟨("check_lots", none), "check_lots", "check_lots", defArgs s_check_lots, defBody s_check_lots, defScope s_check_lots, [], []⟩
def d_eras : He.DefD := ⟨("eras", none), "eras", "eras", defArgs s_eras, defBody s_eras, defScope s_eras, [], []⟩
def d_left : He.DefD := ⟨("left", none), "left", "left", defArgs s_left, defBody s_left, defScope s_left, [], []⟩
def d_check_kind : He.DefD := ⟨("check_kind", none), "check_kind", "check_kind", defArgs s_check_kind, defBody s_check_kind, defScope s_check_kind, [], []⟩
def d_lots_among : He.DefD := ⟨("lots_among", none), "lots_among", "lots_among", defArgs s_lots_among, defBody s_lots_among, defScope s_lots_among, [], []⟩
def d_next_lots : He.DefD := ⟨("next_lots", none), "next_lots", "next_lots", defArgs s_next_lots, defBody s_next_lots, defScope s_next_lots, [], []⟩
def d_law_are_lots_right : He.DefD := ⟨("_law_are_lots_right", none), "_law_are_lots_right", "_law_are_lots_right", defArgs s_law_are_lots_right, defBody s_law_are_lots_right, defScope s_law_are_lots_right, [], []⟩
def d_law_right : He.DefD := ⟨("_law_right", none), "_law_right", "_law_right", defArgs s_law_right, defBody s_law_right, defScope s_law_right, [], []⟩
def d_law : He.DefD := ⟨("law", none), "law", "law", defArgs s_law, defBody s_law, defScope s_law, [], []⟩
def fns : List He.DefD := [d_law_pot, d_law_cells, d_has_only, d_is_written, d_is_figures, d_parts_of, d_is_expression, d_is_new_name, d_is_let_line, d_can_stand, d_awaited_behind, d_read_lines, d_read_expression, d_Program___init__, d_is_integer, d_is_within, d_is_ascending, d_is_lot, d_is_tuple_of, d_is_floor, d_check_floor, d_is_mark, d_is_sense, d_is_place, d_is_placed, d_is_standing, d_check_standing, d_check_program, d_check_start, d_cell_at, d_place_at, d_cells_towards, d_view_of, d_held, d_seen_cell, d_counted, d_reckoned, d_value_of_word, d_value_of, d_cells_seen, d_first_met, d_known_at_first, d_thought_of, d_place_behind, d_entry_behind, d_standing_behind, d_beat, d_are_lots, d_run, d_law_take, d_law_are_steps_right, d_law_of, d_law_are_exchanges_right, d_check_many, d_cut_in_eras, d_is_of_kind, d_check_lots, d_eras, d_left, d_check_kind, d_lots_among, d_next_lots, d_law_are_lots_right, d_law_right, d_law]
def fac : List He.Fa := [.glo "_law_pot", .glo "_law_cells", .glo "has_only", .glo "is_written", .glo "is_figures", .glo "parts_of", .glo "is_expression", .glo "is_new_name", .glo "is_let_line", .glo "can_stand", .glo "awaited_behind", .glo "read_lines", .glo "read_expression", .glo "is_integer", .glo "is_within", .glo "is_ascending", .glo "is_lot", .glo "is_tuple_of", .glo "is_floor", .glo "check_floor", .glo "is_mark", .glo "is_sense", .glo "is_place", .glo "is_placed", .glo "is_standing", .glo "check_standing", .glo "check_program", .glo "check_start", .glo "cell_at", .glo "place_at", .glo "cells_towards", .glo "view_of", .glo "held", .glo "seen_cell", .glo "counted", .glo "reckoned", .glo "value_of_word", .glo "value_of", .glo "cells_seen", .glo "first_met", .glo "known_at_first", .glo "thought_of", .glo "place_behind", .glo "entry_behind", .glo "standing_behind", .glo "beat", .glo "are_lots", .glo "run", .glo "_law_take", .glo "_law_are_steps_right", .glo "_law_of", .glo "_law_are_exchanges_right", .glo "check_many", .glo "cut_in_eras", .glo "is_of_kind", .glo "check_lots", .glo "eras", .glo "left", .glo "check_kind", .glo "lots_among", .glo "next_lots", .glo "_law_are_lots_right", .glo "_law_right", .glo "law", .glo "Program", .cls "Program", .mkr "Program", .noat "Program" "for_mark", .noat "Program" "for_step", .noat "Program" "lets", .noat "Program" "marks", .noat "Program" "text", .free "abs", .free "all", .free "bool", .free "enumerate", .free "int", .free "isinstance", .free "len", .free "list", .free "max", .free "min", .free "range", .free "repr", .free "reversed", .free "sorted", .free "str", .free "sum", .free "tuple", .free "zip", .int "MOST_DEEP" 10, .int "MOST_LETS" 6, .int "MOST_MARK" 3, .int "MOST_SIGNS" 6, .int "MOST_SUM" 999, .int "MOST_WALKERS" 5, .int "MOST_WORDS" 40]
abbrev R : PySem.W.OpenRow := PySem.W.OpenLaw.row PySem.Challenge.rw_onestillview_k15_beats_by_hand
def cns : List (Str × D) := [("FIGURES", k_FIGURES), ("LETTERS", k_LETTERS), ("LINE_WORDS", k_LINE_WORDS), ("KINDS", k_KINDS)]
def kds : List (Str × List (Str × D)) := [("PARTS", kd_PARTS)]
def exB (K : PySem.W.Frag) : Bool := kB cns K && (kCB kds K && isFB K "Program" tab_Program)
def tbs : List He.Tab := [(fun K => He.ga K "PARTS", ["mine", "others", "size", "ahead", "behind", "count", "marked", "room", "plus", "less", "same", "half", "turn", "pick"])]
def adr : List Addr := [3, 6, 4, 31, 44, 56, 68, 80, 92, 104, 116, 128, 137, 144, 151, 156, 163, 170, 177, 184, 191, 196, 201, 206, 213, 220, 227, 234, 239, 244, 251, 258, 259, 260, 265, 272, 279, 286, 293, 300, 307, 314, 321, 326, 331, 353, 364, 371, 378, 385, 392, 399, 406, 411, 418, 425, 430, 437, 438, 445, 452, 459, 466, 471, 476, 483, 490, 497, 502, 507, 512, 519, 526, 533, 540, 545, 552, 559, 566, 571, 0, 30, 43, 55, 67, 79, 91, 103, 115, 127, 136, 143, 150, 155, 162, 169, 176, 183, 190, 195, 200, 205, 212, 219, 226, 233, 238, 243, 250, 257, 264, 271, 278, 285, 292, 299, 306, 313, 320, 325, 330, 352, 363, 370, 377, 384, 391, 398, 405, 410, 417, 424, 429, 436, 444, 451, 458, 465, 470, 475, 482, 489, 496, 501, 506, 511, 518, 525, 532, 539, 544, 551, 558, 565, 570, 28, 29, 32, 42, 54, 66, 78, 90, 102, 114, 126, 131, 133, 134, 135, 138, 140, 141, 142, 145, 147, 148, 149, 152, 154, 157, 159, 160, 161, 164, 166, 167, 168, 171, 173, 174, 175, 178, 180, 181, 182, 185, 187, 188, 189, 192, 194, 197, 199, 202, 204, 207, 209, 210, 211, 214, 216, 217, 218, 221, 223, 224, 225, 228, 230, 231, 232, 235, 237, 240, 242, 245, 247, 248, 249, 252, 254, 255, 256, 261, 263, 266, 268, 269, 270, 273, 275, 276, 277, 280, 282, 283, 284, 287, 289, 290, 291, 294, 296, 297, 298, 301, 303, 304, 305, 308, 310, 311, 312, 315, 317, 318, 319, 322, 324, 327, 329, 343, 350, 351, 354, 355, 358, 360, 361, 362, 365, 367, 368, 369, 372, 374, 375, 376, 379, 381, 382, 383, 386, 388, 389, 390, 393, 395, 396, 397, 400, 402, 403, 404, 407, 409, 412, 414, 415, 416, 419, 421, 422, 423, 426, 428, 431, 433, 434, 435, 439, 441, 442, 443, 446, 448, 449, 450, 453, 455, 456, 457, 460, 462, 463, 464, 467, 469, 472, 474, 477, 479, 480, 481, 484, 486, 487, 488, 491, 493, 494, 495, 498, 500, 503, 505, 508, 510, 513, 515, 516, 517, 520, 522, 523, 524, 527, 529, 530, 531, 534, 536, 537, 538, 541, 543, 546, 548, 549, 550, 553, 555, 556, 557, 560, 562, 563, 564, 567, 569, 27, 342, 349]
abbrev hk : PySem.W.Hook := hookY adr fac fns tbs exB
def ob (s : PySem.W.SharedT) : He.AlX := obY adr fac fns tbs exB (HandSHeadRun.getT s)
theorem ob_eq (s : PySem.W.SharedT) : ob s = hk.obs s.abs := obY_eq s
def nm0 : List Str := ["WalkError", "NoProgram", "BadProgram", "BadFloor", "BadStanding", "BadLot", "BadLots", "BadKind", "BadMany", "MOST_MARK", "MOST_WALKERS", "is_integer", "is_within", "is_tuple_of", "is_ascending", "is_mark", "is_sense", "is_floor", "is_place", "is_placed", "is_standing", "is_lot", "are_lots", "check_floor", "check_standing", "check_many", "place_at", "cell_at", "cells_towards", "view_of"]
def nm1 : List Str := ["cells_seen", "LETTERS", "FIGURES", "LINE_WORDS", "PARTS", "MOST_LETS", "MOST_WORDS", "MOST_DEEP", "MOST_SIGNS", "MOST_SUM", "has_only", "is_written", "is_figures", "is_new_name", "parts_of", "is_expression", "is_let_line", "can_stand", "awaited_behind", "read_lines", "read_expression", "Program", "held", "first_met", "seen_cell", "counted", "reckoned", "value_of_word", "value_of", "known_at_first"]
def nm2 : List Str := ["thought_of", "check_program", "check_start", "place_behind", "KINDS", "entry_behind", "standing_behind", "beat", "run", "cut_in_eras", "is_of_kind", "check_kind", "check_lots", "eras", "left", "lots_among", "next_lots", "_law_pot", "_law_take", "_law_of", "_law_cells", "_law_are_steps_right", "_law_are_exchanges_right", "_law_are_lots_right", "_law_right"]
def loose : List Str := nm0 ++ nm1 ++ nm2
open PySem.W PySem.Calls HandSHeadRun in
theorem lk_t (d) (p) (os : OsState) : (endF (stepQ (denQ tabQ) R.prog ⟨d, setT p true⟩) 20000 R.prog ⟨d, setT p true⟩ os).map (fun s => (looksF R.prog (boot_heap (setT p true)) s.abs, seenQ (PySem.W.view R.prog [91]) loose (importedModules R.prog.main.body) (fun s => xlAt (PySem.W.view R.prog [91]) [] s && recOk R.toRowW.records s) s.abs)) = some (true, openGood (PySem.W.view R.prog [91]) loose) := by
  kernel_rfl
open PySem.W PySem.Calls HandSHeadRun in
theorem ob_t (d) (p) (os : OsState) : (endF (stepQ (denQ tabQ) R.prog ⟨d, setT p true⟩) 20000 R.prog ⟨d, setT p true⟩ os).map (fun s => ob s) = some (hk.val ⟨d, setT p true⟩) := by
  kernel_rfl
theorem run_t (d) (p) : HandSHeadRun.RunEq R (PySem.W.view R.prog [91]) hk ob 20000 loose ⟨d, setT p true⟩ := fun os => lookAll (lk_t d p os) (ob_t d p os)
open PySem.W PySem.Calls HandSHeadRun in
theorem lk_f (d) (p) (os : OsState) : (endF (stepQ (denQ tabQ) R.prog ⟨d, setT p false⟩) 20000 R.prog ⟨d, setT p false⟩ os).map (fun s => (looksF R.prog (boot_heap (setT p false)) s.abs, seenQ (PySem.W.view R.prog [91]) loose (importedModules R.prog.main.body) (fun s => xlAt (PySem.W.view R.prog [91]) [] s && recOk R.toRowW.records s) s.abs)) = some (true, openGood (PySem.W.view R.prog [91]) loose) := by
  kernel_rfl
open PySem.W PySem.Calls HandSHeadRun in
theorem ob_f (d) (p) (os : OsState) : (endF (stepQ (denQ tabQ) R.prog ⟨d, setT p false⟩) 20000 R.prog ⟨d, setT p false⟩ os).map (fun s => ob s) = some (hk.val ⟨d, setT p false⟩) := by
  kernel_rfl
theorem run_f (d) (p) : HandSHeadRun.RunEq R (PySem.W.view R.prog [91]) hk ob 20000 loose ⟨d, setT p false⟩ := fun os => lookAll (lk_f d p os) (ob_f d p os)
theorem run (w : World) : HandSHeadRun.RunEq R (PySem.W.view R.prog [91]) hk ob 20000 loose w :=
  byText (P := fun w => HandSHeadRun.RunEq R (PySem.W.view R.prog [91]) hk ob 20000 loose w) (fun d p b => match b with
    | true => run_t d p
    | false => run_f d p) w
theorem facts {P : Program} {w : World} {K : PySem.W.Frag} {h : Heap} {mg : Str → Option Value} {f : Addr} (X : K.In h) (G : h.Ns mainGlobals mg) (hfa : mg ("law" : Str) = some (.ref f)) (c : He.SaysX fac fns tbs [] exB w h K) :
    ∃ fd : FuncData, (∀ (s : Shared) (v : Value), BindsTo s fd ⟨[v], []⟩ [("script", v)]) ∧ ∀ (sa : Addr) (ns : List Int) (base : Heap), K.In base → base.Ns mainGlobals mg → FnG P w K mg base (L2.CX P w) 13 f fd ["script"] (spM ⟨K, sa, ns, clK K⟩ wF 1 (m_law ns)) := by
  obtain ⟨fd_law_pot, F_law_pot⟩ := c.t.d.def_ 0 (d := d_law_pot) rfl
  have F_law_pot : FnP K "_law_pot" s_law_pot (He.ga K "_law_pot") fd_law_pot := F_law_pot
  have q_law_pot := He.glo_ok X G (c.t.d.fact 0 (f := .glo "_law_pot") rfl)
  obtain ⟨fd_law_cells, F_law_cells⟩ := c.t.d.def_ 1 (d := d_law_cells) rfl
  have F_law_cells : FnP K "_law_cells" s_law_cells (He.ga K "_law_cells") fd_law_cells := F_law_cells
  have q_law_cells := He.glo_ok X G (c.t.d.fact 1 (f := .glo "_law_cells") rfl)
  obtain ⟨fd_has_only, F_has_only⟩ := c.t.d.def_ 2 (d := d_has_only) rfl
  have F_has_only : FnP K "has_only" s_has_only (He.ga K "has_only") fd_has_only := F_has_only
  have q_has_only := He.glo_ok X G (c.t.d.fact 2 (f := .glo "has_only") rfl)
  obtain ⟨fd_is_written, F_is_written⟩ := c.t.d.def_ 3 (d := d_is_written) rfl
  have F_is_written : FnP K "is_written" s_is_written (He.ga K "is_written") fd_is_written := F_is_written
  have q_is_written := He.glo_ok X G (c.t.d.fact 3 (f := .glo "is_written") rfl)
  obtain ⟨fd_is_figures, F_is_figures⟩ := c.t.d.def_ 4 (d := d_is_figures) rfl
  have F_is_figures : FnP K "is_figures" s_is_figures (He.ga K "is_figures") fd_is_figures := F_is_figures
  have q_is_figures := He.glo_ok X G (c.t.d.fact 4 (f := .glo "is_figures") rfl)
  obtain ⟨fd_parts_of, F_parts_of⟩ := c.t.d.def_ 5 (d := d_parts_of) rfl
  have F_parts_of : FnP K "parts_of" s_parts_of (He.ga K "parts_of") fd_parts_of := F_parts_of
  have q_parts_of := He.glo_ok X G (c.t.d.fact 5 (f := .glo "parts_of") rfl)
  obtain ⟨fd_is_expression, F_is_expression⟩ := c.t.d.def_ 6 (d := d_is_expression) rfl
  have F_is_expression : FnP K "is_expression" s_is_expression (He.ga K "is_expression") fd_is_expression := F_is_expression
  have q_is_expression := He.glo_ok X G (c.t.d.fact 6 (f := .glo "is_expression") rfl)
  obtain ⟨fd_is_new_name, F_is_new_name⟩ := c.t.d.def_ 7 (d := d_is_new_name) rfl
  have F_is_new_name : FnP K "is_new_name" s_is_new_name (He.ga K "is_new_name") fd_is_new_name := F_is_new_name
  have q_is_new_name := He.glo_ok X G (c.t.d.fact 7 (f := .glo "is_new_name") rfl)
  obtain ⟨fd_is_let_line, F_is_let_line⟩ := c.t.d.def_ 8 (d := d_is_let_line) rfl
  have F_is_let_line : FnP K "is_let_line" s_is_let_line (He.ga K "is_let_line") fd_is_let_line := F_is_let_line
  have q_is_let_line := He.glo_ok X G (c.t.d.fact 8 (f := .glo "is_let_line") rfl)
  obtain ⟨fd_can_stand, F_can_stand⟩ := c.t.d.def_ 9 (d := d_can_stand) rfl
  have F_can_stand : FnP K "can_stand" s_can_stand (He.ga K "can_stand") fd_can_stand := F_can_stand
  have q_can_stand := He.glo_ok X G (c.t.d.fact 9 (f := .glo "can_stand") rfl)
  obtain ⟨fd_awaited_behind, F_awaited_behind⟩ := c.t.d.def_ 10 (d := d_awaited_behind) rfl
  have F_awaited_behind : FnP K "awaited_behind" s_awaited_behind (He.ga K "awaited_behind") fd_awaited_behind := F_awaited_behind
  have q_awaited_behind := He.glo_ok X G (c.t.d.fact 10 (f := .glo "awaited_behind") rfl)
  obtain ⟨fd_read_lines, F_read_lines⟩ := c.t.d.def_ 11 (d := d_read_lines) rfl
  have F_read_lines : FnP K "read_lines" s_read_lines (He.ga K "read_lines") fd_read_lines := F_read_lines
  have q_read_lines := He.glo_ok X G (c.t.d.fact 11 (f := .glo "read_lines") rfl)
  obtain ⟨fd_read_expression, F_read_expression⟩ := c.t.d.def_ 12 (d := d_read_expression) rfl
  have F_read_expression : FnP K "read_expression" s_read_expression (He.ga K "read_expression") fd_read_expression := F_read_expression
  have q_read_expression := He.glo_ok X G (c.t.d.fact 12 (f := .glo "read_expression") rfl)
  obtain ⟨fd_Program___init__, F_Program___init__⟩ := c.t.d.def_ 13 (d := d_Program___init__) rfl
  have F_Program___init__ : FnQ K "__init__" "Program.__init__" s_Program___init__ (He.ma K (He.ga K "Program") "__init__") fd_Program___init__ := F_Program___init__
  obtain ⟨fd_is_integer, F_is_integer⟩ := c.t.d.def_ 14 (d := d_is_integer) rfl
  have F_is_integer : FnP K "is_integer" s_is_integer (He.ga K "is_integer") fd_is_integer := F_is_integer
  have q_is_integer := He.glo_ok X G (c.t.d.fact 13 (f := .glo "is_integer") rfl)
  obtain ⟨fd_is_within, F_is_within⟩ := c.t.d.def_ 15 (d := d_is_within) rfl
  have F_is_within : FnP K "is_within" s_is_within (He.ga K "is_within") fd_is_within := F_is_within
  have q_is_within := He.glo_ok X G (c.t.d.fact 14 (f := .glo "is_within") rfl)
  obtain ⟨fd_is_ascending, F_is_ascending⟩ := c.t.d.def_ 16 (d := d_is_ascending) rfl
  have F_is_ascending : FnP K "is_ascending" s_is_ascending (He.ga K "is_ascending") fd_is_ascending := F_is_ascending
  have q_is_ascending := He.glo_ok X G (c.t.d.fact 15 (f := .glo "is_ascending") rfl)
  obtain ⟨fd_is_lot, F_is_lot⟩ := c.t.d.def_ 17 (d := d_is_lot) rfl
  have F_is_lot : FnP K "is_lot" s_is_lot (He.ga K "is_lot") fd_is_lot := F_is_lot
  have q_is_lot := He.glo_ok X G (c.t.d.fact 16 (f := .glo "is_lot") rfl)
  obtain ⟨fd_is_tuple_of, F_is_tuple_of⟩ := c.t.d.def_ 18 (d := d_is_tuple_of) rfl
  have F_is_tuple_of : FnP K "is_tuple_of" s_is_tuple_of (He.ga K "is_tuple_of") fd_is_tuple_of := F_is_tuple_of
  have q_is_tuple_of := He.glo_ok X G (c.t.d.fact 17 (f := .glo "is_tuple_of") rfl)
  obtain ⟨fd_is_floor, F_is_floor⟩ := c.t.d.def_ 19 (d := d_is_floor) rfl
  have F_is_floor : FnP K "is_floor" s_is_floor (He.ga K "is_floor") fd_is_floor := F_is_floor
  have q_is_floor := He.glo_ok X G (c.t.d.fact 18 (f := .glo "is_floor") rfl)
  obtain ⟨fd_check_floor, F_check_floor⟩ := c.t.d.def_ 20 (d := d_check_floor) rfl
  have F_check_floor : FnP K "check_floor" s_check_floor (He.ga K "check_floor") fd_check_floor := F_check_floor
  have q_check_floor := He.glo_ok X G (c.t.d.fact 19 (f := .glo "check_floor") rfl)
  obtain ⟨fd_is_mark, F_is_mark⟩ := c.t.d.def_ 21 (d := d_is_mark) rfl
  have F_is_mark : FnP K "is_mark" s_is_mark (He.ga K "is_mark") fd_is_mark := F_is_mark
  have q_is_mark := He.glo_ok X G (c.t.d.fact 20 (f := .glo "is_mark") rfl)
  obtain ⟨fd_is_sense, F_is_sense⟩ := c.t.d.def_ 22 (d := d_is_sense) rfl
  have F_is_sense : FnP K "is_sense" s_is_sense (He.ga K "is_sense") fd_is_sense := F_is_sense
  have q_is_sense := He.glo_ok X G (c.t.d.fact 21 (f := .glo "is_sense") rfl)
  obtain ⟨fd_is_place, F_is_place⟩ := c.t.d.def_ 23 (d := d_is_place) rfl
  have F_is_place : FnP K "is_place" s_is_place (He.ga K "is_place") fd_is_place := F_is_place
  have q_is_place := He.glo_ok X G (c.t.d.fact 22 (f := .glo "is_place") rfl)
  obtain ⟨fd_is_placed, F_is_placed⟩ := c.t.d.def_ 24 (d := d_is_placed) rfl
  have F_is_placed : FnP K "is_placed" s_is_placed (He.ga K "is_placed") fd_is_placed := F_is_placed
  have q_is_placed := He.glo_ok X G (c.t.d.fact 23 (f := .glo "is_placed") rfl)
  obtain ⟨fd_is_standing, F_is_standing⟩ := c.t.d.def_ 25 (d := d_is_standing) rfl
  have F_is_standing : FnP K "is_standing" s_is_standing (He.ga K "is_standing") fd_is_standing := F_is_standing
  have q_is_standing := He.glo_ok X G (c.t.d.fact 24 (f := .glo "is_standing") rfl)
  obtain ⟨fd_check_standing, F_check_standing⟩ := c.t.d.def_ 26 (d := d_check_standing) rfl
  have F_check_standing : FnP K "check_standing" s_check_standing (He.ga K "check_standing") fd_check_standing := F_check_standing
  have q_check_standing := He.glo_ok X G (c.t.d.fact 25 (f := .glo "check_standing") rfl)
  obtain ⟨fd_check_program, F_check_program⟩ := c.t.d.def_ 27 (d := d_check_program) rfl
  have F_check_program : FnP K "check_program" s_check_program (He.ga K "check_program") fd_check_program := F_check_program
  have q_check_program := He.glo_ok X G (c.t.d.fact 26 (f := .glo "check_program") rfl)
  obtain ⟨fd_check_start, F_check_start⟩ := c.t.d.def_ 28 (d := d_check_start) rfl
  have F_check_start : FnP K "check_start" s_check_start (He.ga K "check_start") fd_check_start := F_check_start
  have q_check_start := He.glo_ok X G (c.t.d.fact 27 (f := .glo "check_start") rfl)
  obtain ⟨fd_cell_at, F_cell_at⟩ := c.t.d.def_ 29 (d := d_cell_at) rfl
  have F_cell_at : FnP K "cell_at" s_cell_at (He.ga K "cell_at") fd_cell_at := F_cell_at
  have q_cell_at := He.glo_ok X G (c.t.d.fact 28 (f := .glo "cell_at") rfl)
  obtain ⟨fd_place_at, F_place_at⟩ := c.t.d.def_ 30 (d := d_place_at) rfl
  have F_place_at : FnP K "place_at" s_place_at (He.ga K "place_at") fd_place_at := F_place_at
  have q_place_at := He.glo_ok X G (c.t.d.fact 29 (f := .glo "place_at") rfl)
  obtain ⟨fd_cells_towards, F_cells_towards⟩ := c.t.d.def_ 31 (d := d_cells_towards) rfl
  have F_cells_towards : FnP K "cells_towards" s_cells_towards (He.ga K "cells_towards") fd_cells_towards := F_cells_towards
  have q_cells_towards := He.glo_ok X G (c.t.d.fact 30 (f := .glo "cells_towards") rfl)
  obtain ⟨fd_view_of, F_view_of⟩ := c.t.d.def_ 32 (d := d_view_of) rfl
  have F_view_of : FnP K "view_of" s_view_of (He.ga K "view_of") fd_view_of := F_view_of
  have q_view_of := He.glo_ok X G (c.t.d.fact 31 (f := .glo "view_of") rfl)
  obtain ⟨fd_held, F_held⟩ := c.t.d.def_ 33 (d := d_held) rfl
  have F_held : FnP K "held" s_held (He.ga K "held") fd_held := F_held
  have q_held := He.glo_ok X G (c.t.d.fact 32 (f := .glo "held") rfl)
  obtain ⟨fd_seen_cell, F_seen_cell⟩ := c.t.d.def_ 34 (d := d_seen_cell) rfl
  have F_seen_cell : FnP K "seen_cell" s_seen_cell (He.ga K "seen_cell") fd_seen_cell := F_seen_cell
  have q_seen_cell := He.glo_ok X G (c.t.d.fact 33 (f := .glo "seen_cell") rfl)
  obtain ⟨fd_counted, F_counted⟩ := c.t.d.def_ 35 (d := d_counted) rfl
  have F_counted : FnP K "counted" s_counted (He.ga K "counted") fd_counted := F_counted
  have q_counted := He.glo_ok X G (c.t.d.fact 34 (f := .glo "counted") rfl)
  obtain ⟨fd_reckoned, F_reckoned⟩ := c.t.d.def_ 36 (d := d_reckoned) rfl
  have F_reckoned : FnP K "reckoned" s_reckoned (He.ga K "reckoned") fd_reckoned := F_reckoned
  have q_reckoned := He.glo_ok X G (c.t.d.fact 35 (f := .glo "reckoned") rfl)
  obtain ⟨fd_value_of_word, F_value_of_word⟩ := c.t.d.def_ 37 (d := d_value_of_word) rfl
  have F_value_of_word : FnP K "value_of_word" s_value_of_word (He.ga K "value_of_word") fd_value_of_word := F_value_of_word
  have q_value_of_word := He.glo_ok X G (c.t.d.fact 36 (f := .glo "value_of_word") rfl)
  obtain ⟨fd_value_of, F_value_of⟩ := c.t.d.def_ 38 (d := d_value_of) rfl
  have F_value_of : FnP K "value_of" s_value_of (He.ga K "value_of") fd_value_of := F_value_of
  have q_value_of := He.glo_ok X G (c.t.d.fact 37 (f := .glo "value_of") rfl)
  obtain ⟨fd_cells_seen, F_cells_seen⟩ := c.t.d.def_ 39 (d := d_cells_seen) rfl
  have F_cells_seen : FnP K "cells_seen" s_cells_seen (He.ga K "cells_seen") fd_cells_seen := F_cells_seen
  have q_cells_seen := He.glo_ok X G (c.t.d.fact 38 (f := .glo "cells_seen") rfl)
  obtain ⟨fd_first_met, F_first_met⟩ := c.t.d.def_ 40 (d := d_first_met) rfl
  have F_first_met : FnP K "first_met" s_first_met (He.ga K "first_met") fd_first_met := F_first_met
  have q_first_met := He.glo_ok X G (c.t.d.fact 39 (f := .glo "first_met") rfl)
  obtain ⟨fd_known_at_first, F_known_at_first⟩ := c.t.d.def_ 41 (d := d_known_at_first) rfl
  have F_known_at_first : FnP K "known_at_first" s_known_at_first (He.ga K "known_at_first") fd_known_at_first := F_known_at_first
  have q_known_at_first := He.glo_ok X G (c.t.d.fact 40 (f := .glo "known_at_first") rfl)
  obtain ⟨fd_thought_of, F_thought_of⟩ := c.t.d.def_ 42 (d := d_thought_of) rfl
  have F_thought_of : FnP K "thought_of" s_thought_of (He.ga K "thought_of") fd_thought_of := F_thought_of
  have q_thought_of := He.glo_ok X G (c.t.d.fact 41 (f := .glo "thought_of") rfl)
  obtain ⟨fd_place_behind, F_place_behind⟩ := c.t.d.def_ 43 (d := d_place_behind) rfl
  have F_place_behind : FnP K "place_behind" s_place_behind (He.ga K "place_behind") fd_place_behind := F_place_behind
  have q_place_behind := He.glo_ok X G (c.t.d.fact 42 (f := .glo "place_behind") rfl)
  obtain ⟨fd_entry_behind, F_entry_behind⟩ := c.t.d.def_ 44 (d := d_entry_behind) rfl
  have F_entry_behind : FnP K "entry_behind" s_entry_behind (He.ga K "entry_behind") fd_entry_behind := F_entry_behind
  have q_entry_behind := He.glo_ok X G (c.t.d.fact 43 (f := .glo "entry_behind") rfl)
  obtain ⟨fd_standing_behind, F_standing_behind⟩ := c.t.d.def_ 45 (d := d_standing_behind) rfl
  have F_standing_behind : FnP K "standing_behind" s_standing_behind (He.ga K "standing_behind") fd_standing_behind := F_standing_behind
  have q_standing_behind := He.glo_ok X G (c.t.d.fact 44 (f := .glo "standing_behind") rfl)
  obtain ⟨fd_beat, F_beat⟩ := c.t.d.def_ 46 (d := d_beat) rfl
  have F_beat : FnP K "beat" s_beat (He.ga K "beat") fd_beat := F_beat
  have q_beat := He.glo_ok X G (c.t.d.fact 45 (f := .glo "beat") rfl)
  obtain ⟨fd_are_lots, F_are_lots⟩ := c.t.d.def_ 47 (d := d_are_lots) rfl
  have F_are_lots : FnP K "are_lots" s_are_lots (He.ga K "are_lots") fd_are_lots := F_are_lots
  have q_are_lots := He.glo_ok X G (c.t.d.fact 46 (f := .glo "are_lots") rfl)
  obtain ⟨fd_run, F_run⟩ := c.t.d.def_ 48 (d := d_run) rfl
  have F_run : FnP K "run" s_run (He.ga K "run") fd_run := F_run
  have q_run := He.glo_ok X G (c.t.d.fact 47 (f := .glo "run") rfl)
  obtain ⟨fd_law_take, F_law_take⟩ := c.t.d.def_ 49 (d := d_law_take) rfl
  have F_law_take : FnP K "_law_take" s_law_take (He.ga K "_law_take") fd_law_take := F_law_take
  have q_law_take := He.glo_ok X G (c.t.d.fact 48 (f := .glo "_law_take") rfl)
  obtain ⟨fd_law_are_steps_right, F_law_are_steps_right⟩ := c.t.d.def_ 50 (d := d_law_are_steps_right) rfl
  have F_law_are_steps_right : FnP K "_law_are_steps_right" s_law_are_steps_right (He.ga K "_law_are_steps_right") fd_law_are_steps_right := F_law_are_steps_right
  have q_law_are_steps_right := He.glo_ok X G (c.t.d.fact 49 (f := .glo "_law_are_steps_right") rfl)
  obtain ⟨fd_law_of, F_law_of⟩ := c.t.d.def_ 51 (d := d_law_of) rfl
  have F_law_of : FnP K "_law_of" s_law_of (He.ga K "_law_of") fd_law_of := F_law_of
  have q_law_of := He.glo_ok X G (c.t.d.fact 50 (f := .glo "_law_of") rfl)
  obtain ⟨fd_law_are_exchanges_right, F_law_are_exchanges_right⟩ := c.t.d.def_ 52 (d := d_law_are_exchanges_right) rfl
  have F_law_are_exchanges_right : FnP K "_law_are_exchanges_right" s_law_are_exchanges_right (He.ga K "_law_are_exchanges_right") fd_law_are_exchanges_right := F_law_are_exchanges_right
  have q_law_are_exchanges_right := He.glo_ok X G (c.t.d.fact 51 (f := .glo "_law_are_exchanges_right") rfl)
  obtain ⟨fd_check_many, F_check_many⟩ := c.t.d.def_ 53 (d := d_check_many) rfl
  have F_check_many : FnP K "check_many" s_check_many (He.ga K "check_many") fd_check_many := F_check_many
  have q_check_many := He.glo_ok X G (c.t.d.fact 52 (f := .glo "check_many") rfl)
  obtain ⟨fd_cut_in_eras, F_cut_in_eras⟩ := c.t.d.def_ 54 (d := d_cut_in_eras) rfl
  have F_cut_in_eras : FnP K "cut_in_eras" s_cut_in_eras (He.ga K "cut_in_eras") fd_cut_in_eras := F_cut_in_eras
  have q_cut_in_eras := He.glo_ok X G (c.t.d.fact 53 (f := .glo "cut_in_eras") rfl)
  obtain ⟨fd_is_of_kind, F_is_of_kind⟩ := c.t.d.def_ 55 (d := d_is_of_kind) rfl
  have F_is_of_kind : FnP K "is_of_kind" s_is_of_kind (He.ga K "is_of_kind") fd_is_of_kind := F_is_of_kind
  have q_is_of_kind := He.glo_ok X G (c.t.d.fact 54 (f := .glo "is_of_kind") rfl)
  obtain ⟨fd_check_lots, F_check_lots⟩ := c.t.d.def_ 56 (d := d_check_lots) rfl
  have F_check_lots : FnP K "check_lots" s_check_lots (He.ga K "check_lots") fd_check_lots := F_check_lots
  have q_check_lots := He.glo_ok X G (c.t.d.fact 55 (f := .glo "check_lots") rfl)
  obtain ⟨fd_eras, F_eras⟩ := c.t.d.def_ 57 (d := d_eras) rfl
  have F_eras : FnP K "eras" s_eras (He.ga K "eras") fd_eras := F_eras
  have q_eras := He.glo_ok X G (c.t.d.fact 56 (f := .glo "eras") rfl)
  obtain ⟨fd_left, F_left⟩ := c.t.d.def_ 58 (d := d_left) rfl
  have F_left : FnP K "left" s_left (He.ga K "left") fd_left := F_left
  have q_left := He.glo_ok X G (c.t.d.fact 57 (f := .glo "left") rfl)
  obtain ⟨fd_check_kind, F_check_kind⟩ := c.t.d.def_ 59 (d := d_check_kind) rfl
  have F_check_kind : FnP K "check_kind" s_check_kind (He.ga K "check_kind") fd_check_kind := F_check_kind
  have q_check_kind := He.glo_ok X G (c.t.d.fact 58 (f := .glo "check_kind") rfl)
  obtain ⟨fd_lots_among, F_lots_among⟩ := c.t.d.def_ 60 (d := d_lots_among) rfl
  have F_lots_among : FnP K "lots_among" s_lots_among (He.ga K "lots_among") fd_lots_among := F_lots_among
  have q_lots_among := He.glo_ok X G (c.t.d.fact 59 (f := .glo "lots_among") rfl)
  obtain ⟨fd_next_lots, F_next_lots⟩ := c.t.d.def_ 61 (d := d_next_lots) rfl
  have F_next_lots : FnP K "next_lots" s_next_lots (He.ga K "next_lots") fd_next_lots := F_next_lots
  have q_next_lots := He.glo_ok X G (c.t.d.fact 60 (f := .glo "next_lots") rfl)
  obtain ⟨fd_law_are_lots_right, F_law_are_lots_right⟩ := c.t.d.def_ 62 (d := d_law_are_lots_right) rfl
  have F_law_are_lots_right : FnP K "_law_are_lots_right" s_law_are_lots_right (He.ga K "_law_are_lots_right") fd_law_are_lots_right := F_law_are_lots_right
  have q_law_are_lots_right := He.glo_ok X G (c.t.d.fact 61 (f := .glo "_law_are_lots_right") rfl)
  obtain ⟨fd_law_right, F_law_right⟩ := c.t.d.def_ 63 (d := d_law_right) rfl
  have F_law_right : FnP K "_law_right" s_law_right (He.ga K "_law_right") fd_law_right := F_law_right
  have q_law_right := He.glo_ok X G (c.t.d.fact 62 (f := .glo "_law_right") rfl)
  obtain ⟨fd_law, F_law⟩ := c.t.d.def_ 64 (d := d_law) rfl
  have F_law : FnP K "law" s_law (He.ga K "law") fd_law := F_law
  have qc_Program := He.glo_ok X G (c.t.d.fact 64 (f := .glo "Program") rfl)
  have ex := c.more
  unfold exB at ex
  simp only [Bool.and_eq_true] at ex
  have T : Tx K w mg := ⟨kB_ok X G ex.1 0, kB_ok X G ex.1 1, kB_ok X G ex.1 2, kB_ok X G ex.1 3, kCB_ok X G ex.2.1 0 (c.t.tab 0 (t := (fun K => He.ga K "PARTS", ["mine", "others", "size", "ahead", "behind", "count", "marked", "room", "plus", "less", "same", "half", "turn", "pick"])) rfl), He.cls_ok (c.t.d.fact 65 (f := .cls "Program") rfl), He.noat_ok (c.t.d.fact 67 (f := .noat "Program" "for_mark") rfl), He.noat_ok (c.t.d.fact 68 (f := .noat "Program" "for_step") rfl), He.noat_ok (c.t.d.fact 69 (f := .noat "Program" "lets") rfl), He.noat_ok (c.t.d.fact 70 (f := .noat "Program" "marks") rfl), He.noat_ok (c.t.d.fact 71 (f := .noat "Program" "text") rfl), (fun sa ns => isFB_ok (c := ⟨K, sa, ns, clK K⟩) (fun _ => rfl) qc_Program ex.2.2), He.free_ok X G (c.t.d.fact 72 (f := .free "abs") rfl), He.free_ok X G (c.t.d.fact 73 (f := .free "all") rfl), He.free_ok X G (c.t.d.fact 74 (f := .free "bool") rfl), He.free_ok X G (c.t.d.fact 75 (f := .free "enumerate") rfl), He.free_ok X G (c.t.d.fact 76 (f := .free "int") rfl), He.free_ok X G (c.t.d.fact 77 (f := .free "isinstance") rfl), He.free_ok X G (c.t.d.fact 78 (f := .free "len") rfl), He.free_ok X G (c.t.d.fact 79 (f := .free "list") rfl), He.free_ok X G (c.t.d.fact 80 (f := .free "max") rfl), He.free_ok X G (c.t.d.fact 81 (f := .free "min") rfl), He.free_ok X G (c.t.d.fact 82 (f := .free "range") rfl), He.free_ok X G (c.t.d.fact 83 (f := .free "repr") rfl), He.free_ok X G (c.t.d.fact 84 (f := .free "reversed") rfl), He.free_ok X G (c.t.d.fact 85 (f := .free "sorted") rfl), He.free_ok X G (c.t.d.fact 86 (f := .free "str") rfl), He.free_ok X G (c.t.d.fact 87 (f := .free "sum") rfl), He.free_ok X G (c.t.d.fact 88 (f := .free "tuple") rfl), He.free_ok X G (c.t.d.fact 89 (f := .free "zip") rfl), He.int_ok X G (c.t.d.fact 90 (f := .int "MOST_DEEP" 10) rfl), He.int_ok X G (c.t.d.fact 91 (f := .int "MOST_LETS" 6) rfl), He.int_ok X G (c.t.d.fact 92 (f := .int "MOST_MARK" 3) rfl), He.int_ok X G (c.t.d.fact 93 (f := .int "MOST_SIGNS" 6) rfl), He.int_ok X G (c.t.d.fact 94 (f := .int "MOST_SUM" 999) rfl), He.int_ok X G (c.t.d.fact 95 (f := .int "MOST_WALKERS" 5) rfl), He.int_ok X G (c.t.d.fact 96 (f := .int "MOST_WORDS" 40) rfl)⟩
  have e := hfa.symm.trans (He.glo_ok X G (c.t.d.fact 63 (f := .glo "law") rfl))
  cases e
  have b := FunD.bindsA (ps := ["script"]) F_law fun _ _ _ _ _ _ us hl => match us, hl with | [_], _ => rfl
  refine ⟨fd_law, fun s v => b s [v] rfl, fun sa ns base _ _ => ?_⟩
  have G_law_pot := g_law_pot (P := P) (w := w) (base := base) (sa := sa) (ns := ns) F_law_pot T
  have C_law_pot := cal_of F_law_pot q_law_pot (F_law_pot.bindsN (ps := ["script", "place"]) fun _ _ _ _ _ _ us hl => match us, hl with | [_, _], _ => rfl) G_law_pot
  have G_law_cells := g_law_cells (P := P) (w := w) (base := base) (sa := sa) (ns := ns) F_law_cells T
  have C_law_cells := cal_of F_law_cells q_law_cells (F_law_cells.bindsN (ps := ["script", "limit"]) fun _ _ _ _ _ _ us hl => match us, hl with | [_, _], _ => rfl) G_law_cells
  have G_has_only := g_has_only (P := P) (w := w) (base := base) (sa := sa) (ns := ns) F_has_only T
  have C_has_only := cal_of F_has_only q_has_only (F_has_only.bindsN (ps := ["signs", "word"]) fun _ _ _ _ _ _ us hl => match us, hl with | [_, _], _ => rfl) G_has_only
  have G_is_written := g_is_written (P := P) (w := w) (base := base) (sa := sa) (ns := ns) F_is_written T C_has_only
  have C_is_written := cal_of F_is_written q_is_written (F_is_written.bindsN (ps := ["word", "most"]) fun _ _ _ _ _ _ us hl => match us, hl with | [_, _], _ => rfl) G_is_written
  have G_is_figures := g_is_figures (P := P) (w := w) (base := base) (sa := sa) (ns := ns) F_is_figures T C_is_written
  have C_is_figures := cal_of F_is_figures q_is_figures (F_is_figures.bindsN (ps := ["word"]) fun _ _ _ _ _ _ us hl => match us, hl with | [_], _ => rfl) G_is_figures
  have G_parts_of := g_parts_of (P := P) (w := w) (base := base) (sa := sa) (ns := ns) F_parts_of T C_is_figures
  have C_parts_of := cal_of F_parts_of q_parts_of (F_parts_of.bindsN (ps := ["word", "names"]) fun _ _ _ _ _ _ us hl => match us, hl with | [_, _], _ => rfl) G_parts_of
  have G_is_expression := g_is_expression (P := P) (w := w) (base := base) (sa := sa) (ns := ns) F_is_expression T C_parts_of
  have C_is_expression := cal_of F_is_expression q_is_expression (F_is_expression.bindsN (ps := ["words", "names"]) fun _ _ _ _ _ _ us hl => match us, hl with | [_, _], _ => rfl) G_is_expression
  have G_is_new_name := g_is_new_name (P := P) (w := w) (base := base) (sa := sa) (ns := ns) F_is_new_name T C_has_only
  have C_is_new_name := cal_of F_is_new_name q_is_new_name (F_is_new_name.bindsN (ps := ["word", "names"]) fun _ _ _ _ _ _ us hl => match us, hl with | [_, _], _ => rfl) G_is_new_name
  have G_is_let_line := g_is_let_line (P := P) (w := w) (base := base) (sa := sa) (ns := ns) F_is_let_line T C_is_new_name C_is_expression
  have C_is_let_line := cal_of F_is_let_line q_is_let_line (F_is_let_line.bindsN (ps := ["words", "names"]) fun _ _ _ _ _ _ us hl => match us, hl with | [_, _], _ => rfl) G_is_let_line
  have G_can_stand := g_can_stand (P := P) (w := w) (base := base) (sa := sa) (ns := ns) F_can_stand T C_is_expression C_is_let_line
  have C_can_stand := cal_of F_can_stand q_can_stand (F_can_stand.bindsN (ps := ["words", "names"]) fun _ _ _ _ _ _ us hl => match us, hl with | [_, _], _ => rfl) G_can_stand
  have G_awaited_behind := g_awaited_behind (P := P) (w := w) (base := base) (sa := sa) (ns := ns) F_awaited_behind T
  have C_awaited_behind := cal_of F_awaited_behind q_awaited_behind (F_awaited_behind.bindsN (ps := ["word"]) fun _ _ _ _ _ _ us hl => match us, hl with | [_], _ => rfl) G_awaited_behind
  have G_read_lines := g_read_lines (P := P) (w := w) (base := base) (sa := sa) (ns := ns) F_read_lines T C_can_stand C_awaited_behind
  have C_read_lines := cal_of F_read_lines q_read_lines (F_read_lines.bindsN (ps := ["text"]) fun _ _ _ _ _ _ us hl => match us, hl with | [_], _ => rfl) G_read_lines
  have G_read_expression := g_read_expression (P := P) (w := w) (base := base) (sa := sa) (ns := ns) F_read_expression T C_is_figures
  have C_read_expression := cal_of F_read_expression q_read_expression (F_read_expression.bindsN (ps := ["words"]) fun _ _ _ _ _ _ us hl => match us, hl with | [_], _ => rfl) G_read_expression
  have G_Program___init__ := g_Program___init__ (P := P) (w := w) (base := base) (sa := sa) (ns := ns) F_Program___init__ T C_read_lines C_read_expression
  have N_Program := calN_of (c := ⟨K, sa, ns, clK K⟩) (x := "Program") rfl qc_Program (He.mkr_ok (c.t.d.fact 66 (f := .mkr "Program") rfl)) (F_Program___init__.bindsN (ps := ["self", "text"]) fun _ _ _ _ _ _ us hl => match us, hl with | [_, _], _ => rfl) G_Program___init__
  have G_is_integer := g_is_integer (P := P) (w := w) (base := base) (sa := sa) (ns := ns) F_is_integer T
  have C_is_integer := cal_of F_is_integer q_is_integer (F_is_integer.bindsN (ps := ["value"]) fun _ _ _ _ _ _ us hl => match us, hl with | [_], _ => rfl) G_is_integer
  have G_is_within := g_is_within (P := P) (w := w) (base := base) (sa := sa) (ns := ns) F_is_within T C_is_integer
  have C_is_within := cal_of F_is_within q_is_within (F_is_within.bindsN (ps := ["value", "low", "high"]) fun _ _ _ _ _ _ us hl => match us, hl with | [_, _, _], _ => rfl) G_is_within
  have G_is_ascending := g_is_ascending (P := P) (w := w) (base := base) (sa := sa) (ns := ns) F_is_ascending T
  have C_is_ascending := cal_of F_is_ascending q_is_ascending (F_is_ascending.bindsN (ps := ["value"]) fun _ _ _ _ _ _ us hl => match us, hl with | [_], _ => rfl) G_is_ascending
  have G_is_lot := g_is_lot (P := P) (w := w) (base := base) (sa := sa) (ns := ns) F_is_lot T C_is_within C_is_ascending
  have C_is_lot := cal_of F_is_lot q_is_lot (F_is_lot.bindsN (ps := ["many", "value"]) fun _ _ _ _ _ _ us hl => match us, hl with | [_, _], _ => rfl) G_is_lot
  have G_is_tuple_of := g_is_tuple_of (P := P) (w := w) (base := base) (sa := sa) (ns := ns) F_is_tuple_of T
  have C_is_tuple_of := cal_of F_is_tuple_of q_is_tuple_of (F_is_tuple_of.bindsN (ps := ["value", "many"]) fun _ _ _ _ _ _ us hl => match us, hl with | [_, _], _ => rfl) G_is_tuple_of
  have G_is_floor := g_is_floor (P := P) (w := w) (base := base) (sa := sa) (ns := ns) F_is_floor T C_is_within C_is_tuple_of
  have C_is_floor := cal_of F_is_floor q_is_floor (F_is_floor.bindsN (ps := ["value"]) fun _ _ _ _ _ _ us hl => match us, hl with | [_], _ => rfl) G_is_floor
  have G_check_floor := g_check_floor (P := P) (w := w) (base := base) (sa := sa) (ns := ns) F_check_floor T C_is_floor
  have C_check_floor := cal_of F_check_floor q_check_floor (F_check_floor.bindsN (ps := ["value"]) fun _ _ _ _ _ _ us hl => match us, hl with | [_], _ => rfl) G_check_floor
  have G_is_mark := g_is_mark (P := P) (w := w) (base := base) (sa := sa) (ns := ns) F_is_mark T C_is_within
  have C_is_mark := cal_of F_is_mark q_is_mark (F_is_mark.bindsN (ps := ["value"]) fun _ _ _ _ _ _ us hl => match us, hl with | [_], _ => rfl) G_is_mark
  have G_is_sense := g_is_sense (P := P) (w := w) (base := base) (sa := sa) (ns := ns) F_is_sense T C_is_within
  have C_is_sense := cal_of F_is_sense q_is_sense (F_is_sense.bindsN (ps := ["value"]) fun _ _ _ _ _ _ us hl => match us, hl with | [_], _ => rfl) G_is_sense
  have G_is_place := g_is_place (P := P) (w := w) (base := base) (sa := sa) (ns := ns) F_is_place T C_is_within
  have C_is_place := cal_of F_is_place q_is_place (F_is_place.bindsN (ps := ["floor", "value"]) fun _ _ _ _ _ _ us hl => match us, hl with | [_, _], _ => rfl) G_is_place
  have G_is_placed := g_is_placed (P := P) (w := w) (base := base) (sa := sa) (ns := ns) F_is_placed T C_is_tuple_of C_is_mark C_is_sense C_is_place
  have C_is_placed := cal_of F_is_placed q_is_placed (F_is_placed.bindsN (ps := ["floor", "value"]) fun _ _ _ _ _ _ us hl => match us, hl with | [_, _], _ => rfl) G_is_placed
  have G_is_standing := g_is_standing (P := P) (w := w) (base := base) (sa := sa) (ns := ns) F_is_standing T C_is_placed
  have C_is_standing := cal_of F_is_standing q_is_standing (F_is_standing.bindsN (ps := ["floor", "value"]) fun _ _ _ _ _ _ us hl => match us, hl with | [_, _], _ => rfl) G_is_standing
  have G_check_standing := g_check_standing (P := P) (w := w) (base := base) (sa := sa) (ns := ns) F_check_standing T C_is_standing
  have C_check_standing := cal_of F_check_standing q_check_standing (F_check_standing.bindsN (ps := ["floor", "value"]) fun _ _ _ _ _ _ us hl => match us, hl with | [_, _], _ => rfl) G_check_standing
  have G_check_program := g_check_program (P := P) (w := w) (base := base) (sa := sa) (ns := ns) F_check_program T
  have C_check_program := cal_of F_check_program q_check_program (F_check_program.bindsN (ps := ["value"]) fun _ _ _ _ _ _ us hl => match us, hl with | [_], _ => rfl) G_check_program
  have G_check_start := g_check_start (P := P) (w := w) (base := base) (sa := sa) (ns := ns) F_check_start T C_check_floor C_check_standing C_check_program
  have C_check_start := cal_of F_check_start q_check_start (F_check_start.bindsN (ps := ["program", "floor", "standing"]) fun _ _ _ _ _ _ us hl => match us, hl with | [_, _, _], _ => rfl) G_check_start
  have G_cell_at := g_cell_at (P := P) (w := w) (base := base) (sa := sa) (ns := ns) F_cell_at T
  have C_cell_at := cal_of F_cell_at q_cell_at (F_cell_at.bindsN (ps := ["standing", "walker", "place"]) fun _ _ _ _ _ _ us hl => match us, hl with | [_, _, _], _ => rfl) G_cell_at
  have G_place_at := g_place_at (P := P) (w := w) (base := base) (sa := sa) (ns := ns) F_place_at T
  have C_place_at := cal_of F_place_at q_place_at (F_place_at.bindsN (ps := ["floor", "place", "steps"]) fun _ _ _ _ _ _ us hl => match us, hl with | [_, _, _], _ => rfl) G_place_at
  have G_cells_towards := g_cells_towards (P := P) (w := w) (base := base) (sa := sa) (ns := ns) F_cells_towards T C_place_at C_cell_at
  have C_cells_towards := cal_of F_cells_towards q_cells_towards (F_cells_towards.bindsN (ps := ["floor", "standing", "walker", "sense"]) fun _ _ _ _ _ _ us hl => match us, hl with | [_, _, _, _], _ => rfl) G_cells_towards
  have G_view_of := g_view_of (P := P) (w := w) (base := base) (sa := sa) (ns := ns) F_view_of T C_cell_at C_cells_towards
  have C_view_of := cal_of F_view_of q_view_of (F_view_of.bindsN (ps := ["floor", "standing", "walker"]) fun _ _ _ _ _ _ us hl => match us, hl with | [_, _, _], _ => rfl) G_view_of
  have G_held := g_held (P := P) (w := w) (base := base) (sa := sa) (ns := ns) F_held T
  have C_held := cal_of F_held q_held (F_held.bindsN (ps := ["value", "low", "high"]) fun _ _ _ _ _ _ us hl => match us, hl with | [_, _, _], _ => rfl) G_held
  have G_seen_cell := g_seen_cell (P := P) (w := w) (base := base) (sa := sa) (ns := ns) F_seen_cell T
  have C_seen_cell := cal_of F_seen_cell q_seen_cell (F_seen_cell.bindsN (ps := ["floor", "seen", "steps"]) fun _ _ _ _ _ _ us hl => match us, hl with | [_, _, _], _ => rfl) G_seen_cell
  have G_counted := g_counted (P := P) (w := w) (base := base) (sa := sa) (ns := ns) F_counted T
  have C_counted := cal_of F_counted q_counted (F_counted.bindsN (ps := ["word", "cell", "parts"]) fun _ _ _ _ _ _ us hl => match us, hl with | [_, _, _], _ => rfl) G_counted
  have G_reckoned := g_reckoned (P := P) (w := w) (base := base) (sa := sa) (ns := ns) F_reckoned T C_held
  have C_reckoned := cal_of F_reckoned q_reckoned (F_reckoned.bindsN (ps := ["word", "parts"]) fun _ _ _ _ _ _ us hl => match us, hl with | [_, _], _ => rfl) G_reckoned
  have G_value_of_word := g_value_of_word (P := P) (w := w) (base := base) (sa := sa) (ns := ns) F_value_of_word T C_seen_cell C_counted C_reckoned
  have C_value_of_word := cal_of F_value_of_word q_value_of_word (F_value_of_word.bindsN (ps := ["word", "parts", "known", "floor", "seen"]) fun _ _ _ _ _ _ us hl => match us, hl with | [_, _, _, _, _], _ => rfl) G_value_of_word
  have G_value_of := g_value_of (P := P) (w := w) (base := base) (sa := sa) (ns := ns) F_value_of T C_value_of_word
  have C_value_of := cal_of F_value_of q_value_of (F_value_of.bindsN (ps := ["expression", "known", "floor", "seen"]) fun _ _ _ _ _ _ us hl => match us, hl with | [_, _, _, _], _ => rfl) G_value_of
  have G_cells_seen := g_cells_seen (P := P) (w := w) (base := base) (sa := sa) (ns := ns) F_cells_seen T
  have C_cells_seen := cal_of F_cells_seen q_cells_seen (F_cells_seen.bindsN (ps := ["floor", "seen"]) fun _ _ _ _ _ _ us hl => match us, hl with | [_, _], _ => rfl) G_cells_seen
  have G_first_met := g_first_met (P := P) (w := w) (base := base) (sa := sa) (ns := ns) F_first_met T
  have C_first_met := cal_of F_first_met q_first_met (F_first_met.bindsN (ps := ["cells"]) fun _ _ _ _ _ _ us hl => match us, hl with | [_], _ => rfl) G_first_met
  have G_known_at_first := g_known_at_first (P := P) (w := w) (base := base) (sa := sa) (ns := ns) F_known_at_first T C_cells_seen C_first_met
  have C_known_at_first := cal_of F_known_at_first q_known_at_first (F_known_at_first.bindsN (ps := ["floor", "seen"]) fun _ _ _ _ _ _ us hl => match us, hl with | [_, _], _ => rfl) G_known_at_first
  have G_thought_of := g_thought_of (P := P) (w := w) (base := base) (sa := sa) (ns := ns) F_thought_of T C_held C_value_of C_known_at_first
  have C_thought_of := cal_of F_thought_of q_thought_of (F_thought_of.bindsN (ps := ["program", "floor", "seen"]) fun _ _ _ _ _ _ us hl => match us, hl with | [_, _, _], _ => rfl) G_thought_of
  have G_place_behind := g_place_behind (P := P) (w := w) (base := base) (sa := sa) (ns := ns) F_place_behind T C_place_at
  have C_place_behind := cal_of F_place_behind q_place_behind (F_place_behind.bindsN (ps := ["floor", "place", "sense", "step"]) fun _ _ _ _ _ _ us hl => match us, hl with | [_, _, _, _], _ => rfl) G_place_behind
  have G_entry_behind := g_entry_behind (P := P) (w := w) (base := base) (sa := sa) (ns := ns) F_entry_behind T C_view_of C_thought_of C_place_behind
  have C_entry_behind := cal_of F_entry_behind q_entry_behind (F_entry_behind.bindsN (ps := ["program", "floor", "standing", "walker"]) fun _ _ _ _ _ _ us hl => match us, hl with | [_, _, _, _], _ => rfl) G_entry_behind
  have G_standing_behind := g_standing_behind (P := P) (w := w) (base := base) (sa := sa) (ns := ns) F_standing_behind T C_entry_behind
  have C_standing_behind := cal_of F_standing_behind q_standing_behind (F_standing_behind.bindsN (ps := ["program", "floor", "standing", "lot"]) fun _ _ _ _ _ _ us hl => match us, hl with | [_, _, _, _], _ => rfl) G_standing_behind
  have G_beat := g_beat (P := P) (w := w) (base := base) (sa := sa) (ns := ns) F_beat T C_is_lot C_check_start C_standing_behind
  have C_beat := cal_of F_beat q_beat (F_beat.bindsN (ps := ["program", "floor", "standing", "lot"]) fun _ _ _ _ _ _ us hl => match us, hl with | [_, _, _, _], _ => rfl) G_beat
  have G_are_lots := g_are_lots (P := P) (w := w) (base := base) (sa := sa) (ns := ns) F_are_lots T C_is_lot
  have C_are_lots := cal_of F_are_lots q_are_lots (F_are_lots.bindsN (ps := ["many", "value"]) fun _ _ _ _ _ _ us hl => match us, hl with | [_, _], _ => rfl) G_are_lots
  have G_run := g_run (P := P) (w := w) (base := base) (sa := sa) (ns := ns) F_run T C_are_lots C_check_start C_standing_behind
  have C_run := cal_of F_run q_run (F_run.bindsN (ps := ["program", "floor", "standing", "lots"]) fun _ _ _ _ _ _ us hl => match us, hl with | [_, _, _, _], _ => rfl) G_run
  have G_law_take := g_law_take (P := P) (w := w) (base := base) (sa := sa) (ns := ns) F_law_take T
  have C_law_take := cal_of F_law_take q_law_take (F_law_take.bindsN (ps := ["pot", "upto"]) fun _ _ _ _ _ _ us hl => match us, hl with | [_, _], _ => rfl) G_law_take
  have G_law_are_steps_right := g_law_are_steps_right (P := P) (w := w) (base := base) (sa := sa) (ns := ns) F_law_are_steps_right T C_beat C_run C_law_take N_Program
  have C_law_are_steps_right := cal_of F_law_are_steps_right q_law_are_steps_right (F_law_are_steps_right.bindsN (ps := ["pot"]) fun _ _ _ _ _ _ us hl => match us, hl with | [_], _ => rfl) G_law_are_steps_right
  have G_law_of := g_law_of (P := P) (w := w) (base := base) (sa := sa) (ns := ns) F_law_of T C_law_take
  have C_law_of := cal_of F_law_of q_law_of (F_law_of.bindsN (ps := ["pot", "some"]) fun _ _ _ _ _ _ us hl => match us, hl with | [_, _], _ => rfl) G_law_of
  have G_law_are_exchanges_right := g_law_are_exchanges_right (P := P) (w := w) (base := base) (sa := sa) (ns := ns) F_law_are_exchanges_right T C_beat C_run C_law_take C_law_of N_Program
  have C_law_are_exchanges_right := cal_of F_law_are_exchanges_right q_law_are_exchanges_right (F_law_are_exchanges_right.bindsN (ps := ["pot"]) fun _ _ _ _ _ _ us hl => match us, hl with | [_], _ => rfl) G_law_are_exchanges_right
  have G_check_many := g_check_many (P := P) (w := w) (base := base) (sa := sa) (ns := ns) F_check_many T C_is_within
  have C_check_many := cal_of F_check_many q_check_many (F_check_many.bindsN (ps := ["value"]) fun _ _ _ _ _ _ us hl => match us, hl with | [_], _ => rfl) G_check_many
  have G_cut_in_eras := g_cut_in_eras (P := P) (w := w) (base := base) (sa := sa) (ns := ns) F_cut_in_eras T
  have C_cut_in_eras := cal_of F_cut_in_eras q_cut_in_eras (F_cut_in_eras.bindsN (ps := ["many", "lots"]) fun _ _ _ _ _ _ us hl => match us, hl with | [_, _], _ => rfl) G_cut_in_eras
  have G_is_of_kind := g_is_of_kind (P := P) (w := w) (base := base) (sa := sa) (ns := ns) F_is_of_kind T C_are_lots C_cut_in_eras
  have C_is_of_kind := cal_of F_is_of_kind q_is_of_kind (F_is_of_kind.bindsN (ps := ["kind", "many", "value"]) fun _ _ _ _ _ _ us hl => match us, hl with | [_, _, _], _ => rfl) G_is_of_kind
  have G_check_lots := g_check_lots (P := P) (w := w) (base := base) (sa := sa) (ns := ns) F_check_lots T C_is_of_kind
  have C_check_lots := cal_of F_check_lots q_check_lots (F_check_lots.bindsN (ps := ["kind", "many", "value"]) fun _ _ _ _ _ _ us hl => match us, hl with | [_, _, _], _ => rfl) G_check_lots
  have G_eras := g_eras (P := P) (w := w) (base := base) (sa := sa) (ns := ns) F_eras T C_check_many C_cut_in_eras C_check_lots
  have C_eras := cal_of F_eras q_eras (F_eras.bindsN (ps := ["many", "lots"]) fun _ _ _ _ _ _ us hl => match us, hl with | [_, _], _ => rfl) G_eras
  have G_left := g_left (P := P) (w := w) (base := base) (sa := sa) (ns := ns) F_left T C_check_many C_cut_in_eras C_check_lots
  have C_left := cal_of F_left q_left (F_left.bindsN (ps := ["many", "lots"]) fun _ _ _ _ _ _ us hl => match us, hl with | [_, _], _ => rfl) G_left
  have G_check_kind := g_check_kind (P := P) (w := w) (base := base) (sa := sa) (ns := ns) F_check_kind T
  have C_check_kind := cal_of F_check_kind q_check_kind (F_check_kind.bindsN (ps := ["value"]) fun _ _ _ _ _ _ us hl => match us, hl with | [_], _ => rfl) G_check_kind
  have G_lots_among := g_lots_among (P := P) (w := w) (base := base) (sa := sa) (ns := ns) F_lots_among T
  have C_lots_among := cal_of F_lots_among q_lots_among (F_lots_among.bindsN (ps := ["walkers"]) fun _ _ _ _ _ _ us hl => match us, hl with | [_], _ => rfl) G_lots_among
  have G_next_lots := g_next_lots (P := P) (w := w) (base := base) (sa := sa) (ns := ns) F_next_lots T C_check_many C_is_of_kind C_check_kind C_check_lots C_lots_among
  have C_next_lots := cal_of F_next_lots q_next_lots (F_next_lots.bindsN (ps := ["kind", "many", "lots"]) fun _ _ _ _ _ _ us hl => match us, hl with | [_, _, _], _ => rfl) G_next_lots
  have G_law_are_lots_right := g_law_are_lots_right (P := P) (w := w) (base := base) (sa := sa) (ns := ns) F_law_are_lots_right T C_eras C_left C_next_lots
  have C_law_are_lots_right := cal_of F_law_are_lots_right q_law_are_lots_right (F_law_are_lots_right.bindsN (ps := []) fun _ _ _ _ _ _ us hl => match us, hl with | [], _ => rfl) G_law_are_lots_right
  have G_law_right := g_law_right (P := P) (w := w) (base := base) (sa := sa) (ns := ns) F_law_right T C_law_are_steps_right C_law_are_exchanges_right C_law_are_lots_right
  have C_law_right := cal_of F_law_right q_law_right (F_law_right.bindsN (ps := ["pot"]) fun _ _ _ _ _ _ us hl => match us, hl with | [_], _ => rfl) G_law_right
  exact g_law F_law T C_law_pot C_law_cells C_law_right
end Lk15
end
section
set_option Elab.async false
set_option linter.all false
set_option maxRecDepth 100000
namespace Pm
open PySem L2

/-! ### the mathematics of meanings -/
def wp {α : Type} (m : M α) (st : Sto) (Q : α → Sto → Prop) : Prop := match m st with
  | .ok a st' => Q a st'
  | _ => False
section
variable {α β : Type} {m : M α} {f : α → M β} {st st' : Sto} {a : α} {l : Nat} {xs : List D}
@[simp] theorem wp_ret {Q : α → Sto → Prop} : wp (ret a) st Q = Q a st := rfl
@[simp] theorem wp_no {Q : α → Sto → Prop} : wp no st Q = False := rfl
@[simp] theorem wp_bnd {Q : β → Sto → Prop} : wp (bnd m f) st Q = wp m st fun a st' => wp (f a) st' Q := by
  unfold wp bnd
  cases m st <;> rfl
@[simp] theorem bnd_ret : bnd (ret a) f = f a := rfl
@[simp] theorem bnd_no : bnd (no : M α) f = no := rfl
@[simp] theorem bnd_bnd {γ : Type} {g : β → M γ} : bnd (bnd m f) g = bnd m fun x => bnd (f x) g := by
  funext st
  show bnd (bnd m f) g st = bnd m (fun x => bnd (f x) g) st
  unfold bnd
  cases m st <;> rfl
@[simp] theorem ret_ap : (ret a : M α) st = .ok a st := rfl
@[simp] theorem bnd_ite {p : Prop} [Decidable p] {m' : M α} : bnd (if p then m else m') f = if p then bnd m f else bnd m' f := by split <;> rfl
@[simp] theorem wp_ite {p : Prop} [Decidable p] {m' : M α} {Q : α → Sto → Prop} : wp (if p then m else m') st Q = if p then wp m st Q else wp m' st Q := by split <;> rfl
@[simp] theorem wp_alloc {Q : D → Sto → Prop} : wp (alloc xs) st Q = Q (.loc st.length) (st ++ [.lst xs]) := rfl
theorem wp_lst {Q : List D → Sto → Prop} (h : st[l]? = some (.lst xs)) : wp (lst l) st Q = Q xs st := by
  unfold wp lst
  rw [h]
theorem wp_obj {o : O} {Q : O → Sto → Prop} (h : st[l]? = some o) : wp (obj l) st Q = Q o st := by
  unfold wp obj
  rw [h]
@[simp] theorem wp_obj_new {o : O} {Q : O → Sto → Prop} : wp (obj st.length) (st ++ [o]) Q = Q o (st ++ [o]) := wp_obj (by simp)
@[simp] theorem wp_put {Q : Unit → Sto → Prop} : wp (put l xs) st Q = Q () (st.set l (.lst xs)) := rfl
@[simp] theorem wp_lst_new {Q : List D → Sto → Prop} : wp (lst st.length) (st ++ [.lst xs]) Q = Q xs (st ++ [.lst xs]) := wp_lst (by simp)
@[simp] theorem wp_nox {Q : α → Sto → Prop} : wp (nox m) st Q = wp m st Q := by
  unfold wp nox
  cases m st <;> rfl
theorem wp_mono {Q Q' : α → Sto → Prop} (h : wp m st Q) (i : ∀ a st', Q a st' → Q' a st') : wp m st Q' := by
  unfold wp at h ⊢
  cases e : m st with
  | ok a st' => rw [e] at h; exact i a st' h
  | exc => rw [e] at h; exact h
  | stuck => rw [e] at h; exact h
theorem wp_ok {Q : α → Sto → Prop} (h : wp m st Q) : ∃ a st', m st = .ok a st' ∧ Q a st' := by
  unfold wp at h
  cases e : m st with
  | ok a st' => rw [e] at h; exact ⟨a, st', rfl, h⟩
  | exc => rw [e] at h; exact h.elim
  | stuck => rw [e] at h; exact h.elim
/-- what stays -/
def Fr (S : List Nat) (st st' : Sto) : Prop := st.length ≤ st'.length ∧ ∀ k, k < st.length → k ∉ S → st'[k]? = st[k]?
theorem Fr.refl {S : List Nat} : Fr S st st := ⟨Nat.le_refl _, fun _ _ _ => rfl⟩
theorem Fr.trans {S : List Nat} {st'' : Sto} (a : Fr S st st') (b : Fr S st' st'') : Fr S st st'' := ⟨Nat.le_trans a.1 b.1, fun k h n => (b.2 k (Nat.lt_of_lt_of_le h a.1) n).trans (a.2 k h n)⟩
theorem Fr.mono {S S' : List Nat} (a : Fr S st st') (h : ∀ k ∈ S, k < st.length → k ∈ S') : Fr S' st st' := ⟨a.1, fun k hk n => a.2 k hk fun z => n (h k z hk)⟩
theorem Fr.new {S : List Nat} (g : Sto) : Fr S st (st ++ g) := ⟨by simp, fun k h _ => List.getElem?_append_left h⟩
theorem Fr.set {o : O} : Fr [l] st (st.set l o) := ⟨by simp, fun k _ n => List.getElem?_set_ne fun z => n (by simp [z])⟩
theorem Fr.at {S : List Nat} (a : Fr S st st') {o : O} (h : st[l]? = some o) (n : l ∉ S) : st'[l]? = some o := by
  rw [a.2 l (List.getElem?_eq_some_iff.mp h).1 n, h]
/-- a value, whatever stands -/
def Pu (m : M α) (a : α) : Prop := ∀ (st : Sto) (Q : α → Sto → Prop), (∀ st', Fr [] st st' → Q a st') → wp m st Q
theorem Pu.ret' : Pu (ret a) a := fun st Q q => q st Fr.refl
theorem Pu.bnd' {b : β} (h : Pu m a) (k : Pu (f a) b) : Pu (bnd m f) b := fun st Q q => by
  rw [wp_bnd]
  exact h st _ fun st1 r1 => k st1 _ fun st2 r2 => q st2 (r1.trans r2)
theorem Pu.of_eq {m' : M α} (e : m = m') (h : Pu m' a) : Pu m a := e ▸ h
theorem Pu.ok (h : Pu m a) (st : Sto) : ∃ st', m st = .ok a st' ∧ Fr [] st st' := by
  obtain ⟨a', st', e, q1, q2⟩ := wp_ok (h st (fun b st' => b = a ∧ Fr [] st st') fun st' r => ⟨rfl, r⟩)
  exact ⟨st', by rw [e, q1], q2⟩
end
/-! ### combinators, applied -/
section
variable {ρ : En} {f g h : ME} {t u : MT} {op op' : D → D → M D} {o1 : D → M D} {oA : List D → M D} {a : MA} {s s' : MS} {p : Pat} {n : Nat} {m : List D → M D} {it : MI}
@[simp] theorem ap_kon {d : D} : kon d ρ = ret d := rfl
@[simp] theorem ap_bin : bin f g op ρ = bnd (f ρ) fun x => bnd (g ρ) fun y => op x y := rfl
@[simp] theorem ap_una : una f o1 ρ = bnd (f ρ) o1 := rfl
@[simp] theorem ap_andV : andV f g ρ = bnd (f ρ) fun x => bnd (tru x) fun k => if k = true then g ρ else ret x := rfl
@[simp] theorem ap_orV : orV f g ρ = bnd (f ρ) fun x => bnd (tru x) fun k => if k = true then ret x else g ρ := rfl
@[simp] theorem ap_notV : notV f ρ = bnd (f ρ) fun x => bnd (tru x) fun k => ret (.bl (!k)) := rfl
@[simp] theorem ap_tstV : tstV f ρ = bnd (f ρ) tru := rfl
@[simp] theorem ap_tstB : tstB f ρ = bnd (f ρ) asB := rfl
@[simp] theorem ap_notT : notT t ρ = bnd (t ρ) fun k => ret (!k) := rfl
@[simp] theorem ap_andT : andT t u ρ = bnd (t ρ) fun k => if k = true then u ρ else ret false := rfl
@[simp] theorem ap_orT : orT t u ρ = bnd (t ρ) fun k => if k = true then ret true else u ρ := rfl
@[simp] theorem ap_ifE : ifE t f g ρ = bnd (t ρ) fun k => if k = true then f ρ else g ρ := rfl
@[simp] theorem ap_chn : chn f g h op op' ρ = bnd (f ρ) fun x => bnd (g ρ) fun y => bnd (op x y) fun z => bnd (asB z) fun k => if k = true then bnd (h ρ) fun w => op' y w else ret (.bl false) := rfl
@[simp] theorem ap_nilA : nilA ρ = ret [] := rfl
@[simp] theorem ap_conA : conA f a ρ = bnd (f ρ) fun x => bnd (a ρ) fun xs => ret (x :: xs) := rfl
@[simp] theorem ap_tupE : tupE a ρ = bnd (a ρ) fun xs => if xs.length ≤ sizeLine then ret (.tup xs) else no := rfl
@[simp] theorem ap_lstE : lstE a ρ = bnd (a ρ) fun xs => if xs.length ≤ sizeLine then alloc xs else no := rfl
@[simp] theorem ap_appA : appA a oA ρ = bnd (a ρ) oA := rfl
@[simp] theorem ap_calE : calE a m ρ = bnd (a ρ) m := rfl
@[simp] theorem ap_kwE {ix : List Nat} {nk : Nat} : kwE ix nk a m ρ = bnd (a ρ) fun zs => if zs.length = nk then m (permL ix zs) else no := rfl
@[simp] theorem ap_nxS : nxS ρ = ret (.nx, ρ) := rfl
@[simp] theorem ap_nevS : nevS ρ = no := rfl
@[simp] theorem ap_seqS : seqS s s' ρ = bnd (s ρ) fun x => match x.1 with
  | .nx => s' x.2
  | _ => ret x := rfl
@[simp] theorem ap_retS : retS f ρ = bnd (f ρ) fun d => ret (.rt d, ρ) := rfl
@[simp] theorem ap_dropS : dropS f ρ = bnd (f ρ) fun _ => ret (.nx, ρ) := rfl
@[simp] theorem ap_ifS : ifS t s s' ρ = bnd (t ρ) fun k => if k = true then s ρ else s' ρ := rfl
@[simp] theorem ap_setS : setS p f ρ = bnd (f ρ) fun d => bnd (ofE (bindP p d ρ)) fun ρ' => ret (.nx, ρ') := rfl
@[simp] theorem ap_parS {i j : Nat} : parS i j a ρ = bnd (a ρ) fun ds => match ds with
  | [d, e] => ret (.nx, (ρ.set i (some d)).set j (some e))
  | _ => no := rfl
@[simp] theorem ap_subS : subS f g h ρ = bnd (f ρ) fun v => bnd (g ρ) fun o => bnd (h ρ) fun i => bnd (setI o i v) fun _ => ret (.nx, ρ) := rfl
@[simp] theorem ap_forS : forS it p s ρ = bnd (it ρ) fun I => forL I.ok p s I.xs ρ := rfl
@[simp] theorem ap_lcE {vs : List Nat} : lcE it p t f vs ρ = bnd (it ρ) fun I => bnd (lcL I.ok p t f (wipeE ρ vs) I.xs []) alloc := rfl
@[simp] theorem ap_yesT : yesT ρ = ret true := rfl
@[simp] theorem ofE_some : ofE (some ρ) = ret ρ := rfl
@[simp] theorem ofE_none : ofE none = no := rfl
@[simp] theorem ofO_some {d : D} : ofO (some d) = ret d := rfl
@[simp] theorem ofLen_ok {ds : List D} (h : ds.length = n) : ofLen n m ds = m ds := if_pos h
@[simp] theorem ap_iterA : iterA f ρ = bnd (f ρ) seqA := rfl
@[simp] theorem ap_rng1 : rng1 f ρ = bnd (f ρ) fun d => match d with
  | .int j => if okR j then ret (rngI 0 j) else no
  | _ => no := rfl
@[simp] theorem ap_rng2 : rng2 f g ρ = bnd (f ρ) fun d => bnd (g ρ) fun d' => match d, d' with
  | .int i, .int j => if okR i && okR j then ret (rngI i j) else no
  | _, _ => no := rfl
@[simp] theorem ap_enuI : enuI f ρ = bnd (f ρ) fun d => match d with
  | .tup xs => ret ⟨xs.zipIdx.map fun p => .tup [.int (p.2 : Nat), p.1], fun _ => true⟩
  | _ => no := rfl
@[simp] theorem ap_sli {l u : MO} {op : D → Option Int → Option Int → M D} : sli f l u op ρ = bnd (f ρ) fun x => bnd (l ρ) fun lo => bnd (u ρ) fun hi => op x lo hi := rfl
@[simp] theorem ap_noP : noP ρ = ret none := rfl
@[simp] theorem ap_som : som f ρ = bnd (f ρ) fun x => match x with
  | .int i => ret (some i)
  | _ => no := rfl
@[simp] theorem ap_meth {om : D → List D → M D} : meth f a om ρ = bnd (f ρ) fun o => bnd (isL o) fun _ => bnd (a ρ) fun ds => om o ds := rfl
/-- the end of a def -/
def fin : Fl × En → M D := fun x => match x.1 with
  | .nx => ret .non
  | .rt d => ret d
  | _ => no
@[simp] theorem fin_rt {d : D} : fin (.rt d, ρ) = ret d := rfl
@[simp] theorem fin_nx : fin (.nx, ρ) = ret .non := rfl
theorem small_line {n : Nat} (h : n ≤ 100000) : n ≤ sizeLine := Nat.le_trans h (by rw [sizeLine_eq]; decide)
end
/-! ### loops -/
theorem wp_forL {ok : Sto → Bool} {p : Pat} {body : MS} {Q : Fl × En → Sto → Prop} (I : Nat → En → Sto → Prop) : ∀ (xs : List D) (i : Nat) (ρ : En) (st : Sto), I i ρ st →
    (∀ j x ρ st, xs[j]? = some x → I (i + j) ρ st → ok st = true ∧ ∃ ρ1, bindP p x ρ = some ρ1 ∧ wp (body ρ1) st fun y st' => match y.1 with
      | .nx => I (i + j + 1) y.2 st'
      | .ct => I (i + j + 1) y.2 st'
      | .bk => Q (.nx, y.2) st'
      | .rt d => Q (.rt d, y.2) st') →
    (∀ ρ st, I (i + xs.length) ρ st → ok st = true ∧ Q (.nx, ρ) st) → wp (forL ok p body xs ρ) st Q
  | [], i, ρ, st, h0, _, hd => by
    obtain ⟨h1, h2⟩ := hd ρ st h0
    unfold wp forL
    rw [if_pos h1]
    exact h2
  | x :: xs, i, ρ, st, h0, hs, hd => by
    obtain ⟨h1, ρ1, h2, h3⟩ := hs 0 x ρ st rfl h0
    have e : wp (forL ok p body (x :: xs) ρ) st Q = wp (bnd (body ρ1) fun y => match y.1 with
        | .nx => forL ok p body xs y.2
        | .ct => forL ok p body xs y.2
        | .bk => ret (.nx, y.2)
        | .rt d => ret (.rt d, y.2)) st Q := by
      have e1 : forL ok p body (x :: xs) ρ st = (bnd (body ρ1) fun y => match y.1 with
        | .nx => forL ok p body xs y.2
        | .ct => forL ok p body xs y.2
        | .bk => ret (.nx, y.2)
        | .rt d => ret (.rt d, y.2)) st := by
        show (if ok st = true then _ else _) = _
        rw [if_pos h1, h2]
        rfl
      unfold wp
      rw [e1]
    rw [e, wp_bnd]
    refine wp_mono h3 fun y st' q => ?_
    obtain ⟨fl, ρ2⟩ := y
    have next : I (i + 0 + 1) ρ2 st' → wp (forL ok p body xs ρ2) st' Q := fun q => wp_forL I xs (i + 1) ρ2 st' q (fun j y ρ st hj hI => by
      have z := hs (j + 1) y ρ st (by simpa using hj) (by rw [show i + (j + 1) = i + 1 + j by omega]; exact hI)
      rw [show i + (j + 1) + 1 = i + 1 + j + 1 by omega] at z
      exact z) fun ρ st hI => hd ρ st (by rw [show i + (x :: xs).length = i + 1 + xs.length by simp; omega]; exact hI)
    cases fl with
    | nx => exact next q
    | ct => exact next q
    | bk => exact q
    | rt d => exact q
/-- a comprehension, by an invariant -/
theorem wp_lcL {ok : Sto → Bool} {p : Pat} {t : MT} {e : ME} {ρ : En} {Q : List D → Sto → Prop} (I : Nat → List D → Sto → Prop) : ∀ (xs : List D) (i : Nat) (acc : List D) (st : Sto), I i acc st →
    (∀ j x acc st, xs[j]? = some x → I (i + j) acc st → ok st = true ∧ ∃ ρ1, bindP p x ρ = some ρ1 ∧ wp (t ρ1) st fun k st' => if k = true then wp (e ρ1) st' fun y st'' => acc.length < sizeLine ∧ I (i + j + 1) (acc ++ [y]) st'' else I (i + j + 1) acc st') →
    (∀ acc st, I (i + xs.length) acc st → ok st = true ∧ Q acc st) → wp (lcL ok p t e ρ xs acc) st Q
  | [], i, acc, st, h0, _, hd => by
    obtain ⟨h1, h2⟩ := hd acc st h0
    unfold wp lcL
    rw [if_pos h1]
    exact h2
  | x :: xs, i, acc, st, h0, hs, hd => by
    obtain ⟨h1, ρ1, h2, h3⟩ := hs 0 x acc st rfl h0
    have ee : wp (lcL ok p t e ρ (x :: xs) acc) st Q = wp (bnd (nox (t ρ1)) fun k => if k = true then bnd (nox (e ρ1)) fun y => if acc.length < sizeLine then lcL ok p t e ρ xs (acc ++ [y]) else no else lcL ok p t e ρ xs acc) st Q := by
      have e1 : lcL ok p t e ρ (x :: xs) acc st = (bnd (nox (t ρ1)) fun k => if k = true then bnd (nox (e ρ1)) fun y => if acc.length < sizeLine then lcL ok p t e ρ xs (acc ++ [y]) else no else lcL ok p t e ρ xs acc) st := by
        show (if ok st = true then _ else _) = _
        rw [if_pos h1, h2]
        rfl
      unfold wp
      rw [e1]
    have next : ∀ acc st', I (i + 0 + 1) acc st' → wp (lcL ok p t e ρ xs acc) st' Q := fun acc st' q => wp_lcL I xs (i + 1) acc st' q (fun j y acc st hj hI => by
      have z := hs (j + 1) y acc st (by simpa using hj) (by rw [show i + (j + 1) = i + 1 + j by omega]; exact hI)
      rw [show i + (j + 1) + 1 = i + 1 + j + 1 by omega] at z
      exact z) fun acc st hI => hd acc st (by rw [show i + (x :: xs).length = i + 1 + xs.length by simp; omega]; exact hI)
    rw [ee, wp_bnd, wp_nox]
    refine wp_mono h3 fun k st' q => ?_
    cases k with
    | false =>
      rw [if_neg (by simp)] at q ⊢
      exact next acc st' q
    | true =>
      rw [if_pos rfl] at q ⊢
      rw [wp_bnd, wp_nox]
      refine wp_mono q fun y st'' q => ?_
      rw [if_pos q.1]
      exact next _ _ q.2
/-- .. of values -/
theorem pu_lcL {p : Pat} {t : MT} {e : ME} {ρ : En} (g : D → Option D) (xs acc : List D) (hl : acc.length + xs.length ≤ 100000) (h : ∀ x ∈ xs, ∃ ρ1, bindP p x ρ = some ρ1 ∧ ((g x = none ∧ Pu (t ρ1) false) ∨ ∃ y, g x = some y ∧ Pu (t ρ1) true ∧ Pu (e ρ1) y)) :
    Pu (lcL (fun _ => true) p t e ρ xs acc) (acc ++ xs.filterMap g) := fun st Q q => by
  refine wp_lcL (fun i a s => Fr [] st s ∧ i ≤ xs.length ∧ a.length ≤ acc.length + i ∧ a = acc ++ (xs.take i).filterMap g) xs 0 acc st ⟨Fr.refl, Nat.zero_le _, by simp, by simp⟩ (fun j x a s hj ⟨fr, hi, hn, ea⟩ => ⟨rfl, ?_⟩) fun a s ⟨fr, hi, hn, ea⟩ => ⟨rfl, ?_⟩
  · have hj1 : j < xs.length := (List.getElem?_eq_some_iff.mp hj).1
    obtain ⟨ρ1, h1, h2⟩ := h x (List.mem_of_getElem? hj)
    refine ⟨ρ1, h1, ?_⟩
    have tk : xs.take (0 + j + 1) = xs.take (0 + j) ++ [x] := by
      rw [Nat.zero_add, List.take_add_one, hj]; rfl
    rcases h2 with ⟨g0, p0⟩ | ⟨y, g1, p1, p2⟩
    · refine p0 s _ fun s' fr' => ?_
      rw [if_neg (by simp)]
      exact ⟨fr.trans fr', by omega, by omega, by rw [tk, List.filterMap_append, ea]; simp [g0]⟩
    · refine p1 s _ fun s' fr' => ?_
      rw [if_pos rfl]
      refine p2 s' _ fun s'' fr'' => ⟨Nat.lt_of_le_of_lt (show a.length ≤ 99999 by omega) (by rw [sizeLine_eq]; decide), (fr.trans fr').trans fr'', by omega, by simp; omega, by rw [tk, List.filterMap_append, ea]; simp [g1]⟩
  · rw [ea]
    simp only [Nat.zero_add, List.take_length]
    exact q s fr
/-- tuple([..]) | all([..]) | .. -/
theorem pu_tup {α : Type} {m : M α} {xs : List D} {f : α → M (List D)} {a : α} (h : Pu m a) (h2 : Pu (f a) xs) : Pu (bnd m fun x => bnd (f x) fun ys => bnd (alloc ys) fun l => bTuple [l]) (.tup xs) := fun st Q q => by
  rw [wp_bnd]
  refine h st _ fun s1 r1 => ?_
  rw [wp_bnd]
  refine h2 s1 _ fun s2 r2 => ?_
  simp only [wp_bnd, wp_alloc, bTuple, wp_lst_new, wp_ret]
  exact q _ ((r1.trans r2).trans (Fr.new _))
end Pm
namespace Pm
open PySem L2
theorem decS {a b : Str} : decide (D.str a = D.str b) = decide (a = b) := by
  by_cases h : a = b
  · rw [h, decide_eq_true rfl, decide_eq_true rfl]
  · rw [decide_eq_false h, decide_eq_false fun z => h (D.str.inj z)]
theorem decI {a b : Int} : decide (D.int a = D.int b) = decide (a = b) := by
  by_cases h : a = b
  · rw [h, decide_eq_true rfl, decide_eq_true rfl]
  · rw [decide_eq_false h, decide_eq_false fun z => h (D.int.inj z)]
theorem opEq_str {a b : Str} : opEq (.str a) (.str b) = ret (.bl (decide (a = b))) := by
  show ret (D.bl (decide (D.str a = D.str b))) = _
  rw [decS]
theorem opEq_int {a b : Int} : opEq (.int a) (.int b) = ret (.bl (decide (a = b))) := by
  show ret (D.bl (decide (D.int a = D.int b))) = _
  rw [decI]
theorem opNe_str {a b : Str} : opNe (.str a) (.str b) = ret (.bl (!decide (a = b))) := by
  show ret (D.bl (!decide (D.str a = D.str b))) = _
  rw [decS]
theorem opNe_int {a b : Int} : opNe (.int a) (.int b) = ret (.bl (!decide (a = b))) := by
  show ret (D.bl (!decide (D.int a = D.int b))) = _
  rw [decI]
@[simp] theorem opAdd_int {a b : Int} : opAdd (.int a) (.int b) = ret (.int (a + b)) := rfl
@[simp] theorem opSub_int {a b : Int} : opSub (.int a) (.int b) = ret (.int (a - b)) := rfl
@[simp] theorem opNeg_int {a : Int} : opNeg (.int a) = ret (.int (-a)) := rfl
@[simp] theorem opLe_int {a b : Int} : opLe (.int a) (.int b) = ret (.bl (decide (a ≤ b))) := rfl
@[simp] theorem opLt_int {a b : Int} : opLt (.int a) (.int b) = ret (.bl (decide (a < b))) := rfl
@[simp] theorem opGt_int {a b : Int} : opGt (.int a) (.int b) = ret (.bl (decide (b < a))) := rfl
@[simp] theorem opGe_int {a b : Int} : opGe (.int a) (.int b) = ret (.bl (decide (b ≤ a))) := rfl
@[simp] theorem asB_bl {b : Bool} : asB (.bl b) = ret b := rfl
@[simp] theorem tru_bl {b : Bool} : tru (.bl b) = ret b := rfl
@[simp] theorem opIx_tup {ns : List Int} {xs : List D} {i : Int} : opIx ns (.tup xs) (.int i) = ofO (atI xs i) := rfl
theorem opMod_int {a b : Int} (h : 0 < b) : opMod (.int a) (.int b) = ret (.int (a % b)) := by
  show (if decide (0 < b) = true then _ else _) = _
  rw [if_pos (decide_eq_true h)]
theorem opFdiv_int {a b : Int} (h : 0 < b) (h2 : b < 1073741824) : opFdiv (.int a) (.int b) = ret (.int (a / b)) := by
  show (if decide (0 < b ∧ b < 1073741824) = true then _ else _) = _
  rw [if_pos (decide_eq_true ⟨h, h2⟩)]
theorem opMul_int {a b : Int} (h : (-(2 ^ 64) < a ∧ a < 2 ^ 64) ∨ (-(2 ^ 64) < b ∧ b < 2 ^ 64)) : opMul (.int a) (.int b) = ret (.int (a * b)) := by
  show (if decide _ = true then _ else _) = _
  rw [if_pos (decide_eq_true h)]
theorem runB_eq {n : Nat} {b : MS} {ds : List D} : runB n b ds = bnd (b (startE n ds)) fin := rfl
@[simp] theorem rd_at {i : Nat} {ρ : En} : rd i ρ = match ρ[i]? with
  | some (some d) => ret d
  | _ => no := rfl
@[simp] theorem bLen_tup {ns : List Int} {xs : List D} : bLen ns [.tup xs] = ret (.int xs.length) := rfl
@[simp] theorem isi_int {T : String} {i : Int} : isi T (.int i) = ret (.bl (isT "int" T)) := rfl
@[simp] theorem isi_tup {T : String} {xs : List D} : isi T (.tup xs) = ret (.bl (isT "tuple" T)) := rfl
@[simp] theorem bindP_nm {i : Nat} {d : D} {ρ : En} : bindP (.nm i) d ρ = some (ρ.set i (some d)) := by unfold bindP; rfl
@[simp] theorem bindP_tp {ps : List Pat} {xs : List D} {ρ : En} : bindP (.tp ps) (.tup xs) ρ = bindPs ps xs ρ := by unfold bindP; rfl
@[simp] theorem bindPs_nil {ρ : En} : bindPs [] [] ρ = some ρ := by unfold bindPs; rfl
@[simp] theorem bindPs_cons {p : Pat} {ps : List Pat} {x : D} {xs : List D} {ρ : En} : bindPs (p :: ps) (x :: xs) ρ = (bindP p x ρ).bind fun ρ' => bindPs ps xs ρ' := by
  rw [bindPs]
end Pm
namespace Pm
open PySem L2
theorem fm_const {α : Type} {d : D} : ∀ xs : List α, xs.filterMap (fun _ => some d) = List.replicate xs.length d
  | [] => rfl
  | x :: xs => by simp [fm_const xs, List.replicate_succ]
theorem bls_rep : ∀ n : Nat, blsOf (List.replicate n (D.bl true)) = some (List.replicate n true)
  | 0 => rfl
  | n + 1 => by simp [List.replicate_succ, blsOf, bls_rep n]
@[simp] theorem wp_bAll_true {n : Nat} {st : Sto} {Q : D → Sto → Prop} : wp (bAll [.loc st.length]) (st ++ [.lst (List.replicate n (.bl true))]) Q = Q (.bl true) (st ++ [.lst (List.replicate n (.bl true))]) := by
  simp [bAll, bls_rep]
@[simp] theorem wp_bTuple_new {xs : List D} {st : Sto} {Q : D → Sto → Prop} : wp (bTuple [.loc st.length]) (st ++ [.lst xs]) Q = Q (.tup xs) (st ++ [.lst xs]) := by
  simp [bTuple]
@[simp] theorem wp_bSorted_new {ns : List Int} {st : Sto} {Q : D → Sto → Prop} : wp (bSorted [.loc st.length]) (st ++ [.lst (ns.map .int)]) Q = Q (.loc (st.length + 1)) (st ++ [.lst (ns.map .int)] ++ [.lst ((isort ns).map .int)]) := by
  simp [bSorted, intsOf_ints]
theorem wp_seqA {l : Nat} {xs : List D} {st : Sto} {Q : Itm → Sto → Prop} (h : st[l]? = some (.lst xs)) : wp (seqA (.loc l)) st Q = Q ⟨xs, fun st => decide (st[l]? = some (.lst xs))⟩ st := by
  show wp (bnd (lst l) _) st Q = _
  rw [wp_bnd, wp_lst h]
  rfl
/-- a comprehension over a list that stays -/
theorem pu_lcLok {ok : Sto → Bool} {p : Pat} {t : MT} {e : ME} {ρ : En} {st : Sto} {Q : List D → Sto → Prop} (g : D → Option D) (xs : List D) (hok : ∀ s, Fr [] st s → ok s = true) (hl : xs.length ≤ 100000) (h : ∀ x ∈ xs, ∃ ρ1, bindP p x ρ = some ρ1 ∧ ((g x = none ∧ Pu (t ρ1) false) ∨ ∃ y, g x = some y ∧ Pu (t ρ1) true ∧ Pu (e ρ1) y))
    (q : ∀ st', Fr [] st st' → Q (xs.filterMap g) st') : wp (lcL ok p t e ρ xs []) st Q := by
  refine wp_lcL (fun i a s => Fr [] st s ∧ i ≤ xs.length ∧ a.length ≤ i ∧ a = (xs.take i).filterMap g) xs 0 [] st ⟨Fr.refl, Nat.zero_le _, by simp, by simp⟩ (fun j x a s hj ⟨fr, hi, hn, ea⟩ => ⟨hok s fr, ?_⟩) fun a s ⟨fr, hi, hn, ea⟩ => ⟨hok s fr, ?_⟩
  · have hj1 : j < xs.length := (List.getElem?_eq_some_iff.mp hj).1
    obtain ⟨ρ1, h1, h2⟩ := h x (List.mem_of_getElem? hj)
    refine ⟨ρ1, h1, ?_⟩
    have tk : xs.take (0 + j + 1) = xs.take (0 + j) ++ [x] := by
      rw [Nat.zero_add, List.take_add_one, hj]; rfl
    rcases h2 with ⟨g0, p0⟩ | ⟨y, g1, p1, p2⟩
    · refine p0 s _ fun s' fr' => ?_
      rw [if_neg (by simp)]
      exact ⟨fr.trans fr', by omega, by omega, by rw [tk, List.filterMap_append, ea]; simp [g0]⟩
    · refine p1 s _ fun s' fr' => ?_
      rw [if_pos rfl]
      refine p2 s' _ fun s'' fr'' => ⟨Nat.lt_of_le_of_lt (show a.length ≤ 99999 by omega) (by rw [sizeLine_eq]; decide), (fr.trans fr').trans fr'', by omega, by simp; omega, by rw [tk, List.filterMap_append, ea]; simp [g1]⟩
  · rw [ea]
    simp only [Nat.zero_add, List.take_length]
    exact q s fr
theorem Pu.ap {m : M D} {a : D} (h : Pu m a) {st : Sto} {Q : D → Sto → Prop} (q : ∀ st', Fr [] st st' → Q a st') : wp m st Q := h st Q q
end Pm
namespace Pm
open PySem L2
theorem wp_bTuple {l : Nat} {xs : List D} {st : Sto} {Q : D → Sto → Prop} (h : st[l]? = some (.lst xs)) : wp (bTuple [.loc l]) st Q = Q (.tup xs) st := by
  simp [bTuple, wp_lst h]
theorem opIsNot_non {d : D} : opIsNot d .non = ret (.bl (!decide (d = .non))) := by cases d <;> rfl
@[simp] theorem get_new2 {st : Sto} {a b : O} : (st ++ [a, b])[st.length + 1]? = some b := by simp
end Pm
end
section
set_option Elab.async false
set_option linter.all false
set_option maxRecDepth 100000
namespace Pm
open PySem L2
/-! ### data that shows -/
def Sh (e w : Nat) (d : D) : Prop := ∃ p, (∀ st n, e ≤ n → toPy st n d = some p) ∧ p.showable = true ∧ p.hasDict = false ∧ p.depth ≤ e ∧ p.shown.length ≤ w
theorem Sh.mono {e e' w w' : Nat} {d : D} (h : Sh e w d) (h1 : e ≤ e') (h2 : w ≤ w') : Sh e' w' d := by
  obtain ⟨p, a, b, c, f, g⟩ := h
  exact ⟨p, fun st n hn => a st n (by omega), b, c, by omega, by omega⟩
theorem Sh.non : Sh 1 4 .non := ⟨.none, fun st n hn => by
  obtain ⟨m, rfl⟩ : ∃ m, n = m + 1 := ⟨n - 1, by omega⟩
  rfl, rfl, rfl, by decide, by decide⟩
theorem Sh.bl {b : Bool} : Sh 1 5 (.bl b) := ⟨.bool b, fun st n hn => by
  obtain ⟨m, rfl⟩ : ∃ m, n = m + 1 := ⟨n - 1, by omega⟩
  rfl, rfl, rfl, by simp [PyData.depth], by cases b <;> decide⟩
theorem log2_small {a : Int} (h : a.natAbs < 10 ^ 30) : a.natAbs.log2 < 1920 := by
  rcases Nat.eq_zero_or_pos a.natAbs with z | z
  · rw [z]; decide
  · exact (Nat.log2_lt (by omega)).mpr (Nat.lt_of_lt_of_le (Nat.lt_of_lt_of_le h (show 10 ^ 30 ≤ 2 ^ 100 by decide)) (Nat.pow_le_pow_right (by decide) (by decide)))
theorem ofStr_len (s : String) : (Str.ofString s).length = s.length := by
  exact ofString_length s
theorem Sh.int {i : Int} (h : i.natAbs < 10 ^ 30) : Sh 1 31 (.int i) := ⟨.int i, fun st n hn => by
  obtain ⟨m, rfl⟩ : ∃ m, n = m + 1 := ⟨n - 1, by omega⟩
  rfl, by simp only [PyData.showable]; exact decide_eq_true (log2_small h), rfl, by simp [PyData.depth], by
  show (Str.ofString (toString i)).length ≤ 31
  rw [ofStr_len]
  exact int_text_length_le10 (by decide) h⟩
theorem toPys_of {st : Sto} {n e w : Nat} (hn : e ≤ n) : ∀ xs : List D, (∀ x ∈ xs, Sh e w x) → ∃ ps, (∀ st n, e ≤ n → toPys (toPy st n) xs = some ps) ∧ ps.length = xs.length ∧ PyData.showableAll ps = true ∧ PyData.hasDictAll ps = false ∧ PyData.depthAll ps ≤ e ∧ piled (PyData.shownAll ps) ≤ xs.length * (w + 2)
  | [], _ => ⟨[], fun _ _ _ => rfl, rfl, rfl, rfl, by simp [PyData.depthAll], by simp [piled, PyData.shownAll]⟩
  | x :: xs, h => by
    obtain ⟨p, a, b, c, f, g⟩ := h x (by simp)
    obtain ⟨ps, a', l', b', c', f', g'⟩ := toPys_of (st := st) hn xs fun y hy => h y (by simp [hy])
    refine ⟨p :: ps, fun st n hn => ?_, by simp [l'], by simp [PyData.showableAll, b, b'], by simp [PyData.hasDictAll, c, c'], by simp [PyData.depthAll]; omega, ?_⟩
    · unfold toPys
      rw [a st n hn, a' st n hn]
    · simp only [PyData.shownAll, piled_cons, List.length_cons, Nat.succ_mul]
      omega
theorem Sh.tup {e w n : Nat} {xs : List D} (h : ∀ x ∈ xs, Sh e w x) (hn : xs.length ≤ n) : Sh (e + 1) (n * (w + 2) + 3) (.tup xs) := by
  obtain ⟨ps, a, l, b, c, f, g⟩ := toPys_of (st := []) (Nat.le_refl e) xs h
  refine ⟨.tuple ps, fun st m hm => ?_, by simpa [PyData.showable] using b, by simpa [PyData.hasDict] using c, by simp [PyData.depth]; omega, ?_⟩
  · obtain ⟨m, rfl⟩ : ∃ k, m = k + 1 := ⟨m - 1, by omega⟩
    unfold toPy
    simp only [a st m (by omega), Option.map_some]
  · have g2 : xs.length * (w + 2) ≤ n * (w + 2) := Nat.mul_le_mul_right _ hn
    simp only [PyData.shown]
    unfold tupleText
    rw [strLen_append, strLen_append]
    have e1 : ((("(" : String) : Str)).length = 1 := rfl
    have e3 : (((if (PyData.shownAll ps).length == 1 then ",)" else ")" : String) : Str)).length ≤ 2 := by split <;> decide
    rw [e1]
    by_cases z : PyData.shownAll ps = []
    · rw [z]
      have : (Str.join ", " []).length = 0 := rfl
      rw [z] at e3
      omega
    · have := join_length_add _ z
      omega
theorem Sh.repr {e w : Nat} {d : D} (h : Sh e w d) (he : e ≤ 60) (hw : w ≤ 100000) : ∃ t : Str, bRepr [d] = ret (.str t) := by
  obtain ⟨p, a, b, c, f, g⟩ := h
  refine ⟨p.shown, ?_⟩
  funext st
  show (bnd (py d) _) st = _
  have e1 : py d st = .ok p st := by
    unfold py
    rw [a st 60 he]
  unfold bnd
  rw [e1]
  show (if _ then _ else _ : M D) st = _
  rw [if_pos ⟨b, c, by omega, by omega⟩]
end Pm
end
section
set_option Elab.async false
set_option linter.all false
set_option maxRecDepth 100000
namespace Pm
open PySem L2
/-! ### draws, any constants -/
def bPot2 (c d e : Int) : MS := (seqS (setS (.nm 3) (bin (bin (appA (conA (appA (conA (rd 2) nilA) bAbs) nilA) bInt) (bin (bin (kon (.int 10)) (kon (.int 60)) opPow) (kon (.int 5)) opPow) opMod) (appA (conA (bin (appA (conA (rd 2) nilA) bAbs) (bin (kon (.int 10)) (kon (.int 18)) opPow) opGe) nilA) bInt) opMul)) (seqS (setS (.nm 4) (bin (appA (conA (rd 2) nilA) bInt) (kon (.int 2305843009213693951)) opMod)) (retS (lstE (conA (rd 3) (conA (bin (appA (conA (bin (bin (bin (rd 4) (kon (.int c)) opMul) (bin (bin (kon (.int d)) (rd 1) opMul) (rd 1) opMul) opAdd) (kon (.int e)) opAdd) nilA) bInt) (kon (.int 2305843009213693921)) opMod) (conA (kon (.int 0)) nilA)))))))
def bPot (ns : List Int) (a b c d e : Int) : MS := (seqS (setS (.nm 2) (ifE (tstB (bin (rd 1) (appA (conA (rd 0) nilA) (bLen ns)) opLt)) (bin (rd 0) (rd 1) (opIx ns)) (bin (bin (bin (appA (conA (appA (conA (sli (rd 0) noP (som (kon (.int 1))) (opSl ns)) nilA) bSum) nilA) bInt) (kon (.int 1000003)) opMod) (bin (kon (.int a)) (rd 1) opMul) opAdd) (kon (.int b)) opAdd))) (bPot2 c d e))
def bCells (ns : List Int) : MS := (retS (una (appA (conA (kon (.int 1)) (conA (appA (conA (rd 1) (conA (appA (conA (rd 0) nilA) (bLen ns)) nilA)) bMin) nilA)) bMax) bRg1))
def bTake (ns : List Int) (a b c d e : Int) : MS := (seqS (ifS (tstB (bin (bin (rd 0) (kon (.int 0)) (opIx ns)) (kon (.int 0)) opGt)) (seqS (setS (.nm 4) (bin (appA (conA (bin (rd 0) (kon (.int 0)) (opIx ns)) nilA) bInt) (rd 1) opMod)) (seqS (subS (bin (bin (rd 0) (kon (.int 0)) (opIx ns)) (rd 1) opFdiv) (rd 0) (kon (.int 0))) (retS (rd 4)))) nxS) (seqS (subS (bin (bin (rd 0) (kon (.int 2)) (opIx ns)) (kon (.int 1)) opAdd) (rd 0) (kon (.int 2))) (seqS (setS (.nm 2) (bin (lstE (conA (kon (.int 2147483647)) (conA (kon (.int 2147483629)) (conA (kon (.int 2147483587)) (conA (kon (.int 2147483579)) (conA (kon (.int 2147483563)) nilA)))))) (bin (appA (conA (bin (rd 0) (kon (.int 2)) (opIx ns)) nilA) bInt) (kon (.int 5)) opMod) (opIx ns))) (seqS (setS (.nm 3) (bin (appA (conA (bin (appA (conA (bin (bin (bin (rd 0) (kon (.int 1)) (opIx ns)) (bin (bin (kon (.int a)) (bin (rd 0) (kon (.int 2)) (opIx ns)) opMul) (bin (rd 0) (kon (.int 2)) (opIx ns)) opMul) opAdd) (kon (.int b)) opAdd) nilA) bInt) (kon (.int 3)) opPow) nilA) bInt) (rd 2) opMod)) (retS (bin (appA (conA (bin (bin (rd 3) (bin (bin (appA (conA (rd 3) nilA) bInt) (kon (.int c)) opMod) (bin (kon (.int d)) (bin (rd 0) (kon (.int 2)) (opIx ns)) opMul) opAdd) opMul) (kon (.int e)) opFdiv) nilA) bInt) (rd 1) opMod))))))
def Pot (l n : Nat) (st : Sto) : Prop := ∃ own seed cnt : Int, st[l]? = some (.lst [.int own, .int seed, .int cnt]) ∧ 0 ≤ own ∧ (0 ≤ seed ∧ seed < 2 ^ 61) ∧ 0 ≤ cnt ∧ cnt ≤ n
theorem Pot.lt {l n : Nat} {st : Sto} (h : Pot l n st) : l < st.length := by
  obtain ⟨_, _, _, h, _⟩ := h
  exact (List.getElem?_eq_some_iff.mp h).1
theorem Pot.fr {l n n' : Nat} {st st' : Sto} {S : List Nat} (h : Pot l n st) (f : Fr S st st') (hl : l ∉ S) (hn : n ≤ n') : Pot l n' st' := by
  obtain ⟨o, s, c, h1, h2, h3, h4, h5⟩ := h
  exact ⟨o, s, c, f.at h1 hl, h2, h3, h4, by omega⟩
structure Small (a b c d e : Int) : Prop where
  a : 0 ≤ a ∧ a < 2 ^ 20
  b : 0 ≤ b ∧ b < 2 ^ 20
  c : 0 < c ∧ c < 2 ^ 20
  d : 0 ≤ d ∧ d < 2 ^ 20
  e : 0 < e ∧ e < 2 ^ 20
@[simp] theorem bInt_int {i : Int} : bInt [.int i] = ret (.int i) := rfl
@[simp] theorem bInt_bl {k : Bool} : bInt [.bl k] = ret (.int (if k then 1 else 0)) := rfl
@[simp] theorem bAbs_int {i : Int} : bAbs [.int i] = ret (.int (if i < 0 then -i else i)) := rfl
@[simp] theorem bMax_int {i j : Int} : bMax [.int i, .int j] = ret (.int (if j > i then j else i)) := rfl
@[simp] theorem bMin_int {i j : Int} : bMin [.int i, .int j] = ret (.int (if j < i then j else i)) := rfl
@[simp] theorem bLen_scr {ns : List Int} : bLen ns [.scr] = ret (.int ns.length) := rfl
@[simp] theorem opIx_scr {ns : List Int} {i : Int} : opIx ns .scr (.int i) = ofO (atI (ns.map D.int) i) := rfl
theorem opIx_loc {ns : List Int} {l : Nat} {i : Int} : opIx ns (.loc l) (.int i) = bnd (obj l) fun o => match o with
  | .lst xs => ofO (atI xs i)
  | .dct kvs => ofO (getK kvs (.inl i))
  | .ins _ _ => no := rfl
theorem opSl_scr {ns : List Int} {lo hi : Option Int} : opSl ns .scr lo hi = alloc (cutD (ns.map D.int) lo hi) := rfl
theorem opPow_int {i j : Int} (h : CPowB i j) : opPow (.int i) (.int j) = ret (.int (i ^ j.toNat)) := by
  show (if decide (CPowB i j) = true then _ else _) = _
  rw [if_pos (decide_eq_true h)]
theorem cube_ok {x : Int} (h0 : 0 ≤ x) (h : x < 2 ^ 100) : CPowB x 3 := by
  have : Builtin.Int.intBits x ≤ 100 := intBits_le_iff.mpr (by omega)
  exact ⟨by decide, by omega⟩
theorem setI_loc {l : Nat} {i : Int} {d : D} : setI (.loc l) (.int i) d = bnd (obj l) fun o => match o with
  | .lst xs => match ixN xs.length i with
    | some j => put l (xs.set j d)
    | none => no
  | .dct kvs => if kvs.length < sizeLine then putO l (.dct (setK kvs (.inl i) d)) else no
  | .ins _ _ => no := rfl
abbrev primes : List D := [.int 2147483647, .int 2147483629, .int 2147483587, .int 2147483579, .int 2147483563]
theorem prime_at (c : Int) : ∃ p : Int, atI primes (c % 5) = some (.int p) ∧ 0 < p ∧ p < 2 ^ 31 := by
  have h0 := Int.emod_nonneg c (show (5 : Int) ≠ 0 by decide)
  have h1 := Int.emod_lt_of_pos c (show (0 : Int) < 5 by decide)
  generalize c % 5 = r at h0 h1 ⊢
  have : r = 0 ∨ r = 1 ∨ r = 2 ∨ r = 3 ∨ r = 4 := by omega
  rcases this with rfl | rfl | rfl | rfl | rfl
  all_goals exact ⟨_, rfl, by decide, by decide⟩
theorem take_spec {ns : List Int} {a b c d e : Int} (sm : Small a b c d e) {l n : Nat} {st : Sto} {u : Int} {Q : D → Sto → Prop} (hp : Pot l n st) (hn : n ≤ 1000000) (hu : 0 < u ∧ u < 2 ^ 24)
    (q : ∀ k st', (0 ≤ k ∧ k < u) → Pot l (n + 1) st' → Fr [l] st st' → Q (.int k) st') : wp (runB 5 (bTake ns a b c d e) [.loc l, .int u]) st Q := by
  obtain ⟨own, seed, cnt, h1, h2, h3, h4, h5⟩ := hp
  have hl : l < st.length := (List.getElem?_eq_some_iff.mp h1).1
  simp only [runB_eq, bTake, startE]
  simp [opIx_loc, setI_loc, wp_lst h1, wp_obj h1, atI, ixN]
  by_cases ho : 0 < own
  · simp [ho, opMod_int hu.1, opFdiv_int hu.1 (show u < 1073741824 by omega), wp_lst h1, wp_obj h1, ixN]
    exact q _ _ ⟨Int.emod_nonneg _ (by omega), Int.emod_lt_of_pos _ hu.1⟩ ⟨own / u, seed, cnt, by simp [hl], Int.ediv_nonneg h2 (by omega), h3, h4, by omega⟩ Fr.set
  · have hg : (st.set l (.lst [.int own, .int seed, .int (cnt + 1)]))[l]? = some (.lst [.int own, .int seed, .int (cnt + 1)]) := by simp [hl]
    simp [ho, wp_lst h1, wp_obj h1, wp_lst hg, wp_obj hg, ixN]
    refine ⟨small_line (by decide), ?_⟩
    have hl1 : (st.set l (.lst [.int own, .int seed, .int (cnt + 1)])).length = st.length := by simp
    have fr : Fr [l] st (st.set l (.lst [.int own, .int seed, .int (cnt + 1)])) := Fr.set
    revert hg hl1 fr
    generalize st.set l (.lst [.int own, .int seed, .int (cnt + 1)]) = s1
    intro hg hl1 fr
    have hg2 : (s1 ++ [O.lst primes])[l]? = some (.lst [.int own, .int seed, .int (cnt + 1)]) := by
      rw [List.getElem?_append_left (by omega)]; exact hg
    have hp2 : (s1 ++ [O.lst primes])[st.length]? = some (.lst primes) := by rw [← hl1]; simp
    have fr2 : Fr [l] st (s1 ++ [O.lst primes]) := fr.trans (Fr.new _)
    show wp _ (s1 ++ [O.lst primes]) _
    revert hg2 hp2 fr2
    generalize s1 ++ [O.lst primes] = s2
    intro hg2 hp2 fr2
    obtain ⟨p, ep, hp0, hp1⟩ := prime_at (cnt + 1)
    have b0 : -(2 ^ 64) < cnt + 1 ∧ cnt + 1 < 2 ^ 64 := by omega
    obtain ⟨⟨a0, a1⟩, ⟨b1, b2⟩, ⟨c0, c1⟩, ⟨d0, d1⟩, ⟨e0, e1⟩⟩ := sm
    have hx0 : 0 ≤ a * (cnt + 1) * (cnt + 1) := Int.mul_nonneg (Int.mul_nonneg a0 (by omega)) (by omega)
    have hx1 : a * (cnt + 1) * (cnt + 1) ≤ 2 ^ 20 * 2 ^ 20 * 2 ^ 20 := by
      have i1 : a * (cnt + 1) ≤ 2 ^ 20 * 2 ^ 20 := Int.mul_le_mul (by omega) (by omega) (by omega) (by decide)
      exact Int.mul_le_mul i1 (by omega) (by omega) (by decide)
    have hpow := cube_ok (x := seed + a * (cnt + 1) * (cnt + 1) + b) (by omega) (by omega)
    simp [wp_lst hg2, wp_obj hg2, opIx_loc, opMod_int (show (0 : Int) < 5 by decide), wp_lst hp2, wp_obj hp2, ep, opMul_int (.inr b0), opPow_int hpow, opMod_int hp0, opMod_int c0]
    generalize hB : (seed + a * (cnt + 1) * (cnt + 1) + b) ^ 3 % p = B
    have hB0 : 0 ≤ B ∧ B < p := by
      rw [← hB]
      exact ⟨Int.emod_nonneg _ (by omega), Int.emod_lt_of_pos _ hp0⟩
    simp [opMul_int (a := B) (.inl (show -(2 ^ 64) < B ∧ B < 2 ^ 64 by omega)), opFdiv_int e0 (show e < 1073741824 by omega), opMod_int hu.1]
    exact q _ _ ⟨Int.emod_nonneg _ (by omega), Int.emod_lt_of_pos _ hu.1⟩ ⟨own, seed, cnt + 1, hg2, h2, h3, by omega, by omega⟩ fr2
theorem cutD_ints (l : List Int) (lo hi : Option Int) : cutD (l.map D.int) lo hi = (cutD l lo hi).map D.int := by
  simp [cutD, List.map_drop, List.map_take]
theorem bSum_new {l : List Int} {st : Sto} {Q : D → Sto → Prop} : wp (bSum [.loc st.length]) (st ++ [.lst (l.map .int)]) Q = Q (.int l.sum) (st ++ [.lst (l.map .int)]) := by
  simp [bSum, intsOf_ints]
theorem big_ok : CPowB 10 60 ∧ CPowB (10 ^ 60) 5 ∧ CPowB 10 18 := by
  have h1 : Builtin.Int.intBits (10 : Int) ≤ 4 := intBits_le_iff.mpr (by decide)
  have h2 : Builtin.Int.intBits ((10 : Int) ^ 60) ≤ 200 := intBits_le_iff.mpr (by decide)
  exact ⟨⟨by decide, by omega⟩, ⟨by decide, by omega⟩, ⟨by decide, by omega⟩⟩
theorem pow60 : (10 : Int) ^ 60 = 1000000000000000000000000000000000000000000000000000000000000 := by decide
theorem pow300 : ∃ N : Int, 0 < N ∧ opPow (.int 1000000000000000000000000000000000000000000000000000000000000) (.int 5) = ret (.int N) := by
  refine ⟨(10 ^ 60) ^ 5, Int.pow_pos (Int.pow_pos (by decide)), ?_⟩
  rw [← pow60, opPow_int big_ok.2.1]
  rfl
theorem pot_spec {ns : List Int} {a b c d e : Int} (sm : Small a b c d e) {p : Int} (hp : 0 ≤ p ∧ p < 64) {st : Sto} {Q : D → Sto → Prop}
    (q : ∀ l st', Pot l 0 st' → st.length ≤ l → Fr [] st st' → Q (.loc l) st') : wp (runB 5 (bPot ns a b c d e) [.scr, .int p]) st Q := by
  obtain ⟨⟨a0, a1⟩, ⟨b1, b2⟩, ⟨c0, c1⟩, ⟨d0, d1⟩, ⟨e0, e1⟩⟩ := sm
  obtain ⟨k1, k2, k3⟩ := big_ok
  obtain ⟨N, hN, k2⟩ := pow300
  have rest : ∀ (cell : Int) (s : Sto), Fr [] st s → wp (bnd ((bPot2 c d e) [some .scr, some (.int p), some (.int cell), none, none]) fin) s Q := by
    intro cell s fr
    have i0 : ∀ k : Prop, ∀ _ : Decidable k, -(2 ^ 64) < (if k then (1 : Int) else 0) ∧ (if k then (1 : Int) else 0) < 2 ^ 64 := fun k _ => by split <;> decide
    have i0' : ∀ k : Prop, ∀ _ : Decidable k, 0 ≤ (if k then (1 : Int) else 0) := fun k _ => by split <;> decide
    have i1 : -(2 ^ 64) < p ∧ p < 2 ^ 64 := by omega
    have i2 : -(2 ^ 64) < c ∧ c < 2 ^ 64 := by omega
    simp [bPot2, opPow_int k1, k2, opPow_int k3, show (60 : Int).toNat = 60 from rfl, show (18 : Int).toNat = 18 from rfl, opMod_int hN, opMod_int (show (0 : Int) < 2305843009213693951 by decide), opMod_int (show (0 : Int) < 2305843009213693921 by decide), opMul_int (.inr i1), opMul_int (.inr i2)]
    rw [opMul_int (.inr (i0 _ _))]
    simp
    refine ⟨small_line (by decide), ?_⟩
    refine q _ _ ⟨_, _, 0, by simp; exact ⟨rfl, rfl⟩, ?_, ?_, by decide, by decide⟩ fr.1 (fr.trans (Fr.new _))
    · exact Int.mul_nonneg (Int.emod_nonneg _ (by omega)) (i0' _ _)
    · have h0 := Int.emod_nonneg (cell % 2305843009213693951 * c + d * p * p + e) (show (2305843009213693921 : Int) ≠ 0 by decide)
      have h1 := Int.emod_lt_of_pos (cell % 2305843009213693951 * c + d * p * p + e) (show (0 : Int) < 2305843009213693921 by decide)
      exact ⟨h0, by omega⟩
  simp only [runB_eq, bPot, startE]
  rw [show ∀ {s1 s2 : MS} {ρ : En}, seqS s1 s2 ρ = bnd (s1 ρ) fun x => match x.1 with
    | .nx => s2 x.2
    | _ => ret x from rfl, bnd_bnd, wp_bnd]
  by_cases hlt : p < ns.length
  · obtain ⟨v, hv⟩ : ∃ v, atI (ns.map D.int) p = some (D.int v) := by
      refine ⟨ns[p.toNat]'(by omega), ?_⟩
      unfold atI ixN
      rw [if_pos hp.1, if_pos (by simpa using hlt)]
      simp
    simp [hlt, hv]
    have := rest v st Fr.refl
    rw [wp_bnd] at this
    exact this
  · simp [hlt, opSl_scr, cutD_ints]
    rw [bSum_new]
    simp [opMod_int (show (0 : Int) < 1000003 by decide), opMul_int (.inr (show -(2 ^ 64) < p ∧ p < 2 ^ 64 by omega))]
    have := rest ((cutD ns none (some 1)).sum % 1000003 + a * p + b) _ (Fr.new [.lst ((cutD ns none (some 1)).map D.int)])
    rw [wp_bnd] at this
    exact this
theorem cells_spec {ns : List Int} (hn : ns.length ≤ 63) {L : Int} (hL : 1 ≤ L ∧ L ≤ 60) {st : Sto} {Q : D → Sto → Prop}
    (q : ∀ k : Nat, 1 ≤ k ∧ k ≤ 60 → Q (.loc st.length) (st ++ [.lst ((List.range k).map fun i : Nat => .int (i : Int))])) : wp (runB 2 (bCells ns) [.scr, .int L]) st Q := by
  simp [runB_eq, bCells, startE]
  generalize hm : (if (if (ns.length : Int) < L then (ns.length : Int) else L) > 1 then (if (ns.length : Int) < L then (ns.length : Int) else L) else 1) = m
  have h1 : 1 ≤ m ∧ m ≤ 60 := by
    rw [← hm]
    split <;> split <;> omega
  simp [bRg1, show -4611686018427387904 ≤ m ∧ m ≤ 16777216 by omega]
  exact q m.toNat (by omega)
/-- the law over some cells -/
def bLawAll (ns : List Int) (L : Int) (mc mp mr : List D → M D) : MS := (retS (appA (conA (lcE (iterA (calE (conA (rd 0) (conA (kon (.int L)) nilA)) (ofLen 2 mc))) (.nm 1) yesT (calE (conA (calE (conA (rd 0) (conA (rd 1) nilA)) (ofLen 2 mp)) nilA) (ofLen 1 mr)) [1]) nilA) bAll))
theorem law_all {ns : List Int} {L : Int} {mp mr : List D → M D} {a b c d e : Int} (hn : ns.length ≤ 63) (hL : 1 ≤ L ∧ L ≤ 60) (hp : mp = runB 5 (bPot ns a b c d e)) (sm : Small a b c d e)
    (hr : ∀ l st, Pot l 0 st → wp (mr [.loc l]) st fun r st' => r = .bl true ∧ Fr [l] st st') : ∃ st, runB 2 (bLawAll ns L (runB 2 (bCells ns)) mp mr) [.scr] [] = .ok (.bl true) st := by
  suffices h : wp (runB 2 (bLawAll ns L (runB 2 (bCells ns)) mp mr) [.scr]) [] fun r _ => r = .bl true by
    obtain ⟨r, st, e1, e2⟩ := wp_ok h
    exact ⟨st, by rw [e1, e2]⟩
  rw [runB_eq]
  simp [bLawAll, startE]
  refine cells_spec hn hL fun k hk => ?_
  simp only [List.length_nil]
  rw [wp_seqA (xs := (List.range k).map fun i : Nat => .int (i : Int)) (by simp)]
  simp only [wipeE]
  refine wp_lcL (fun i acc s => acc = List.replicate i (.bl true) ∧ i ≤ 60 ∧ s[0]? = some (.lst ((List.range k).map fun i : Nat => .int (i : Int)))) _ 0 [] _ ⟨rfl, by decide, by simp⟩ (fun j x acc s hj hI => ?_) fun acc s hI => ?_
  · obtain ⟨h1, h2, h3⟩ := hI
    have hjk : j < k := by
      have := (List.getElem?_eq_some_iff.mp hj).1
      simpa using this
    have hx : x = .int (j : Int) := by
      rw [List.getElem?_map, List.getElem?_range hjk] at hj
      simpa using hj.symm
    subst hx
    refine ⟨decide_eq_true h3, _, by simp; rfl, ?_⟩
    simp
    rw [hp]
    refine pot_spec sm (by omega) fun l s1 pt hl fr => ?_
    refine wp_mono (hr l s1 pt) fun r s2 ⟨hr1, hr2⟩ => ?_
    have hs : 0 < s.length := (List.getElem?_eq_some_iff.mp h3).1
    refine ⟨Nat.lt_of_lt_of_le (show acc.length < 100 by rw [h1]; simp; omega) (small_line (by decide)), by rw [h1, hr1, ← List.replicate_succ']; simp, by omega, hr2.at (fr.at h3 (by simp)) (by simp; omega)⟩
  · obtain ⟨h1, h2, h3⟩ := hI
    refine ⟨decide_eq_true h3, ?_⟩
    rw [h1]
    simp
end Pm
end
section
set_option Elab.async false
set_option linter.all false
set_option maxRecDepth 100000
namespace Pm
open PySem L2
theorem wp_isL {l : Nat} {xs : List D} {st : Sto} {Q : Unit → Sto → Prop} (h : st[l]? = some (.lst xs)) : wp (isL (.loc l)) st Q = Q () st := by
  show wp (bnd (lst l) _) st Q = _
  rw [wp_bnd, wp_lst h]
  rfl
theorem wp_append {l : Nat} {xs : List D} {d : D} {st : Sto} {Q : D → Sto → Prop} (h : st[l]? = some (.lst xs)) (hn : xs.length < 100000) : wp (mAppend (.loc l) [d]) st Q = Q .non (st.set l (.lst (xs ++ [d]))) := by
  show wp (bnd (lst l) _) st Q = _
  rw [wp_bnd, wp_lst h, if_pos (Nat.lt_of_lt_of_le hn (small_line (Nat.le_refl _)))]
  simp
theorem range_fm {α : Type} (g : Nat → Option α) (j : Nat) : (List.range (j + 1)).filterMap g = (List.range j).filterMap g ++ (g j).toList := by
  rw [List.range_succ, List.filterMap_append]
  cases h : g j <;> simp [h]
theorem Fr.old {S : List Nat} {st s1 : Sto} {g : Sto} (h : Fr S (st ++ g) s1) (hS : ∀ k ∈ S, st.length ≤ k) : Fr [] st s1 :=
  ⟨Nat.le_trans (by simp) h.1, fun k hk _ => (h.2 k (by simp; omega) fun z => absurd (hS k z) (by omega)).trans (List.getElem?_append_left hk)⟩
theorem Fr.up {S : List Nat} {st s1 : Sto} (h : Fr [] st s1) : Fr S st s1 := h.mono (by simp)
/-- from a mark on -/
theorem Fr.from' {S : List Nat} {st s s1 : Sto} (a : Fr [] st s) (b : Fr S s s1) (hS : ∀ k ∈ S, st.length ≤ k) : Fr [] st s1 :=
  ⟨Nat.le_trans a.1 b.1, fun k hk n => (b.2 k (Nat.lt_of_lt_of_le hk a.1) fun z => absurd (hS k z) (by omega)).trans (a.2 k hk n)⟩
end Pm
end
section
set_option Elab.async false
set_option linter.all false
set_option maxRecDepth 100000
namespace Pm
open PySem L2
def bOf (ns : List Int) (mt : List D → M D) : MS := (retS (bin (rd 1) (calE (conA (rd 0) (conA (appA (conA (rd 1) nilA) (bLen ns)) nilA)) (ofLen 2 mt)) (opIx ns)))
@[simp] theorem bLen_loc {ns : List Int} {l : Nat} : bLen ns [.loc l] = bnd (obj l) fun o => match o with
  | .lst xs => ret (.int xs.length)
  | .dct kvs => ret (.int kvs.length)
  | .ins _ _ => no := rfl
theorem of_spec {ns : List Int} {a b c d e : Int} {mt : List D → M D} (hm : mt = runB 5 (bTake ns a b c d e)) (sm : Small a b c d e) {l m n : Nat} {st : Sto} {xs : List D} {Q : D → Sto → Prop} (hp : Pot l n st) (hn : n ≤ 1000000) (hx : st[m]? = some (.lst xs)) (hml : m ≠ l) (h1 : 0 < xs.length ∧ xs.length < 2 ^ 24)
    (q : ∀ x st', x ∈ xs → Pot l (n + 1) st' → Fr [l] st st' → Q x st') : wp (runB 2 (bOf ns mt) [.loc l, .loc m]) st Q := by
  simp [runB_eq, bOf, startE, wp_lst hx, wp_obj hx]
  rw [hm]
  refine take_spec sm hp hn (by omega) fun k st' hk p' fr => ?_
  have hx' := fr.at hx (by simpa using hml)
  obtain ⟨x, hx1⟩ : ∃ x, xs[k.toNat]? = some x := ⟨xs[k.toNat]'(by omega), by simp⟩
  have e : atI xs k = some x := by
    unfold atI ixN
    rw [if_pos hk.1, if_pos hk.2]
    exact hx1
  simp [opIx_loc, wp_lst hx', wp_obj hx', e]
  exact q x st' (List.mem_of_getElem? hx1) p' fr
theorem okR_small {j : Int} (h0 : -1000000 ≤ j) (h1 : j ≤ 1000000) : okR j = true := by
  unfold okR
  refine decide_eq_true ?_
  rcases Nat.eq_zero_or_pos j.natAbs with z | z
  · rw [z]; decide
  · exact (Nat.log2_lt (by omega)).mpr (Nat.lt_of_lt_of_le (show j.natAbs < 2 ^ 20 by omega) (by decide))
end Pm
end
section
set_option Elab.async false
set_option linter.all false
set_option maxRecDepth 100000
namespace Pm
open PySem L2
/-! ### plain data: None, ints, texts, tuples of them -/
mutual
def pyD : D → PyData
  | .int i => .int i
  | .str s => .str s
  | .tup xs => .tuple (pyDs xs)
  | _ => .none
def pyDs : List D → List PyData
  | [] => []
  | x :: xs => pyD x :: pyDs xs
end
mutual
/-- plain, of at most this depth -/
def plD : Nat → D → Bool
  | 0, _ => false
  | _ + 1, .non => true
  | _ + 1, .int _ => true
  | _ + 1, .str s => PySem.PyData.canLay0 (.str s)
  | n + 1, .tup xs => plDs n xs
  | _, _ => false
def plDs : Nat → List D → Bool
  | _, [] => true
  | n, x :: xs => plD n x && plDs n xs
end
mutual
theorem eqv_pl : ∀ (n : Nat) (d : D) (m : Nat) (e : D), plD n d = true → plD m e = true → PyData.eqv (pyD d) (pyD e) = decide (d = e)
  | n + 1, .non, m + 1, e, _, h => by cases e <;> simp_all [pyD, PyData.eqv, plD]
  | n + 1, .int i, m + 1, e, _, h => by
    cases e with
    | int j =>
      simp only [pyD, PyData.eqv]
      rw [decI]
      rfl
    | _ => simp_all [pyD, PyData.eqv, plD]
  | n + 1, .str x, m + 1, e, _, h => by
    cases e with
    | str y =>
      simp only [pyD, PyData.eqv]
      rw [decS]
      by_cases z : x = y
      · subst z; simp
      · rw [decide_eq_false z]; exact beq_eq_false_iff_ne.mpr z
    | _ => simp_all [pyD, PyData.eqv, plD]
  | n + 1, .tup xs, m + 1, e, g, h => by
    cases e with
    | tup ys =>
      simp only [pyD, PyData.eqv]
      rw [eqv_pls n xs m ys (by simpa [plD] using g) (by simpa [plD] using h)]
      by_cases z : xs = ys
      · rw [decide_eq_true z, decide_eq_true (by rw [z])]
      · rw [decide_eq_false z, decide_eq_false fun q => z (D.tup.inj q)]
    | _ => simp_all [pyD, PyData.eqv, plD]
  | n + 1, .bl _, _, _, g, _ => by simp [plD] at g
  | n + 1, .loc _, _, _, g, _ => by simp [plD] at g
  | n + 1, .scr, _, _, g, _ => by simp [plD] at g
  | 0, _, _, _, g, _ => by simp [plD] at g
  | _, _, 0, _, _, h => by simp [plD] at h
theorem eqv_pls : ∀ (n : Nat) (xs : List D) (m : Nat) (ys : List D), plDs n xs = true → plDs m ys = true → PyData.eqvAll (pyDs xs) (pyDs ys) = decide (xs = ys)
  | _, [], _, [], _, _ => by simp [pyDs, PyData.eqvAll]
  | _, [], _, _ :: _, _, _ => by simp [pyDs, PyData.eqvAll]
  | _, _ :: _, _, [], _, _ => by simp [pyDs, PyData.eqvAll]
  | n, x :: xs, m, y :: ys, g, h => by
    rw [plDs, Bool.and_eq_true] at g h
    simp only [pyDs, PyData.eqvAll]
    rw [eqv_pl n x m y g.1 h.1, eqv_pls n xs m ys g.2 h.2, ← Bool.decide_and]
    simp only [List.cons.injEq]
end
mutual
theorem toPy_pl (st : Sto) : ∀ (n m : Nat) (d : D), n ≤ m → plD n d = true → toPy st m d = some (pyD d) ∧ PyData.canLay0 (pyD d) = true ∧ PyData.depth (pyD d) ≤ n
  | n + 1, m + 1, .non, _, _ => ⟨rfl, rfl, by simp [pyD, PyData.depth]⟩
  | n + 1, m + 1, .int i, _, _ => ⟨rfl, rfl, by simp [pyD, PyData.depth]⟩
  | n + 1, m + 1, .str x, _, h => ⟨rfl, (show PyData.canLay0 (.str x) = true from by simpa [plD] using h), by simp [pyD, PyData.depth]⟩
  | n + 1, m + 1, .tup xs, hm, h => by
    obtain ⟨h1, h2, h3⟩ := toPys_pl st n m xs (by omega) (by simpa [plD] using h)
    refine ⟨?_, by simpa [pyD, PyData.canLay0] using h2, by simp [pyD, PyData.depth]; omega⟩
    unfold toPy
    simp only [h1, Option.map_some, pyD]
  | n + 1, _, .bl _, _, g => by simp [plD] at g
  | n + 1, _, .loc _, _, g => by simp [plD] at g
  | n + 1, _, .scr, _, g => by simp [plD] at g
  | 0, _, _, _, g => by simp [plD] at g
  | n + 1, 0, _, hm, _ => by omega
theorem toPys_pl (st : Sto) : ∀ (n m : Nat) (xs : List D), n ≤ m → plDs n xs = true → toPys (toPy st m) xs = some (pyDs xs) ∧ PyData.canLayAll0 (pyDs xs) = true ∧ PyData.depthAll (pyDs xs) ≤ n
  | n, m, [], _, _ => ⟨rfl, rfl, by simp [pyDs, PyData.depthAll]⟩
  | n, m, x :: xs, hm, h => by
    rw [plDs, Bool.and_eq_true] at h
    obtain ⟨a1, a2, a3⟩ := toPy_pl st n m x hm h.1
    obtain ⟨b1, b2, b3⟩ := toPys_pl st n m xs hm h.2
    refine ⟨by unfold toPys; rw [a1, b1]; rfl, by simp [pyDs, PyData.canLayAll0, a2, b2], by simp [pyDs, PyData.depthAll]; omega⟩
end
theorem py_pl {n : Nat} {d : D} (hn : n ≤ 60) (h : plD n d = true) : py d = ret (pyD d) := by
  funext st
  unfold py
  rw [(toPy_pl st n 60 d hn h).1]
  rfl
theorem shaped_pl {n : Nat} {d : D} (hn : n ≤ 60) (h : plD n d = true) : SeqAt.shaped (pyD d) = true := by
  obtain ⟨_, h1, h2⟩ := toPy_pl [] n 60 d hn h
  unfold SeqAt.shaped
  rw [h1, decide_eq_true (show PyData.depth (pyD d) ≤ 64 by omega)]
  rfl
theorem opEq_pl {n m : Nat} {d e : D} (hn : n ≤ 60) (hm : m ≤ 60) (h1 : plD n d = true) (h2 : plD m e = true) : opEq d e = ret (.bl (decide (d = e))) := by
  unfold opEq
  by_cases hs : scD d e = true
  · rw [if_pos hs]
  · rw [if_neg hs, py_pl hn h1, py_pl hm h2]
    show (if (SeqAt.shaped (pyD d) && SeqAt.shaped (pyD e)) = true then _ else _) = _
    rw [if_pos (by rw [shaped_pl hn h1, shaped_pl hm h2]; rfl), eqv_pl n d m e h1 h2]
theorem opNe_pl {n m : Nat} {d e : D} (hn : n ≤ 60) (hm : m ≤ 60) (h1 : plD n d = true) (h2 : plD m e = true) : opNe d e = ret (.bl (!decide (d = e))) := by
  unfold opNe
  by_cases hs : scD d e = true
  · rw [if_pos hs]
  · rw [if_neg hs, py_pl hn h1, py_pl hm h2]
    show (if (SeqAt.shaped (pyD d) && SeqAt.shaped (pyD e)) = true then _ else _) = _
    rw [if_pos (by rw [shaped_pl hn h1, shaped_pl hm h2]; rfl), eqv_pl n d m e h1 h2]
end Pm
end
section
set_option Elab.async false
set_option linter.all false
set_option maxRecDepth 100000
namespace Pm
open PySem L2
theorem wp_lcMap {ok : Sto → Bool} {p : Pat} {e : ME} {ρ : En} {st : Sto} {Q : List D → Sto → Prop} (g : D → D) (xs : List D) (hok : ∀ s, Fr [] st s → ok s = true) (hl : xs.length ≤ 100000)
    (h : ∀ x ∈ xs, ∀ s, Fr [] st s → ∃ ρ1, bindP p x ρ = some ρ1 ∧ wp (e ρ1) s fun y s' => y = g x ∧ Fr [] s s') (q : ∀ st', Fr [] st st' → Q (xs.map g) st') : wp (lcL ok p yesT e ρ xs []) st Q := by
  refine wp_lcL (fun i a s => Fr [] st s ∧ i ≤ xs.length ∧ a = (xs.take i).map g) xs 0 [] st ⟨Fr.refl, Nat.zero_le _, by simp⟩ (fun j x a s hj ⟨fr, hi, ea⟩ => ⟨hok s fr, ?_⟩) fun a s ⟨fr, hi, ea⟩ => ⟨hok s fr, ?_⟩
  · have hj1 : j < xs.length := (List.getElem?_eq_some_iff.mp hj).1
    obtain ⟨ρ1, h1, h2⟩ := h x (List.mem_of_getElem? hj) s fr
    refine ⟨ρ1, h1, ?_⟩
    simp only [ap_yesT, wp_ret, if_true]
    refine wp_mono h2 fun y s' ⟨ey, fr'⟩ => ?_
    have tk : xs.take (0 + j + 1) = xs.take (0 + j) ++ [x] := by
      rw [Nat.zero_add, List.take_add_one, hj]; rfl
    exact ⟨Nat.lt_of_le_of_lt (show a.length ≤ 99999 by rw [ea]; simp; omega) (by rw [sizeLine_eq]; decide), fr.trans fr', by omega, by rw [tk, List.map_append, ea, ey]; rfl⟩
  · rw [ea]
    simp only [Nat.zero_add, List.take_length]
    exact q s fr
theorem blsOf_f (f : D → Bool) : ∀ xs : List D, blsOf (xs.map fun x => D.bl (f x)) = some (xs.map f)
  | [] => rfl
  | x :: xs => by simp [blsOf, blsOf_f f xs]
theorem wp_bAll_f {f : D → Bool} {xs : List D} {st : Sto} {Q : D → Sto → Prop} : wp (bAll [.loc st.length]) (st ++ [.lst (xs.map fun x => D.bl (f x))]) Q = Q (.bl (xs.all f)) (st ++ [.lst (xs.map fun x => D.bl (f x))]) := by
  show wp (bnd (lst st.length) _) _ Q = _
  rw [wp_bnd, wp_lst_new]
  simp [blsOf_f, List.all_map]
theorem py_lst {a l : Nat} {xs : List D} {st : Sto} (ha : a ≤ 50) (hl : st[l]? = some (.lst xs)) (h : plDs a xs = true) : py (.loc l) st = .ok (.list (pyDs xs)) st ∧ SeqAt.shaped (.list (pyDs xs)) = true := by
  obtain ⟨h1, h2, h3⟩ := toPys_pl st a 59 xs (by omega) h
  constructor
  · unfold py
    have e : toPy st 60 (.loc l) = some (.list (pyDs xs)) := by
      unfold toPy
      simp only [hl, h1, Option.map_some]
    rw [e]
  · unfold SeqAt.shaped
    rw [show PyData.canLay0 (.list (pyDs xs)) = true by simpa [PyData.canLay0] using h2, decide_eq_true (show PyData.depth (.list (pyDs xs)) ≤ 64 by simp [PyData.depth]; omega)]
    rfl
theorem wp_eqLL {a b l m : Nat} {xs ys : List D} {st : Sto} {Q : D → Sto → Prop} (ha : a ≤ 50) (hb : b ≤ 50) (hl : st[l]? = some (.lst xs)) (hm : st[m]? = some (.lst ys)) (h1 : plDs a xs = true) (h2 : plDs b ys = true) : wp (opEq (.loc l) (.loc m)) st Q = Q (.bl (decide (xs = ys))) st := by
  obtain ⟨e1, s1⟩ := py_lst ha hl h1
  obtain ⟨e2, s2⟩ := py_lst hb hm h2
  have e : opEq (.loc l) (.loc m) st = .ok (.bl (decide (xs = ys))) st := by
    show (bnd (py (.loc l)) fun p => bnd (py (.loc m)) fun q => if SeqAt.shaped p && SeqAt.shaped q then ret (D.bl (PyData.eqv p q)) else no) st = _
    unfold bnd
    simp only [e1, e2]
    rw [s1, s2]
    show (.ok (D.bl (PyData.eqv (.list (pyDs xs)) (.list (pyDs ys)))) st : Res D) = _
    simp only [PyData.eqv]
    rw [eqv_pls a xs b ys h1 h2]
  unfold wp
  rw [e]
end Pm
end
section
set_option Elab.async false
set_option linter.all false
set_option maxRecDepth 100000
namespace Pm
open PySem L2
theorem get_app {st g : Sto} {n : Nat} (k : Nat) (h : n = st.length + k) : (st ++ g)[n]? = g[k]? := by
  subst h
  rw [List.getElem?_append_right (by omega)]
  congr 1
  omega
theorem wp_extend {l m : Nat} {xs ys : List D} {st : Sto} {Q : D → Sto → Prop} (h : st[l]? = some (.lst xs)) (h2 : st[m]? = some (.lst ys)) (hn : xs.length + ys.length ≤ 100000) : wp (mExtend (.loc l) [.loc m]) st Q = Q .non (st.set l (.lst (xs ++ ys))) := by
  show wp (bnd (lst l) _) st Q = _
  rw [wp_bnd, wp_lst h, wp_bnd, wp_lst h2, if_pos (small_line hn)]
  simp
theorem wp_addL {l m : Nat} {xs ys : List D} {st : Sto} {Q : D → Sto → Prop} (h : st[l]? = some (.lst xs)) (h2 : st[m]? = some (.lst ys)) (hn : xs.length + ys.length ≤ 100000) : wp (opAdd (.loc l) (.loc m)) st Q = Q (.loc st.length) (st ++ [.lst (xs ++ ys)]) := by
  show wp (bnd (lst l) _) st Q = _
  rw [wp_bnd, wp_lst h, wp_bnd, wp_lst h2, if_pos (small_line hn)]
  simp
theorem rng1_ok {f : ME} {ρ : En} {n : Int} (h : f ρ = ret (.int n)) (h0 : -1000000 ≤ n ∧ n ≤ 1000000) : rng1 f ρ = ret (rngI 0 n) := by
  show (bnd (f ρ) fun d => match d with
    | .int j => if okR j then ret (rngI 0 j) else no
    | _ => no) = _
  rw [h]
  show (if okR n = true then ret (rngI 0 n) else no) = _
  rw [okR_small h0.1 h0.2, if_pos rfl]
/-- a statement that is not unfolded -/
structure Wp {α : Type} (m : M α) (st : Sto) (Q : α → Sto → Prop) : Prop where
  go : wp m st Q
theorem Wp.mono {α : Type} {m : M α} {st : Sto} {Q Q' : α → Sto → Prop} (h : Wp m st Q) (i : ∀ a st', Q a st' → Q' a st') : wp m st Q' := wp_mono h.go i
/-- pieces of a law: repr of one bool -/
theorem repr_bl (b : Bool) : ∃ t : Str, bRepr [.bl b] = ret (.str t) := (Sh.bl (b := b)).repr (by decide) (by decide)
end Pm
end
section
set_option Elab.async false
set_option linter.all false
set_option maxRecDepth 100000
namespace Pm
open PySem L2
/-! ### in of flat things -/
theorem eqV_str {a b : Str} : eqV (.str a) (.str b) = decide (a = b) := by
  show (a == b) = _
  by_cases h : a = b
  · subst h; simp
  · rw [decide_eq_false h]; exact beq_eq_false_iff_ne.mpr h
theorem eqV_int {a b : Int} : eqV (.int a) (.int b) = decide (a = b) := by
  show (a == b) = _
  by_cases h : a = b
  · subst h; simp
  · rw [decide_eq_false h]; exact beq_eq_false_iff_ne.mpr h
theorem inD_str (a : Str) : ∀ ls : List Str, inD (.str a) (ls.map .str) = decide (a ∈ ls)
  | [] => by simp [inD]
  | b :: ls => by
    have ih := inD_str a ls
    unfold inD at ih ⊢
    rw [List.map_cons, List.any_cons, ih]
    show (eqV (.str b) (.str a) || _) = _
    rw [eqV_str]
    by_cases h : b = a
    · subst h; simp
    · have h' : ¬ a = b := fun e => h e.symm
      simp [h, h']
theorem inD_int (a : Int) : ∀ ls : List Int, inD (.int a) (ls.map .int) = decide (a ∈ ls)
  | [] => by simp [inD]
  | b :: ls => by
    have ih := inD_int a ls
    unfold inD at ih ⊢
    rw [List.map_cons, List.any_cons, ih]
    show (eqV (.int b) (.int a) || _) = _
    rw [eqV_int]
    by_cases h : b = a
    · subst h; simp
    · have h' : ¬ a = b := fun e => h e.symm
      simp [h, h']
theorem flats_str (ls : List Str) : (ls.map D.str).all flatD = true := by
  rw [List.all_map, List.all_eq_true]
  intro _ _
  rfl
theorem flats_int (ls : List Int) : (ls.map D.int).all flatD = true := by
  rw [List.all_map, List.all_eq_true]
  intro _ _
  rfl
theorem opIn_strT {a : Str} {ls : List Str} : opIn (.str a) (.tup (ls.map .str)) = ret (.bl (decide (a ∈ ls))) := by
  show (if flatD (.str a) = true ∧ (ls.map D.str).all flatD = true then ret (D.bl (if false = true then !inD (.str a) (ls.map .str) else inD (.str a) (ls.map .str))) else no) = _
  rw [if_pos ⟨rfl, flats_str ls⟩, if_neg (by simp), inD_str]
theorem opNotIn_strT {a : Str} {ls : List Str} : opNotIn (.str a) (.tup (ls.map .str)) = ret (.bl (!decide (a ∈ ls))) := by
  show (if flatD (.str a) = true ∧ (ls.map D.str).all flatD = true then ret (D.bl (if true = true then !inD (.str a) (ls.map .str) else inD (.str a) (ls.map .str))) else no) = _
  rw [if_pos ⟨rfl, flats_str ls⟩, if_pos rfl, inD_str]
theorem opIn_intT {a : Int} {ls : List Int} : opIn (.int a) (.tup (ls.map .int)) = ret (.bl (decide (a ∈ ls))) := by
  show (if flatD (.int a) = true ∧ (ls.map D.int).all flatD = true then ret (D.bl (if false = true then !inD (.int a) (ls.map .int) else inD (.int a) (ls.map .int))) else no) = _
  rw [if_pos ⟨rfl, flats_int ls⟩, if_neg (by simp), inD_int]
theorem opNotIn_intT {a : Int} {ls : List Int} : opNotIn (.int a) (.tup (ls.map .int)) = ret (.bl (!decide (a ∈ ls))) := by
  show (if flatD (.int a) = true ∧ (ls.map D.int).all flatD = true then ret (D.bl (if true = true then !inD (.int a) (ls.map .int) else inD (.int a) (ls.map .int))) else no) = _
  rw [if_pos ⟨rfl, flats_int ls⟩, if_pos rfl, inD_int]
theorem wp_inL {a : Int} {ls : List Int} {l : Nat} {st : Sto} {Q : D → Sto → Prop} (h : st[l]? = some (.lst (ls.map .int))) : wp (opIn (.int a) (.loc l)) st Q = Q (.bl (decide (a ∈ ls))) st := by
  show wp (bnd (obj l) fun o => match o with
    | .lst xs => if flatD (.int a) = true ∧ xs.all flatD = true then ret (D.bl (if false = true then !inD (.int a) xs else inD (.int a) xs)) else no
    | .dct kvs => _
    | .ins _ _ => no) st Q = _
  rw [wp_bnd, wp_obj h]
  simp only
  rw [if_pos ⟨rfl, flats_int ls⟩, if_neg (by simp), inD_int]
  rfl
@[simp] theorem ap_zipI {f g : ME} {ρ : En} : zipI f g ρ = bnd (f ρ) fun d => bnd (g ρ) fun e => zipD d e := rfl
@[simp] theorem zipD_tup {xs ys : List D} : zipD (.tup xs) (.tup ys) = ret ⟨zipL xs ys, fun _ => true⟩ := rfl
@[simp] theorem wp_bSortX_new {ns : List Int} {st : Sto} {Q : D → Sto → Prop} : wp (bSortX [.loc st.length]) (st ++ [.lst (ns.map .int)]) Q = Q (.loc (st.length + 1)) (st ++ [.lst (ns.map .int)] ++ [.lst ((isort ns).map .int)]) := by
  show wp (bnd (lst st.length) srtX) _ Q = _
  rw [wp_bnd, wp_lst_new]
  unfold srtX
  simp only [intsOf_ints]
  simp
/-! ### all, any of a comprehension -/
theorem wp_bAny_f {f : D → Bool} {xs : List D} {st : Sto} {Q : D → Sto → Prop} : wp (bAny [.loc st.length]) (st ++ [.lst (xs.map fun x => D.bl (f x))]) Q = Q (.bl (xs.any f)) (st ++ [.lst (xs.map fun x => D.bl (f x))]) := by
  show wp (bnd (lst st.length) _) _ Q = _
  rw [wp_bnd, wp_lst_new]
  simp [blsOf_f, List.any_map]
theorem wp_allC {ok : Sto → Bool} {p : Pat} {e : ME} {ρ : En} {st : Sto} {Q : D → Sto → Prop} (f : D → Bool) (xs : List D) (hok : ∀ s, Fr [] st s → ok s = true) (hl : xs.length ≤ 100000)
    (h : ∀ x ∈ xs, ∀ s, Fr [] st s → ∃ ρ1, bindP p x ρ = some ρ1 ∧ wp (e ρ1) s fun y s' => y = .bl (f x) ∧ Fr [] s s') (q : ∀ st', Fr [] st st' → Q (.bl (xs.all f)) st') :
    wp (lcL ok p yesT e ρ xs []) st fun a st' => wp (bAll [.loc st'.length]) (st' ++ [.lst a]) Q :=
  wp_lcMap (fun x => .bl (f x)) xs hok hl h fun s1 r1 => by
    rw [wp_bAll_f]
    exact q _ (r1.trans (Fr.new _))
theorem wp_anyC {ok : Sto → Bool} {p : Pat} {e : ME} {ρ : En} {st : Sto} {Q : D → Sto → Prop} (f : D → Bool) (xs : List D) (hok : ∀ s, Fr [] st s → ok s = true) (hl : xs.length ≤ 100000)
    (h : ∀ x ∈ xs, ∀ s, Fr [] st s → ∃ ρ1, bindP p x ρ = some ρ1 ∧ wp (e ρ1) s fun y s' => y = .bl (f x) ∧ Fr [] s s') (q : ∀ st', Fr [] st st' → Q (.bl (xs.any f)) st') :
    wp (lcL ok p yesT e ρ xs []) st fun a st' => wp (bAny [.loc st'.length]) (st' ++ [.lst a]) Q :=
  wp_lcMap (fun x => .bl (f x)) xs hok hl h fun s1 r1 => by
    rw [wp_bAny_f]
    exact q _ (r1.trans (Fr.new _))
theorem Fr.setNew {S : List Nat} {st s : Sto} {i : Nat} {o : O} (f : Fr S st s) (h : st.length ≤ i) : Fr S st (s.set i o) :=
  ⟨by simpa using f.1, fun k hk n => by
    rw [List.getElem?_set_ne (by omega)]
    exact f.2 k hk n⟩
/-! ### some of a pool, taken one by one -/
def bSome (ns : List Int) (mt : List D → M D) : MS := (seqS (parS 3 4 (conA (appA (conA (rd 1) nilA) (bList ns)) (conA (lstE nilA) nilA))) (seqS (forS (rng1 (rd 2)) (.nm 5) (dropS (meth (rd 4) (conA (meth (rd 3) (conA (calE (conA (rd 0) (conA (appA (conA (rd 3) nilA) (bLen ns)) nilA)) (ofLen 2 mt)) nilA) mPopAt) nilA) mAppend))) (retS (rd 4))))
theorem perm_pick {α : Type} {f s xs : List α} {k : Nat} {x : α} (h : (f ++ s).Perm xs) (hk : s[k]? = some x) : ((f ++ [x]) ++ s.eraseIdx k).Perm xs := by
  refine List.Perm.trans ?_ h
  rw [List.append_assoc]
  refine List.Perm.append_left f ?_
  have hlt := (List.getElem?_eq_some_iff.mp hk).1
  have : s = s.take k ++ x :: s.drop (k + 1) := by
    have e := (List.getElem?_eq_some_iff.mp hk).2
    rw [← e, List.getElem_cons_drop hlt, List.take_append_drop]
  rw [List.eraseIdx_eq_take_drop_succ]
  conv => rhs; rw [this]
  exact (List.perm_middle (a := x) (l₁ := s.take k) (l₂ := s.drop (k + 1))).symm
theorem wp_popAt {l : Nat} {xs : List D} {p : Int} {y : D} {st : Sto} {Q : D → Sto → Prop} (h : st[l]? = some (.lst xs)) (hp : 0 ≤ p ∧ p < xs.length) (hl : xs.length ≤ 100000) (hy : xs[p.toNat]? = some y) : wp (mPopAt (.loc l) [.int p]) st Q = Q y (st.set l (.lst (xs.eraseIdx p.toNat))) := by
  have ei : ixN xs.length p = some p.toNat := by
    unfold ixN
    rw [if_pos hp.1, if_pos hp.2]
  unfold mPopAt
  rw [wp_bnd, wp_lst h, if_pos ⟨by omega, by omega⟩]
  simp only [ei, hy, wp_bnd, wp_put, wp_ret]
theorem some_spec {ns : List Int} {a b c d e : Int} {mt : List D → M D} (hm : mt = runB 5 (bTake ns a b c d e)) (sm : Small a b c d e) {l n k : Nat} {pool : D} {xs : List D} {st : Sto} {Q : D → Sto → Prop} (hp : Pot l n st) (hn : n + k ≤ 900000) (hpool : bList ns [pool] st = .ok (.loc st.length) (st ++ [.lst xs])) (hk : k ≤ xs.length) (hx : xs.length ≤ 1000)
    (q : ∀ ys r s', (ys ++ r).Perm xs → ys.length = k → Pot l (n + k) s' → Fr [l] st s' → st.length < s'.length → s'[st.length + 1]? = some (.lst ys) → Q (.loc (st.length + 1)) s') : wp (runB 6 (bSome ns mt) [.loc l, pool, .int k]) st Q := by
  have hlt := hp.lt
  have e1 : ∀ Q' : D → Sto → Prop, wp (bList ns [pool]) st Q' = Q' (.loc st.length) (st ++ [.lst xs]) := fun Q' => by
    unfold wp
    rw [hpool]
  unfold bSome
  simp only [runB_eq, startE]
  simp only [ap_seqS, wp_bnd, ap_forS]
  simp [e1]
  repeat refine ⟨small_line (by decide), ?_⟩
  refine ⟨okR_small (by omega) (by omega), ?_⟩
  simp only [rngI]
  refine wp_forL (fun i ρ s => (∃ v5, ρ = [some (.loc l), some pool, some (.int k), some (.loc st.length), some (.loc (st.length + 1)), v5]) ∧ i ≤ k ∧ ∃ f, f.length = i ∧ ∃ r, (f ++ r).Perm xs ∧ s[st.length]? = some (.lst r) ∧ s[st.length + 1]? = some (.lst f) ∧ Pot l (n + i) s ∧ Fr [l] st s) _ 0 _ _ ⟨⟨_, rfl⟩, by omega, [], rfl, xs, .refl _, by simp, by simp, hp.fr (S := []) (Fr.new _) (by simp) (by omega), Fr.new _⟩ (fun j x ρ s hj hI => ?_) fun ρ s hI => ?_
  · obtain ⟨⟨v5, rfl⟩, h1, f, h2, r, h3, h4, h5, h6, h7⟩ := hI
    have hjk : j < k := by
      have := (List.getElem?_eq_some_iff.mp hj).1
      simpa using this
    have hlr : r.length = xs.length - j := by
      have := h3.length_eq
      simp at this
      omega
    have hs : st.length + 1 < s.length := (List.getElem?_eq_some_iff.mp h5).1
    refine ⟨rfl, _, by simp; rfl, ?_⟩
    simp
    rw [wp_isL h5, wp_isL h4, wp_obj h4]
    simp
    rw [hm]
    refine take_spec sm h6 (by omega) (by omega) fun p s1 hp1 o1 f1 => ?_
    have g4 := f1.at h4 (by simp; omega)
    have g5 := f1.at h5 (by simp; omega)
    obtain ⟨y, hy⟩ : ∃ y, r[p.toNat]? = some y := ⟨r[p.toNat]'(by omega), by simp⟩
    rw [wp_popAt g4 ⟨hp1.1, hp1.2⟩ (by omega) hy]
    have g5' : (s1.set st.length (.lst (r.eraseIdx p.toNat)))[st.length + 1]? = some (.lst f) := by
      rw [List.getElem?_set_ne (by omega)]
      exact g5
    rw [wp_append g5' (by omega)]
    have hl1 : s.length ≤ s1.length := f1.1
    refine ⟨by omega, f ++ [y], by simp [h2], r.eraseIdx p.toNat, perm_pick h3 hy, ?_, ?_, ?_, ?_⟩
    · rw [List.getElem?_set_ne (by omega), List.getElem?_set_self (by omega)]
    · rw [List.getElem?_set_self (by simp; omega)]
    · have := (o1.fr (S := [st.length]) (n' := n + j + 1) (Fr.set (o := .lst (r.eraseIdx p.toNat))) (by simp; omega) (by omega)).fr (S := [st.length + 1]) (n' := n + (j + 1)) (Fr.set (o := .lst (f ++ [y]))) (by simp; omega) (by omega)
      exact this
    · exact ((h7.trans f1).setNew (by omega)).setNew (by omega)
  · obtain ⟨⟨v5, rfl⟩, h1, f, h2, r, h3, h4, h5, h6, h7⟩ := hI
    refine ⟨rfl, ?_⟩
    have hs : st.length + 1 < s.length := (List.getElem?_eq_some_iff.mp h5).1
    simp
    simp at h2 h6
    exact q f r s h3 h2 h6 h7 (by omega) h5
end Pm
end
section
set_option Elab.async false
set_option linter.all false
set_option maxRecDepth 100000
namespace Pm
open PySem L2
theorem wp_lcFil {ok : Sto → Bool} {p : Pat} {t : MT} {e : ME} {ρ : En} {st : Sto} {Q : List D → Sto → Prop} (g : D → Bool) (xs : List D) (hok : ∀ s, Fr [] st s → ok s = true) (hl : xs.length ≤ 100000)
    (h : ∀ x ∈ xs, ∀ s, Fr [] st s → ∃ ρ1, bindP p x ρ = some ρ1 ∧ wp (t ρ1) s fun k s' => k = g x ∧ Fr [] s s' ∧ wp (e ρ1) s' fun y s'' => y = x ∧ Fr [] s' s'') (q : ∀ st', Fr [] st st' → Q (xs.filter g) st') : wp (lcL ok p t e ρ xs []) st Q := by
  refine wp_lcL (fun i a s => Fr [] st s ∧ i ≤ xs.length ∧ a.length ≤ i ∧ a = (xs.take i).filter g) xs 0 [] st ⟨Fr.refl, Nat.zero_le _, Nat.le_refl _, by simp⟩ (fun j x a s hj ⟨fr, hi, hn, ea⟩ => ⟨hok s fr, ?_⟩) fun a s ⟨fr, hi, hn, ea⟩ => ⟨hok s fr, ?_⟩
  · have hj1 : j < xs.length := (List.getElem?_eq_some_iff.mp hj).1
    obtain ⟨ρ1, h1, h2⟩ := h x (List.mem_of_getElem? hj) s fr
    refine ⟨ρ1, h1, ?_⟩
    have tk : xs.take (0 + j + 1) = xs.take (0 + j) ++ [x] := by
      rw [Nat.zero_add, List.take_add_one, hj]; rfl
    refine wp_mono h2 fun k s' ⟨ek, fr', h3⟩ => ?_
    subst ek
    cases eg : g x with
    | false =>
      rw [if_neg (by simp)]
      exact ⟨fr.trans fr', by omega, by omega, by rw [tk, List.filter_append, ea]; simp [eg]⟩
    | true =>
      rw [if_pos rfl]
      refine wp_mono h3 fun y s'' ⟨ey, fr''⟩ => ⟨Nat.lt_of_le_of_lt (show a.length ≤ 99999 by omega) (by rw [sizeLine_eq]; decide), (fr.trans fr').trans fr'', by omega, by simp; omega, by rw [tk, List.filter_append, ea, ey]; simp [eg]⟩
  · rw [ea]
    simp only [Nat.zero_add, List.take_length]
    exact q s fr
theorem wp_notInL {a : Int} {ls : List Int} {l : Nat} {st : Sto} {Q : D → Sto → Prop} (h : st[l]? = some (.lst (ls.map .int))) : wp (opNotIn (.int a) (.loc l)) st Q = Q (.bl (!decide (a ∈ ls))) st := by
  show wp (bnd (obj l) fun o => match o with
    | .lst xs => if flatD (.int a) = true ∧ xs.all flatD = true then ret (D.bl (if true = true then !inD (.int a) xs else inD (.int a) xs)) else no
    | .dct kvs => _
    | .ins _ _ => no) st Q = _
  rw [wp_bnd, wp_obj h]
  simp only
  rw [if_pos ⟨rfl, flats_int ls⟩, if_pos trivial, inD_int]
  rfl
end Pm
end
section
set_option Elab.async false
set_option linter.all false
set_option maxRecDepth 100000
namespace Pm
open PySem L2
/-! ### methods of texts, places in the meanings -/
@[simp] theorem ap_met1 {fo fe : ME} {op : D → D → M D} {ρ : En} : met1 fo fe op ρ = bnd (fo ρ) fun o => bnd (isS o) fun _ => bnd (fe ρ) fun y => op o y := rfl
@[simp] theorem ap_met0 {fo : ME} {op : D → M D} {ρ : En} : met0 fo op ρ = bnd (fo ρ) fun o => bnd (isS o) fun _ => op o := rfl
@[simp] theorem ap_metT {fo fe : ME} {op : D → D → M D} {ρ : En} : metT fo fe op ρ = bnd (fo ρ) fun o => bnd (isTu o) fun _ => bnd (fe ρ) fun y => op o y := rfl
@[simp] theorem isS_str {a : Str} : isS (.str a) = ret () := rfl
@[simp] theorem isTu_tup {xs : List D} : isTu (.tup xs) = ret () := rfl
theorem bLen_str {ns : List Int} {y : Str} (h : y.length ≤ 100000) : bLen ns [.str y] = ret (.int y.length) := by
  show (if y.length ≤ sizeLine then ret (D.int y.length) else no) = _
  rw [if_pos (Nat.le_trans h (small_line (by decide)))]
theorem opRemP_str {a b : Str} (h : a.length ≤ 100000) : opRemP (.str a) (.str b) = ret (.str (Txt.removeprefix a b)) := by
  show (if a.length ≤ sizeLine then ret (D.str (Txt.removeprefix a b)) else no) = _
  rw [if_pos (Nat.le_trans h (small_line (by decide)))]
@[simp] theorem opStarts_str {a b : Str} : opStarts (.str a) (.str b) = ret (.bl (Txt.startswith a b)) := rfl
@[simp] theorem isi_str {T : String} {x : Str} : isi T (.str x) = ret (.bl (isT "str" T)) := rfl
@[simp] theorem ap_fldE {g : ME} {xs : List Str} {f : Str} {ρ : En} : fldE g xs f ρ = bnd (g ρ) (getF xs f) := rfl
@[simp] theorem ap_fldS {fo fv : ME} {xs : List Str} {f : Str} {ρ : En} : fldS fo fv xs f ρ = bnd (fv ρ) fun v => bnd (fo ρ) fun o => bnd (setF xs f o v) fun _ => ret (.nx, ρ) := rfl
@[simp] theorem ap_makE {x : Str} {n : Nat} {g : MA} {m : List D → M D} {ρ : En} : makE x n g m ρ = bnd (g ρ) (newO x n m) := rfl
@[simp] theorem ap_metE {fo : ME} {g : MA} {m : Str} {n : Nat} {alts : List (Str × (List D → M D))} {ρ : En} : metE fo g m n alts ρ = bnd (fo ρ) fun o => bnd (pickM alts m o) fun mm => bnd (g ρ) fun ds => if ds.length + 1 = n then mm (o :: ds) else no := rfl
end Pm
end
section
set_option Elab.async false
set_option linter.all false
set_option maxRecDepth 100000
namespace Lk15
open PySem L2 Pm
/-! ### words and their signs -/
/-- each sign of the word stands among the signs -/
def onlyB (sg w : Str) : Bool := !decide (w = "") && (signs w).all fun d => match d with
  | .str x => !(Builtin.Str.occurrences sg x 0 sg.length 1).isEmpty
  | _ => false
def inSg (sg : Str) : D → Bool
  | .str x => !(Builtin.Str.occurrences sg x 0 sg.length 1).isEmpty
  | _ => false
theorem p_has_only (ns : List Int) {sg w : Str} (hl : (signs w).length ≤ 1000) {st : Sto} {Q : D → Sto → Prop} (q : ∀ s, Fr [] st s → Q (.bl (onlyB sg w)) s) : wp (m_has_only ns [.str sg, .str w]) st Q := by
  simp [m_has_only, runB_eq, b_has_only, startE, opNe_str]
  by_cases e : w = ""
  · simp [e]
    have := q st Fr.refl
    simpa [onlyB, e] using this
  · simp [e, seqA]
    refine wp_allC (inSg sg) _ (fun _ _ => rfl) (by omega) (fun x hx s fr => ?_) fun s f => ?_
    · unfold signs at hx
      obtain ⟨k, _, rfl⟩ := List.mem_map.mp hx
      refine ⟨_, by simp; rfl, ?_⟩
      simp [wipeE]
      exact ⟨rfl, Fr.refl⟩
    · have := q s f
      unfold onlyB at this
      rw [decide_eq_false e] at this
      exact this
/-- a number as it is written -/
def writtenB (w : Str) (most : Int) : Bool := !decide (most < ((Txt.removeprefix w "-").length : Int)) && (onlyB "0123456789" (Txt.removeprefix w "-") && (decide (w = "0") || !Txt.startswith (Txt.removeprefix w "-") "0"))
/-- a word that may be looked at -/
structure okWd (w : Str) : Prop where
  len : w.length ≤ 1000
  cut : (Txt.removeprefix w "-").length ≤ 1000
theorem signs_len (w : Str) : (signs w).length = w.length := by
  unfold signs
  simp [Str.length]
theorem p_is_written (ns : List Int) {w : Str} {most : Int} (h : okWd w) {st : Sto} {Q : D → Sto → Prop} (q : ∀ s, Fr [] st s → Q (.bl (writtenB w most)) s) : wp (m_is_written ns [.str w, .int most]) st Q := by
  have h1 : w.length ≤ sizeLine := Nat.le_trans h.len (small_line (by decide))
  have h2 : (Txt.removeprefix w "-").length ≤ sizeLine := Nat.le_trans h.cut (small_line (by decide))
  simp [m_is_written, runB_eq, b_is_written, startE, opRemP_str (Nat.le_trans h.len (by decide)), bLen_str (Nat.le_trans h.cut (by decide)), k_FIGURES]
  by_cases hm : most < ((Txt.removeprefix w "-").length : Int)
  · simp [hm]
    have := q st Fr.refl
    simpa [writtenB, hm] using this
  · simp [hm]
    refine p_has_only ns (by rw [signs_len]; exact h.cut) fun s f => ?_
    by_cases ho : onlyB "0123456789" (Txt.removeprefix w "-") = true
    · simp [ho, opEq_str]
      have := q s f
      by_cases e : w = "0"
      · have e' : writtenB w most = true := by
          unfold writtenB
          rw [ho, decide_eq_false hm, decide_eq_true e]
          rfl
        rw [e'] at this
        simp [e]
        exact this
      · simp [e]
        simpa [writtenB, e, hm, ho] using this
    · have ho : onlyB "0123456789" (Txt.removeprefix w "-") = false := by simpa using ho
      simp [ho]
      have := q s f
      simpa [writtenB, hm, ho] using this
def figsB (w : Str) : Bool := writtenB w 2
theorem p_is_figures (ns : List Int) {w : Str} (h : okWd w) {st : Sto} {Q : D → Sto → Prop} (q : ∀ s, Fr [] st s → Q (.bl (figsB w)) s) : wp (m_is_figures ns [.str w]) st Q := by
  simp [m_is_figures, runB_eq, b_is_figures, startE]
  exact p_is_written ns h q
theorem inD_strs (w : Str) (ls : List Str) : inD (.str w) (ls.map .str) = decide (w ∈ ls) := by
  unfold inD
  induction ls with
  | nil => rfl
  | cons a l ih =>
    simp only [List.map_cons, List.any_cons, List.mem_cons]
    rw [ih]
    have : eqV (toV (D.str a)) (toV (D.str w)) = decide (w = a) := by
      show (a == w) = decide (w = a)
      by_cases e : w = a
      · subst e; simp
      · rw [decide_eq_false e]; exact beq_eq_false_iff_ne.mpr fun z => e z.symm
    rw [this]
    by_cases e : w = a <;> simp [e]
theorem flats_str (ls : List Str) : (ls.map D.str).all flatD = true := by
  rw [List.all_map]
  exact List.all_eq_true.mpr fun _ _ => rfl
theorem wp_inS {w : Str} {ls : List Str} {l : Nat} {st : Sto} {Q : D → Sto → Prop} (h : st[l]? = some (.lst (ls.map .str))) : wp (opIn (.str w) (.loc l)) st Q = Q (.bl (decide (w ∈ ls))) st := by
  show wp (bnd (obj l) fun o => match o with
    | .lst xs => if flatD (.str w) = true ∧ xs.all flatD = true then ret (D.bl (if false = true then !inD (.str w) xs else inD (.str w) xs)) else no
    | .dct kvs => _
    | .ins _ _ => no) st Q = _
  rw [wp_bnd, wp_obj h]
  simp only
  rw [if_pos ⟨rfl, flats_str ls⟩, inD_strs]
  rfl
/-- how many words a word stands before, None where it is no word -/
def partsB (names : List Str) (w : Str) : D := if figsB w || decide (w ∈ names) then .int 0 else (kd_PARTS.lookup w).getD .non
theorem p_parts_of (ns : List Int) {w : Str} (h : okWd w) {names : List Str} {l : Nat} {st : Sto} (hl : st[l]? = some (.lst (names.map .str))) {Q : D → Sto → Prop} (q : ∀ s, Fr [] st s → Q (partsB names w) s) : wp (m_parts_of ns [.str w, .loc l]) st Q := by
  simp [m_parts_of, runB_eq, b_parts_of, startE]
  refine p_is_figures ns h fun s f => ?_
  by_cases e : figsB w = true
  · simp [e]
    have := q s f
    simpa [partsB, e] using this
  · have e : figsB w = false := by simpa using e
    simp [e]
    rw [wp_inS (f.at hl (by simp))]
    simp
    have := q s f
    by_cases e2 : w ∈ names
    · simp [e2]
      simpa [partsB, e, e2] using this
    · simp [e2]
      have ec : cGet kd_PARTS (.str w) .non = ret ((kd_PARTS.lookup w).getD .non) := rfl
      rw [ec]
      simpa [partsB, e, e2] using this
end Lk15
end
section
set_option Elab.async false
set_option linter.all false
set_option maxRecDepth 100000
namespace Lk15
open PySem L2 Pm
def t_is_expression_2_3 (ns : List Int) : MS := (setS (.nm 2) (bin (lstE (conA (bin (kon (.int 1)) (bin (sli (rd 2) noP (som (rd 4)) (opSl ns)) (kon (.int 0)) (opBestD true)) opAdd) nilA)) (sli (rd 2) (som (rd 4)) noP (opSl ns)) opAdd))
def t_is_expression_2_2 (ns : List Int) : MS := (seqS (ifS (orT (tstB (bin (rd 4) (kon .non) opIs)) (tstB (bin (rd 4) (appA (conA (rd 2) nilA) (bLen ns)) opGt))) (retS (kon (.bl false))) nxS) (t_is_expression_2_3 ns))
def t_is_expression_2_1 (ns : List Int) : MS := (seqS (setS (.nm 4) (calE (conA (rd 3) (conA (rd 1) nilA)) (ofLen 2 (m_parts_of ns)))) (t_is_expression_2_2 ns))
def t_is_expression_3 (ns : List Int) : MS := (retS (andV (bin (appA (conA (rd 2) nilA) (bLen ns)) (kon (.int 1)) opEq) (bin (bin (rd 2) (kon (.int 0)) (opIx ns)) (kon (.int 10)) opLe)))
def t_is_expression_2 (ns : List Int) : MS := (seqS (forS (revA (rd 0)) (.nm 3) (t_is_expression_2_1 ns)) (t_is_expression_3 ns))
def t_is_expression_1 (ns : List Int) : MS := (seqS (setS (.nm 2) (lstE nilA)) (t_is_expression_2 ns))
theorem e_t_is_expression (ns : List Int) : b_is_expression ns = t_is_expression_1 ns := rfl
/-! ### expressions -/
def bestD (mx : Bool) : List Int → Int
  | [] => 0
  | a :: r => bestI mx r a
/-- one word more to the left; the depths of what stands behind it -/
def exStep (names : List Str) (ds : List Int) (w : Str) : Option (List Int) := match partsB names w with
  | .int m => if m ≤ ds.length then some ((1 + bestD true (cutD ds none (some m))) :: cutD ds (some m) none) else none
  | _ => none
def exRun (names : List Str) : List Str → List Int → Option (List Int)
  | [], ds => some ds
  | w :: r, ds => match exStep names ds w with
    | some ds' => exRun names r ds'
    | none => none
def exprB (names ws : List Str) : Bool := match exRun names ws.reverse [] with
  | some [d] => decide (d ≤ 10)
  | _ => false
theorem parts_form (names : List Str) (w : Str) : partsB names w = .non ∨ ∃ m : Int, 0 ≤ m ∧ m ≤ 3 ∧ partsB names w = .int m := by
  unfold partsB
  split
  · exact .inr ⟨0, by decide, by decide, rfl⟩
  · unfold kd_PARTS
    simp only [List.lookup_cons, List.lookup_nil]
    repeat' split
    all_goals first
      | exact .inl rfl
      | exact .inr ⟨_, by decide, by decide, rfl⟩
theorem wp_revL {l : Nat} {xs : List D} {st : Sto} {Q : Itm → Sto → Prop} (h : st[l]? = some (.lst xs)) : wp (revI (.loc l)) st Q = Q ⟨xs.reverse, fun st => decide (st[l]? = some (.lst xs))⟩ st := by
  show wp (bnd (lst l) _) st Q = _
  rw [wp_bnd, wp_lst h]
  rfl
theorem wp_sl {ns : List Int} {l : Nat} {xs : List D} {lo hi : Option Int} {st : Sto} {Q : D → Sto → Prop} (h : st[l]? = some (.lst xs)) : wp (opSl ns (.loc l) lo hi) st Q = Q (.loc st.length) (st ++ [.lst (cutD xs lo hi)]) := by
  show wp (bnd (lst l) fun xs => alloc (cutD xs lo hi)) st Q = _
  rw [wp_bnd, wp_lst h]
  rfl
theorem cut_map (ds : List Int) (lo hi : Option Int) : cutD (ds.map D.int) lo hi = (cutD ds lo hi).map D.int := by
  unfold cutD
  rw [List.length_map, List.map_take, List.map_drop]
theorem wp_bestD {mx : Bool} {l : Nat} {zs : List Int} {st : Sto} {Q : D → Sto → Prop} (h : st[l]? = some (.lst (zs.map .int))) : wp (opBestD mx (.loc l) (.int 0)) st Q = Q (.int (bestD mx zs)) st := by
  show wp (bnd (lst l) _) st Q = _
  rw [wp_bnd, wp_lst h]
  cases zs with
  | nil => rfl
  | cons a r => simp only [intsOf_ints]; rfl
theorem p_is_expression (ns : List Int) {ws names : List Str} (hw : ∀ w ∈ ws, okWd w) (hl : ws.length ≤ 100) {pw pn : Nat} {st : Sto} (h1 : st[pw]? = some (.lst (ws.map .str))) (h2 : st[pn]? = some (.lst (names.map .str))) {Q : D → Sto → Prop}
    (q : ∀ s, Fr [] st s → Q (.bl (exprB names ws)) s) : wp (m_is_expression ns [.loc pw, .loc pn]) st Q := by
  have e0 : m_is_expression ns = runB 5 (t_is_expression_1 ns) := rfl
  rw [e0]
  simp [runB_eq, startE, t_is_expression_1, t_is_expression_2, revA]
  have h1' : (st ++ [O.lst []])[pw]? = some (.lst (ws.map .str)) := (Fr.new (S := []) _).at h1 (by simp)
  rw [wp_revL h1']
  refine wp_forL (fun i ρ s => ∃ P ds, (∃ v3 v4, ρ = [some (.loc pw), some (.loc pn), some (.loc P), v3, v4]) ∧ i ≤ ws.length ∧ s[P]? = some (.lst (ds.map .int)) ∧ ds.length ≤ i ∧ exRun names (ws.reverse.drop i) ds = exRun names ws.reverse [] ∧ Fr [] st s) _ 0 _ _
    ⟨st.length, [], ⟨_, _, rfl⟩, by omega, by simp, by simp, by simp, Fr.new _⟩ (fun j x ρ s hj hI => ?_) fun ρ s hI => ?_
  · obtain ⟨P, ds, ⟨v3, v4, rfl⟩, hi, hP, hd, hE, f⟩ := hI
    rw [Nat.zero_add] at hi hd hE
    have hj1 : j < ws.reverse.length := by
      have := (List.getElem?_eq_some_iff.mp hj).1
      simpa using this
    have hx : x = .str ws.reverse[j] := by
      rw [← List.map_reverse, List.getElem?_map, List.getElem?_eq_getElem hj1] at hj
      simpa using hj.symm
    subst hx
    have hdr : ws.reverse.drop j = ws.reverse[j] :: ws.reverse.drop (j + 1) := List.drop_eq_getElem_cons hj1
    have hjw : j < ws.length := by simpa using hj1
    have hmem : ws.reverse[j] ∈ ws := List.mem_reverse.mp (List.getElem_mem hj1)
    rw [hdr] at hE
    generalize ws.reverse[j] = w at hE hmem
    refine ⟨decide_eq_true (f.at h1 (by simp)), _, by simp; rfl, ?_⟩
    simp [t_is_expression_2_1]
    refine p_parts_of ns (hw w hmem) (f.at h2 (by simp)) fun s1 f1 => ?_
    have g1 := f1.at hP (by simp)
    have none_ : exStep names ds w = none → Q (.bl false) s1 := fun e => by
      rw [exRun, e] at hE
      have := q s1 (f.trans f1)
      unfold exprB at this
      rw [← hE] at this
      exact this
    rcases parts_form names w with hp | ⟨m, hm0, hm3, hp⟩
    · rw [hp]
      have eI : opIs .non .non = ret (.bl true) := rfl
      simp [t_is_expression_2_2, eI]
      exact none_ (by unfold exStep; rw [hp])
    · rw [hp]
      have eI : opIs (.int m) .non = ret (.bl false) := rfl
      simp [t_is_expression_2_2, eI]
      rw [wp_obj g1]
      simp
      by_cases hlen : (ds.length : Int) < m
      · simp [hlen]
        exact none_ (by unfold exStep; rw [hp]; exact if_neg (by omega))
      · simp [hlen, t_is_expression_2_3]
        rw [wp_sl g1, cut_map]
        rw [wp_bestD (by simp; rfl)]
        simp
        refine ⟨small_line (by decide), ?_⟩
        have cl1 : ∀ lo hi, (cutD ds lo hi).length ≤ ds.length := fun lo hi => by
          unfold cutD
          simp
          omega
        have g2 : ((s1 ++ [O.lst ((cutD ds none (some m)).map .int)]) ++ [O.lst [D.int (1 + bestD true (cutD ds none (some m)))]])[P]? = some (.lst (ds.map .int)) := ((Fr.new (S := []) _).trans (Fr.new _)).at g1 (by simp)
        simp at g2
        rw [wp_sl g2, cut_map]
        rw [wp_addL (xs := [D.int (1 + bestD true (cutD ds none (some m)))]) (ys := (cutD ds (some m) none).map .int) (by simp) (by simp) (by have := cl1 (some m) none; simp; omega)]
        refine ⟨_, rfl, by omega, (1 + bestD true (cutD ds none (some m))) :: cutD ds (some m) none, by simp, ?_, ?_, ?_⟩
        · have := cl1 (some m) none
          have h3 : (cutD ds (some m) none).length ≤ j := by omega
          simp
          omega
        · rw [exRun] at hE
          rw [← hE]
          have e : exStep names ds w = some ((1 + bestD true (cutD ds none (some m))) :: cutD ds (some m) none) := by
            unfold exStep
            rw [hp]
            exact if_pos (by omega)
          rw [e]
        · exact ((f.trans f1).trans (Fr.new _)).trans ((Fr.new _).trans (Fr.new _))
  · obtain ⟨P, ds, ⟨v3, v4, rfl⟩, hi, hP, hd, hE, f⟩ := hI
    refine ⟨decide_eq_true (f.at h1 (by simp)), ?_⟩
    simp [t_is_expression_3]
    rw [wp_obj hP]
    simp [opEq_int]
    have hnil : ws.reverse.drop (0 + (List.map D.str ws).reverse.length) = [] := List.drop_eq_nil_of_le (by simp)
    rw [hnil, exRun] at hE
    have hq := q s f
    unfold exprB at hq
    rw [← hE] at hq
    by_cases hone : ds.length = 1
    · obtain ⟨d, rfl⟩ := List.length_eq_one_iff.mp hone
      simp at hq ⊢
      rw [opIx_loc, wp_bnd, wp_obj hP]
      simp [atI, ixN]
      exact hq
    · have hone' : ¬ ((ds.length : Nat) : Int) = 1 := by omega
      rw [if_neg hone', decide_eq_false hone']
      match ds, hone, hq with
      | [], _, hq => exact hq
      | [d], h, _ => exact absurd rfl h
      | d :: e :: r, _, hq => exact hq
end Lk15
end
section
set_option Elab.async false
set_option linter.all false
set_option maxRecDepth 100000
namespace Lk15
open PySem L2 Pm
def t_is_new_name_2 (ns : List Int) : MS := (retS (andV (bin (rd 0) (kon k_LINE_WORDS) opNotIn) (andV (una (rd 0) (cIn true kd_PARTS)) (bin (rd 0) (rd 1) opNotIn))))
def t_is_new_name_1 (ns : List Int) : MS := (seqS (ifS (orT (tstB (bin (appA (conA (rd 0) nilA) (bLen ns)) (kon (.int 6)) opGt)) (orT (notT (tstV (calE (conA (bin (kon k_LETTERS) (kon k_FIGURES) opAdd) (conA (rd 0) nilA)) (ofLen 2 (m_has_only ns))))) (tstB (bin (bin (rd 0) (kon (.int 0)) (opIx ns)) (kon k_FIGURES) opIn)))) (retS (kon (.bl false))) nxS) (t_is_new_name_2 ns))
theorem e_t_is_new_name (ns : List Int) : b_is_new_name ns = t_is_new_name_1 ns := rfl
def t_is_let_line_2 (ns : List Int) : MS := (retS (andV (calE (conA (bin (rd 0) (kon (.int 1)) (opIx ns)) (conA (rd 1) nilA)) (ofLen 2 (m_is_new_name ns))) (calE (conA (sli (rd 0) (som (kon (.int 2))) noP (opSl ns)) (conA (rd 1) nilA)) (ofLen 2 (m_is_expression ns)))))
def t_is_let_line_1 (ns : List Int) : MS := (seqS (ifS (orT (tstB (bin (appA (conA (rd 0) nilA) (bLen ns)) (kon (.int 2)) opLtX)) (tstB (bin (appA (conA (rd 1) nilA) (bLen ns)) (kon (.int 6)) opEq))) (retS (kon (.bl false))) nxS) (t_is_let_line_2 ns))
theorem e_t_is_let_line (ns : List Int) : b_is_let_line ns = t_is_let_line_1 ns := rfl
def t_can_stand_4 (ns : List Int) : MS := (retS (calE (conA (sli (rd 0) (som (kon (.int 1))) noP (opSl ns)) (conA (rd 1) nilA)) (ofLen 2 (m_is_expression ns))))
def t_can_stand_3 (ns : List Int) : MS := (seqS (ifS (tstB (bin (bin (rd 0) (kon (.int 0)) (opIx ns)) (kon (.str "let")) opEq)) (retS (calE (conA (rd 0) (conA (rd 1) nilA)) (ofLen 2 (m_is_let_line ns)))) nxS) (t_can_stand_4 ns))
def t_can_stand_2 (ns : List Int) : MS := (seqS (ifS (tstB (bin (bin (rd 0) (kon (.int 0)) (opIx ns)) (kon (.str "marks")) opEq)) (retS (andV (bin (appA (conA (rd 0) nilA) (bLen ns)) (kon (.int 2)) opEq) (bin (bin (rd 0) (kon (.int 1)) (opIx ns)) (tupE (conA (kon (.str "1")) (conA (kon (.str "2")) (conA (kon (.str "3")) (conA (kon (.str "4")) nilA))))) opIn))) nxS) (t_can_stand_3 ns))
def t_can_stand_1 (ns : List Int) : MS := (seqS (ifS (tstB (bin (appA (conA (rd 0) nilA) (bLen ns)) (kon (.int 40)) opGt)) (retS (kon (.bl false))) nxS) (t_can_stand_2 ns))
theorem e_t_can_stand (ns : List Int) : b_can_stand ns = t_can_stand_1 ns := rfl
/-! ### names, lines -/
def LW : List Str := ["marks", "let", "step", "mark"]
def sign0 (w : Str) : Str := ⟨#[w.cps.toList.headD 0]⟩
def nameB (names : List Str) (w : Str) : Bool := !decide (6 < (w.length : Int)) && (onlyB "abcdefghijklmnopqrstuvwxyz0123456789" w && (!(!(Builtin.Str.occurrences "0123456789" (sign0 w) 0 ("0123456789" : Str).length 1).isEmpty) && (!decide (w ∈ LW) && (!(kd_PARTS.lookup w).isSome && !decide (w ∈ names)))))
theorem cat_signs : opAdd k_LETTERS k_FIGURES = ret (.str "abcdefghijklmnopqrstuvwxyz0123456789") := by
  have e : (("abcdefghijklmnopqrstuvwxyz" : Str) ++ ("0123456789" : Str)) = ("abcdefghijklmnopqrstuvwxyz0123456789" : Str) := by decide +kernel
  show (if ("abcdefghijklmnopqrstuvwxyz" : Str).length + ("0123456789" : Str).length ≤ sizeLine then ret (D.str (("abcdefghijklmnopqrstuvwxyz" : Str) ++ ("0123456789" : Str))) else no) = _
  rw [e, if_pos (Nat.le_trans (show ("abcdefghijklmnopqrstuvwxyz" : Str).length + ("0123456789" : Str).length ≤ 100 by decide +kernel) (small_line (by decide)))]
theorem wp_notInS {w : Str} {ls : List Str} {l : Nat} {st : Sto} {Q : D → Sto → Prop} (h : st[l]? = some (.lst (ls.map .str))) : wp (opNotIn (.str w) (.loc l)) st Q = Q (.bl (!decide (w ∈ ls))) st := by
  show wp (bnd (obj l) fun o => match o with
    | .lst xs => if flatD (.str w) = true ∧ xs.all flatD = true then ret (D.bl (if true = true then !inD (.str w) xs else inD (.str w) xs)) else no
    | .dct kvs => _
    | .ins _ _ => no) st Q = _
  rw [wp_bnd, wp_obj h]
  simp only
  rw [if_pos ⟨rfl, flats_str ls⟩, if_pos trivial, inD_strs]
  rfl
theorem inT_strs (w : Str) (ls : List Str) : opIn (.str w) (.tup (ls.map .str)) = ret (.bl (decide (w ∈ ls))) := by
  show (if flatD (.str w) = true ∧ (ls.map D.str).all flatD = true then ret (D.bl (if false = true then !inD (.str w) (ls.map .str) else inD (.str w) (ls.map .str))) else no) = _
  rw [if_pos ⟨rfl, flats_str ls⟩, inD_strs]
  rfl
theorem notInT_strs (w : Str) (ls : List Str) : opNotIn (.str w) (.tup (ls.map .str)) = ret (.bl (!decide (w ∈ ls))) := by
  show (if flatD (.str w) = true ∧ (ls.map D.str).all flatD = true then ret (D.bl (if true = true then !inD (.str w) (ls.map .str) else inD (.str w) (ls.map .str))) else no) = _
  rw [if_pos ⟨rfl, flats_str ls⟩, inD_strs]
  rfl
theorem ix_sign {ns : List Int} {w : Str} (h : w.length ≤ 1000) (hne : w.length ≠ 0) : opIx ns (.str w) (.int 0) = ret (.str (sign0 w)) := by
  show (if w.length ≤ sizeLine then ofO ((atI w.cps.toList 0).map fun k => D.str ⟨#[k]⟩) else no) = _
  rw [if_pos (Nat.le_trans h (small_line (by decide)))]
  have hl : 0 < w.cps.toList.length := by
    have : w.cps.toList.length = w.length := by simp [Str.length]
    omega
  unfold sign0
  cases e : w.cps.toList with
  | nil => rw [e] at hl; simp at hl
  | cons a r => simp [atI, ixN]
theorem p_is_new_name (ns : List Int) {w : Str} {names : List Str} (hl : w.length ≤ 1000) (hne : w.length ≠ 0) {pn : Nat} {st : Sto} (h2 : st[pn]? = some (.lst (names.map .str))) {Q : D → Sto → Prop} (q : ∀ s, Fr [] st s → Q (.bl (nameB names w)) s) : wp (m_is_new_name ns [.str w, .loc pn]) st Q := by
  have e0 : m_is_new_name ns = runB 2 (t_is_new_name_1 ns) := rfl
  rw [e0]
  simp [runB_eq, startE, t_is_new_name_1, bLen_str (show w.length ≤ 100000 by omega)]
  by_cases h6 : 6 < (w.length : Int)
  · simp [h6]
    have := q st Fr.refl
    simpa [nameB, h6] using this
  · simp [h6, cat_signs]
    refine p_has_only ns (by rw [signs_len]; exact hl) fun s f => ?_
    have hq := q s f
    by_cases ho : onlyB "abcdefghijklmnopqrstuvwxyz0123456789" w = true
    · have eS : opIn (.str (sign0 w)) (.str "0123456789") = ret (.bl (!(Builtin.Str.occurrences "0123456789" (sign0 w) 0 ("0123456789" : Str).length 1).isEmpty)) := rfl
      unfold nameB at hq
      rw [ho, decide_eq_false h6] at hq
      generalize (!(Builtin.Str.occurrences "0123456789" (sign0 w) 0 ("0123456789" : Str).length 1).isEmpty) = fb at eS hq
      simp [ho, ix_sign hl hne, k_FIGURES]
      rw [eS]
      cases fb with
      | true =>
        simp at hq ⊢
        exact hq
      | false =>
        have eL : opNotIn (.str w) k_LINE_WORDS = ret (.bl (!decide (w ∈ LW))) := notInT_strs w LW
        have eC : cIn true kd_PARTS (.str w) = ret (.bl (!(kd_PARTS.lookup w).isSome)) := rfl
        simp [t_is_new_name_2, eL]
        by_cases e1 : w ∈ LW
        · simp [e1] at hq ⊢
          exact hq
        · simp [e1, eC] at hq ⊢
          cases e2 : kd_PARTS.lookup w with
          | some d =>
            simp [e2] at hq ⊢
            exact hq
          | none =>
            simp [e2] at hq ⊢
            rw [wp_notInS (f.at h2 (by simp))]
            exact hq
    · have ho : onlyB "abcdefghijklmnopqrstuvwxyz0123456789" w = false := by simpa using ho
      simp [ho]
      simpa [nameB, h6, ho] using hq
theorem wp_lenL {ns : List Int} {l : Nat} {xs : List D} {st : Sto} {Q : D → Sto → Prop} (h : st[l]? = some (.lst xs)) : wp (bLen ns [.loc l]) st Q = Q (.int xs.length) st := by
  show wp (bnd (obj l) _) st Q = _
  rw [wp_bnd, wp_obj h]
  rfl
theorem wp_ixL {ns : List Int} {l : Nat} {xs : List D} {i : Int} {st : Sto} {Q : D → Sto → Prop} (h : st[l]? = some (.lst xs)) : wp (opIx ns (.loc l) (.int i)) st Q = wp (ofO (atI xs i)) st Q := by
  rw [opIx_loc, wp_bnd, wp_obj h]
theorem cut_from (xs : List D) (k : Nat) : cutD xs (some (k : Int)) none = xs.drop k := by
  unfold cutD
  rw [HT.sIx_none, HT.sIx_nat]
  by_cases h : k ≤ xs.length
  · rw [Nat.min_eq_left h]
    rw [List.take_of_length_le (by simp)]
  · rw [Nat.min_eq_right (by omega), List.drop_length, List.drop_eq_nil_of_le (show xs.length ≤ k by omega)]
    simp
structure okWN (w : Str) : Prop extends okWd w where
  ne : w.length ≠ 0
def letB (names ws : List Str) : Bool := !decide ((ws.length : Int) < 2) && (!decide ((names.length : Int) = 6) && (nameB names (ws.getD 1 "") && exprB names (ws.drop 2)))
theorem p_is_let_line (ns : List Int) {ws names : List Str} (hw : ∀ w ∈ ws, okWN w) (hl : ws.length ≤ 100) {pw pn : Nat} {st : Sto} (h1 : st[pw]? = some (.lst (ws.map .str))) (h2 : st[pn]? = some (.lst (names.map .str))) {Q : D → Sto → Prop}
    (q : ∀ s, Fr [] st s → Q (.bl (letB names ws)) s) : wp (m_is_let_line ns [.loc pw, .loc pn]) st Q := by
  have e0 : m_is_let_line ns = runB 2 (t_is_let_line_1 ns) := rfl
  rw [e0]
  simp [runB_eq, startE, t_is_let_line_1]
  rw [wp_obj h1]
  simp [opLtX_int]
  by_cases h2' : (ws.length : Int) < 2
  · simp [h2']
    have := q st Fr.refl
    simpa [letB, h2'] using this
  · simp [h2']
    rw [wp_obj h2]
    simp [opEq_int]
    by_cases h6 : (names.length : Int) = 6
    · simp [h6]
      have := q st Fr.refl
      simpa [letB, h6] using this
    · simp [h6, t_is_let_line_2]
      obtain ⟨w0, w1, r, rfl⟩ : ∃ a b r, ws = a :: b :: r := by
        match ws, h2' with
        | [], h => simp at h
        | [_], h => simp at h
        | a :: b :: r, _ => exact ⟨a, b, r, rfl⟩
      have hw1 := hw w1 (by simp)
      rw [wp_ixL h1]
      simp [atI, ixN]
      rw [if_pos (show (1 : Int) < (r.length : Int) + 1 + 1 by omega)]
      simp
      refine p_is_new_name ns hw1.len hw1.ne h2 fun s f => ?_
      have hq := q
      unfold letB at hq
      rw [decide_eq_false h2', decide_eq_false h6] at hq
      simp at hq ⊢
      by_cases hn : nameB names w1 = true
      · simp [hn] at hq ⊢
        rw [wp_sl (f.at h1 (by simp)), show (some (2 : Int)) = some ((2 : Nat) : Int) from rfl, cut_from]
        refine p_is_expression ns (ws := r) (fun w h => (hw w (by simp [h])).tookWd) (by simp at hl; omega) (by simp) ((Fr.new (S := []) _).at (f.at h2 (by simp)) (by simp)) fun s2 f2 => ?_
        exact hq s2 ((f.trans (Fr.new _)).trans f2)
      · have hn : nameB names w1 = false := by simpa using hn
        simp [hn] at hq ⊢
        exact hq s f
end Lk15
end
section
set_option Elab.async false
set_option linter.all false
set_option maxRecDepth 100000
namespace Lk15
open PySem L2 Pm
def canB (names ws : List Str) : Bool := !decide (40 < (ws.length : Int)) && (if ws.headD "" = "marks" then decide ((ws.length : Int) = 2) && decide (ws.getD 1 "" ∈ (["1", "2", "3", "4"] : List Str)) else if ws.headD "" = "let" then letB names ws else exprB names (ws.drop 1))
theorem p_can_stand (ns : List Int) {ws names : List Str} (hw : ∀ w ∈ ws, okWN w) (hl : ws.length ≤ 100) (hne : ws ≠ []) {pw pn : Nat} {st : Sto} (h1 : st[pw]? = some (.lst (ws.map .str))) (h2 : st[pn]? = some (.lst (names.map .str))) {Q : D → Sto → Prop}
    (q : ∀ s, Fr [] st s → Q (.bl (canB names ws)) s) : wp (m_can_stand ns [.loc pw, .loc pn]) st Q := by
  have e0 : m_can_stand ns = runB 2 (t_can_stand_1 ns) := rfl
  rw [e0]
  obtain ⟨w0, r, rfl⟩ : ∃ a r, ws = a :: r := by
    cases ws with
    | nil => exact absurd rfl hne
    | cons a r => exact ⟨a, r, rfl⟩
  simp [runB_eq, startE, t_can_stand_1]
  rw [wp_obj h1]
  simp
  have hq := q
  unfold canB at hq
  by_cases h40 : (40 : Int) < (r.length : Int) + 1
  · simp [h40] at hq ⊢
    exact hq st Fr.refl
  · simp [h40] at hq ⊢
    simp [t_can_stand_2]
    rw [wp_ixL h1]
    simp [atI, ixN]
    simp [opEq_str]
    by_cases hm : w0 = "marks"
    · simp [hm] at hq ⊢
      rw [wp_obj h1]
      simp [opEq_int]
      by_cases hr : (r.length : Int) + 1 = 2
      · obtain ⟨w1, rfl⟩ : ∃ b, r = [b] := List.length_eq_one_iff.mp (by omega)
        have e4 : opIn (.str w1) (.tup ((["1", "2", "3", "4"] : List Str).map .str)) = ret (.bl (decide (w1 ∈ (["1", "2", "3", "4"] : List Str)))) := inT_strs _ _
        simp at e4 hq ⊢
        rw [wp_ixL h1]
        simp [atI, ixN]
        refine ⟨small_line (by decide), ?_⟩
        rw [e4]
        exact hq st Fr.refl
      · simp [hr] at hq ⊢
        exact hq st Fr.refl
    · simp [hm] at hq ⊢
      simp [t_can_stand_3]
      rw [wp_ixL h1]
      simp [atI, ixN]
      simp [opEq_str]
      by_cases hL : w0 = "let"
      · subst hL
        simp at hq ⊢
        exact p_is_let_line ns hw hl h1 h2 fun s f => hq s f
      · simp [hL, t_can_stand_4] at hq ⊢
        rw [wp_sl h1, show (some (1 : Int)) = some ((1 : Nat) : Int) from rfl, cut_from]
        refine p_is_expression ns (ws := r) (fun w h => (hw w (by simp [h])).tookWd) (by simp at hl; omega) (by simp) ((Fr.new (S := []) _).at h2 (by simp)) fun s2 f2 => ?_
        exact hq s2 ((Fr.new _).trans f2)
end Lk15
end
section
set_option Elab.async false
set_option linter.all false
set_option maxRecDepth 100000
namespace Lk15
open PySem L2 Pm
def t_awaited_behind_2 (ns : List Int) : MS := (retS (ifE (tstB (bin (rd 0) (kon (.str "step")) opEq)) (tupE (conA (kon (.str "mark")) nilA)) (tupE nilA)))
def t_awaited_behind_1 (ns : List Int) : MS := (seqS (ifS (tstB (bin (rd 0) (tupE (conA (kon (.str "marks")) (conA (kon (.str "let")) nilA))) opIn)) (retS (tupE (conA (kon (.str "let")) (conA (kon (.str "step")) nilA)))) nxS) (t_awaited_behind_2 ns))
theorem e_t_awaited_behind (ns : List Int) : b_awaited_behind ns = t_awaited_behind_1 ns := rfl
def t_read_expression_1 (ns : List Int) : MS := (retS (appA (conA (lcE (iterA (rd 0)) (.nm 1) yesT (ifE (tstV (calE (conA (rd 1) nilA) (ofLen 1 (m_is_figures ns)))) (appA (conA (rd 1) nilA) bIntX) (rd 1)) [1]) nilA) bTuple))
theorem e_t_read_expression (ns : List Int) : b_read_expression ns = t_read_expression_1 ns := rfl
/-! ### what is awaited; words read -/
def awF (w : Str) : List Str := if w ∈ (["marks", "let"] : List Str) then ["let", "step"] else if w = "step" then ["mark"] else []
theorem e_awaited (ns : List Int) (w : Str) : m_awaited_behind ns [.str w] = ret (.tup ((awF w).map .str)) := by
  have e0 : m_awaited_behind ns = runB 1 (t_awaited_behind_1 ns) := rfl
  have e1 : opIn (.str w) (.tup ((["marks", "let"] : List Str).map .str)) = ret (.bl (decide (w ∈ (["marks", "let"] : List Str)))) := inT_strs _ _
  have z : ∀ k, k ≤ 10 → k ≤ sizeLine := fun k h => Nat.le_trans h (small_line (by decide))
  rw [e0]
  simp only [List.map_cons, List.map_nil] at e1
  simp [runB_eq, startE, t_awaited_behind_1, z 2 (by decide), z 1 (by decide), e1, awF]
  by_cases h : w = "marks" ∨ w = "let"
  · simp [h]
  · simp [h, t_awaited_behind_2, opEq_str, z 1 (by decide)]
    by_cases h2 : w = "step" <;> simp [h2]
structure okWX (w : Str) : Prop extends okWN w where
  short : w.length ≤ 600
  num : figsB w = true → (PySem.intText? w).isSome = true
/-- a word, as it is kept -/
def keptD (w : Str) : D := if figsB w then .int ((PySem.intText? w).getD 0) else .str w
theorem p_read_expression (ns : List Int) {ws : List Str} (hw : ∀ w ∈ ws, okWX w) (hl : ws.length ≤ 100) {pw : Nat} {st : Sto} (h1 : st[pw]? = some (.lst (ws.map .str))) {Q : D → Sto → Prop} (q : ∀ s, Fr [] st s → Q (.tup (ws.map keptD)) s) : wp (m_read_expression ns [.loc pw]) st Q := by
  have e0 : m_read_expression ns = runB 2 (t_read_expression_1 ns) := rfl
  rw [e0]
  simp [runB_eq, startE, t_read_expression_1]
  rw [wp_seqA h1]
  refine wp_lcMap (fun d => match d with
    | .str w => keptD w
    | d => d) _ (fun s fr => decide_eq_true (fr.at h1 (by simp))) (by simp; omega) (fun x hx s fr => ?_) fun s f => ?_
  · obtain ⟨w, hw', rfl⟩ := List.mem_map.mp hx
    have hx := hw w hw'
    refine ⟨_, by simp; rfl, ?_⟩
    simp [wipeE]
    refine p_is_figures ns hx.tookWd fun s1 f1 => ?_
    by_cases e : figsB w = true
    · obtain ⟨n, hn⟩ := Option.isSome_iff_exists.mp (hx.num e)
      have eI : bIntX [.str w] = ret (.int n) := by
        show (match PySem.intText? w with
          | some n => if w.length ≤ 640 then ret (D.int n) else no
          | none => no) = _
        rw [hn]
        exact if_pos (by have := hx.short; omega)
      simp [e, eI, keptD, hn]
      exact f1
    · have e : figsB w = false := by simpa using e
      simp [e, keptD]
      exact f1
  · have e1 : (ws.map D.str).map (fun d => match d with
      | .str w => keptD w
      | d => d) = ws.map keptD := by
      rw [List.map_map]
      rfl
    rw [e1]
    exact q _ (f.trans (Fr.new _))
end Lk15
end
section
set_option Elab.async false
set_option linter.all false
set_option maxRecDepth 100000
namespace Lk15
open PySem L2 Pm TL
/-! ### the text of a program -/
def textL (ls : List (List Str)) : Str := Txt.join "\n" (ls.map (Txt.join " "))
/-- words of lines: without spaces, without line ends -/
def plainW (w : Str) : Prop := 32 ∉ tl w ∧ 10 ∉ tl w
theorem tl_nl : tl ("\n" : Str) = [10] := by decide +kernel
theorem tl_sp : tl (" " : Str) = [32] := by decide +kernel
theorem line_words {ws : List Str} (hne : ws ≠ []) (h : ∀ w ∈ ws, plainW w) : Txt.split (Txt.join " " ws) " " = ws :=
  split_join (s := 32) (S := []) tl_sp (by decide +kernel) hne fun w hw => (h w hw).1
theorem mem_joinL {S : List Nat} {k : Nat} (hk : k ∉ S) : ∀ {ps : List (List Nat)}, (∀ p ∈ ps, k ∉ p) → k ∉ joinL S ps
  | [], _ => by simp [joinL]
  | [p], h => by
    show k ∉ p
    exact h p (by simp)
  | p :: q :: r, h => by
    show k ∉ p ++ (S ++ joinL S (q :: r))
    have ih := mem_joinL (S := S) hk (ps := q :: r) fun z hz => h z (by simp at hz ⊢; exact .inr hz)
    simp only [List.mem_append, not_or]
    exact ⟨h p (by simp), hk, ih⟩
theorem line_no_nl {ws : List Str} (h : ∀ w ∈ ws, plainW w) : 10 ∉ tl (Txt.join " " ws) := by
  rw [join_eq, tl_join, tl_sp]
  refine mem_joinL (by decide) fun p hp => ?_
  obtain ⟨w, hw, rfl⟩ := List.mem_map.mp hp
  exact (h w hw).2
theorem text_lines {ls : List (List Str)} (hne : ls ≠ []) (h : ∀ l ∈ ls, ∀ w ∈ l, plainW w) : Txt.split (textL ls) "\n" = ls.map (Txt.join " ") :=
  split_join (s := 10) (S := []) tl_nl (by decide +kernel) (fun e => hne (List.map_eq_nil_iff.mp e)) fun p hp => by
    obtain ⟨l, hl, rfl⟩ := List.mem_map.mp hp
    exact line_no_nl (h l hl)
end Lk15
end
section
set_option Elab.async false
set_option linter.all false
set_option maxRecDepth 100000
namespace Lk15
open PySem L2 Pm TL
def t_read_lines_5_3 (ns : List Int) : MS := (setS (.nm 3) (calE (conA (bin (rd 5) (kon (.int 0)) (opIx ns)) nilA) (ofLen 1 (m_awaited_behind ns))))
def t_read_lines_5_2 (ns : List Int) : MS := (seqS (ifS (tstB (bin (bin (rd 5) (kon (.int 0)) (opIx ns)) (kon (.str "let")) opEq)) (dropS (meth (rd 2) (conA (bin (rd 5) (kon (.int 1)) (opIx ns)) nilA) mAppend)) nxS) (t_read_lines_5_3 ns))
def t_read_lines_5_1 (ns : List Int) : MS := (seqS (ifS (orT (tstB (bin (bin (rd 5) (kon (.int 0)) (opIx ns)) (rd 3) opNotIn)) (notT (tstV (calE (conA (rd 5) (conA (rd 2) nilA)) (ofLen 2 (m_can_stand ns)))))) nevS nxS) (t_read_lines_5_2 ns))
def t_read_lines_7 (ns : List Int) : MS := (retS (rd 1))
def t_read_lines_6 (ns : List Int) : MS := (seqS (ifS (tstV (rd 3)) nevS nxS) (t_read_lines_7 ns))
def t_read_lines_5 (ns : List Int) : MS := (seqS (forS (enuS (rd 1) 1) (.tp [(.nm 4), (.nm 5)]) (t_read_lines_5_1 ns)) (t_read_lines_6 ns))
def t_read_lines_4 (ns : List Int) : MS := (seqS (setS (.nm 3) (tupE (conA (kon (.str "marks")) nilA))) (t_read_lines_5 ns))
def t_read_lines_3 (ns : List Int) : MS := (seqS (setS (.nm 2) (lstE nilA)) (t_read_lines_4 ns))
def t_read_lines_2 (ns : List Int) : MS := (seqS (setS (.nm 1) (lcE (iterA (met1 (rd 0) (kon (.str "\n")) opSplit)) (.nm 6) yesT (met1 (rd 6) (kon (.str " ")) opSplit) [6])) (t_read_lines_3 ns))
def t_read_lines_1 (ns : List Int) : MS := (seqS (ifS (notT (tstV (una (rd 0) (isi "str")))) nevS nxS) (t_read_lines_2 ns))
theorem e_t_read_lines (ns : List Int) : b_read_lines ns = t_read_lines_1 ns := rfl
/-- lines that stand, read from above -/
def progOk : List Str → List Str → List (List Str) → Bool
  | _, aw, [] => decide (aw = [])
  | names, aw, ws :: r => decide (ws.headD "" ∈ aw) && (canB names ws && progOk (if ws.headD "" = "let" then names ++ [ws.getD 1 ""] else names) (awF (ws.headD "")) r)
structure okLs (ls : List (List Str)) : Prop where
  ne : ls ≠ []
  len : ls.length ≤ 50
  line : ∀ l ∈ ls, l ≠ [] ∧ l.length ≤ 100 ∧ ∀ w ∈ l, okWX w ∧ plainW w
  short : (textL ls).length ≤ 50000
  shorts : ∀ l ∈ ls, (Txt.join " " l).length ≤ 50000
/-- the lists of words that stand -/
def Stand (s : Sto) (ks : List Nat) (ls : List (List Str)) : Prop := ks.length = ls.length ∧ ∀ (i k : Nat) (l : List Str), ks[i]? = some k → ls[i]? = some l → s[k]? = some (.lst (l.map .str))
theorem Stand.fr {s s' : Sto} {ks : List Nat} {ls : List (List Str)} (h : Stand s ks ls) (f : Fr [] s s') : Stand s' ks ls := ⟨h.1, fun i k l h1 h2 => f.at (h.2 i k l h1 h2) (by simp)⟩
theorem opSplit_str {a b : Str} (h1 : (b.length == 0) = false) (h2 : a.length ≤ 50000) : opSplit (.str a) (.str b) = alloc ((Txt.split a b).map .str) := by
  show (if (b.length == 0) = false ∧ a.length + 2 ≤ sizeLine then alloc ((Txt.split a b).map D.str) else no) = _
  rw [if_pos ⟨h1, Nat.le_trans (show a.length + 2 ≤ 50002 by omega) (small_line (by decide))⟩]
/-- the lines, each split in words -/
theorem p_lines {ρ : En} (h6 : 6 < ρ.length) {ls : List (List Str)} (h : okLs ls) {l : Nat} {st : Sto} (hl : st[l]? = some (.lst ((ls.map (Txt.join " ")).map .str))) {Q : List D → Sto → Prop} (q : ∀ ks s, Stand s ks ls → (∀ k ∈ ks, st.length ≤ k) → Fr [] st s → Q (ks.map .loc) s) :
    wp (lcL (fun st' => decide (st'[l]? = some (O.lst ((ls.map (Txt.join " ")).map D.str)))) (.nm 6) yesT (met1 (rd 6) (kon (.str " ")) opSplit) ρ ((ls.map (Txt.join " ")).map .str) []) st Q := by
  refine wp_lcL (fun i acc s => ∃ ks : List Nat, acc = ks.map .loc ∧ i ≤ ls.length ∧ Stand s ks (ls.take i) ∧ (∀ k ∈ ks, st.length ≤ k) ∧ Fr [] st s) _ 0 [] _ ⟨[], rfl, by omega, ⟨by simp, by simp⟩, by simp, Fr.refl⟩ (fun j x acc s hj hI => ?_) fun acc s hI => ?_
  · obtain ⟨ks, rfl, hi, hS, hge, f⟩ := hI
    rw [Nat.zero_add] at hi hS
    have hj1 : j < ls.length := by
      have := (List.getElem?_eq_some_iff.mp hj).1
      simpa using this
    have hx : x = .str (Txt.join " " ls[j]) := by
      rw [List.getElem?_map, List.getElem?_map, List.getElem?_eq_getElem hj1] at hj
      simpa using hj.symm
    subst hx
    have hm := List.getElem_mem hj1
    obtain ⟨n1, n2, n3⟩ := h.line _ hm
    refine ⟨decide_eq_true (f.at hl (by simp)), _, by simp; rfl, ?_⟩
    simp [h6]
    rw [opSplit_str (by decide +kernel) (h.shorts _ hm), line_words n1 fun w hw => (n3 w hw).2]
    have hkl : ks.length = j := by
      have := hS.1
      simp at this
      omega
    have hsl := f.1
    simp
    refine ⟨Nat.lt_of_lt_of_le (show ks.length < 1000 by have := h.len; omega) (small_line (by decide)), ks ++ [s.length], by simp, by omega, ⟨by simp; omega, fun i k l' h1 h2 => ?_⟩, fun k hk => ?_, f.trans (Fr.new _)⟩
    · by_cases hij : i < j
      · rw [List.getElem?_append_left (by omega)] at h1
        rw [List.getElem?_take_of_lt (by omega)] at h2
        exact (Fr.new (S := []) _).at (hS.2 i k l' h1 (by rw [List.getElem?_take_of_lt hij]; exact h2)) (by simp)
      · have hi2 : i = j := by
          have := (List.getElem?_eq_some_iff.mp h1).1
          simp at this
          omega
        subst hi2
        rw [List.getElem?_append_right (by omega)] at h1
        rw [List.getElem?_take_of_lt (by omega), List.getElem?_eq_getElem hj1] at h2
        simp [hkl] at h1
        cases h2
        subst h1
        simp
    · rcases List.mem_append.mp hk with hk | hk
      · exact hge k hk
      · simp at hk
        omega
  · obtain ⟨ks, rfl, hi, hS, hge, f⟩ := hI
    refine ⟨decide_eq_true (f.at hl (by simp)), ?_⟩
    rw [List.take_of_length_le (by simp)] at hS
    exact q ks s hS hge f
end Lk15
end
section
set_option Elab.async false
set_option linter.all false
set_option maxRecDepth 100000
namespace Lk15
open PySem L2 Pm TL
theorem ap_enuS {f : ME} {m : Nat} {ρ : En} : enuS f m ρ = bnd (f ρ) fun d => match d with
  | .tup xs => ret ⟨enumS m xs, fun _ => true⟩
  | .loc l => bnd (lst l) fun xs => ret ⟨enumS m xs, fun st => decide (st[l]? = some (.lst xs))⟩
  | _ => no := rfl
theorem Stand.set {s : Sto} {ks : List Nat} {ls : List (List Str)} {n : Nat} {o : O} (h : Stand s ks ls) (hn : ∀ k ∈ ks, k < n) : Stand (s.set n o) ks ls := ⟨h.1, fun i k l h1 h2 => by
  have := hn k (List.mem_of_getElem? h1)
  rw [List.getElem?_set_ne (by omega)]
  exact h.2 i k l h1 h2⟩
theorem stand_lt {s : Sto} {ks : List Nat} {ls : List (List Str)} (h : Stand s ks ls) : ∀ k ∈ ks, k < s.length := fun k hk => by
  obtain ⟨i, hi, rfl⟩ := List.getElem_of_mem hk
  have h1 : i < ls.length := by have := h.1; omega
  have := h.2 i ks[i] ls[i] (List.getElem?_eq_getElem hi) (List.getElem?_eq_getElem h1)
  exact (List.getElem?_eq_some_iff.mp this).1
theorem p_read_lines (ns : List Int) {ls : List (List Str)} (h : okLs ls) (hok : progOk [] ["marks"] ls = true) {st : Sto} {Q : D → Sto → Prop} (q : ∀ L ks s, s[L]? = some (.lst (ks.map .loc)) → Stand s ks ls → Fr [] st s → Q (.loc L) s) : wp (m_read_lines ns [.str (textL ls)]) st Q := by
  have e0 : m_read_lines ns = runB 7 (t_read_lines_1 ns) := rfl
  have z : ∀ k, k ≤ 10 → k ≤ sizeLine := fun k h => Nat.le_trans h (small_line (by decide))
  rw [e0]
  generalize hT : textL ls = T
  simp [runB_eq, startE, t_read_lines_1, isT, t_read_lines_2]
  rw [← hT, opSplit_str (by decide +kernel) h.short, text_lines h.ne fun l hl w hw => ((h.line l hl).2.2 w hw).2]
  have hlen := h.len
  simp only [wp_alloc]
  rw [wp_seqA (xs := (ls.map (Txt.join " ")).map .str) (by simp)]
  refine p_lines (by simp [wipeE]) h (by simp) fun ks s0 hS hge f0 => ?_
  simp [t_read_lines_3, t_read_lines_4, z 1 (by decide), t_read_lines_5, ap_enuS]
  have hklt := stand_lt hS
  have fr2 : Fr [] s0 (s0 ++ [O.lst (ks.map .loc), O.lst []]) := Fr.new _
  have gL : (s0 ++ [O.lst (ks.map D.loc), O.lst []])[s0.length]? = some (.lst (ks.map .loc)) := by simp
  rw [wp_lst gL]
  have hkl := hS.1
  have fst : Fr [] st (s0 ++ [O.lst (ks.map D.loc), O.lst []]) := ((Fr.new _).trans f0).trans (Fr.new _)
  have hst : st.length ≤ s0.length := by have := f0.1; simp at this; omega
  refine wp_forL (fun i ρ s => ∃ names aw, (∃ v4 v5 v6, ρ = [some (.str (textL ls)), some (.loc s0.length), some (.loc (s0.length + 1)), some (.tup (aw.map .str)), v4, v5, v6]) ∧ i ≤ ls.length ∧ names.length ≤ i ∧ s[s0.length + 1]? = some (.lst (names.map .str)) ∧ s[s0.length]? = some (.lst (ks.map .loc)) ∧ Stand s ks ls ∧ progOk names aw (ls.drop i) = true ∧ Fr [] st s) _ 0 _ _
    ⟨[], ["marks"], ⟨_, _, _, rfl⟩, by omega, by simp, by simp, gL, hS.fr fr2, by simpa using hok, fst⟩ (fun j x ρ s hj hI => ?_) fun ρ s hI => ?_
  · obtain ⟨names, aw, ⟨v4, v5, v6, rfl⟩, hi, hn, hN, hL, hSt, hP, f⟩ := hI
    rw [Nat.zero_add] at hi hn hP
    have hj1 : j < ks.length := by
      have := (List.getElem?_eq_some_iff.mp hj).1
      rw [enumS_len] at this
      simpa using this
    have hj2 : j < ls.length := by omega
    have hx : x = .tup [.int (j + 1 : Nat), .loc ks[j]] := by
      rw [enumS_get (by simpa using hj1)] at hj
      simpa using hj.symm
    subst hx
    have hd : ls.drop j = ls[j] :: ls.drop (j + 1) := List.drop_eq_getElem_cons hj2
    have hm := List.getElem_mem hj2
    obtain ⟨n1, n2, n3⟩ := h.line _ hm
    have gk := hSt.2 j ks[j] ls[j] (List.getElem?_eq_getElem hj1) (List.getElem?_eq_getElem hj2)
    rw [hd, progOk, Bool.and_eq_true, Bool.and_eq_true] at hP
    obtain ⟨p1, p2, p3⟩ := hP
    have hkj := hklt ks[j] (List.getElem_mem hj1)
    generalize ks[j] = kj at gk hkj
    generalize ls[j] = ws at gk p1 p2 p3 n1 n2 n3
    obtain ⟨w0, r, rfl⟩ : ∃ a r, ws = a :: r := by
      cases ws with
      | nil => exact absurd rfl n1
      | cons a r => exact ⟨a, r, rfl⟩
    have p1 : w0 ∈ aw := by simpa using p1
    refine ⟨decide_eq_true hL, _, by simp; rfl, ?_⟩
    simp [t_read_lines_5_1]
    rw [wp_ixL gk]
    simp [atI, ixN]
    rw [notInT_strs, decide_eq_true p1]
    simp
    refine p_can_stand ns (fun w hw => (n3 w hw).1.tookWN) n2 n1 gk hN fun s1 f1 => ?_
    rw [p2]
    simp [t_read_lines_5_2]
    have gk1 := f1.at gk (by simp)
    have hN1 := f1.at hN (by simp)
    have hL1 := f1.at hL (by simp)
    rw [wp_ixL gk1]
    simp [atI, ixN, opEq_str]
    have f01 := f.trans f1
    have hS1 := hSt.fr f1
    by_cases hlet : w0 = "let"
    · subst hlet
      obtain ⟨w1, r, rfl⟩ : ∃ b r', r = b :: r' := by
        cases r with
        | nil =>
          exfalso
          simp [canB, letB] at p2
        | cons b r' => exact ⟨b, r', rfl⟩
      simp
      rw [wp_isL hN1, wp_ixL gk1]
      simp [atI, ixN]
      rw [if_pos (show (1 : Int) < (r.length : Int) + 1 + 1 by omega)]
      simp
      rw [wp_append hN1 (by simp; omega)]
      have hlt1 : s0.length + 1 < s1.length := (List.getElem?_eq_some_iff.mp hN1).1
      have gk2 : (s1.set (s0.length + 1) (.lst (names.map .str ++ [.str w1])))[kj]? = some (.lst (((("let" : Str) :: w1 :: r)).map .str)) := by
        rw [List.getElem?_set_ne (by omega)]
        exact gk1
      simp [t_read_lines_5_3]
      rw [wp_ixL gk2]
      simp [atI, ixN]
      rw [if_pos (show (0 : Int) < (r.length : Int) + 1 + 1 by omega)]
      simp [e_awaited]
      rw [if_pos (by rfl)] at p3
      refine ⟨names ++ [w1], awF "let", by simp, by omega, by simp; omega, ?_, ?_, hS1.set fun k hk => by have := hklt k hk; omega, by simpa using p3, f01.setNew (by omega)⟩
      · rw [List.getElem?_set_self hlt1]
        simp
      · exact hL1
    · simp [hlet, t_read_lines_5_3]
      rw [wp_ixL gk1]
      simp [atI, ixN, e_awaited]
      rw [if_neg (by simpa using hlet)] at p3
      exact ⟨names, awF w0, by simp, by omega, by omega, hN1, hL1, hS1, by simpa using p3, f01⟩
  · obtain ⟨names, aw, ⟨v4, v5, v6, rfl⟩, hi, hn, hN, hL, hSt, hP, f⟩ := hI
    refine ⟨decide_eq_true hL, ?_⟩
    have hnil : ls.drop (0 + (enumS 1 (ks.map D.loc)).length) = [] := List.drop_eq_nil_of_le (by rw [enumS_len]; simp; omega)
    rw [hnil, progOk] at hP
    have haw : aw = [] := by simpa using hP
    subst haw
    have eT : tru (.tup []) = ret false := rfl
    simp [t_read_lines_6]
    rw [eT]
    refine ⟨rfl, ?_⟩
    simp [t_read_lines_7]
    exact q _ ks s hL hSt f
end Lk15
end
section
set_option Elab.async false
set_option linter.all false
set_option maxRecDepth 100000
namespace Lk15
open PySem L2 Pm TL
def t_Program___init___6 (ns : List Int) : MS := (fldS (rd 0) (calE (conA (sli (bin (rd 2) (una (kon (.int 1)) opNeg) (opIx ns)) (som (kon (.int 1))) noP (opSl ns)) nilA) (ofLen 1 (m_read_expression ns))) ["Program"] "for_mark")
def t_Program___init___5 (ns : List Int) : MS := (seqS (fldS (rd 0) (calE (conA (sli (bin (rd 2) (una (kon (.int 2)) opNeg) (opIx ns)) (som (kon (.int 1))) noP (opSl ns)) nilA) (ofLen 1 (m_read_expression ns))) ["Program"] "for_step") (t_Program___init___6 ns))
def t_Program___init___4 (ns : List Int) : MS := (seqS (fldS (rd 0) (appA (conA (lcE (iterA (sli (rd 2) (som (kon (.int 1))) (som (una (kon (.int 2)) opNeg)) (opSl ns))) (.nm 3) yesT (tupE (conA (bin (rd 3) (kon (.int 1)) (opIx ns)) (conA (calE (conA (sli (rd 3) (som (kon (.int 2))) noP (opSl ns)) nilA) (ofLen 1 (m_read_expression ns))) nilA))) [3]) nilA) bTuple) ["Program"] "lets") (t_Program___init___5 ns))
def t_Program___init___3 (ns : List Int) : MS := (seqS (fldS (rd 0) (appA (conA (bin (bin (rd 2) (kon (.int 0)) (opIx ns)) (kon (.int 1)) (opIx ns)) nilA) bIntX) ["Program"] "marks") (t_Program___init___4 ns))
def t_Program___init___2 (ns : List Int) : MS := (seqS (fldS (rd 0) (rd 1) ["Program"] "text") (t_Program___init___3 ns))
def t_Program___init___1 (ns : List Int) : MS := (seqS (setS (.nm 2) (calE (conA (rd 1) nilA) (ofLen 1 (m_read_lines ns)))) (t_Program___init___2 ns))
theorem e_t_Program___init__ (ns : List Int) : b_Program___init__ ns = t_Program___init___1 ns := rfl
/-! ### a program -/
structure Pg where
  marks : Str
  lets : List (Str × List Str)
  step : List Str
  mark : List Str
def Pg.lines (P : Pg) : List (List Str) := [("marks" : Str), P.marks] :: (P.lets.map fun x => ("let" : Str) :: x.1 :: x.2) ++ [("step" : Str) :: P.step, ("mark" : Str) :: P.mark]
def Pg.text (P : Pg) : Str := textL P.lines
structure Pg.Ok (P : Pg) : Prop where
  ls : okLs P.lines
  stands : progOk [] ["marks"] P.lines = true
  num : (PySem.intText? P.marks).isSome = true
def Pg.m (P : Pg) : Int := (PySem.intText? P.marks).getD 0
def Pg.letsD (P : Pg) : D := .tup (P.lets.map fun x => .tup [.str x.1, .tup (x.2.map keptD)])
def Pg.flds (P : Pg) : List (Str × D) := [("text", .str P.text), ("marks", .int P.m), ("lets", P.letsD), ("for_step", .tup (P.step.map keptD)), ("for_mark", .tup (P.mark.map keptD))]
theorem wp_setF {xs : List Str} {f x : Str} {l : Nat} {d : D} {fs : List (Str × D)} {st : Sto} {Q : Unit → Sto → Prop} (h : st[l]? = some (.ins x fs)) (hx : x ∈ xs) (hf : fs.length < 1000) : wp (setF xs f (.loc l) d) st Q = Q () (st.set l (.ins x (putD f d fs))) := by
  show wp (bnd (obj l) _) st Q = _
  rw [wp_bnd, wp_obj h]
  simp only
  rw [if_pos ⟨hx, hf⟩]
  rfl
theorem cut_mid (a b c : D) (xs : List D) : cutD (a :: xs ++ [b, c]) (some 1) (some (-2)) = xs := by
  simp [cutD, HT.sIx]
  rw [show (-2 + ((xs.length : Int) + 2 + 1)).toNat - 1 = xs.length by omega]
  simp
theorem Pg.len (P : Pg) : P.lines.length = P.lets.length + 3 := by simp [Pg.lines]
/-- what stands under the places of the lines -/
theorem stand_shape {P : Pg} {s : Sto} {ks : List Nat} (h : Stand s ks P.lines) : ∃ k0 km k1 k2, ks = k0 :: km ++ [k1, k2] ∧ km.length = P.lets.length ∧ s[k0]? = some (.lst ([("marks" : Str), P.marks].map .str)) ∧ s[k1]? = some (.lst ((("step" : Str) :: P.step).map .str)) ∧ s[k2]? = some (.lst ((("mark" : Str) :: P.mark).map .str)) ∧
    ∀ (i k : Nat) (x : Str × List Str), km[i]? = some k → P.lets[i]? = some x → s[k]? = some (.lst ((("let" : Str) :: x.1 :: x.2).map .str)) := by
  have hl := h.1
  rw [P.len] at hl
  obtain ⟨k0, r, rfl⟩ : ∃ a r, ks = a :: r := by
    cases ks with
    | nil => simp at hl
    | cons a r => exact ⟨a, r, rfl⟩
  have hr : r.length = P.lets.length + 2 := by simpa using hl
  refine ⟨k0, r.take P.lets.length, r[P.lets.length]'(by omega), r[P.lets.length + 1]'(by omega), ?_, by simp; omega, ?_, ?_, ?_, fun i k x h1 h2 => ?_⟩
  · have e : r.drop P.lets.length = [r[P.lets.length]'(by omega), r[P.lets.length + 1]'(by omega)] := by
      rw [List.drop_eq_getElem_cons (by omega), List.drop_eq_getElem_cons (by omega), List.drop_eq_nil_of_le (by omega)]
    rw [List.cons_append, ← e, List.take_append_drop]
  · exact h.2 0 k0 _ rfl rfl
  · refine h.2 (P.lets.length + 1) _ _ (by simp) ?_
    unfold Pg.lines
    rw [List.getElem?_append_right (by simp)]
    simp
  · refine h.2 (P.lets.length + 2) _ _ (by simp) ?_
    unfold Pg.lines
    rw [List.getElem?_append_right (by simp)]
    simp
  · have hi : i < P.lets.length := (List.getElem?_eq_some_iff.mp h2).1
    refine h.2 (i + 1) k _ ?_ ?_
    · rw [List.getElem?_take_of_lt hi] at h1
      simpa using h1
    · unfold Pg.lines
      rw [List.getElem?_append_left (by simp; omega)]
      simp [h2]
end Lk15
end
section
set_option Elab.async false
set_option linter.all false
set_option maxRecDepth 100000
namespace Lk15
open PySem L2 Pm TL
theorem setP {s : Sto} {p l : Nat} {x : Str} {fs fs' : List (Str × D)} {xs : List D} (hp : s[p]? = some (.ins x fs)) (hl : s[l]? = some (.lst xs)) : (s.set p (.ins x fs'))[l]? = some (.lst xs) := by
  have : p ≠ l := fun e => by rw [e, hl] at hp; cases hp
  rw [List.getElem?_set_ne this]
  exact hl
theorem lenP {s : Sto} {p : Nat} {o : O} (hp : s[p]? = some o) (o' : O) : (s.set p o')[p]? = some o' := List.getElem?_set_self (List.getElem?_eq_some_iff.mp hp).1
/-- what the lines are, where they stand -/
structure Lns (P : Pg) (L k0 k1 k2 : Nat) (km : List Nat) (s : Sto) : Prop where
  all : s[L]? = some (.lst ((k0 :: km ++ [k1, k2]).map .loc))
  mid : km.length = P.lets.length
  a : s[k0]? = some (.lst ([("marks" : Str), P.marks].map .str))
  b : s[k1]? = some (.lst ((("step" : Str) :: P.step).map .str))
  c : s[k2]? = some (.lst ((("mark" : Str) :: P.mark).map .str))
  d : ∀ (i k : Nat) (x : Str × List Str), km[i]? = some k → P.lets[i]? = some x → s[k]? = some (.lst ((("let" : Str) :: x.1 :: x.2).map .str))
theorem Lns.fr {P : Pg} {L k0 k1 k2 : Nat} {km : List Nat} {s s' : Sto} (h : Lns P L k0 k1 k2 km s) (f : Fr [] s s') : Lns P L k0 k1 k2 km s' := ⟨f.at h.all (by simp), h.mid, f.at h.a (by simp), f.at h.b (by simp), f.at h.c (by simp), fun i k x h1 h2 => f.at (h.d i k x h1 h2) (by simp)⟩
theorem Lns.set {P : Pg} {L k0 k1 k2 p : Nat} {km : List Nat} {s : Sto} {x : Str} {fs fs' : List (Str × D)} (h : Lns P L k0 k1 k2 km s) (hp : s[p]? = some (.ins x fs)) : Lns P L k0 k1 k2 km (s.set p (.ins x fs')) := ⟨setP hp h.all, h.mid, setP hp h.a, setP hp h.b, setP hp h.c, fun i k x h1 h2 => setP hp (h.d i k x h1 h2)⟩
theorem put2 {a b : D} : putD "marks" b (putD "text" a []) = ([("text", a), ("marks", b)] : List (Str × D)) := rfl
theorem put3 {a b c : D} : putD "lets" c ([("text", a), ("marks", b)] : List (Str × D)) = ([("text", a), ("marks", b), ("lets", c)] : List (Str × D)) := rfl
theorem put4 {a b c d : D} : putD "for_step" d ([("text", a), ("marks", b), ("lets", c)] : List (Str × D)) = ([("text", a), ("marks", b), ("lets", c), ("for_step", d)] : List (Str × D)) := rfl
theorem put5 {a b c d e : D} : putD "for_mark" e ([("text", a), ("marks", b), ("lets", c), ("for_step", d)] : List (Str × D)) = ([("text", a), ("marks", b), ("lets", c), ("for_step", d), ("for_mark", e)] : List (Str × D)) := rfl
theorem at_m2 {a b c : D} {xs : List D} : atI (a :: xs ++ [b, c]) (-2) = some b := by
  simp [atI, ixN]
  rw [if_pos (show (2 : Int) ≤ (xs.length : Int) + 2 + 1 by omega)]
  simp
  rw [show (-2 + ((xs.length : Int) + 2 + 1)).toNat = xs.length + 1 by omega]
  simp
theorem at_m1 {a b c : D} {xs : List D} : atI (a :: xs ++ [b, c]) (-1) = some c := by
  simp [atI, ixN]
  rw [if_pos (show (1 : Int) ≤ (xs.length : Int) + 2 + 1 by omega)]
  simp
  rw [show (-1 + ((xs.length : Int) + 2 + 1)).toNat = xs.length + 2 by omega]
  simp
theorem p_init (ns : List Int) {P : Pg} (h : P.Ok) {p : Nat} {st : Sto} (hp : st[p]? = some (.ins "Program" [])) {Q : D → Sto → Prop} (q : ∀ s, s[p]? = some (.ins "Program" P.flds) → Fr [p] st s → Q .non s) : wp (m_Program___init__ ns [.loc p, .str P.text]) st Q := by
  have e0 : m_Program___init__ ns = runB 4 (t_Program___init___1 ns) := rfl
  rw [e0]
  unfold t_Program___init___1
  generalize hT : t_Program___init___2 ns = T
  simp [runB_eq, startE]
  refine p_read_lines ns h.ls h.stands fun L ks s1 gL hS f1 => ?_
  obtain ⟨k0, km, k1, k2, rfl, hkm, ga, gb, gc, gd⟩ := stand_shape hS
  have hL : Lns P L k0 k1 k2 km s1 := ⟨gL, hkm, ga, gb, gc, gd⟩
  have g1 := f1.at hp (by simp)
  rw [← hT]
  unfold t_Program___init___2
  generalize hT3 : t_Program___init___3 ns = T3
  simp
  rw [wp_setF g1 (by simp) (by simp)]
  have g2 := lenP g1 (.ins "Program" (putD "text" (.str P.text) []))
  have hL2 := hL.set (fs' := putD "text" (.str P.text) []) g1
  have F2 : Fr [p] st (s1.set p (.ins "Program" (putD "text" (.str P.text) []))) := f1.up.trans Fr.set
  generalize s1.set p (.ins "Program" (putD "text" (.str P.text) [])) = s2 at g2 hL2 F2
  rw [← hT3]
  unfold t_Program___init___3
  generalize hT4 : t_Program___init___4 ns = T4
  simp
  rw [wp_ixL hL2.all]
  simp [atI, ixN]
  rw [if_pos (show (0 : Int) < (km.length : Int) + 2 + 1 by omega)]
  simp
  rw [wp_ixL hL2.a]
  simp [atI, ixN]
  obtain ⟨mm, hmm⟩ := Option.isSome_iff_exists.mp h.num
  have eM : P.m = mm := by unfold Pg.m; rw [hmm]; rfl
  have hshort : P.marks.length ≤ 600 := ((h.ls.line _ (List.mem_append_left _ List.mem_cons_self)).2.2 P.marks (by simp)).1.short
  have eI : bIntX [.str P.marks] = ret (.int mm) := by
    show (match PySem.intText? P.marks with
      | some n => if P.marks.length ≤ 640 then ret (D.int n) else no
      | none => no) = _
    rw [hmm]
    exact if_pos (by omega)
  rw [eI, ← eM]
  simp
  rw [wp_setF g2 (by simp) (by simp [putD])]
  have g3 := lenP g2 (.ins "Program" (putD "marks" (.int P.m) (putD "text" (.str P.text) [])))
  have hL3 := hL2.set (fs' := putD "marks" (.int P.m) (putD "text" (.str P.text) [])) g2
  have F3 : Fr [p] st (s2.set p (.ins "Program" (putD "marks" (.int P.m) (putD "text" (.str P.text) [])))) := F2.trans Fr.set
  generalize s2.set p (.ins "Program" (putD "marks" (.int P.m) (putD "text" (.str P.text) []))) = s3 at g3 hL3 F3
  rw [← hT4]
  unfold t_Program___init___4
  generalize hT5 : t_Program___init___5 ns = T5
  simp
  rw [wp_sl hL3.all]
  have ec : cutD ((k0 :: km ++ [k1, k2]).map D.loc) (some 1) (some (-2)) = km.map D.loc := by
    have := cut_mid (.loc k0) (.loc k1) (.loc k2) (km.map .loc)
    simpa using this
  rw [ec]
  rw [wp_seqA (xs := km.map .loc) (by simp)]
  have hL4 := hL3.fr (Fr.new [O.lst (km.map D.loc)])
  have g4 : (s3 ++ [O.lst (km.map D.loc)])[p]? = some (.ins "Program" (putD "marks" (.int P.m) (putD "text" (.str P.text) []))) := (Fr.new (S := []) _).at g3 (by simp)
  have F4 : Fr [p] st (s3 ++ [O.lst (km.map D.loc)]) := F3.trans (Fr.new _)
  have gk4 : (s3 ++ [O.lst (km.map D.loc)])[s3.length]? = some (.lst (km.map .loc)) := by simp
  generalize s3 ++ [O.lst (km.map D.loc)] = s4 at g4 hL4 F4 gk4
  have hPl : P.lets.length ≤ 50 := by have := h.ls.len; rw [P.len] at this; omega
  refine wp_lcL (fun i acc s => acc = (P.lets.take i).map (fun x => D.tup [.str x.1, .tup (x.2.map keptD)]) ∧ i ≤ P.lets.length ∧ Fr [] s4 s) _ 0 [] _ ⟨by simp, by omega, Fr.refl⟩ (fun j x acc s hj hI => ?_) fun acc s5 hI => ?_
  · obtain ⟨rfl, hi, f⟩ := hI
    rw [Nat.zero_add] at hi
    have hj1 : j < km.length := by
      have := (List.getElem?_eq_some_iff.mp hj).1
      simpa using this
    have hj2 : j < P.lets.length := by have := hL4.mid; omega
    have hx : x = .loc km[j] := by
      rw [List.getElem?_map, List.getElem?_eq_getElem hj1] at hj
      simpa using hj.symm
    subst hx
    have gd' := f.at (hL4.d j km[j] P.lets[j] (List.getElem?_eq_getElem hj1) (List.getElem?_eq_getElem hj2)) (by simp)
    refine ⟨decide_eq_true (f.at gk4 (by simp)), _, by simp; rfl, ?_⟩
    have hln := h.ls.line (("let" : Str) :: P.lets[j].1 :: P.lets[j].2) (List.mem_append_left _ (List.mem_cons_of_mem _ (List.mem_map.mpr ⟨P.lets[j], List.getElem_mem hj2, rfl⟩)))
    have hli : (P.lets[j].2).length ≤ 98 := by have := hln.2.1; simp at this; omega
    have hwx : ∀ w ∈ P.lets[j].2, okWX w := fun w hw => (hln.2.2 w (by simp [hw])).1
    simp [wipeE, wipe]
    rw [wp_ixL gd']
    simp [atI, ixN]
    rw [if_pos (show (1 : Int) < (P.lets[j].2.length : Int) + 1 + 1 by omega)]
    simp
    rw [wp_sl gd']
    simp [cutD, HT.sIx]
    rw [show List.take P.lets[j].snd.length (List.map D.str P.lets[j].snd) = P.lets[j].snd.map D.str from List.take_of_length_le (by simp)]
    refine p_read_expression ns hwx (by omega) (by simp) fun s' f' => ⟨small_line (by decide), Nat.lt_of_le_of_lt (show min j P.lets.length ≤ 50 by omega) (Nat.lt_of_lt_of_le (show 50 < 51 by omega) (small_line (by decide))), ?_, by omega, f.trans ((Fr.new _).trans f')⟩
    rw [List.take_succ_eq_append_getElem (by simpa using hj2)]
    simp
  · obtain ⟨rfl, hi, f⟩ := hI
    refine ⟨decide_eq_true (f.at gk4 (by simp)), ?_⟩
    have e5 : ∀ xs : List D, xs.length = P.lets.length → xs.take km.length = xs := fun xs hx => List.take_of_length_le (by omega)
    simp
    rw [e5 _ (by simp)]
    have g5 := f.at g4 (by simp)
    have hL5 := hL4.fr f
    have F5 : Fr [p] st s5 := F4.trans f.up
    generalize [O.lst (List.map (fun x : Str × List Str => D.tup [D.str x.fst, D.tup (List.map keptD x.snd)]) P.lets)] = new
    have g6 := (Fr.new (S := []) (st := s5) new).at g5 (by simp)
    have hL6 := hL5.fr (Fr.new new)
    have F6 : Fr [p] st (s5 ++ new) := F5.trans (Fr.new _)
    generalize s5 ++ new = s6 at g6 hL6 F6
    rw [put2] at g6
    rw [wp_setF g6 (by simp) (by simp)]
    rw [put3]
    have g7 := lenP g6 (.ins "Program" [("text", D.str P.text), ("marks", D.int P.m), ("lets", P.letsD)])
    have hL7 := hL6.set (fs' := [("text", D.str P.text), ("marks", D.int P.m), ("lets", P.letsD)]) g6
    have F7 : Fr [p] st (s6.set p (.ins "Program" [("text", D.str P.text), ("marks", D.int P.m), ("lets", P.letsD)])) := F6.trans Fr.set
    show wp _ (s6.set p (.ins "Program" [("text", D.str P.text), ("marks", D.int P.m), ("lets", P.letsD)])) _
    generalize s6.set p (.ins "Program" [("text", D.str P.text), ("marks", D.int P.m), ("lets", P.letsD)]) = s7 at g7 hL7 F7
    rw [← hT5]
    unfold t_Program___init___5
    generalize hT6 : t_Program___init___6 ns = T6
    simp
    rw [wp_ixL hL7.all, show ((k0 :: km ++ [k1, k2]).map D.loc) = .loc k0 :: km.map .loc ++ [.loc k1, .loc k2] by simp, at_m2]
    simp
    rw [wp_sl hL7.b]
    simp [cutD, HT.sIx]
    rw [show List.take P.step.length (List.map D.str P.step) = P.step.map D.str from List.take_of_length_le (by simp)]
    have hls := h.ls.line (("step" : Str) :: P.step) (List.mem_append_right _ (by simp))
    have hlm := h.ls.line (("mark" : Str) :: P.mark) (List.mem_append_right _ (by simp))
    refine p_read_expression ns (ws := P.step) (fun w hw => (hls.2.2 w (List.mem_cons_of_mem _ hw)).1) (by have := hls.2.1; simp at this; omega) (by simp) fun s8 f8 => ?_
    have f78 : Fr [] s7 s8 := (Fr.new _).trans f8
    have g8 := f78.at g7 (by simp)
    have hL8 := hL7.fr f78
    have F8 : Fr [p] st s8 := F7.trans f78.up
    rw [wp_setF g8 (by simp) (by simp)]
    rw [put4]
    have g9 := lenP g8 (.ins "Program" [("text", D.str P.text), ("marks", D.int P.m), ("lets", P.letsD), ("for_step", .tup (P.step.map keptD))])
    have hL9 := hL8.set (fs' := [("text", D.str P.text), ("marks", D.int P.m), ("lets", P.letsD), ("for_step", .tup (P.step.map keptD))]) g8
    have F9 : Fr [p] st (s8.set p (.ins "Program" [("text", D.str P.text), ("marks", D.int P.m), ("lets", P.letsD), ("for_step", .tup (P.step.map keptD))])) := F8.trans Fr.set
    generalize s8.set p (.ins "Program" [("text", D.str P.text), ("marks", D.int P.m), ("lets", P.letsD), ("for_step", .tup (P.step.map keptD))]) = s9 at g9 hL9 F9
    rw [← hT6]
    unfold t_Program___init___6
    simp
    rw [wp_ixL hL9.all, show ((k0 :: km ++ [k1, k2]).map D.loc) = .loc k0 :: km.map .loc ++ [.loc k1, .loc k2] by simp, at_m1]
    simp
    rw [wp_sl hL9.c]
    simp [cutD, HT.sIx]
    rw [show List.take P.mark.length (List.map D.str P.mark) = P.mark.map D.str from List.take_of_length_le (by simp)]
    refine p_read_expression ns (ws := P.mark) (fun w hw => (hlm.2.2 w (List.mem_cons_of_mem _ hw)).1) (by have := hlm.2.1; simp at this; omega) (by simp) fun s10 f10 => ?_
    have f910 : Fr [] s9 s10 := (Fr.new _).trans f10
    have g10 := f910.at g9 (by simp)
    have F10 : Fr [p] st s10 := F9.trans f910.up
    rw [wp_setF g10 (by simp) (by simp)]
    rw [put5]
    exact q _ (lenP g10 _) (F10.trans Fr.set)
end Lk15
end
section
set_option Elab.async false
set_option linter.all false
set_option maxRecDepth 100000
namespace Lk15
open PySem L2 Pm TL
def t_seen_cell_5 (ns : List Int) : MS := (retS (ifE (tstB (bin (appA (conA (rd 2) nilA) bAbs) (appA (conA (rd 7) nilA) (bLen ns)) opLe)) (bin (rd 7) (bin (appA (conA (rd 2) nilA) bAbs) (kon (.int 1)) opSub) (opIx ns)) (kon .non)))
def t_seen_cell_4 (ns : List Int) : MS := (seqS (setS (.nm 7) (ifE (tstB (bin (rd 2) (kon (.int 0)) opGt)) (rd 5) (rd 6))) (t_seen_cell_5 ns))
def t_seen_cell_3 (ns : List Int) : MS := (seqS (ifS (tstB (bin (rd 2) (kon (.int 0)) opEq)) (retS (rd 4)) nxS) (t_seen_cell_4 ns))
def t_seen_cell_2 (ns : List Int) : MS := (seqS (ifS (tstB (bin (bin (rd 0) (kon (.int 0)) (opIx ns)) (kon (.str "ring")) opEq)) (setS (.nm 2) (bin (rd 2) (bin (rd 0) (kon (.int 1)) (opIx ns)) opMod)) nxS) (t_seen_cell_3 ns))
def t_seen_cell_1 (ns : List Int) : MS := (seqS (setS (.tp [(.nm 3), (.nm 4), (.nm 5), (.nm 6)]) (rd 1)) (t_seen_cell_2 ns))
theorem e_t_seen_cell (ns : List Int) : b_seen_cell ns = t_seen_cell_1 ns := rfl
def t_counted_3 (ns : List Int) : MS := (retS (ifE (tstB (bin (rd 0) (kon (.str "count")) opEq)) (appA (conA (rd 1) nilA) (bLen ns)) (metT (rd 1) (bin (rd 2) (kon (.int 1)) (opIx ns)) cntT)))
def t_counted_2 (ns : List Int) : MS := (seqS (ifS (tstB (bin (rd 1) (kon .non) opIs)) (retS (kon (.int 0))) nxS) (t_counted_3 ns))
def t_counted_1 (ns : List Int) : MS := (seqS (ifS (tstB (bin (rd 0) (kon (.str "room")) opEq)) (retS (ifE (tstB (bin (rd 1) (kon .non) opIs)) (kon (.int 0)) (kon (.int 1)))) nxS) (t_counted_2 ns))
theorem e_t_counted (ns : List Int) : b_counted ns = t_counted_1 ns := rfl
def t_reckoned_7 (ns : List Int) : MS := (retS (ifE (tstB (bin (rd 2) (kon (.int 0)) opEq)) (bin (rd 1) (kon (.int 1)) (opIx ns)) (bin (rd 1) (kon (.int 2)) (opIx ns))))
def t_reckoned_6 (ns : List Int) : MS := (seqS (ifS (tstB (bin (rd 0) (kon (.str "same")) opEq)) (retS (ifE (tstB (bin (rd 2) (bin (rd 1) (kon (.int 1)) (opIx ns)) opEq)) (kon (.int 1)) (kon (.int 0)))) nxS) (t_reckoned_7 ns))
def t_reckoned_5 (ns : List Int) : MS := (seqS (ifS (tstB (bin (rd 0) (kon (.str "less")) opEq)) (retS (ifE (tstB (bin (rd 2) (bin (rd 1) (kon (.int 1)) (opIx ns)) opLtX)) (kon (.int 1)) (kon (.int 0)))) nxS) (t_reckoned_6 ns))
def t_reckoned_4 (ns : List Int) : MS := (seqS (ifS (tstB (bin (rd 0) (kon (.str "plus")) opEq)) (retS (calE (conA (bin (rd 2) (bin (rd 1) (kon (.int 1)) (opIx ns)) opAdd) (conA (una (kon (.int 999)) opNeg) (conA (kon (.int 999)) nilA))) (ofLen 3 (m_held ns)))) nxS) (t_reckoned_5 ns))
def t_reckoned_3 (ns : List Int) : MS := (seqS (ifS (tstB (bin (rd 0) (kon (.str "turn")) opEq)) (retS (una (rd 2) opNeg)) nxS) (t_reckoned_4 ns))
def t_reckoned_2 (ns : List Int) : MS := (seqS (ifS (tstB (bin (rd 0) (kon (.str "half")) opEq)) (retS (bin (rd 2) (kon (.int 2)) opFdiv)) nxS) (t_reckoned_3 ns))
def t_reckoned_1 (ns : List Int) : MS := (seqS (setS (.nm 2) (bin (rd 1) (kon (.int 0)) (opIx ns))) (t_reckoned_2 ns))
theorem e_t_reckoned (ns : List Int) : b_reckoned ns = t_reckoned_1 ns := rfl
/-! ### views; what words tell of them -/
structure Vw where
  mark : Int
  here : List Int
  ahead : List (List Int)
  behind : List (List Int)
def cellD (c : List Int) : D := .tup (c.map .int)
def Vw.d (v : Vw) : D := .tup [.int v.mark, cellD v.here, .tup (v.ahead.map cellD), .tup (v.behind.map cellD)]
def kindS (ring : Bool) : Str := if ring then "ring" else "row"
def flD (ring : Bool) (n : Int) : D := .tup [.str (kindS ring), .int n]
def heldI (v lo hi : Int) : Int := if lo < (if hi < v then hi else v) then (if hi < v then hi else v) else lo
theorem e_held (ns : List Int) (v lo hi : Int) : m_held ns [.int v, .int lo, .int hi] = ret (.int (heldI v lo hi)) := by
  have e0 : m_held ns = runB 3 (b_held ns) := rfl
  rw [e0]
  funext st
  simp [runB_eq, startE, b_held, bMax, bMin, heldI]
def cellOD : Option (List Int) → D
  | none => .non
  | some c => cellD c
def absI (y : Int) : Int := if y < 0 then -y else y
def seenO (ring : Bool) (n : Int) (v : Vw) (z : Int) : Option (List Int) :=
  let y := if ring = true then z % n else z
  if y = 0 then some v.here else if absI y ≤ ((if 0 < y then v.ahead else v.behind).length : Int) then (if 0 < y then v.ahead else v.behind)[(absI y).toNat - 1]? else none
theorem atI_pos {xs : List D} {i : Int} (h : 0 ≤ i) : atI xs i = xs[i.toNat]? := by
  unfold atI ixN
  by_cases h2 : i < xs.length
  · rw [if_pos h, if_pos h2]
    rfl
  · rw [if_pos h, if_neg h2]
    exact (List.getElem?_eq_none (by omega)).symm
theorem seen_tail (ns : List Int) (v : Vw) (f : D) (y : Int) : bnd (t_seen_cell_3 ns [some f, some v.d, some (.int y), some (.int v.mark), some (cellD v.here), some (.tup (v.ahead.map cellD)), some (.tup (v.behind.map cellD)), none]) fin =
    ret (cellOD (if y = 0 then some v.here else if absI y ≤ ((if 0 < y then v.ahead else v.behind).length : Int) then (if 0 < y then v.ahead else v.behind)[(absI y).toNat - 1]? else none)) := by
  unfold t_seen_cell_3
  by_cases h0 : y = 0
  · simp [h0, opEq_int, cellOD]
  · simp [h0, opEq_int, t_seen_cell_4]
    have key : ∀ cs : List (List Int), bnd (t_seen_cell_5 ns [some f, some v.d, some (.int y), some (.int v.mark), some (cellD v.here), some (.tup (v.ahead.map cellD)), some (.tup (v.behind.map cellD)), some (.tup (cs.map cellD))]) fin =
        ret (cellOD (if absI y ≤ (cs.length : Int) then cs[(absI y).toNat - 1]? else none)) := fun cs => by
      unfold t_seen_cell_5
      by_cases h1 : absI y ≤ (cs.length : Int)
      · have h1' : (if y < 0 then -y else y) ≤ (cs.length : Int) := h1
        simp [bLen, h1, h1']
        have h2 : 0 ≤ absI y - 1 := by unfold absI; split <;> omega
        have h3 : (absI y).toNat - 1 < cs.length := by omega
        show bnd (ofO (atI (cs.map cellD) (absI y - 1))) _ = _
        rw [atI_pos h2, List.getElem?_map, show (absI y - 1).toNat = (absI y).toNat - 1 by omega, List.getElem?_eq_getElem h3]
        rfl
      · have h1' : ¬ (if y < 0 then -y else y) ≤ (cs.length : Int) := h1
        simp [bLen, h1, h1', cellOD]
    by_cases hp : 0 < y
    · simp [hp]
      exact key _
    · simp [hp]
      exact key _
theorem e_seen_cell (ns : List Int) {ring : Bool} {n : Int} (hn : 0 < n) (v : Vw) (z : Int) : m_seen_cell ns [flD ring n, v.d, .int z] = ret (cellOD (seenO ring n v z)) := by
  have e0 : m_seen_cell ns = runB 8 (t_seen_cell_1 ns) := rfl
  have ek : ∀ k : Str, opIx ns (flD ring n) (.int 0) = ret (.str (kindS ring)) := fun _ => rfl
  have en : opIx ns (flD ring n) (.int 1) = ret (.int n) := rfl
  rw [e0]
  simp only [runB_eq]
  cases ring with
  | true =>
    simp [startE, t_seen_cell_1, t_seen_cell_2, Vw.d, ek "", en, kindS, opEq_str, opMod_int hn]
    exact seen_tail ns v _ (z % n)
  | false =>
    simp [startE, t_seen_cell_1, t_seen_cell_2, Vw.d, ek "", en, kindS, opEq_str]
    exact seen_tail ns v _ z
def countedI (w : Str) (c : Option (List Int)) (ps : List Int) : Int := if w = "room" then (if c.isNone = true then 0 else 1) else match c with
  | none => 0
  | some c => if w = "count" then c.length else c.count (ps.getD 1 0)
theorem intsOf_map (c : List Int) : intsOf (c.map D.int) = some c := intsOf_ints c
theorem p_counted (ns : List Int) {w : Str} {c : Option (List Int)} {ps : List Int} {p : Nat} {st : Sto} (hp : st[p]? = some (.lst (ps.map .int))) (hl : w ≠ "room" → w ≠ "count" → 2 ≤ ps.length) {Q : D → Sto → Prop} (q : Q (.int (countedI w c ps)) st) : wp (m_counted ns [.str w, cellOD c, .loc p]) st Q := by
  have e0 : m_counted ns = runB 3 (t_counted_1 ns) := rfl
  rw [e0]
  unfold countedI at q
  by_cases hr : w = "room"
  · cases c with
    | none =>
      have eI : opIs .non .non = ret (.bl true) := rfl
      simp [hr] at q
      simp [runB_eq, startE, t_counted_1, opEq_str, hr, cellOD, eI, q]
    | some c =>
      have eI : opIs (cellD c) .non = ret (.bl false) := rfl
      simp [hr] at q
      simp [runB_eq, startE, t_counted_1, opEq_str, hr, cellOD, eI, q]
  · cases c with
    | none =>
      have eI : opIs .non .non = ret (.bl true) := rfl
      simp [hr] at q
      simp [runB_eq, startE, t_counted_1, opEq_str, hr, cellOD, eI, t_counted_2, q]
    | some c =>
      have eI : opIs (cellD c) .non = ret (.bl false) := rfl
      by_cases hc : w = "count"
      · have e2 : ("count" : Str) ≠ "room" := by decide +kernel
        have eL : bLen ns [cellD c] = ret (.int c.length) := by
          show ret (D.int ((c.map D.int).length : Nat)) = _
          rw [List.length_map]
        subst hc
        simp [e2] at q
        simp [runB_eq, startE, t_counted_1, opEq_str, e2, cellOD, eI, t_counted_2, t_counted_3, eL, q]
      · simp [hr, hc] at q
        have h2 := hl hr hc
        have e1 : atI (ps.map D.int) 1 = some (.int (ps.getD 1 0)) := by
          rw [atI_pos (by decide)]
          simp [List.getElem?_eq_getElem (show 1 < ps.length by omega)]
        have eT : isTu (cellD c) = ret () := rfl
        have eC : ∀ k : Int, cntT (cellD c) (.int k) = ret (.int (c.count k : Nat)) := fun k => by
          show (match intsOf (c.map D.int) with
            | some ns => ret (D.int (ns.count k : Nat))
            | none => no) = _
          rw [intsOf_map]
        simp [runB_eq, startE, t_counted_1, opEq_str, hr, hc, cellOD, eI, t_counted_2, t_counted_3, eT, opIx_loc, wp_obj hp]
        rw [e1]
        simp [eC]
        exact q
def reckI (w : Str) (ps : List Int) : Int := if w = "half" then ps.getD 0 0 / 2 else if w = "turn" then -(ps.getD 0 0) else if w = "plus" then heldI (ps.getD 0 0 + ps.getD 1 0) (-999) 999 else if w = "less" then (if ps.getD 0 0 < ps.getD 1 0 then 1 else 0) else if w = "same" then (if ps.getD 0 0 = ps.getD 1 0 then 1 else 0) else if ps.getD 0 0 = 0 then ps.getD 1 0 else ps.getD 2 0
theorem p_reckoned (ns : List Int) {w : Str} {ps : List Int} {p : Nat} {st : Sto} (hp : st[p]? = some (.lst (ps.map .int))) (h1 : 1 ≤ ps.length) (h2 : w ≠ "half" → w ≠ "turn" → 2 ≤ ps.length) (h3 : w ≠ "half" → w ≠ "turn" → w ≠ "plus" → w ≠ "less" → w ≠ "same" → 3 ≤ ps.length) {Q : D → Sto → Prop} (q : Q (.int (reckI w ps)) st) : wp (m_reckoned ns [.str w, .loc p]) st Q := by
  have e0 : m_reckoned ns = runB 3 (t_reckoned_1 ns) := rfl
  have ix : ∀ k : Nat, k < ps.length → atI (ps.map D.int) (k : Int) = some (.int (ps.getD k 0)) := fun k hk => by
    rw [atI_pos (by omega)]
    simp [List.getElem?_eq_getElem hk]
  have i0 : atI (ps.map D.int) 0 = some (.int (ps.getD 0 0)) := ix 0 (by omega)
  rw [e0]
  unfold reckI at q
  simp only [runB_eq, wp_bnd]
  generalize ps.getD 0 0 = a at q i0
  unfold t_reckoned_1
  generalize hT : t_reckoned_2 ns = T
  simp [startE, opIx_loc, wp_obj hp, i0]
  rw [← hT]
  unfold t_reckoned_2
  generalize hT : t_reckoned_3 ns = T
  by_cases c1 : w = "half"
  · simp [c1] at q
    simp [c1, opEq_str, opFdiv_int (show (0 : Int) < 2 by decide) (by decide), q]
  simp [c1, opEq_str] at q ⊢
  rw [← hT]
  unfold t_reckoned_3
  generalize hT : t_reckoned_4 ns = T
  by_cases c2 : w = "turn"
  · simp [c2] at q
    simp [c2, opEq_str, q]
  simp [c2, opEq_str] at q ⊢
  have i1 : atI (ps.map D.int) 1 = some (.int (ps.getD 1 0)) := ix 1 (by have := h2 c1 c2; omega)
  generalize hb : ps.getD 1 0 = b at i1
  rw [List.getD_eq_getElem?_getD] at hb
  rw [← hT]
  unfold t_reckoned_4
  generalize hT : t_reckoned_5 ns = T
  by_cases c3 : w = "plus"
  · simp [c3, hb] at q
    simp [c3, opEq_str, opIx_loc, wp_obj hp, i1, e_held, q]
  simp [c3, opEq_str] at q ⊢
  rw [← hT]
  unfold t_reckoned_5
  generalize hT : t_reckoned_6 ns = T
  by_cases c4 : w = "less"
  · simp [c4, hb] at q
    simp [c4, opEq_str, opIx_loc, wp_obj hp, i1]
    by_cases hlt : a < b <;> simp [hlt] at q ⊢ <;> exact q
  simp [c4, opEq_str] at q ⊢
  rw [← hT]
  unfold t_reckoned_6
  generalize hT : t_reckoned_7 ns = T
  by_cases c5 : w = "same"
  · simp [c5, hb] at q
    simp [c5, opEq_str, opIx_loc, wp_obj hp, i1, opEq_int]
    by_cases hlt : a = b <;> simp [hlt] at q ⊢ <;> exact q
  simp [c5, opEq_str] at q ⊢
  have i2 : atI (ps.map D.int) 2 = some (.int (ps.getD 2 0)) := ix 2 (by have := h3 c1 c2 c3 c4 c5; omega)
  generalize hc : ps.getD 2 0 = c at i2
  rw [List.getD_eq_getElem?_getD] at hc
  rw [← hT]
  unfold t_reckoned_7
  by_cases c6 : a = 0
  · simp [c6, hb] at q
    simp [c6, opEq_int, opIx_loc, wp_obj hp, i1, q]
  · simp [c6, hc] at q
    simp [c6, opEq_int, opIx_loc, wp_obj hp, i2, q]
end Lk15
end
section
set_option Elab.async false
set_option linter.all false
set_option maxRecDepth 100000
namespace Lk15
open PySem L2 Pm TL
def t_value_of_word_4 (ns : List Int) : MS := (retS (calE (conA (rd 0) (conA (rd 1) nilA)) (ofLen 2 (m_reckoned ns))))
def t_value_of_word_3 (ns : List Int) : MS := (seqS (ifS (tstB (bin (rd 0) (tupE (conA (kon (.str "count")) (conA (kon (.str "marked")) (conA (kon (.str "room")) nilA)))) opIn)) (retS (calE (conA (rd 0) (conA (calE (conA (rd 3) (conA (rd 4) (conA (bin (rd 1) (kon (.int 0)) (opIx ns)) nilA))) (ofLen 3 (m_seen_cell ns))) (conA (rd 1) nilA))) (ofLen 3 (m_counted ns)))) nxS) (t_value_of_word_4 ns))
def t_value_of_word_2 (ns : List Int) : MS := (seqS (ifS (tstB (bin (rd 0) (rd 2) opIn)) (retS (bin (rd 2) (rd 0) (opIx ns))) nxS) (t_value_of_word_3 ns))
def t_value_of_word_1 (ns : List Int) : MS := (seqS (ifS (tstV (una (rd 0) (isi "int"))) (retS (rd 0)) nxS) (t_value_of_word_2 ns))
theorem e_t_value_of_word (ns : List Int) : b_value_of_word ns = t_value_of_word_1 ns := rfl
/-! ### values -/
def knK (kn : List (Str × Int)) : List (Key × D) := kn.map fun p => (.inr p.1, .int p.2)
theorem getK_kn (w : Str) : ∀ kn : List (Str × Int), getK (knK kn) (.inr w) = (kn.lookup w).map .int
  | [] => rfl
  | (x, v) :: r => by
    have ih := getK_kn w r
    unfold getK knK at ih ⊢
    rw [List.map_cons, List.find?_cons, List.lookup_cons]
    by_cases h : x = w
    · subst h
      simp
    · have h' : (w == x) = false := by simpa using fun e : w = x => h e.symm
      have h2 : decide ((Sum.inr x : Key) = Sum.inr w) = false := by simpa using h
      rw [h2, h']
      exact ih
/-- the value of one word; ps: the values behind it -/
def wordI (kn : List (Str × Int)) (ring : Bool) (n : Int) (v : Vw) (w : Str) (ps : List Int) : Int := if figsB w = true then (PySem.intText? w).getD 0 else match kn.lookup w with
  | some x => x
  | none => if w ∈ (["count", "marked", "room"] : List Str) then countedI w (seenO ring n v (ps.getD 0 0)) ps else reckI w ps
def manyN (w : Str) : Nat := if figsB w = true then 0 else match kd_PARTS.lookup w with
  | some (.int m) => m.toNat
  | _ => 0
def vStep (kn : List (Str × Int)) (ring : Bool) (n : Int) (v : Vw) (vs : List Int) (w : Str) : List Int := wordI kn ring n v w (vs.take (manyN w)) :: vs.drop (manyN w)
def vRun (kn : List (Str × Int)) (ring : Bool) (n : Int) (v : Vw) : List Str → List Int → List Int
  | [], vs => vs
  | w :: r, vs => vRun kn ring n v r (vStep kn ring n v vs w)
def valI (kn : List (Str × Int)) (ring : Bool) (n : Int) (v : Vw) (ws : List Str) : Int := (vRun kn ring n v ws.reverse []).headD 0
/-- what is known covers the names, and the words without parts -/
structure Cov (names : List Str) (kn : List (Str × Int)) : Prop where
  base : ∀ w ∈ (["mine", "others", "size", "ahead", "behind"] : List Str), (kn.lookup w).isSome = true
  nms : ∀ w ∈ names, (kn.lookup w).isSome = true ∧ kd_PARTS.lookup w = none
theorem parts_get (w : Str) : cGet kd_PARTS (keptD w) (.int 0) = ret (.int (manyN w)) := by
  unfold keptD manyN
  by_cases h : figsB w = true
  · simp [h]
    rfl
  · simp [h]
    show ret ((kd_PARTS.lookup w).getD (.int 0)) = _
    rcases parts_form [] w with hp | ⟨m, h1, h2, hp⟩
    · unfold partsB at hp
      simp [h] at hp
      cases e : kd_PARTS.lookup w with
      | none => rfl
      | some d =>
        rw [e] at hp
        subst hp
        exact absurd e (by
          unfold kd_PARTS
          simp only [List.lookup_cons, List.lookup_nil]
          repeat' split
          all_goals simp)
    · unfold partsB at hp
      simp [h] at hp
      cases e : kd_PARTS.lookup w with
      | none => rw [e] at hp; cases hp
      | some d =>
        rw [e] at hp
        simp at hp
        subst hp
        show ret (D.int m) = ret (D.int ((m.toNat : Nat) : Int))
        rw [Int.toNat_of_nonneg h1]
theorem parts_cases {w : Str} {m : Int} (h : kd_PARTS.lookup w = some (.int m)) : (m = 0 ∧ w ∈ (["mine", "others", "size", "ahead", "behind"] : List Str)) ∨ (m = 1 ∧ w ∈ (["count", "room", "half", "turn"] : List Str)) ∨ (m = 2 ∧ w ∈ (["marked", "plus", "less", "same"] : List Str)) ∨ (m = 3 ∧ w = "pick") := by
  unfold kd_PARTS at h
  simp only [List.lookup_cons, List.lookup_nil] at h
  repeat' split at h
  all_goals first
    | (rename_i e
       have e := eq_of_beq e
       injection h with h
       injection h with h
       subst h
       subst e
       simp
       done)
    | cases h
theorem p_value_of_word (ns : List Int) {names : List Str} {kn : List (Str × Int)} (hc : Cov names kn) {ring : Bool} {n : Int} (hn : 0 < n) {v : Vw} {w : Str} {ps : List Int} {m : Int} (hm : partsB names w = .int m) (hps : (ps.length : Int) = m) {p k : Nat} {st : Sto} (hp : st[p]? = some (.lst (ps.map .int))) (hk : st[k]? = some (.dct (knK kn))) {Q : D → Sto → Prop} (q : Q (.int (wordI kn ring n v w ps)) st) :
    wp (m_value_of_word ns [keptD w, .loc p, .loc k, flD ring n, v.d]) st Q := by
  have e0 : m_value_of_word ns = runB 5 (t_value_of_word_1 ns) := rfl
  rw [e0]
  unfold wordI at q
  simp only [runB_eq, wp_bnd]
  unfold t_value_of_word_1 keptD
  generalize hT : t_value_of_word_2 ns = T
  by_cases hf : figsB w = true
  · have eI : isi "int" (.int ((PySem.intText? w).getD 0)) = ret (.bl true) := rfl
    simp [hf] at q
    simp [startE, hf, eI, q]
  · have eI : isi "int" (.str w) = ret (.bl false) := rfl
    rw [if_neg hf] at q
    simp [startE, hf, eI]
    rw [← hT]
    unfold t_value_of_word_2
    generalize hT : t_value_of_word_3 ns = T
    have ein : ∀ Q : D → Sto → Prop, wp (opIn (.str w) (.loc k)) st Q = Q (.bl (kn.lookup w).isSome) st := fun Q => by
      show wp (bnd (obj k) _) st Q = _
      rw [wp_bnd, wp_obj hk]
      show Q (.bl (getK (knK kn) (.inr w)).isSome) st = _
      rw [getK_kn, Option.isSome_map]
    have eix : ∀ Q : D → Sto → Prop, wp (opIx ns (.loc k) (.str w)) st Q = wp (ofO ((kn.lookup w).map .int)) st Q := fun Q => by
      show wp (bnd (obj k) _) st Q = _
      rw [wp_bnd, wp_obj hk, ← getK_kn]
      rfl
    simp [ein, eix]
    cases hl : kn.lookup w with
    | some x =>
      rw [hl] at q
      simp at q
      simp [q]
    | none =>
      rw [hl] at q
      simp only at q
      have hnm : w ∉ names := fun h => by
        have := (hc.nms w h).1
        rw [hl] at this
        cases this
      have hpar : kd_PARTS.lookup w = some (.int m) := by
        unfold partsB at hm
        simp [hf, hnm] at hm
        cases e : kd_PARTS.lookup w with
        | none => rw [e] at hm; cases hm
        | some d => rw [e] at hm; simp at hm; rw [hm]
      have hcase := parts_cases hpar
      have hm1 : 1 ≤ ps.length := by
        rcases hcase with ⟨rfl, h⟩ | ⟨rfl, h⟩ | ⟨rfl, h⟩ | ⟨rfl, h⟩
        · have := hc.base w h
          rw [hl] at this
          cases this
        · omega
        · omega
        · omega
      rw [← hT]
      unfold t_value_of_word_3
      generalize hT : t_value_of_word_4 ns = T
      have e3 : opIn (.str w) (.tup [.str "count", .str "marked", .str "room"]) = ret (.bl (decide (w ∈ (["count", "marked", "room"] : List Str)))) := inT_strs w ["count", "marked", "room"]
      have z : ∀ k, k ≤ 10 → k ≤ sizeLine := fun k h => Nat.le_trans h (small_line (by decide))
      have i0 : atI (ps.map D.int) 0 = some (.int (ps.getD 0 0)) := by
        rw [atI_pos (by decide)]
        simp [List.getElem?_eq_getElem (show 0 < ps.length by omega)]
      by_cases h3 : w ∈ (["count", "marked", "room"] : List Str)
      · rw [if_pos h3] at q
        simp [z 3 (by decide), e3]
        simp at h3
        simp [h3, opIx_loc, wp_obj hp, i0, e_seen_cell ns hn]
        simp only [List.getD_eq_getElem?_getD] at q
        refine p_counted ns hp (fun h4 h5 => ?_) (by simpa using q)
        rcases h3 with h3 | h3 | h3
        · exact absurd h3 h5
        · rcases hcase with ⟨_, h⟩ | ⟨_, h⟩ | ⟨rfl, h⟩ | ⟨_, h⟩
          · subst h3; exact absurd h (by decide +kernel)
          · subst h3; exact absurd h (by decide +kernel)
          · omega
          · subst h3; exact absurd h (by decide +kernel)
        · exact absurd h3 h4
      · rw [if_neg h3] at q
        simp [z 3 (by decide), e3]
        simp at h3
        simp [h3]
        rw [← hT]
        unfold t_value_of_word_4
        simp
        refine p_reckoned ns hp hm1 (fun c1 c2 => ?_) (fun c1 c2 c3 c4 c5 => ?_) (by simpa using q)
        · rcases hcase with ⟨_, h⟩ | ⟨_, h⟩ | ⟨rfl, h⟩ | ⟨rfl, h⟩
          · have := hc.base w h
            rw [hl] at this
            cases this
          · simp [h3, c1, c2] at h
          · omega
          · omega
        · rcases hcase with ⟨_, h⟩ | ⟨_, h⟩ | ⟨_, h⟩ | ⟨rfl, h⟩
          · have := hc.base w h
            rw [hl] at this
            cases this
          · simp [h3, c1, c2] at h
          · simp [h3, c3, c4, c5] at h
          · omega
end Lk15
end
section
set_option Elab.async false
set_option linter.all false
set_option maxRecDepth 100000
namespace Lk15
open PySem L2 Pm TL
def t_value_of_2_2 (ns : List Int) : MS := (setS (.nm 4) (bin (lstE (conA (calE (conA (rd 5) (conA (sli (rd 4) noP (som (rd 6)) (opSl ns)) (conA (rd 1) (conA (rd 2) (conA (rd 3) nilA))))) (ofLen 5 (m_value_of_word ns))) nilA)) (sli (rd 4) (som (rd 6)) noP (opSl ns)) opAdd))
def t_value_of_2_1 (ns : List Int) : MS := (seqS (setS (.nm 6) (bin (rd 5) (kon (.int 0)) (cGet kd_PARTS))) (t_value_of_2_2 ns))
def t_value_of_3 (ns : List Int) : MS := (retS (bin (rd 4) (kon (.int 0)) (opIx ns)))
def t_value_of_2 (ns : List Int) : MS := (seqS (forS (revA (rd 0)) (.nm 5) (t_value_of_2_1 ns)) (t_value_of_3 ns))
def t_value_of_1 (ns : List Int) : MS := (seqS (setS (.nm 4) (lstE nilA)) (t_value_of_2 ns))
theorem e_t_value_of (ns : List Int) : b_value_of ns = t_value_of_1 ns := rfl
theorem cut_to (xs : List Int) (k : Nat) : cutD xs none (some (k : Int)) = xs.take k := by
  have h : ¬ ((k : Int) < 0) := by omega
  simp [cutD, HT.sIx, h, List.take_eq_take_iff]
theorem cut_fromI (xs : List Int) (k : Nat) : cutD xs (some (k : Int)) none = xs.drop k := by
  unfold cutD
  rw [HT.sIx_none, HT.sIx_nat]
  by_cases h : k ≤ xs.length
  · rw [Nat.min_eq_left h]
    rw [List.take_of_length_le (by simp)]
  · rw [Nat.min_eq_right (by omega), List.drop_length, List.drop_eq_nil_of_le (show xs.length ≤ k by omega)]
    simp
theorem manyN_of {names : List Str} {w : Str} {m : Int} {kn : List (Str × Int)} (hc : Cov names kn) (hm : partsB names w = .int m) : (manyN w : Int) = m := by
  unfold partsB at hm
  unfold manyN
  by_cases hf : figsB w = true
  · simp [hf] at hm ⊢
    exact hm
  · by_cases hn : w ∈ names
    · simp [hf, hn] at hm ⊢
      rw [(hc.nms w hn).2]
      simpa using hm
    · simp [hf, hn] at hm ⊢
      cases e : kd_PARTS.lookup w with
      | none => rw [e] at hm; cases hm
      | some d =>
        rw [e] at hm
        simp at hm
        subst hm
        have := parts_cases e
        simp
        omega
theorem p_value_of (ns : List Int) {names : List Str} {kn : List (Str × Int)} (hc : Cov names kn) {ring : Bool} {n : Int} (hn : 0 < n) {v : Vw} {ws : List Str} (hl : ws.length ≤ 100) (hE : exprB names ws = true) {k : Nat} {st : Sto} (hk : st[k]? = some (.dct (knK kn))) {Q : D → Sto → Prop}
    (q : ∀ s, Fr [] st s → Q (.int (valI kn ring n v ws)) s) : wp (m_value_of ns [.tup (ws.map keptD), .loc k, flD ring n, v.d]) st Q := by
  have e0 : m_value_of ns = runB 7 (t_value_of_1 ns) := rfl
  obtain ⟨d, hd⟩ : ∃ d, exRun names ws.reverse [] = some [d] := by
    unfold exprB at hE
    cases e : exRun names ws.reverse [] with
    | none => rw [e] at hE; cases hE
    | some l =>
      rw [e] at hE
      match l, hE with
      | [d], _ => exact ⟨d, rfl⟩
  have z : ∀ k, k ≤ 10 → k ≤ sizeLine := fun k h => Nat.le_trans h (small_line (by decide))
  rw [e0]
  unfold valI at q
  simp [runB_eq, startE, t_value_of_1, t_value_of_2, revA]
  have eR : revI (.tup (ws.map keptD)) = ret ⟨(ws.map keptD).reverse, fun _ => true⟩ := rfl
  rw [eR]
  simp only [wp_ret]
  refine wp_forL (fun i ρ s => ∃ P vs ds, (∃ v5 v6, ρ = [some (.tup (ws.map keptD)), some (.loc k), some (flD ring n), some v.d, some (.loc P), v5, v6]) ∧ i ≤ ws.length ∧ s[P]? = some (.lst (vs.map .int)) ∧ ds.length = vs.length ∧ vs.length ≤ i ∧ exRun names (ws.reverse.drop i) ds = some [d] ∧ vRun kn ring n v (ws.reverse.drop i) vs = vRun kn ring n v ws.reverse [] ∧ Fr [] st s) _ 0 _ _
    ⟨st.length, [], [], ⟨_, _, rfl⟩, by omega, by simp, rfl, by simp, by simpa using hd, by simp, Fr.new _⟩ (fun j x ρ s hj hI => ?_) fun ρ s hI => ?_
  · obtain ⟨P, vs, ds, ⟨v5, v6, rfl⟩, hi, hP, hdl, hvl, hX, hV, f⟩ := hI
    rw [Nat.zero_add] at hi hX hV hvl
    have hj1 : j < ws.reverse.length := by
      have := (List.getElem?_eq_some_iff.mp hj).1
      simpa using this
    have hx : x = keptD ws.reverse[j] := by
      rw [← List.map_reverse, List.getElem?_map, List.getElem?_eq_getElem hj1] at hj
      simpa using hj.symm
    subst hx
    have hdr : ws.reverse.drop j = ws.reverse[j] :: ws.reverse.drop (j + 1) := List.drop_eq_getElem_cons hj1
    have hjw : j < ws.length := by simpa using hj1
    rw [hdr] at hX hV
    generalize ws.reverse[j] = w at hX hV
    rw [exRun] at hX
    rw [vRun] at hV
    refine ⟨rfl, _, by simp; rfl, ?_⟩
    simp [t_value_of_2_1, parts_get]
    rcases parts_form names w with hp | ⟨m, hm0, hm3, hp⟩
    · exfalso
      unfold exStep at hX
      rw [hp] at hX
      cases hX
    · have hmN := manyN_of hc hp
      unfold exStep at hX
      rw [hp] at hX
      by_cases hmd : m ≤ ds.length
      · simp only [if_pos hmd] at hX
        unfold vStep at hV
        have hm2 : manyN w ≤ vs.length := by omega
        generalize hM : manyN w = M at hV hmN hm2
        simp [t_value_of_2_2]
        rw [wp_sl hP, cut_map, cut_to]
        have g1 : (s ++ [O.lst ((vs.take M).map D.int)])[s.length]? = some (.lst ((vs.take M).map .int)) := by simp
        have f1 : Fr [] s (s ++ [O.lst ((vs.take M).map D.int)]) := Fr.new _
        generalize s ++ [O.lst ((vs.take M).map D.int)] = s1 at g1 f1
        refine p_value_of_word ns hc hn hp (by rw [List.length_take]; omega) g1 ((f.trans f1).at hk (by simp)) ?_
        simp [z 1 (by decide)]
        have g2 : (s1 ++ [O.lst [D.int (wordI kn ring n v w (vs.take M))]])[P]? = some (.lst (vs.map .int)) := (f1.trans (Fr.new _)).at hP (by simp)
        rw [wp_sl g2, cut_map, cut_fromI]
        have g3 : (s1 ++ [O.lst [D.int (wordI kn ring n v w (vs.take M))]] ++ [O.lst ((vs.drop M).map D.int)])[s1.length]? = some (.lst [D.int (wordI kn ring n v w (vs.take M))]) := by simp
        have f3 : Fr [] s1 (s1 ++ [O.lst [D.int (wordI kn ring n v w (vs.take M))]] ++ [O.lst ((vs.drop M).map D.int)]) := (Fr.new _).trans (Fr.new _)
        rw [wp_addL (ys := (vs.drop M).map .int) g3 (by simp) (by simp; omega)]
        refine ⟨_, rfl, by omega, wordI kn ring n v w (vs.take M) :: vs.drop M, by simp, _, ?_, ?_, hX, hV, ((f.trans f1).trans f3).trans (Fr.new _)⟩
        · rw [show m = ((M : Nat) : Int) from hmN.symm, cut_fromI]
          simp
          omega
        · simp
          omega
      · simp only [if_neg hmd] at hX
        cases hX
  · obtain ⟨P, vs, ds, ⟨v5, v6, rfl⟩, hi, hP, hdl, hvl, hX, hV, f⟩ := hI
    refine ⟨rfl, ?_⟩
    have hnil : ws.reverse.drop (0 + (List.map keptD ws).reverse.length) = [] := List.drop_eq_nil_of_le (by simp)
    rw [hnil, exRun] at hX
    rw [hnil, vRun] at hV
    cases hX
    match vs, hdl, hV, hP with
    | [a], _, hV, hP =>
      have := q s f
      rw [← hV] at this
      simp [t_value_of_3, opIx_loc, wp_obj hP, atI, ixN]
      exact this
end Lk15
end
section
set_option Elab.async false
set_option linter.all false
set_option maxRecDepth 100000
namespace Lk15
open PySem L2 Pm TL
def t_thought_of_5 (ns : List Int) : MS := (retS (tupE (conA (calE (conA (rd 6) (conA (una (kon (.int 1)) opNeg) (conA (kon (.int 1)) nilA))) (ofLen 3 (m_held ns))) (conA (calE (conA (rd 7) (conA (kon (.int 0)) (conA (bin (fldE (rd 0) ["Program"] "marks") (kon (.int 1)) opSub) nilA))) (ofLen 3 (m_held ns))) nilA))))
def t_thought_of_4 (ns : List Int) : MS := (seqS (setS (.nm 7) (calE (conA (fldE (rd 0) ["Program"] "for_mark") (conA (rd 3) (conA (rd 1) (conA (rd 2) nilA)))) (ofLen 4 (m_value_of ns)))) (t_thought_of_5 ns))
def t_thought_of_3 (ns : List Int) : MS := (seqS (setS (.nm 6) (calE (conA (fldE (rd 0) ["Program"] "for_step") (conA (rd 3) (conA (rd 1) (conA (rd 2) nilA)))) (ofLen 4 (m_value_of ns)))) (t_thought_of_4 ns))
def t_thought_of_2 (ns : List Int) : MS := (seqS (forS (iterA (fldE (rd 0) ["Program"] "lets")) (.tp [(.nm 4), (.nm 5)]) (subS (calE (conA (rd 5) (conA (rd 3) (conA (rd 1) (conA (rd 2) nilA)))) (ofLen 4 (m_value_of ns))) (rd 3) (rd 4))) (t_thought_of_3 ns))
def t_thought_of_1 (ns : List Int) : MS := (seqS (setS (.nm 3) (calE (conA (rd 1) (conA (rd 2) nilA)) (ofLen 2 (m_known_at_first ns)))) (t_thought_of_2 ns))
theorem e_t_thought_of (ns : List Int) : b_thought_of ns = t_thought_of_1 ns := rfl
def t_known_at_first_2 (ns : List Int) : MS := (retS (dctE [.inr "mine", .inr "others", .inr "size", .inr "ahead", .inr "behind"] (conA (rd 2) (conA (appA (conA (lcE (iterA (calE (conA (rd 0) (conA (rd 1) nilA)) (ofLen 2 (m_cells_seen ns)))) (.nm 6) yesT (appA (conA (rd 6) nilA) (bLen ns)) [6]) nilA) bSumX) (conA (bin (rd 0) (kon (.int 1)) (opIx ns)) (conA (calE (conA (rd 4) nilA) (ofLen 1 (m_first_met ns))) (conA (calE (conA (rd 5) nilA) (ofLen 1 (m_first_met ns))) nilA)))))))
def t_known_at_first_1 (ns : List Int) : MS := (seqS (setS (.tp [(.nm 2), (.nm 3), (.nm 4), (.nm 5)]) (rd 1)) (t_known_at_first_2 ns))
theorem e_t_known_at_first (ns : List Int) : b_known_at_first ns = t_known_at_first_1 ns := rfl
def t_first_met_1_1 (ns : List Int) : MS := (ifS (tstB (bin (rd 2) (tupE nilA) opNe)) (retS (rd 1)) nxS)
def t_first_met_2 (ns : List Int) : MS := (retS (kon (.int 0)))
def t_first_met_1 (ns : List Int) : MS := (seqS (forS (enuS (rd 0) 1) (.tp [(.nm 1), (.nm 2)]) (t_first_met_1_1 ns)) (t_first_met_2 ns))
theorem e_t_first_met (ns : List Int) : b_first_met ns = t_first_met_1 ns := rfl
def t_cells_seen_2 (ns : List Int) : MS := (retS (ifE (tstB (bin (bin (rd 0) (kon (.int 0)) (opIx ns)) (kon (.str "ring")) opEq)) (lstE (conA (rd 3) (staA ns (rd 4) nilA))) (lstE (conA (rd 3) (staA ns (rd 4) (staA ns (rd 5) nilA))))))
def t_cells_seen_1 (ns : List Int) : MS := (seqS (setS (.tp [(.nm 2), (.nm 3), (.nm 4), (.nm 5)]) (rd 1)) (t_cells_seen_2 ns))
theorem e_t_cells_seen (ns : List Int) : b_cells_seen ns = t_cells_seen_1 ns := rfl
theorem pl_ints : ∀ ns : List Int, plDs 1 (ns.map D.int) = true
  | [] => by simp [plDs]
  | n :: ns => by simp [plDs, plD, pl_ints ns]
def firstGo : List (List Int) → Nat → Int
  | [], _ => 0
  | c :: r, i => if c = [] then firstGo r (i + 1) else i
def firstI (cs : List (List Int)) : Int := firstGo cs 1
theorem cell_nil {c : List Int} : (cellD c = .tup []) ↔ c = [] := by
  unfold cellD
  simp
theorem p_first_met (ns : List Int) {cs : List (List Int)} {st : Sto} {Q : D → Sto → Prop} (q : Q (.int (firstI cs)) st) : wp (m_first_met ns [.tup (cs.map cellD)]) st Q := by
  have e0 : m_first_met ns = runB 3 (t_first_met_1 ns) := rfl
  rw [e0]
  simp [runB_eq, startE, t_first_met_1, ap_enuS]
  refine wp_forL (fun i ρ s => s = st ∧ (∃ v1 v2, ρ = [some (.tup (cs.map cellD)), v1, v2]) ∧ firstGo (cs.drop i) (i + 1) = firstI cs) _ 0 _ _ ⟨rfl, ⟨_, _, rfl⟩, rfl⟩ (fun j x ρ s hj hI => ?_) fun ρ s hI => ?_
  · obtain ⟨rfl, ⟨v1, v2, rfl⟩, hF⟩ := hI
    rw [Nat.zero_add] at hF
    have hj1 : j < cs.length := by
      have := (List.getElem?_eq_some_iff.mp hj).1
      rw [enumS_len] at this
      simpa using this
    have hx : x = .tup [.int (j + 1 : Nat), cellD cs[j]] := by
      rw [enumS_get (by simpa using hj1)] at hj
      simpa using hj.symm
    subst hx
    rw [List.drop_eq_getElem_cons hj1] at hF
    generalize cs[j] = c at hF
    rw [firstGo] at hF
    have eN : opNe (cellD c) (.tup []) = ret (.bl (!decide (cellD c = .tup []))) := opNe_pl (n := 2) (m := 1) (by decide) (by decide) (by simp [cellD, plD, pl_ints]) (by simp [plD, plDs])
    refine ⟨rfl, _, by simp; rfl, ?_⟩
    simp [t_first_met_1_1, eN]
    by_cases hc : c = []
    · rw [if_pos hc] at hF
      simp [cell_nil, hc]
      exact hF
    · rw [if_neg hc] at hF
      simp [cell_nil, hc]
      rw [← hF] at q
      simpa using q
  · obtain ⟨rfl, ⟨v1, v2, rfl⟩, hF⟩ := hI
    refine ⟨rfl, ?_⟩
    have hnil : cs.drop (0 + (enumS 1 (cs.map cellD)).length) = [] := List.drop_eq_nil_of_le (by rw [enumS_len]; simp)
    rw [hnil, firstGo] at hF
    simp [t_first_met_2]
    rw [hF]
    exact q
structure Vw.Sm (v : Vw) : Prop where
  a : v.ahead.length ≤ 100
  b : v.behind.length ≤ 100
def seenL (ring : Bool) (v : Vw) : List (List Int) := if ring = true then v.here :: v.ahead else v.here :: (v.ahead ++ v.behind)
@[simp] theorem ap_staA {ns : List Int} {f : ME} {g : MA} {ρ : En} : staA ns f g ρ = bnd (f ρ) fun x => bnd (seqD ns x) fun xs => bnd (g ρ) fun ys => ret (xs ++ ys) := rfl
theorem p_cells_seen (ns : List Int) {ring : Bool} {n : Int} {v : Vw} (hv : v.Sm) {st : Sto} {Q : D → Sto → Prop} (q : Q (.loc st.length) (st ++ [.lst ((seenL ring v).map cellD)])) : wp (m_cells_seen ns [flD ring n, v.d]) st Q := by
  have e0 : m_cells_seen ns = runB 6 (t_cells_seen_1 ns) := rfl
  have eS : ∀ xs : List D, seqD ns (.tup xs) = ret xs := fun _ => rfl
  have ek : ∀ r, opIx ns (flD r n) (.int 0) = ret (.str (kindS r)) := fun _ => rfl
  have ha := hv.a
  have hb := hv.b
  have s1 : ∀ k, k ≤ 1000 → k ≤ sizeLine := fun k h => small_line (by omega)
  rw [e0]
  cases ring with
  | true =>
    simp [seenL] at q
    simp [runB_eq, startE, t_cells_seen_1, Vw.d, t_cells_seen_2, ek, kindS, opEq_str, eS, s1 (v.ahead.length + 1) (by omega)]
    exact q
  | false =>
    have e1 : ("row" : Str) ≠ "ring" := by decide +kernel
    simp [seenL] at q
    simp [runB_eq, startE, t_cells_seen_1, Vw.d, t_cells_seen_2, ek, kindS, opEq_str, eS, e1]
    exact ⟨s1 (v.ahead.length + v.behind.length + 1) (by omega), q⟩
/-! ### what is known at first -/
def sumLens (cs : List (List Int)) : Int := (cs.map fun c => (c.length : Int)).sum
def kn0 (ring : Bool) (n : Int) (v : Vw) : List (Str × Int) := [("mine", v.mark), ("others", sumLens (seenL ring v)), ("size", n), ("ahead", firstI v.ahead), ("behind", firstI v.behind)]
theorem wp_bSum {l : Nat} {zs : List Int} {st : Sto} {Q : D → Sto → Prop} (h : st[l]? = some (.lst (zs.map .int))) : wp (bSumX [.loc l]) st Q = Q (.int zs.sum) st := by
  show wp (bnd (lst l) _) st Q = _
  rw [wp_bnd, wp_lst h, intsOf_ints]
  rfl
theorem kn_set (a b c d e : Int) : setK (setK (setK (setK (setK [] (.inr "mine") (.int a)) (.inr "others") (.int b)) (.inr "size") (.int c)) (.inr "ahead") (.int d)) (.inr "behind") (.int e) = knK [("mine", a), ("others", b), ("size", c), ("ahead", d), ("behind", e)] := by rfl
theorem p_known (ns : List Int) {ring : Bool} {n : Int} {v : Vw} (hv : v.Sm) {st : Sto} {Q : D → Sto → Prop} (q : ∀ K s, st.length ≤ K → s[K]? = some (.dct (knK (kn0 ring n v))) → Fr [] st s → Q (.loc K) s) : wp (m_known_at_first ns [flD ring n, v.d]) st Q := by
  have e0 : m_known_at_first ns = runB 7 (t_known_at_first_1 ns) := rfl
  have en : opIx ns (flD ring n) (.int 1) = ret (.int n) := rfl
  have hls : (seenL ring v).length ≤ 1000 := by
    have := hv.a
    have := hv.b
    unfold seenL
    split <;> simp <;> omega
  rw [e0]
  simp only [runB_eq, wp_bnd]
  unfold t_known_at_first_1
  generalize hT : t_known_at_first_2 ns = T
  simp [startE]
  simp [Vw.d]
  rw [← hT]
  unfold t_known_at_first_2
  have eX : ∀ (g : MA) (ρ : En) (ks : List Key), dctE ks g ρ = bnd (nox (g ρ)) fun ds => if ds.length = ks.length ∧ ks.length ≤ 15 then allocO (.dct ((ks.zip ds).foldl (fun a kv => setK a kv.1 kv.2) [])) else no := fun _ _ _ => rfl
  simp only [ap_retS, eX, wp_bnd, wp_nox]
  simp
  show wp (m_cells_seen ns [flD ring n, v.d]) st _
  refine p_cells_seen ns hv ?_
  rw [wp_seqA (xs := (seenL ring v).map cellD) (by simp)]
  simp only [wp_bnd, wp_ret]
  refine wp_lcMap (fun d => match d with
    | .tup xs => .int xs.length
    | d => d) _ (fun s fr => decide_eq_true (fr.at (by simp) (by simp))) (by simp; omega) (fun x hx s fr => ?_) fun s f => ?_
  · obtain ⟨c, hc, rfl⟩ := List.mem_map.mp hx
    refine ⟨_, by simp; rfl, ?_⟩
    simp [wipeE]
    exact ⟨rfl, Fr.refl⟩
  · have e1 : ((seenL ring v).map cellD).map (fun d => match d with
      | .tup xs => .int xs.length
      | d => d) = ((seenL ring v).map fun c => (c.length : Int)).map D.int := by
      rw [List.map_map, List.map_map]
      refine List.map_congr_left fun c _ => ?_
      simp [cellD]
    rw [e1]
    rw [wp_bSum (zs := (seenL ring v).map fun c => (c.length : Int)) (by simp)]
    simp [en]
    refine p_first_met ns ?_
    refine p_first_met ns ?_
    show Q (.loc _) (_ ++ [O.dct _])
    rw [kn_set]
    exact q _ _ (by have := f.1; simp at this ⊢; omega) (by simp; rfl) ((((Fr.new _).trans f).trans (Fr.new _)).trans (Fr.new _))
end Lk15
end
section
set_option Elab.async false
set_option linter.all false
set_option maxRecDepth 100000
namespace Lk15
open PySem L2 Pm TL
/-! ### what a program thinks -/
def base5 : List Str := ["mine", "others", "size", "ahead", "behind"]
structure Kn (names : List Str) (kn : List (Str × Int)) : Prop where
  keys : kn.map (·.1) = base5 ++ names
  nms : ∀ w ∈ names, kd_PARTS.lookup w = none
theorem lookup_some {w : Str} : ∀ {kn : List (Str × Int)}, w ∈ kn.map (·.1) → (kn.lookup w).isSome = true
  | [], h => by simp at h
  | (x, v) :: r, h => by
    rw [List.lookup_cons]
    by_cases e : w = x
    · subst e
      simp
    · have e' : (w == x) = false := by simpa using e
      rw [e']
      exact lookup_some (by simpa [e] using h)
theorem Kn.cov {names : List Str} {kn : List (Str × Int)} (h : Kn names kn) : Cov names kn :=
  ⟨fun w hw => lookup_some (by rw [h.keys]; exact List.mem_append_left _ hw), fun w hw => ⟨lookup_some (by rw [h.keys]; exact List.mem_append_right _ hw), h.nms w hw⟩⟩
theorem setK_new {x : Str} {v : Int} : ∀ {kn : List (Str × Int)}, x ∉ kn.map (·.1) → setK (knK kn) (.inr x) (.int v) = knK (kn ++ [(x, v)]) := fun {kn} h => by
  unfold setK
  have e : ((knK kn).any fun kv => decide (kv.1 = Sum.inr x)) = false := by
    rw [List.any_eq_false]
    intro kv hk
    obtain ⟨p, hp, rfl⟩ := List.mem_map.mp hk
    simp
    intro e
    exact h (List.mem_map.mpr ⟨p, hp, e⟩)
  rw [e]
  simp [knK]
def letsKn (ring : Bool) (n : Int) (v : Vw) : List (Str × List Str) → List (Str × Int) → List (Str × Int)
  | [], kn => kn
  | x :: r, kn => letsKn ring n v r (kn ++ [(x.1, valI kn ring n v x.2)])
def letsOk : List Str → List (Str × List Str) → Prop
  | _, [] => True
  | names, x :: r => (x.1 ∉ names ∧ x.1 ∉ base5 ∧ kd_PARTS.lookup x.1 = none ∧ exprB names x.2 = true ∧ x.2.length ≤ 100) ∧ letsOk (names ++ [x.1]) r
structure Pg.Good (P : Pg) : Prop where
  few : P.lets.length ≤ 50
  lets : letsOk [] P.lets
  step : exprB (P.lets.map (·.1)) P.step = true
  stepL : P.step.length ≤ 100
  mark : exprB (P.lets.map (·.1)) P.mark = true
  markL : P.mark.length ≤ 100
def Pg.kn (P : Pg) (ring : Bool) (n : Int) (v : Vw) : List (Str × Int) := letsKn ring n v P.lets (kn0 ring n v)
def Pg.thS (P : Pg) (ring : Bool) (n : Int) (v : Vw) : Int := heldI (valI (P.kn ring n v) ring n v P.step) (-1) 1
def Pg.thM (P : Pg) (ring : Bool) (n : Int) (v : Vw) : Int := heldI (valI (P.kn ring n v) ring n v P.mark) 0 (P.m - 1)
theorem wp_getF {xs : List Str} {f x : Str} {l : Nat} {d : D} {fs : List (Str × D)} {st : Sto} {Q : D → Sto → Prop} (h : st[l]? = some (.ins x fs)) (hx : x ∈ xs) (hf : fs.lookup f = some d) : wp (getF xs f (.loc l)) st Q = Q d st := by
  show wp (bnd (obj l) _) st Q = _
  rw [wp_bnd, wp_obj h]
  simp only
  rw [if_pos hx, hf]
  rfl
theorem kn0_keys {ring : Bool} {n : Int} {v : Vw} : Kn [] (kn0 ring n v) := ⟨rfl, by simp⟩
theorem p_thought_of (ns : List Int) {P : Pg} (hg : P.Good) {ring : Bool} {n : Int} (hn : 0 < n) {v : Vw} (hv : v.Sm) {p : Nat} {st : Sto} (hp : st[p]? = some (.ins "Program" P.flds)) {Q : D → Sto → Prop}
    (q : ∀ s, Fr [] st s → Q (.tup [.int (P.thS ring n v), .int (P.thM ring n v)]) s) : wp (m_thought_of ns [.loc p, flD ring n, v.d]) st Q := by
  have e0 : m_thought_of ns = runB 8 (t_thought_of_1 ns) := rfl
  have z : ∀ k, k ≤ 10 → k ≤ sizeLine := fun k h => Nat.le_trans h (small_line (by decide))
  rw [e0]
  simp only [runB_eq, wp_bnd]
  unfold t_thought_of_1
  generalize hT : t_thought_of_2 ns = T
  simp [startE]
  refine p_known ns hv fun K s1 hK1 gK f1 => ?_
  have hp1 := f1.at hp (by simp)
  rw [← hT]
  unfold t_thought_of_2
  generalize hT : t_thought_of_3 ns = T
  simp
  rw [wp_getF hp1 (by simp) (show P.flds.lookup ("lets" : Str) = some P.letsD from rfl)]
  unfold Pg.letsD
  have eS : ∀ xs : List D, seqA (.tup xs) = ret ⟨xs, fun _ => true⟩ := fun _ => rfl
  rw [eS]
  simp only [wp_ret]
  refine wp_forL (fun i ρ s => ∃ kn, (∃ v4 v5 v6 v7, ρ = [some (.loc p), some (flD ring n), some v.d, some (.loc K), v4, v5, v6, v7]) ∧ i ≤ P.lets.length ∧ Kn ((P.lets.map (·.1)).take i) kn ∧ letsOk ((P.lets.map (·.1)).take i) (P.lets.drop i) ∧ letsKn ring n v (P.lets.drop i) kn = P.kn ring n v ∧ s[K]? = some (.dct (knK kn)) ∧ Fr [] st s) _ 0 _ _
    ⟨_, ⟨_, _, _, _, rfl⟩, by omega, by simpa using kn0_keys, by simpa using hg.lets, by simp [Pg.kn], gK, f1⟩ (fun j x ρ s hj hI => ?_) fun ρ s hI => ?_
  · obtain ⟨kn, ⟨v4, v5, v6, v7, rfl⟩, hi, hk, hlo, hE, hKs, f⟩ := hI
    rw [Nat.zero_add] at hi hk hlo hE
    have hj1 : j < P.lets.length := by
      have := (List.getElem?_eq_some_iff.mp hj).1
      simpa using this
    have hx : x = .tup [.str P.lets[j].1, .tup (P.lets[j].2.map keptD)] := by
      rw [List.getElem?_map, List.getElem?_eq_getElem hj1] at hj
      simpa using hj.symm
    subst hx
    have hnm2 : (P.lets.map (·.1)).take (j + 1) = (P.lets.map (·.1)).take j ++ [P.lets[j].1] := by
      rw [List.take_succ_eq_append_getElem (by simpa using hj1), List.getElem_map]
    have hnl : ((P.lets.map (·.1)).take j).length ≤ j := by
      rw [List.length_take]
      omega
    generalize (P.lets.map (·.1)).take j = names at hnm2 hk hlo hnl
    rw [List.drop_eq_getElem_cons hj1] at hlo hE
    generalize P.lets[j] = y at hnm2 hlo hE
    obtain ⟨x, ws⟩ := y
    obtain ⟨⟨o1, o2, o3, o4, o5⟩, hlo⟩ := hlo
    rw [letsKn] at hE
    refine ⟨rfl, _, by simp; rfl, ?_⟩
    simp
    refine p_value_of ns hk.cov hn o5 o4 hKs fun s2 f2 => ?_
    have g2 := f2.at hKs (by simp)
    show wp (setI (.loc K) (.str x) (.int _)) s2 _
    have eI : ∀ Q : Unit → Sto → Prop, wp (setI (.loc K) (.str x) (.int (valI kn ring n v ws))) s2 Q = Q () (s2.set K (.dct (knK (kn ++ [(x, valI kn ring n v ws)])))) := fun Q => by
      show wp (bnd (obj K) _) s2 Q = _
      rw [wp_bnd, wp_obj g2]
      show wp (if (knK kn).length < sizeLine then putO K (.dct (setK (knK kn) (.inr x) (.int (valI kn ring n v ws)))) else no) s2 Q = _
      have hkl : (knK kn).length < 1000 := by
        have e1 := congrArg List.length hk.keys
        have := hg.few
        simp [base5] at e1
        unfold knK
        rw [List.length_map]
        omega
      rw [if_pos (Nat.lt_of_lt_of_le hkl (small_line (by decide))), setK_new (by rw [hk.keys]; simp [o1, o2])]
      rfl
    rw [eI]
    rw [hnm2]
    refine ⟨by omega, _, ⟨by simp [hk.keys], fun w hw => ?_⟩, hlo, hE, by simp [(List.getElem?_eq_some_iff.mp g2).1], (f.trans f2).setNew hK1⟩
    rcases List.mem_append.mp hw with hw | hw
    · exact hk.nms w hw
    · simp at hw
      rw [hw]
      exact o3
  · obtain ⟨kn, ⟨v4, v5, v6, v7, rfl⟩, hi, hk, hlo, hE, hKs, f⟩ := hI
    refine ⟨rfl, ?_⟩
    have hnil : ∀ {α : Type} (g : (Str × List Str) → α), P.lets.drop (0 + (P.lets.map g).length) = [] := fun g => List.drop_eq_nil_of_le (by simp)
    rw [hnil, letsKn] at hE
    rw [List.take_of_length_le (by simp)] at hk
    subst hE
    rw [← hT]
    unfold t_thought_of_3
    generalize hT : t_thought_of_4 ns = T
    have hp2 := f.at hp (by simp)
    simp
    rw [wp_getF hp2 (by simp) (show P.flds.lookup ("for_step" : Str) = some (.tup (P.step.map keptD)) from rfl)]
    refine p_value_of ns hk.cov hn hg.stepL hg.step hKs fun s3 f3 => ?_
    rw [← hT]
    unfold t_thought_of_4
    generalize hT : t_thought_of_5 ns = T
    have hp3 := f3.at hp2 (by simp)
    simp
    rw [wp_getF hp3 (by simp) (show P.flds.lookup ("for_mark" : Str) = some (.tup (P.mark.map keptD)) from rfl)]
    refine p_value_of ns hk.cov hn hg.markL hg.mark (f3.at hKs (by simp)) fun s4 f4 => ?_
    rw [← hT]
    unfold t_thought_of_5
    have hp4 := f4.at hp3 (by simp)
    simp [e_held]
    rw [wp_getF hp4 (by simp) (show P.flds.lookup ("marks" : Str) = some (.int P.m) from rfl)]
    simp [e_held, z 2 (by decide)]
    exact q _ ((f.trans f3).trans f4)
end Lk15
end
section
set_option Elab.async false
set_option linter.all false
set_option maxRecDepth 100000
namespace Pm
open PySem L2
/-- [e for x in xs if t] -/
theorem wp_lcFM {ok : Sto → Bool} {p : Pat} {t : MT} {e : ME} {ρ : En} {st : Sto} {Q : List D → Sto → Prop} (g : D → Option D) (xs : List D) (hok : ∀ s, Fr [] st s → ok s = true) (hl : xs.length ≤ 100000)
    (h : ∀ x ∈ xs, ∀ s, Fr [] st s → ∃ ρ1, bindP p x ρ = some ρ1 ∧ wp (t ρ1) s fun k s' => Fr [] s s' ∧ k = (g x).isSome ∧ ∀ y, g x = some y → wp (e ρ1) s' fun z s'' => z = y ∧ Fr [] s' s'') (q : ∀ st', Fr [] st st' → Q (xs.filterMap g) st') : wp (lcL ok p t e ρ xs []) st Q := by
  refine wp_lcL (fun i a s => Fr [] st s ∧ i ≤ xs.length ∧ a.length ≤ i ∧ a = (xs.take i).filterMap g) xs 0 [] st ⟨Fr.refl, Nat.zero_le _, Nat.le_refl _, by simp⟩ (fun j x a s hj ⟨fr, hi, hn, ea⟩ => ⟨hok s fr, ?_⟩) fun a s ⟨fr, hi, hn, ea⟩ => ⟨hok s fr, ?_⟩
  · have hj1 : j < xs.length := (List.getElem?_eq_some_iff.mp hj).1
    obtain ⟨ρ1, h1, h2⟩ := h x (List.mem_of_getElem? hj) s fr
    refine ⟨ρ1, h1, ?_⟩
    have tk : xs.take (0 + j + 1) = xs.take (0 + j) ++ [x] := by
      rw [Nat.zero_add, List.take_add_one, hj]; rfl
    refine wp_mono h2 fun k s' ⟨fr', ek, h3⟩ => ?_
    subst ek
    cases eg : g x with
    | none =>
      rw [if_neg (by simp)]
      exact ⟨fr.trans fr', by omega, by omega, by rw [tk, List.filterMap_append, ea]; simp [eg]⟩
    | some y =>
      rw [if_pos (show (some y).isSome = true from rfl)]
      refine wp_mono (h3 y eg) fun z s'' ⟨ey, fr''⟩ => ⟨Nat.lt_of_le_of_lt (show a.length ≤ 99999 by omega) (by rw [sizeLine_eq]; decide), (fr.trans fr').trans fr'', by omega, by simp; omega, by rw [tk, List.filterMap_append, ea, ey]; simp [eg]⟩
  · rw [ea]
    simp only [Nat.zero_add, List.take_length]
    exact q s fr
end Pm
end
section
set_option Elab.async false
set_option linter.all false
set_option maxRecDepth 100000
namespace Lk15
open PySem L2 Pm TL
def t_view_of_4 (ns : List Int) : MS := (retS (tupE (conA (rd 4) (conA (calE (conA (rd 1) (conA (rd 2) (conA (rd 3) nilA))) (ofLen 3 (m_cell_at ns))) (conA (rd 6) (conA (rd 7) nilA))))))
def t_view_of_3 (ns : List Int) : MS := (seqS (setS (.nm 7) (calE (conA (rd 0) (conA (rd 1) (conA (rd 2) (conA (una (rd 5) opNeg) nilA)))) (ofLen 4 (m_cells_towards ns)))) (t_view_of_4 ns))
def t_view_of_2 (ns : List Int) : MS := (seqS (setS (.nm 6) (calE (conA (rd 0) (conA (rd 1) (conA (rd 2) (conA (rd 5) nilA)))) (ofLen 4 (m_cells_towards ns)))) (t_view_of_3 ns))
def t_view_of_1 (ns : List Int) : MS := (seqS (setS (.tp [(.nm 3), (.nm 4), (.nm 5)]) (bin (rd 1) (rd 2) (opIx ns))) (t_view_of_2 ns))
theorem e_t_view_of (ns : List Int) : b_view_of ns = t_view_of_1 ns := rfl
def t_cells_towards_3 (ns : List Int) : MS := (retS (appA (conA (lcE (iterA (rd 5)) (.nm 7) (tstB (bin (rd 7) (kon .non) opIsNot)) (calE (conA (rd 1) (conA (rd 2) (conA (rd 7) nilA))) (ofLen 3 (m_cell_at ns))) [7]) nilA) bTuple))
def t_cells_towards_2 (ns : List Int) : MS := (seqS (setS (.nm 5) (lcE (rng2 (kon (.int 1)) (bin (rd 0) (kon (.int 1)) (opIx ns))) (.nm 6) yesT (calE (conA (rd 0) (conA (rd 4) (conA (bin (rd 3) (rd 6) opMul) nilA))) (ofLen 3 (m_place_at ns))) [6])) (t_cells_towards_3 ns))
def t_cells_towards_1 (ns : List Int) : MS := (seqS (setS (.nm 4) (bin (bin (rd 1) (rd 2) (opIx ns)) (kon (.int 0)) (opIx ns))) (t_cells_towards_2 ns))
theorem e_t_cells_towards (ns : List Int) : b_cells_towards ns = t_cells_towards_1 ns := rfl
def t_cell_at_2 (ns : List Int) : MS := (retS (appA (conA (appA (conA (rd 3) nilA) bSortX) nilA) bTuple))
def t_cell_at_1 (ns : List Int) : MS := (seqS (setS (.nm 3) (lcE (enuI (rd 0)) (.tp [(.nm 4), (.tp [(.nm 5), (.nm 6), (.nm 7)])]) (andT (tstB (bin (rd 5) (rd 2) opEq)) (tstB (bin (rd 4) (rd 1) opNe))) (rd 6) [4, 5, 6, 7])) (t_cell_at_2 ns))
theorem e_t_cell_at (ns : List Int) : b_cell_at ns = t_cell_at_1 ns := rfl
def t_place_at_4 (ns : List Int) : MS := (retS (ifE (tstB (chn (kon (.int 0)) (rd 5) (rd 4) opLe opLtX)) (rd 5) (kon .non)))
def t_place_at_3 (ns : List Int) : MS := (seqS (ifS (tstB (bin (rd 3) (kon (.str "ring")) opEq)) (retS (bin (rd 5) (rd 4) opMod)) nxS) (t_place_at_4 ns))
def t_place_at_2 (ns : List Int) : MS := (seqS (setS (.nm 5) (bin (rd 1) (rd 2) opAdd)) (t_place_at_3 ns))
def t_place_at_1 (ns : List Int) : MS := (seqS (setS (.tp [(.nm 3), (.nm 4)]) (rd 0)) (t_place_at_2 ns))
theorem e_t_place_at (ns : List Int) : b_place_at ns = t_place_at_1 ns := rfl
def t_place_behind_2 (ns : List Int) : MS := (retS (ifE (tstB (bin (rd 4) (kon .non) opIs)) (rd 1) (rd 4)))
def t_place_behind_1 (ns : List Int) : MS := (seqS (setS (.nm 4) (calE (conA (rd 0) (conA (rd 1) (conA (bin (rd 2) (rd 3) opMul) nilA))) (ofLen 3 (m_place_at ns)))) (t_place_behind_2 ns))
theorem e_t_place_behind (ns : List Int) : b_place_behind ns = t_place_behind_1 ns := rfl
def t_entry_behind_3 (ns : List Int) : MS := (retS (tupE (conA (calE (conA (rd 1) (conA (rd 4) (conA (rd 6) (conA (rd 7) nilA)))) (ofLen 4 (m_place_behind ns))) (conA (rd 8) (conA (rd 6) nilA)))))
def t_entry_behind_2 (ns : List Int) : MS := (seqS (setS (.tp [(.nm 7), (.nm 8)]) (calE (conA (rd 0) (conA (rd 1) (conA (calE (conA (rd 1) (conA (rd 2) (conA (rd 3) nilA))) (ofLen 3 (m_view_of ns))) nilA))) (ofLen 3 (m_thought_of ns)))) (t_entry_behind_3 ns))
def t_entry_behind_1 (ns : List Int) : MS := (seqS (setS (.tp [(.nm 4), (.nm 5), (.nm 6)]) (bin (rd 2) (rd 3) (opIx ns))) (t_entry_behind_2 ns))
theorem e_t_entry_behind (ns : List Int) : b_entry_behind ns = t_entry_behind_1 ns := rfl
def t_standing_behind_3 (ns : List Int) : MS := (retS (appA (conA (rd 4) nilA) bTuple))
def t_standing_behind_2 (ns : List Int) : MS := (seqS (forS (enuI (rd 2)) (.tp [(.nm 5), (.nm 6)]) (dropS (meth (rd 4) (conA (ifE (tstB (bin (rd 5) (rd 3) opIn)) (calE (conA (rd 0) (conA (rd 1) (conA (rd 2) (conA (rd 5) nilA)))) (ofLen 4 (m_entry_behind ns))) (rd 6)) nilA) mAppend))) (t_standing_behind_3 ns))
def t_standing_behind_1 (ns : List Int) : MS := (seqS (setS (.nm 4) (lstE nilA)) (t_standing_behind_2 ns))
theorem e_t_standing_behind (ns : List Int) : b_standing_behind ns = t_standing_behind_1 ns := rfl
/-! ### standings, views -/
abbrev Ent := Int × Int × Int
def entD (e : Ent) : D := .tup [.int e.1, .int e.2.1, .int e.2.2]
def stD (S : List Ent) : D := .tup (S.map entD)
def placeO (ring : Bool) (n place steps : Int) : Option Int := if ring = true then some ((place + steps) % n) else if 0 ≤ place + steps ∧ place + steps < n then some (place + steps) else none
def intOD : Option Int → D
  | none => .non
  | some i => .int i
theorem e_place_at (ns : List Int) {ring : Bool} {n : Int} (hn : 0 < n) (place steps : Int) : m_place_at ns [flD ring n, .int place, .int steps] = ret (intOD (placeO ring n place steps)) := by
  have e0 : m_place_at ns = runB 6 (t_place_at_1 ns) := rfl
  have e1 : ("row" : Str) ≠ "ring" := by decide +kernel
  rw [e0]
  cases ring with
  | true => simp [runB_eq, startE, t_place_at_1, t_place_at_2, t_place_at_3, flD, kindS, opEq_str, opMod_int hn, placeO, intOD]
  | false =>
    simp [runB_eq, startE, t_place_at_1, t_place_at_2, t_place_at_3, t_place_at_4, flD, kindS, opEq_str, placeO, e1]
    by_cases h0 : 0 ≤ place + steps
    · by_cases h1 : place + steps < n
      · simp [h0, h1, intOD]
      · simp [h0, h1, intOD]
    · simp [h0, intOD]
def cellI (S : List Ent) (w place : Int) : List Int := isort (S.zipIdx.filterMap fun p => if p.1.1 = place ∧ ¬ (p.2 : Int) = w then some p.1.2.1 else none)
theorem p_cell_at (ns : List Int) {S : List Ent} (hS : S.length ≤ 1000) {w place : Int} {st : Sto} {Q : D → Sto → Prop} (q : ∀ s, Fr [] st s → Q (cellD (cellI S w place)) s) : wp (m_cell_at ns [stD S, .int w, .int place]) st Q := by
  have e0 : m_cell_at ns = runB 8 (t_cell_at_1 ns) := rfl
  rw [e0]
  simp only [runB_eq, wp_bnd]
  unfold t_cell_at_1
  generalize hT : t_cell_at_2 ns = T
  simp [startE, stD]
  refine wp_lcFM (fun d => match d with
    | .tup [.int i, .tup [.int a, .int m, .int s]] => if a = place ∧ ¬ i = w then some (.int m) else none
    | _ => none) _ (fun s fr => rfl) (by simp; omega) (fun x hx s fr => ?_) fun s f => ?_
  · obtain ⟨i, e, rfl⟩ : ∃ (i : Nat) (e : Ent), x = .tup [.int i, entD e] := by
      simp at hx
      obtain ⟨a, b, h, rfl⟩ := hx
      obtain ⟨k, e⟩ : ∃ e : Ent, a = entD e := by
        have := List.mem_zipIdx h
        have h2 := this.2.2
        simp at h2
        exact ⟨_, h2⟩
      exact ⟨b, _, by rw [e]⟩
    refine ⟨_, by simp [entD]; rfl, ?_⟩
    simp [wipeE, opEq_int, opNe_int, entD]
    by_cases h1 : e.1 = place
    · by_cases h2 : (i : Int) = w
      · simp [h1, h2, Fr.refl]
      · simp [h1, h2, Fr.refl]
    · simp [h1, Fr.refl]
  · have e1 : ((S.map entD).zipIdx.map fun p => D.tup [.int (p.2 : Nat), p.1]).filterMap (fun d => match d with
      | .tup [.int i, .tup [.int a, .int m, .int s]] => if a = place ∧ ¬ i = w then some (.int m) else none
      | _ => none) = (S.zipIdx.filterMap fun p => if p.1.1 = place ∧ ¬ (p.2 : Int) = w then some p.1.2.1 else none).map D.int := by
      rw [List.filterMap_map, List.zipIdx_map, List.filterMap_map, List.map_filterMap]
      refine congrArg (fun f => List.filterMap f _) (funext fun p => ?_)
      obtain ⟨e, i⟩ := p
      simp [entD]
    rw [e1, ← hT]
    simp [t_cell_at_2]
    rw [wp_bTuple (by simp; rfl)]
    exact q _ (f.trans (Fr.new _))
end Lk15
end
section
set_option Elab.async false
set_option linter.all false
set_option maxRecDepth 100000
namespace Lk15
open PySem L2 Pm TL
def towardsI (ring : Bool) (n : Int) (S : List Ent) (w place sense : Int) : List (List Int) := ((List.range (n.toNat - 1)).filterMap fun k => placeO ring n place (sense * (1 + (k : Nat)))).map (cellI S w)
theorem atI_ent {S : List Ent} {w : Nat} {e : Ent} (h : S[w]? = some e) : atI (S.map entD) (w : Int) = some (entD e) := by
  exact L2.atI_nat (by rw [List.getElem?_map, h]; rfl)
theorem p_cells_towards (ns : List Int) {ring : Bool} {n : Int} (hn : 0 < n) (hn2 : n ≤ 100) {S : List Ent} (hS : S.length ≤ 1000) {w : Nat} {e : Ent} (he : S[w]? = some e) {sense : Int} (hs : -1000 ≤ sense ∧ sense ≤ 1000) {st : Sto} {Q : D → Sto → Prop}
    (q : ∀ s, Fr [] st s → Q (.tup ((towardsI ring n S w e.1 sense).map cellD)) s) : wp (m_cells_towards ns [flD ring n, stD S, .int w, .int sense]) st Q := by
  have e0 : m_cells_towards ns = runB 8 (t_cells_towards_1 ns) := rfl
  have en : opIx ns (flD ring n) (.int 1) = ret (.int n) := rfl
  have eix : opIx ns (stD S) (.int w) = ret (entD e) := by
    show ofO (atI (S.map entD) w) = _
    rw [atI_ent he]
    rfl
  have e2 : opIx ns (entD e) (.int 0) = ret (.int e.1) := rfl
  rw [e0]
  simp only [runB_eq, wp_bnd]
  unfold t_cells_towards_1
  generalize hT : t_cells_towards_2 ns = T
  simp [startE, eix, e2]
  rw [← hT]
  unfold t_cells_towards_2
  generalize hT : t_cells_towards_3 ns = T
  have o1 : okR 1 = true := okR_small (by decide) (by decide)
  have o2 : okR n = true := okR_small (by omega) (by omega)
  simp [en, o1, o2, rngI]
  refine wp_lcMap (fun d => match d with
    | .int k => intOD (placeO ring n e.1 (sense * k))
    | d => d) _ (fun s fr => rfl) (by simp; omega) (fun x hx s fr => ?_) fun s f => ?_
  · obtain ⟨k, rfl⟩ : ∃ k : Int, x = .int k := by
      obtain ⟨i, _, rfl⟩ := List.mem_map.mp hx
      exact ⟨_, rfl⟩
    refine ⟨_, by simp; rfl, ?_⟩
    simp [wipeE]
    rw [opMul_int (.inl (by omega))]
    simp
    rw [e_place_at ns hn]
    simp [Fr.refl]
  · simp
    rw [← hT]
    unfold t_cells_towards_3
    simp
    generalize hL : List.map ((fun d => match d with
      | .int k => intOD (placeO ring n e.1 (sense * k))
      | d => d) ∘ fun i : Nat => D.int (1 + (i : Nat))) (List.range (n.toNat - 1)) = L
    have hLe : L = (List.range (n.toNat - 1)).map fun i => intOD (placeO ring n e.1 (sense * (1 + (i : Nat)))) := by rw [← hL]; rfl
    have gL : (s ++ [O.lst L])[s.length]? = some (.lst L) := by simp
    have hLl : L.length ≤ 1000 := by rw [hLe]; simp; omega
    rw [wp_seqA gL]
    refine wp_lcFM (fun d => match d with
      | .int i => some (cellD (cellI S w i))
      | _ => none) _ (fun s1 fr => decide_eq_true (fr.at gL (by simp))) (show L.length ≤ 100000 by omega) (fun x hx s1 fr => ?_) fun s1 f1 => ?_
    · obtain ⟨o, rfl⟩ : ∃ o : Option Int, x = intOD o := by
        rw [hLe] at hx
        obtain ⟨i, _, rfl⟩ := List.mem_map.mp hx
        exact ⟨_, rfl⟩
      refine ⟨_, by simp; rfl, ?_⟩
      simp [wipeE, opIsNot_non]
      cases o with
      | none => simp [intOD, Fr.refl]
      | some i =>
        simp [intOD, Fr.refl]
        refine p_cell_at ns hS fun s2 f2 => ?_
        exact ⟨rfl, f2⟩
    · have e3 : L.filterMap (fun d => match d with
        | .int i => some (cellD (cellI S w i))
        | _ => none) = (towardsI ring n S w e.1 sense).map cellD := by
        rw [hLe, List.filterMap_map, towardsI, List.map_map, List.map_filterMap]
        refine congrArg (fun f => List.filterMap f _) (funext fun p => ?_)
        simp
        cases placeO ring n e.1 (sense * (1 + (p : Nat))) <;> rfl
      rw [e3]
      exact q _ ((f.trans (Fr.new _)).trans (f1.trans (Fr.new _)))
def viewE (ring : Bool) (n : Int) (S : List Ent) (w : Nat) (e : Ent) : Vw := ⟨e.2.1, cellI S w e.1, towardsI ring n S w e.1 e.2.2, towardsI ring n S w e.1 (-e.2.2)⟩
theorem towards_len {ring : Bool} {n : Int} (hn2 : n ≤ 100) {S : List Ent} {w place sense : Int} : (towardsI ring n S w place sense).length ≤ 100 := by
  unfold towardsI
  rw [List.length_map]
  refine Nat.le_trans (List.length_filterMap_le _ _) ?_
  simp
  omega
theorem view_sm {ring : Bool} {n : Int} (hn2 : n ≤ 100) {S : List Ent} {w : Nat} {e : Ent} : (viewE ring n S w e).Sm := ⟨towards_len hn2, towards_len hn2⟩
theorem p_view_of (ns : List Int) {ring : Bool} {n : Int} (hn : 0 < n) (hn2 : n ≤ 100) {S : List Ent} (hS : S.length ≤ 1000) {w : Nat} {e : Ent} (he : S[w]? = some e) (hs : -1000 ≤ e.2.2 ∧ e.2.2 ≤ 1000) {st : Sto} {Q : D → Sto → Prop}
    (q : ∀ s, Fr [] st s → Q (viewE ring n S w e).d s) : wp (m_view_of ns [flD ring n, stD S, .int w]) st Q := by
  have e0 : m_view_of ns = runB 8 (t_view_of_1 ns) := rfl
  have z : ∀ k, k ≤ 10 → k ≤ sizeLine := fun k h => Nat.le_trans h (small_line (by decide))
  have eix : opIx ns (stD S) (.int w) = ret (entD e) := by
    show ofO (atI (S.map entD) w) = _
    rw [atI_ent he]
    rfl
  rw [e0]
  simp only [runB_eq, wp_bnd]
  unfold t_view_of_1
  generalize hT : t_view_of_2 ns = T
  simp [startE, eix, entD]
  rw [← hT]
  unfold t_view_of_2
  generalize hT : t_view_of_3 ns = T
  simp
  refine p_cells_towards ns hn hn2 hS he hs fun s1 f1 => ?_
  rw [← hT]
  unfold t_view_of_3
  generalize hT : t_view_of_4 ns = T
  simp
  refine p_cells_towards ns hn hn2 hS he (by omega) fun s2 f2 => ?_
  rw [← hT]
  unfold t_view_of_4
  simp
  refine p_cell_at ns hS fun s3 f3 => ?_
  simp [z 4 (by decide)]
  exact q _ ((f1.trans f2).trans f3)
end Lk15
end
section
set_option Elab.async false
set_option linter.all false
set_option maxRecDepth 100000
namespace Lk15
open PySem L2 Pm
/-! ### values that come up -/
def isIB : D → Bool
  | .int _ => true
  | .bl _ => true
  | _ => false
def okE (st : Sto) : D → Prop
  | .int _ => True
  | .tup ys => (∀ y ∈ ys, isIB y = true) ∧ ys.length ≤ 20
  | _ => False
def okV (st : Sto) : D → Prop
  | .non => True
  | .tup xs => (∀ x ∈ xs, okE st x) ∧ xs.length ≤ 50
  | _ => False
theorem okE.len {st st' : Sto} {x : D} (h : okE st x) (f : st.length ≤ st'.length) : okE st' x := by
  cases x with
  | _ => exact h
theorem okV.len {st st' : Sto} {x : D} (h : okV st x) (f : st.length ≤ st'.length) : okV st' x := by
  cases x with
  | tup xs => exact ⟨fun x hx => (h.1 x hx).len f, h.2⟩
  | _ => exact h
def inR (m : Int) : D → Bool
  | .int i => decide (0 ≤ i ∧ i ≤ m - 1)
  | _ => false
def ltI : D → Bool
  | .tup [.int a, .int b] => decide (a < b)
  | _ => false
def ascD (ys : List D) : Bool := (zipL ys (ys.drop 1)).all ltI
def lotB (m : Int) : D → Bool
  | .tup ys => !decide (ys = []) && (ys.all (inR m) && ascD ys)
  | _ => false
def lotsB (m : Int) : D → Bool
  | .tup xs => xs.all (lotB m)
  | _ => false
theorem cut_one {α : Type} (xs : List α) : cutD xs (some 1) none = xs.drop 1 := by
  unfold cutD
  rw [HT.sIx_none, show (some (1 : Int)) = some ((1 : Nat) : Int) from rfl, HT.sIx_nat]
  cases xs with
  | nil => simp
  | cons a xs => simp
theorem zip_mem {xs ys : List D} {p : D} (h : p ∈ zipL xs ys) : ∃ a ∈ xs, ∃ b ∈ ys, p = .tup [a, b] := by
  unfold zipL at h
  obtain ⟨⟨a, b⟩, h1, rfl⟩ := List.mem_map.mp h
  exact ⟨a, (List.of_mem_zip h1).1, b, (List.of_mem_zip h1).2, rfl⟩
theorem p_asc (ns : List Int) {ys : List D} {v1 v2 : Option D} {i j k : Nat} (m : Int) (h : ys.all (inR m) = true) (hl : ys.length ≤ 20) {ρ : En} (hi : i < ρ.length) (hj : j < ρ.length) (hij : i ≠ j) {st : Sto} {Q : D → Sto → Prop} (q : ∀ s, Fr [] st s → Q (.bl (ascD ys)) s) :
    wp (lcL (fun _ => true) (.tp [(.nm i), (.nm j)]) yesT (bin (rd i) (rd j) opLtX) (wipeE ρ [i, j]) (zipL ys (ys.drop 1)) []) st fun a st' => wp (bAll [.loc st'.length]) (st' ++ [.lst a]) Q := by
  refine wp_allC ltI _ (fun _ _ => rfl) (by rw [zipL_len]; omega) (fun x hx s fr => ?_) q
  obtain ⟨a, ha, b, hb, rfl⟩ := zip_mem hx
  have h1 := List.all_eq_true.mp h a ha
  have h2 := List.all_eq_true.mp h b (List.mem_of_mem_drop hb)
  cases a with
  | int a =>
    cases b with
    | int b =>
      refine ⟨_, by simp; rfl, ?_⟩
      have hw : (wipeE ρ [i, j]).length = ρ.length := by simp [wipeE]
      have e1 : (((wipeE ρ [i, j]).set i (some (D.int a))).set j (some (D.int b)))[i]? = some (some (D.int a)) := by
        rw [List.getElem?_set_ne (by omega), List.getElem?_set_self (by omega)]
      have e2 : (((wipeE ρ [i, j]).set i (some (D.int a))).set j (some (D.int b)))[j]? = some (some (D.int b)) := by
        rw [List.getElem?_set_self (by simp; omega)]
      simp only [ap_bin, rd_at, e1, e2, bnd_ret, opLtX_int, wp_ret]
      exact ⟨rfl, Fr.refl⟩
    | _ => simp [inR] at h2
  | _ => simp [inR] at h1
theorem p_is_ascending (ns : List Int) {ys : List D} (m : Int) (h : ys.all (inR m) = true) (hl : ys.length ≤ 20) {st : Sto} {Q : D → Sto → Prop} (q : ∀ s, Fr [] st s → Q (.bl (ascD ys)) s) : wp (m_is_ascending ns [.tup ys]) st Q := by
  simp [m_is_ascending, runB_eq, b_is_ascending, startE, opSl]
  rw [cut_one]
  exact p_asc ns (v1 := none) (v2 := none) (k := 0) m h hl (by simp) (by simp) (by decide) q
theorem e_is_integer (ns : List Int) (n : Int) : m_is_integer ns [.int n] = ret (.bl true) := by
  simp [m_is_integer, b_is_integer, runB_eq, startE, isT]
theorem e_is_within (ns : List Int) (n lo hi : Int) : m_is_within ns [.int n, .int lo, .int hi] = ret (.bl (decide (lo ≤ n ∧ n ≤ hi))) := by
  simp [m_is_within, b_is_within, runB_eq, startE, e_is_integer]
  by_cases h : lo ≤ n <;> simp [h]
theorem e_within_bl (ns : List Int) (b : Bool) (lo hi : Int) : m_is_within ns [.bl b, .int lo, .int hi] = ret (.bl false) := by
  simp [m_is_within, b_is_within, m_is_integer, b_is_integer, runB_eq, startE, isi, isT]
theorem p_is_lot (ns : List Int) {m : Int} {x : D} {st : Sto} (h : okE st x) {Q : D → Sto → Prop} (q : ∀ s, Fr [] st s → Q (.bl (lotB m x)) s) : wp (m_is_lot ns [.int m, x]) st Q := by
  cases x with
  | tup ys =>
    obtain ⟨h1, h2⟩ := h
    simp [m_is_lot, runB_eq, b_is_lot, startE, isT, opEq_int, seqA]
    by_cases e : ys = []
    · subst e
      simp
      exact q st Fr.refl
    · have e' : ¬ ((ys.length : Int) = 0) := by
        have : 0 < ys.length := List.length_pos_iff.mpr e
        omega
      simp [e]
      refine wp_allC (inR m) ys (fun _ _ => rfl) (by omega) (fun y hy s fr => ⟨_, by simp; rfl, ?_⟩) fun s1 r1 => ?_
      · have hb := h1 y hy
        cases y with
        | int i =>
          simp [wipeE, e_is_within, inR]
          exact Fr.refl
        | bl b =>
          simp [wipeE, e_within_bl, inR]
          exact Fr.refl
        | _ => cases hb
      · have elot : lotB m (.tup ys) = (ys.all (inR m) && ascD ys) := by simp [lotB, e]
        by_cases ha : ys.all (inR m) = true
        · rw [ha]
          simp
          refine p_is_ascending ns m ha (by omega) fun s2 r2 => ?_
          have := q s2 (r1.trans r2)
          rw [elot, ha, Bool.true_and] at this
          exact this
        · have ha : ys.all (inR m) = false := by simpa using ha
          rw [ha]
          simp
          have := q s1 r1
          rw [elot, ha, Bool.false_and] at this
          exact this
  | int i =>
    simp [m_is_lot, runB_eq, b_is_lot, startE, isT]
    exact q st Fr.refl
  | _ => exact h.elim
theorem p_are_lots (ns : List Int) {m : Int} {v : D} {st : Sto} (h : okV st v) {Q : D → Sto → Prop} (q : ∀ s, Fr [] st s → Q (.bl (lotsB m v)) s) : wp (m_are_lots ns [.int m, v]) st Q := by
  cases v with
  | tup xs =>
    obtain ⟨h1, h2⟩ := h
    simp [m_are_lots, runB_eq, b_are_lots, startE, isT, seqA]
    refine wp_allC (lotB m) xs (fun _ _ => rfl) (by omega) (fun y hy s fr => ⟨_, by simp; rfl, ?_⟩) fun s1 r1 => ?_
    · simp [wipeE]
      exact p_is_lot ns ((h1 y hy).len fr.1) fun s2 r2 => ⟨rfl, r2⟩
    · exact q s1 r1
  | non =>
    simp [m_are_lots, runB_eq, b_are_lots, startE, isi, isT]
    exact q st Fr.refl
  | _ => exact h.elim
/-- lots, as they are -/
abbrev lotD (l : List Int) : D := .tup (l.map .int)
abbrev lotsD (Ls : List (List Int)) : D := .tup (Ls.map lotD)
theorem ints_of {m : Int} : ∀ {ys : List D}, ys.all (inR m) = true → ∃ l : List Int, ys = l.map .int
  | [], _ => ⟨[], rfl⟩
  | y :: ys, h => by
    rw [List.all_cons, Bool.and_eq_true] at h
    obtain ⟨l, rfl⟩ := ints_of h.2
    cases y with
    | int i => exact ⟨i :: l, rfl⟩
    | _ => simp [inR] at h
theorem lots_of {m : Int} : ∀ {xs : List D}, xs.all (lotB m) = true → ∃ Ls : List (List Int), xs = Ls.map lotD
  | [], _ => ⟨[], rfl⟩
  | x :: xs, h => by
    rw [List.all_cons, Bool.and_eq_true] at h
    obtain ⟨Ls, rfl⟩ := lots_of h.2
    cases x with
    | tup ys =>
      have h1 := h.1
      unfold lotB at h1
      rw [Bool.and_eq_true, Bool.and_eq_true] at h1
      obtain ⟨l, rfl⟩ := ints_of h1.2.1
      exact ⟨l :: Ls, rfl⟩
    | _ => simp [lotB] at h
end Lk15
end
section
set_option Elab.async false
set_option linter.all false
set_option maxRecDepth 100000
namespace Lk15
open PySem L2 Pm
def t_cut_in_eras_3_4 (ns : List Int) : MS := (setS (.nm 3) (lcE (iterA (rd 3)) (.nm 5) (tstB (bin (rd 5) (rd 4) opNotIn)) (rd 5) [5]))
def t_cut_in_eras_3_3 (ns : List Int) : MS := (seqS (dropS (meth (bin (rd 2) (una (kon (.int 1)) opNeg) (opIx ns)) (conA (rd 4) nilA) mAppend)) (t_cut_in_eras_3_4 ns))
def t_cut_in_eras_3_2 (ns : List Int) : MS := (seqS (ifS (notT (tstV (appA (conA (lcE (iterA (rd 4)) (.nm 5) yesT (bin (rd 5) (rd 3) opIn) [5]) nilA) bAll))) (retS (kon .non)) nxS) (t_cut_in_eras_3_3 ns))
def t_cut_in_eras_3_1 (ns : List Int) : MS := (seqS (ifS (tstB (bin (appA (conA (rd 3) nilA) (bLen ns)) (kon (.int 0)) opEq)) (seqS (dropS (meth (rd 2) (conA (lstE nilA) nilA) mAppend)) (setS (.nm 3) (una (rd 0) bRg1))) nxS) (t_cut_in_eras_3_2 ns))
def t_cut_in_eras_4 (ns : List Int) : MS := (retS (appA (conA (lcE (iterA (rd 2)) (.nm 6) yesT (appA (conA (rd 6) nilA) bTuple) [6]) nilA) bTuple))
def t_cut_in_eras_3 (ns : List Int) : MS := (seqS (forS (iterA (rd 1)) (.nm 4) (t_cut_in_eras_3_1 ns)) (t_cut_in_eras_4 ns))
def t_cut_in_eras_2 (ns : List Int) : MS := (seqS (setS (.nm 3) (lstE nilA)) (t_cut_in_eras_3 ns))
def t_cut_in_eras_1 (ns : List Int) : MS := (seqS (setS (.nm 2) (lstE nilA)) (t_cut_in_eras_2 ns))
theorem e_t_cut_in_eras (ns : List Int) : b_cut_in_eras ns = t_cut_in_eras_1 ns := rfl
/-! ### eras -/
def rg (m : Int) : List Int := (List.range m.toNat).map fun i : Nat => 0 + (i : Int)
def restS (still lot : List Int) : List Int := still.filter fun w => !decide (w ∈ lot)
def nextS (m : Int) (still lot : List Int) : List Int := if restS still lot = [] then rg m else restS still lot
def erasF (m : Int) : List Int → List (List Int) → Bool
  | _, [] => true
  | still, lot :: r => lot.all (fun w => decide (w ∈ still)) && erasF m (nextS m still lot) r
def erasB (m : Int) (Ls : List (List Int)) : Bool := erasF m (rg m) Ls
def kindB (its : Str) (m : Int) (v : D) : Bool := lotsB m v && (match v with
  | .tup xs => if its = "full" then xs.all (fun x => decide (lenI x = m)) else if its = "one" then xs.all (fun x => decide (lenI x = 1)) else if its = "some" then true else erasB m (xs.map intsI)
  | _ => false)
where
  lenI : D → Int
    | .tup ys => ys.length
    | _ => 0
  intsI : D → List Int
    | .tup ys => ys.filterMap fun y => match y with
      | .int i => some i
      | _ => none
    | _ => []
theorem intsI_lot (l : List Int) : kindB.intsI (lotD l) = l := by
  simp [kindB.intsI, lotD]
  induction l with
  | nil => rfl
  | cons a l ih => simp [ih]
theorem ints_lots (Ls : List (List Int)) : (Ls.map lotD).map kindB.intsI = Ls := by
  rw [List.map_map]
  induction Ls with
  | nil => rfl
  | cons a l ih => simp [intsI_lot, ih]
/-- w in a list that stands -/
def inI (ls : List Int) : D → Bool
  | .int i => decide (i ∈ ls)
  | _ => false
theorem all_inI (l still : List Int) : (l.map D.int).all (inI still) = l.all fun w => decide (w ∈ still) := by
  rw [List.all_map]
  rfl
theorem filter_not (still lot : List Int) : (still.map D.int).filterMap (fun d => if !inI lot d then some d else none) = (restS still lot).map .int := by
  unfold restS
  induction still with
  | nil => rfl
  | cons a l ih =>
    by_cases h : a ∈ lot
    · simp [inI, h] at ih ⊢
      exact ih
    · simp [inI, h] at ih ⊢
      exact ih
theorem wp_rg1 {m : Int} (h : 1 ≤ m ∧ m ≤ 5) {st : Sto} {Q : D → Sto → Prop} : wp (bRg1 (.int m)) st Q = Q (.loc st.length) (st ++ [.lst ((rg m).map .int)]) := by
  show wp (if -(2 ^ 62) ≤ m ∧ m ≤ 2 ^ 24 then alloc _ else no) st Q = _
  rw [if_pos (by omega)]
  simp [rg]
  rfl
theorem e_rgT {m : Int} (h : 1 ≤ m ∧ m ≤ 5) : bRgT (.int m) = ret (.tup ((rg m).map .int)) := by
  show (if -(2 ^ 62) ≤ m ∧ m ≤ 2 ^ 24 then ret (D.tup _) else no) = _
  rw [if_pos (by omega)]
  simp [rg]
  rfl
theorem rg_len {m : Int} (h : 1 ≤ m ∧ m ≤ 5) : (rg m).length ≤ 5 ∧ (rg m) ≠ [] := by
  constructor
  · simp [rg]; omega
  · intro e
    have := congrArg List.length e
    simp [rg] at this
    omega
end Lk15
end
section
set_option Elab.async false
set_option linter.all false
set_option maxRecDepth 100000
namespace Lk15
open PySem L2 Pm
theorem restS_len (still lot : List Int) : (restS still lot).length ≤ still.length := List.length_filter_le ..
theorem eq_nilI {l : List Int} : opNe (lotD l) (.tup []) = ret (.bl (!decide (l = []))) := by
  have pl : ∀ l : List Int, plDs 1 (l.map D.int) = true := fun l => by
    induction l with
    | nil => simp [plDs]
    | cons a l ih => simp [plDs, plD, ih]
  rw [opNe_pl (n := 2) (m := 2) (by decide) (by decide) (by simp [plD, pl]) (by simp [plD, plDs])]
  by_cases e : l = []
  · subst e; simp
  · rw [decide_eq_false e, decide_eq_false fun z => e (by simpa using D.tup.inj z)]
def stillOf (m : Int) (mis : List Int) : List Int := if mis = [] then rg m else mis
theorem nextS_eq (m : Int) (still lot : List Int) : nextS m still lot = stillOf m (restS still lot) := rfl
/-- what stands while eras are cut -/
structure Cut (st : Sto) (F M : Nat) (es : List Nat) (mis : List Int) (a b : Nat) (s : Sto) : Prop where
  fr : Fr [] st s
  hF : st.length ≤ F ∧ s[F]? = some (.lst (es.map .loc))
  hM : st.length ≤ M ∧ M ≠ F ∧ s[M]? = some (.lst (mis.map .int)) ∧ mis.length ≤ 5
  hes : es.length ≤ a ∧ ∀ e ∈ es, st.length ≤ e ∧ e ≠ F ∧ e ≠ M ∧ ∃ xs, s[e]? = some (.lst xs) ∧ xs.length ≤ b
  ne : mis ≠ [] → es ≠ []
theorem p_cut (ns : List Int) {m : Int} (hm : 1 ≤ m ∧ m ≤ 5) {Ls : List (List Int)} (hl : Ls.length ≤ 50) (hll : ∀ l ∈ Ls, l.length ≤ 20) {st : Sto} {Q : D → Sto → Prop} (q : ∀ y s, Fr [] st s → decide (y = .non) = !erasB m Ls → Q y s) : wp (m_cut_in_eras ns [.int m, lotsD Ls]) st Q := by
  have e0 : m_cut_in_eras ns = runB 7 (t_cut_in_eras_1 ns) := rfl
  rw [e0]
  simp [runB_eq, startE, t_cut_in_eras_1, t_cut_in_eras_2, t_cut_in_eras_3, seqA]
  refine wp_forL (fun i ρ s => ∃ M es mis, (∃ v4 v5 v6, ρ = [some (.int m), some (lotsD Ls), some (.loc st.length), some (.loc M), v4, v5, v6]) ∧ Cut st st.length M es mis i i s ∧ erasF m (stillOf m mis) (Ls.drop i) = erasB m Ls) _ 0 _ _
    ⟨st.length + 1, [], [], ⟨_, _, _, rfl⟩, ⟨Fr.new _, ⟨Nat.le_refl _, by simp⟩, ⟨by omega, by omega, by simp, by simp⟩, ⟨by simp, by simp⟩, fun h => absurd rfl h⟩, rfl⟩ (fun j x ρ s hj hI => ?_) fun ρ s hI => ?_
  · obtain ⟨M, es, mis, ⟨v4, v5, v6, rfl⟩, C, he⟩ := hI
    rw [Nat.zero_add] at C he
    have hj1 : j < Ls.length := by
      have := (List.getElem?_eq_some_iff.mp hj).1
      simpa using this
    have hx : x = lotD Ls[j] := by
      rw [List.getElem?_map, List.getElem?_eq_getElem hj1] at hj
      simpa using hj.symm
    subst hx
    have hlot := hll _ (List.getElem_mem hj1)
    have hd : Ls.drop j = Ls[j] :: Ls.drop (j + 1) := List.drop_eq_getElem_cons hj1
    rw [hd, erasF] at he
    refine ⟨rfl, _, by simp; rfl, ?_⟩
    simp [t_cut_in_eras_3_1]
    rw [wp_obj C.hM.2.2.1]
    simp [opEq_int]
    -- behind the first statement
    have rest : ∀ M1 es1 s1 v6', Cut st st.length M1 es1 (stillOf m mis) (j + 1) j s1 → es1 ≠ [] → wp (t_cut_in_eras_3_2 ns [some (.int m), some (lotsD Ls), some (.loc st.length), some (.loc M1), some (lotD Ls[j]), v5, v6']) s1 fun y st' => match y.1 with
        | .nx => ∃ M es mis, (∃ v4 v5 v6, y.2 = [some (.int m), some (lotsD Ls), some (.loc st.length), some (.loc M), v4, v5, v6]) ∧ Cut st st.length M es mis (j + 1) (j + 1) st' ∧ erasF m (stillOf m mis) (Ls.drop (j + 1)) = erasB m Ls
        | .rt d => Q d st'
        | _ => False := by
      intro M1 es1 s1 v6' C1 hne
      simp [t_cut_in_eras_3_2, seqA]
      refine wp_allC (inI (stillOf m mis)) _ (fun _ _ => rfl) (by simp; omega) (fun y hy s2 fr => ?_) fun s2 r2 => ?_
      · obtain ⟨a, ha, rfl⟩ := List.mem_map.mp hy
        refine ⟨_, by simp; rfl, ?_⟩
        simp [wipeE]
        rw [wp_inL (fr.at C1.hM.2.2.1 (by simp))]
        exact ⟨rfl, Fr.refl⟩
      · rw [all_inI]
        by_cases ha : (Ls[j].all fun w => decide (w ∈ stillOf m mis)) = true
        · rw [ha]
          simp
          rw [ha, Bool.true_and] at he
          simp [t_cut_in_eras_3_3]
          have gF := r2.at C1.hF.2 (by simp)
          obtain ⟨es0, e, rfl⟩ : ∃ es0 e, es1 = es0 ++ [e] := ⟨es1.dropLast, es1.getLast hne, (List.dropLast_concat_getLast hne).symm⟩
          have elast : atI ((es0 ++ [e]).map D.loc) (-1) = some (.loc e) := by
            unfold atI ixN
            simp
            rw [if_pos (by omega)]
            simp
            rw [show (-1 + ((es0.length : Int) + 1)).toNat = es0.length by omega]
            simp
          obtain ⟨h1, h2, h3, xs, h4, h5⟩ := C1.hes.2 e (by simp)
          have ge := r2.at h4 (by simp)
          simp [opIx_loc]
          rw [wp_obj gF]
          show wp (ofO (atI ((es0 ++ [e]).map D.loc) (-1))) s2 _
          rw [elast]
          simp
          rw [wp_isL ge, wp_append ge (by omega)]
          have hel : e < s2.length := (List.getElem?_eq_some_iff.mp ge).1
          have gM : (s2.set e (.lst (xs ++ [lotD Ls[j]])))[M1]? = some (.lst ((stillOf m mis).map .int)) := by
            rw [List.getElem?_set_ne (by omega)]
            exact r2.at C1.hM.2.2.1 (by simp)
          simp [t_cut_in_eras_3_4]
          rw [wp_seqA gM]
          have fr2 : Fr [] st (s2.set e (.lst (xs ++ [lotD Ls[j]]))) := (C1.fr.trans r2).setNew h1
          refine pu_lcLok (fun d => if !inI Ls[j] d then some d else none) _ (fun s fr => decide_eq_true (fr.at gM (by simp))) (by simp; have := C1.hM.2.2.2; omega) (fun x hx => ?_) fun s3 r3 => ?_
          · obtain ⟨a, ha, rfl⟩ := List.mem_map.mp hx
            refine ⟨_, by simp; rfl, ?_⟩
            by_cases h : a ∈ Ls[j]
            · refine .inl ⟨by simp [inI, h], ?_⟩
              simp [wipeE]
              rw [opNotIn_intT, decide_eq_true h]
              exact .ret'
            · refine .inr ⟨_, by simp [inI, h]; rfl, ?_, ?_⟩
              · simp [wipeE]
                rw [opNotIn_intT, decide_eq_false h]
                exact .ret'
              · simp [wipeE]
                exact .ret'
          · rw [filter_not]
            try simp
            have hl3 : (s2.set e (.lst (xs ++ [lotD Ls[j]]))).length ≤ s3.length := r3.1
            simp at hl3
            refine ⟨es0 ++ [e], restS (stillOf m mis) Ls[j], ⟨(fr2.trans r3).trans (Fr.new _), ⟨Nat.le_refl _, ?_⟩, ⟨by omega, by omega, by simp, Nat.le_trans (restS_len ..) C1.hM.2.2.2⟩, ⟨C1.hes.1, fun e' he' => ?_⟩, fun _ => by simp⟩, ?_⟩
            · refine (r3.trans (Fr.new _)).at ?_ (by simp)
              rw [List.getElem?_set_ne h2]
              exact gF
            · obtain ⟨k1, k2, k3, ys, k4, k5⟩ := C1.hes.2 e' he'
              have he'l := (List.getElem?_eq_some_iff.mp (r2.at k4 (by simp))).1
              refine ⟨k1, k2, by omega, ?_⟩
              by_cases ee : e' = e
              · subst ee
                refine ⟨xs ++ [lotD Ls[j]], (r3.trans (Fr.new _)).at (by rw [List.getElem?_set_self hel]) (by simp), ?_⟩
                simp
                omega
              · refine ⟨ys, (r3.trans (Fr.new _)).at ?_ (by simp), by omega⟩
                rw [List.getElem?_set_ne (by omega)]
                exact r2.at k4 (by simp)
            · rw [← nextS_eq]
              exact he
        · have ha : (Ls[j].all fun w => decide (w ∈ stillOf m mis)) = false := by simpa using ha
          rw [ha]
          simp
          rw [ha, Bool.false_and] at he
          exact q .non s2 (C1.fr.trans r2) (by rw [← he]; rfl)
    have hls := C.fr.1
    have hMl : M < s.length := (List.getElem?_eq_some_iff.mp C.hM.2.2.1).1
    by_cases em : mis = []
    · rw [if_pos em, wp_isL C.hF.2]
      have hFl : st.length < s.length := (List.getElem?_eq_some_iff.mp C.hF.2).1
      have g1 : (s ++ [O.lst []])[st.length]? = some (.lst (es.map .loc)) := (Fr.new (S := []) _).at C.hF.2 (by simp)
      rw [wp_append g1 (by have := C.hes.1; simp; omega), wp_rg1 hm]
      have fr1 : Fr [] st ((s ++ [O.lst []]).set st.length (.lst (es.map .loc ++ [.loc s.length])) ++ [.lst ((rg m).map .int)]) := (((C.fr.trans (Fr.new _)).setNew (Nat.le_refl _)).trans (Fr.new _))
      have old : ∀ e, e < s.length → e ≠ st.length → ((s ++ [O.lst []]).set st.length (.lst (es.map .loc ++ [.loc s.length])) ++ [.lst ((rg m).map .int)])[e]? = s[e]? := fun e h1 h2 => by
        rw [List.getElem?_append_left (by simp; omega), List.getElem?_set_ne (by omega), List.getElem?_append_left h1]
      have es' : stillOf m mis = rg m := if_pos em
      refine wp_mono (rest _ (es ++ [s.length]) _ _ ⟨fr1, ⟨Nat.le_refl _, ?_⟩, ⟨by simp; omega, by simp; omega, ?_, ?_⟩, ⟨by have := C.hes.1; simp; omega, fun e he' => ?_⟩, fun _ => by simp⟩ (by simp)) fun y st' h => ?_
      · rw [List.getElem?_append_left (by simp; omega), List.getElem?_set_self (by simp; omega)]
        simp
      · rw [es']
        simp
      · rw [es']
        exact (rg_len hm).1
      · rcases List.mem_append.mp he' with he' | he'
        · obtain ⟨k1, k2, k3, ys, k4, k5⟩ := C.hes.2 e he'
          have hel := (List.getElem?_eq_some_iff.mp k4).1
          exact ⟨k1, k2, by simp; omega, ys, by rw [old e hel k2]; exact k4, k5⟩
        · cases List.mem_singleton.mp he'
          refine ⟨by omega, by omega, by simp, [], ?_, by simp⟩
          rw [List.getElem?_append_left (by simp), List.getElem?_set_ne (by omega)]
          simp
      · obtain ⟨fl, ρ2⟩ := y
        cases fl with
        | nx =>
          obtain ⟨M2, es2, mis2, h1, h2, h3⟩ := h
          exact ⟨M2, h1, es2, mis2, h2, h3⟩
        | rt d => exact h
        | bk => exact h.elim
        | ct => exact h.elim
    · rw [if_neg em]
      have es' : stillOf m mis = mis := if_neg em
      refine wp_mono (rest M es s v6 ⟨C.fr, C.hF, by rw [es']; exact C.hM, ⟨by have := C.hes.1; omega, C.hes.2⟩, fun _ => C.ne em⟩ (C.ne em)) fun y st' h => ?_
      obtain ⟨fl, ρ2⟩ := y
      cases fl with
      | nx =>
        obtain ⟨M2, es2, mis2, h1, h2, h3⟩ := h
        exact ⟨M2, h1, es2, mis2, h2, h3⟩
      | rt d => exact h
      | bk => exact h.elim
      | ct => exact h.elim
  · obtain ⟨M, es, mis, ⟨v4, v5, v6, rfl⟩, C, he⟩ := hI
    refine ⟨rfl, ?_⟩
    have hb : erasB m Ls = true := by
      rw [← he]
      simp [erasF]
    simp [t_cut_in_eras_4]
    rw [wp_seqA C.hF.2]
    refine wp_lcL (fun i a s' => Fr [] s s' ∧ a.length = i ∧ i ≤ es.length) _ 0 [] _ ⟨Fr.refl, rfl, by omega⟩ (fun j x a s' hj hI => ?_) fun a s' hI => ?_
    · obtain ⟨h1, h2, h3⟩ := hI
      obtain ⟨e, he', rfl⟩ := List.mem_map.mp (List.mem_of_getElem? hj)
      have hj1 : j < es.length := by
        have := (List.getElem?_eq_some_iff.mp hj).1
        simpa using this
      obtain ⟨k1, k2, k3, ys, k4, k5⟩ := C.hes.2 e he'
      refine ⟨decide_eq_true (h1.at C.hF.2 (by simp)), _, by simp; rfl, ?_⟩
      simp [wipeE]
      rw [wp_bTuple (h1.at k4 (by simp))]
      have := C.hes.1
      simp at this
      exact ⟨Nat.lt_of_lt_of_le (show a.length < 100 by omega) (small_line (by decide)), h1, by omega, by omega⟩
    · obtain ⟨h1, h2, h3⟩ := hI
      refine ⟨decide_eq_true (h1.at C.hF.2 (by simp)), ?_⟩
      exact q _ _ ((C.fr.trans h1).trans (Fr.new _)) (by rw [hb]; rfl)
end Lk15
end
section
set_option Elab.async false
set_option linter.all false
set_option maxRecDepth 100000
namespace Lk15
open PySem L2 Pm
def t_is_of_kind_4 (ns : List Int) : MS := (retS (orV (bin (rd 0) (kon (.str "some")) opEq) (bin (calE (conA (rd 1) (conA (rd 2) nilA)) (ofLen 2 (m_cut_in_eras ns))) (kon .non) opIsNot)))
def t_is_of_kind_3 (ns : List Int) : MS := (seqS (ifS (tstB (bin (rd 0) (kon (.str "one")) opEq)) (retS (appA (conA (lcE (iterA (rd 2)) (.nm 3) yesT (bin (appA (conA (rd 3) nilA) (bLen ns)) (kon (.int 1)) opEq) [3]) nilA) bAll)) nxS) (t_is_of_kind_4 ns))
def t_is_of_kind_2 (ns : List Int) : MS := (seqS (ifS (tstB (bin (rd 0) (kon (.str "full")) opEq)) (retS (appA (conA (lcE (iterA (rd 2)) (.nm 3) yesT (bin (appA (conA (rd 3) nilA) (bLen ns)) (rd 1) opEq) [3]) nilA) bAll)) nxS) (t_is_of_kind_3 ns))
def t_is_of_kind_1 (ns : List Int) : MS := (seqS (ifS (notT (tstV (calE (conA (rd 1) (conA (rd 2) nilA)) (ofLen 2 (m_are_lots ns))))) (retS (kon (.bl false))) nxS) (t_is_of_kind_2 ns))
theorem e_t_is_of_kind (ns : List Int) : b_is_of_kind ns = t_is_of_kind_1 ns := rfl
def KW : List Str := ["full", "one", "some", "eras"]
theorem KW_eq : k_KINDS = .tup (KW.map .str) := rfl
theorem kind_no {its : Str} {m : Int} {v : D} (h : lotsB m v = false) : kindB its m v = false := by
  unfold kindB
  rw [h, Bool.false_and]
theorem kind_yes {its : Str} {m : Int} {Ls : List (List Int)} (h : lotsB m (lotsD Ls) = true) : kindB its m (lotsD Ls) = (if its = "full" then Ls.all (fun l => decide ((l.length : Int) = m)) else if its = "one" then Ls.all (fun l => decide ((l.length : Int) = 1)) else if its = "some" then true else erasB m Ls) := by
  unfold kindB
  rw [h, Bool.true_and]
  have e1 : ∀ k : Int, (Ls.map lotD).all (fun x => decide (kindB.lenI x = k)) = Ls.all (fun l => decide ((l.length : Int) = k)) := fun k => by
    rw [List.all_map]
    congr 1
    funext l
    simp [kindB.lenI, lotD]
  simp only [lotsD, e1, ints_lots]
theorem lots_tup {m : Int} {v : D} {st : Sto} (hv : okV st v) (h : lotsB m v = true) : ∃ Ls : List (List Int), v = lotsD Ls ∧ Ls.length ≤ 50 ∧ ∀ l ∈ Ls, l.length ≤ 20 := by
  cases v with
  | tup xs =>
    obtain ⟨Ls, rfl⟩ := lots_of h
    refine ⟨Ls, rfl, by simpa using hv.2, fun l hl => ?_⟩
    have := hv.1 (lotD l) (List.mem_map_of_mem hl)
    simpa using this.2
  | _ => cases h
def lenIs (k : Int) : D → Bool
  | .tup ys => decide ((ys.length : Int) = k)
  | _ => false
theorem all_len (Ls : List (List Int)) (k : Int) : (Ls.map lotD).all (lenIs k) = Ls.all fun l => decide ((l.length : Int) = k) := by
  rw [List.all_map]
  congr 1
  funext l
  simp [lenIs, lotD]
theorem p_is_of_kind (ns : List Int) {m : Int} (hm : 1 ≤ m ∧ m ≤ 5) {its : Str} {v : D} {st : Sto} (h : okV st v) {Q : D → Sto → Prop} (q : ∀ s, Fr [] st s → Q (.bl (kindB its m v)) s) : wp (m_is_of_kind ns [.str its, .int m, v]) st Q := by
  simp [m_is_of_kind, runB_eq, b_is_of_kind, startE]
  refine p_are_lots ns h fun s1 r1 => ?_
  by_cases hb : lotsB m v = true
  · obtain ⟨Ls, rfl, hl, hll⟩ := lots_tup h hb
    rw [kind_yes hb] at q
    rw [hb]
    simp [opEq_str, seqA]
    by_cases e1 : its = "full"
    · simp [e1] at q ⊢
      refine wp_allC (lenIs m) _ (fun _ _ => rfl) (by simp; omega) (fun x hx s fr => ?_) fun s2 r2 => ?_
      · obtain ⟨l, hl', rfl⟩ := List.mem_map.mp hx
        refine ⟨_, by simp; rfl, ?_⟩
        simp [wipeE, opEq_int, lenIs]
        exact Fr.refl
      · rw [all_len]
        exact q s2 (r1.trans r2)
    · simp [e1] at q ⊢
      by_cases e2 : its = "one"
      · simp [e2] at q ⊢
        refine wp_allC (lenIs 1) _ (fun _ _ => rfl) (by simp; omega) (fun x hx s fr => ?_) fun s2 r2 => ?_
        · obtain ⟨l, hl', rfl⟩ := List.mem_map.mp hx
          refine ⟨_, by simp; rfl, ?_⟩
          simp [wipeE, opEq_int, lenIs]
          exact Fr.refl
        · rw [all_len]
          have := q s2 (r1.trans r2)
          simpa using this
      · simp [e2] at q ⊢
        by_cases e3 : its = "some"
        · simp [e3] at q ⊢
          exact q s1 r1
        · simp [e3] at q ⊢
          refine p_cut ns hm hl hll fun y s2 r2 hy => ?_
          rw [opIsNot_non]
          simp only [wp_ret]
          rw [hy, Bool.not_not]
          exact q s2 (r1.trans r2)
  · have hb : lotsB m v = false := by simpa using hb
    rw [hb]
    simp
    have := q s1 r1
    rw [kind_no hb] at this
    exact this
theorem lotsB_tup {m : Int} {xs : List D} : lotsB m (.tup xs) = xs.all (lotB m) := rfl
theorem lotB_tup {m : Int} {ys : List D} : lotB m (.tup ys) = (!decide (ys = []) && (ys.all (inR m) && ascD ys)) := rfl
theorem ib_py : ∀ {ys : List D}, (∀ y ∈ ys, isIB y = true) → ∃ ps : List PyData, (∀ st n, toPys (toPy st (n + 1)) ys = some ps) ∧ ps.length = ys.length ∧ PyData.canLayAll0 ps = true ∧ PyData.depthAll ps ≤ 1
  | [], _ => ⟨[], fun _ _ => rfl, rfl, rfl, by simp [PyData.depthAll]⟩
  | y :: ys, h => by
    obtain ⟨ps, h1, h2, h3, h4⟩ := ib_py (ys := ys) fun z hz => h z (by simp [hz])
    have hy := h y (by simp)
    cases y with
    | int i => exact ⟨.int i :: ps, fun st n => by unfold toPys; rw [h1 st n]; rfl, by simp [h2], by simp [PyData.canLayAll0, h3, PyData.canLay0], by simp [PyData.depthAll, PyData.depth]; omega⟩
    | bl i => exact ⟨.bool i :: ps, fun st n => by unfold toPys; rw [h1 st n]; rfl, by simp [h2], by simp [PyData.canLayAll0, h3, PyData.canLay0], by simp [PyData.depthAll, PyData.depth]; omega⟩
    | _ => cases hy
theorem eq_nil_ib {ys : List D} (h : ∀ y ∈ ys, isIB y = true) : opEq (.tup ys) (.tup []) = ret (.bl (decide (ys = []))) := by
  obtain ⟨ps, h1, h2, h3, h4⟩ := ib_py h
  have p1 : py (.tup ys) = ret (.tuple ps) := by
    funext st
    unfold py
    rw [show toPy st 60 (.tup ys) = some (.tuple ps) by unfold toPy; simp only [h1 st 58, Option.map_some]]
    rfl
  have p2 : py (.tup []) = ret (.tuple []) := rfl
  unfold opEq
  rw [if_neg (by simp [scD]), p1, p2]
  show (if (SeqAt.shaped (.tuple ps) && SeqAt.shaped (.tuple [])) = true then _ else _) = _
  have s1 : SeqAt.shaped (.tuple ps) = true := by
    unfold SeqAt.shaped
    rw [show PyData.canLay0 (.tuple ps) = true by simpa [PyData.canLay0] using h3, decide_eq_true (show PyData.depth (.tuple ps) ≤ 64 by simp [PyData.depth]; omega)]
    rfl
  have s2 : SeqAt.shaped (.tuple []) = true := rfl
  rw [if_pos (by rw [s1, s2]; rfl)]
  simp only [PyData.eqv]
  cases ys with
  | nil =>
    cases ps with
    | nil => rfl
    | cons _ _ => simp at h2
  | cons y ys =>
    cases ps with
    | nil => simp at h2
    | cons p ps => simp [PyData.eqvAll]
end Lk15
end
section
set_option Elab.async false
set_option linter.all false
set_option maxRecDepth 100000
namespace Lk15
open PySem L2 Pm
/-! ### draws -/
theorem sm : Small 100389 1251 10967 453 269 := by constructor <;> decide
theorem sm2 : Small 1451 1121 85871 10081 609 := by constructor <;> decide
theorem e_take (ns : List Int) : m_law_take ns = runB 5 (bTake ns 100389 1251 10967 453 269) := rfl
theorem p_take (ns : List Int) {l n : Nat} {st : Sto} {u : Int} {Q : D → Sto → Prop} (hp : Pot l n st) (hn : n ≤ 1000000) (hu : 0 < u ∧ u < 2 ^ 24)
    (q : ∀ k st', (0 ≤ k ∧ k < u) → Pot l (n + 1) st' → Fr [l] st st' → Q (.int k) st') : wp (m_law_take ns [.loc l, .int u]) st Q := take_spec sm hp hn hu q
theorem bList_loc {ns : List Int} {p : Nat} {xs : List D} {st : Sto} (h : st[p]? = some (.lst xs)) : bList ns [.loc p] st = .ok (.loc st.length) (st ++ [.lst xs]) := by
  show bnd (lst p) (fun xs => alloc xs) st = _
  unfold bnd lst
  rw [h]
  rfl
theorem wp_sortI {l : Nat} {zs : List Int} {st : Sto} {Q : D → Sto → Prop} (h : st[l]? = some (.lst (zs.map .int))) : wp (bSortX [.loc l]) st Q = Q (.loc st.length) (st ++ [.lst ((isort zs).map .int)]) := by
  show wp (bnd (lst l) srtX) st Q = _
  rw [wp_bnd, wp_lst h]
  unfold srtX
  simp only [intsOf_ints]
  rfl
structure goodL (m : Int) (l : List Int) : Prop where
  ne : l ≠ []
  mem : ∀ i ∈ l, 0 ≤ i ∧ i < m
  asc : l.Pairwise (· < ·)
  len : l.length ≤ 5
theorem adj {α : Type} {R : α → α → Prop} : ∀ {ls : List α}, ls.Pairwise R → ∀ p ∈ ls.zip (ls.drop 1), R p.1 p.2
  | [], _, p, hp => by simp at hp
  | [a], _, p, hp => by simp at hp
  | a :: b :: r, h, p, hp => by
    simp at hp
    rcases hp with rfl | hp
    · exact (List.pairwise_cons.mp h).1 b (by simp)
    · exact adj (List.pairwise_cons.mp h).2 p (by simpa using hp)
theorem asc_ok {l : List Int} (h : l.Pairwise (· < ·)) : ascD (l.map .int) = true := by
  unfold ascD zipL
  rw [← List.map_drop, List.zip_map, List.map_map, List.all_map, List.all_eq_true]
  intro p hp
  exact decide_eq_true (adj h p hp)
theorem goodL.lot {m : Int} {l : List Int} (h : goodL m l) : lotB m (lotD l) = true := by
  rw [lotB_tup, asc_ok h.asc, decide_eq_false (by simpa using h.ne), Bool.and_true]
  simp only [Bool.not_false, Bool.true_and]
  rw [List.all_map, List.all_eq_true]
  intro i hi
  have := h.mem i hi
  exact decide_eq_true (by omega)
theorem lots_good {m : Int} {Ls : List (List Int)} (h : ∀ l ∈ Ls, goodL m l) : lotsB m (lotsD Ls) = true := by
  rw [lotsB_tup, List.all_map, List.all_eq_true]
  exact fun l hl => (h l hl).lot
theorem isort_asc {l : List Int} (h : l.Nodup) : (isort l).Pairwise (· < ·) := by
  have h1 := isort_sorted l
  have h2 : (isort l).Pairwise (· ≠ ·) := (isort_perm l).nodup_iff.mpr h
  exact (h1.and h2).imp fun {a b} h => by have := h.1; have := h.2; omega
/-- one lot of a pool, taken and sorted -/
theorem rg_nodup (m : Int) : (rg m).Nodup := by
  unfold rg
  exact List.pairwise_map.mpr ((List.nodup_range).imp fun h e => h (by omega))
theorem rg_mem {m i : Int} (h : i ∈ rg m) : 0 ≤ i ∧ i < m := by
  unfold rg at h
  obtain ⟨j, hj, rfl⟩ := List.mem_map.mp h
  have := List.mem_range.mp hj
  omega
theorem rg_length {m : Int} : (rg m).length = m.toNat := by simp [rg]
/-- who is still to come -/
structure goodS (m : Int) (s : List Int) : Prop where
  ne : s ≠ []
  mem : ∀ i ∈ s, 0 ≤ i ∧ i < m
  nd : s.Nodup
  len : s.length ≤ 5
theorem goodS.rg {m : Int} (hm : 1 ≤ m ∧ m ≤ 5) : goodS m (rg m) := ⟨(rg_len hm).2, fun i h => rg_mem h, rg_nodup m, (rg_len hm).1⟩
theorem goodS.next {m : Int} (hm : 1 ≤ m ∧ m ≤ 5) {s lot : List Int} (h : goodS m s) : goodS m (nextS m s lot) := by
  unfold nextS
  split
  · exact .rg hm
  · rename_i e
    exact ⟨e, fun i hi => h.mem i ((List.mem_filter.mp hi).1), h.nd.filter _, Nat.le_trans (restS_len ..) h.len⟩
end Lk15
end
section
set_option Elab.async false
set_option linter.all false
set_option maxRecDepth 100000
namespace Lk15
open PySem L2 Pm
theorem erasF_app (m : Int) : ∀ (Ls : List (List Int)) (still : List Int) (lot : List Int) (rest : List Int), (∀ r, erasF m still (Ls ++ r) = erasF m rest r) → lot.all (fun w => decide (w ∈ rest)) = true → ∀ r, erasF m still ((Ls ++ [lot]) ++ r) = erasF m (nextS m rest lot) r := by
  intro Ls still lot rest h hl r
  rw [List.append_assoc, h, List.singleton_append, erasF, hl, Bool.true_and]
/-- lots of a kind -/
structure Drawn (m : Int) (its : Str) (Ls : List (List Int)) : Prop where
  good : ∀ l ∈ Ls, goodL m l
  kind : kindB its m (lotsD Ls) = true
/-- how many of a lot -/
def sizeOk (m : Int) (its : Str) (k : Nat) : Prop := if its = "full" then (k : Int) = m else if its = "one" then k = 1 else 1 ≤ k ∧ (k : Int) ≤ m
theorem wp_allocO {o : O} {st : Sto} {Q : D → Sto → Prop} : wp (allocO o) st Q = Q (.loc st.length) (st ++ [o]) := rfl
def kvs3 (a b c : D) : List (Key × D) := setK (setK (setK [] (Sum.inr "full") a) (Sum.inr "one") b) (Sum.inr "some") c
theorem getK3 (a b c : D) : getK (kvs3 a b c) (.inr "full") = some a ∧ getK (kvs3 a b c) (.inr "one") = some b ∧ getK (kvs3 a b c) (.inr "some") = some c := ⟨rfl, rfl, rfl⟩
end Lk15
end
section
set_option Elab.async false
set_option linter.all false
set_option maxRecDepth 100000
namespace Lk15
open PySem L2 Pm
/-! ### eras, by value -/
abbrev Era := List (List Int)
def cutS (m : Int) (x : List Era × List Int) (lot : List Int) : List Era × List Int := if x.2 = [] then (x.1 ++ [[lot]], restS (rg m) lot) else (x.1.dropLast ++ [x.1.getLastD [] ++ [lot]], restS x.2 lot)
def cutF (m : Int) (Ls : List (List Int)) : List Era × List Int := Ls.foldl (cutS m) ([], [])
theorem cutF_step {m : Int} {Ls : List (List Int)} {j : Nat} (h : j < Ls.length) : cutF m (Ls.take (j + 1)) = cutS m (cutF m (Ls.take j)) Ls[j] := by
  have : Ls.take (j + 1) = Ls.take j ++ [Ls[j]] := by rw [List.take_add_one, List.getElem?_eq_getElem h]; rfl
  unfold cutF
  rw [this, List.foldl_append]
  rfl
/-- a list of lists that stands -/
structure CutV (b F : Nat) (P : List (Nat × Era)) (s : Sto) : Prop where
  hF : s[F]? = some (.lst (P.map fun p => D.loc p.1))
  nd : (P.map (·.1)).Nodup
  at' : ∀ p ∈ P, b ≤ p.1 ∧ p.1 ≠ F ∧ s[p.1]? = some (.lst (p.2.map lotD))
theorem CutV.fr {b F : Nat} {P : List (Nat × Era)} {s s' : Sto} (C : CutV b F P s) (f : Fr [] s s') : CutV b F P s' := ⟨f.at C.hF (by simp), C.nd, fun p hp => let ⟨a, c, d⟩ := C.at' p hp; ⟨a, c, f.at d (by simp)⟩⟩
theorem CutV.lt {b F : Nat} {P : List (Nat × Era)} {s : Sto} (C : CutV b F P s) : F < s.length := (List.getElem?_eq_some_iff.mp C.hF).1
theorem CutV.plt {b F : Nat} {P : List (Nat × Era)} {s : Sto} (C : CutV b F P s) {p : Nat × Era} (h : p ∈ P) : p.1 < s.length := (List.getElem?_eq_some_iff.mp (C.at' p h).2.2).1
theorem CutV.new {b F : Nat} {P : List (Nat × Era)} {s : Sto} (C : CutV b F P s) (hb : b ≤ s.length) : CutV b F (P ++ [(s.length, [])]) ((s ++ [O.lst []]).set F (.lst (P.map (fun p => D.loc p.1) ++ [.loc s.length]))) := by
  have hlt := C.lt
  refine ⟨?_, ?_, fun p hp => ?_⟩
  · rw [List.getElem?_set_self (by simp; omega)]
    simp
  · rw [List.map_append, List.nodup_append]
    refine ⟨C.nd, by simp, fun a ha c hc => ?_⟩
    obtain ⟨p, hp, rfl⟩ := List.mem_map.mp ha
    have := C.plt hp
    simp at hc
    omega
  · rcases List.mem_append.mp hp with hp | hp
    · obtain ⟨h1, h2, h3⟩ := C.at' p hp
      have := C.plt hp
      refine ⟨h1, h2, ?_⟩
      rw [List.getElem?_set_ne (by omega), List.getElem?_append_left this]
      exact h3
    · cases List.mem_singleton.mp hp
      refine ⟨hb, by simp; omega, ?_⟩
      rw [List.getElem?_set_ne (by simp; omega)]
      simp
theorem CutV.last {b F : Nat} {P : List (Nat × Era)} {e : Nat} {X : Era} {lot : List Int} {s : Sto} (C : CutV b F (P ++ [(e, X)]) s) : CutV b F (P ++ [(e, X ++ [lot])]) (s.set e (.lst (X.map lotD ++ [lotD lot]))) := by
  obtain ⟨h1, h2, h3⟩ := C.at' (e, X) (by simp)
  have hlt : e < s.length := C.plt (p := (e, X)) (by simp)
  have nd := C.nd
  rw [List.map_append, List.nodup_append] at nd
  refine ⟨?_, ?_, fun p hp => ?_⟩
  · rw [List.getElem?_set_ne h2]
    have := C.hF
    simpa using this
  · have := C.nd
    simpa using this
  · rcases List.mem_append.mp hp with hp | hp
    · obtain ⟨k1, k2, k3⟩ := C.at' p (List.mem_append_left _ hp)
      refine ⟨k1, k2, ?_⟩
      have : p.1 ≠ e := nd.2.2 p.1 (List.mem_map_of_mem hp) e (by simp)
      rw [List.getElem?_set_ne (by omega)]
      exact k3
    · cases List.mem_singleton.mp hp
      refine ⟨h1, h2, ?_⟩
      rw [List.getElem?_set_self hlt]
      simp
theorem last_at {P : List (Nat × Era)} {e : Nat} {X : Era} : atI ((P ++ [(e, X)]).map fun p => D.loc p.1) (-1) = some (.loc e) := by
  unfold atI ixN
  simp
  rw [if_pos (by omega)]
  simp
  rw [show (-1 + ((P.length : Int) + 1)).toNat = P.length by omega]
  simp
/-- tuple([tuple(era) for era in found]) -/
theorem p_tups {b F : Nat} {P : List (Nat × Era)} {s : Sto} (C : CutV b F P s) (hl : P.length ≤ 100) {i : Nat} {ρ : En} (hi : i < ρ.length) {Q : List D → Sto → Prop} (q : ∀ s', Fr [] s s' → Q (P.map fun p => lotsD p.2) s') :
    wp (lcL (fun st => decide (st[F]? = some (.lst (P.map fun p => D.loc p.1)))) (.nm i) yesT (appA (conA (rd i) nilA) bTuple) ρ (P.map fun p => D.loc p.1) []) s Q := by
  refine wp_lcL (fun k a s' => Fr [] s s' ∧ k ≤ P.length ∧ a = (P.take k).map fun p => lotsD p.2) _ 0 [] _ ⟨Fr.refl, by omega, by simp⟩ (fun j x a s' hj hI => ?_) fun a s' hI => ?_
  · obtain ⟨h1, h2, h3⟩ := hI
    have hj1 : j < P.length := by
      have := (List.getElem?_eq_some_iff.mp hj).1
      simpa using this
    rw [List.getElem?_map, List.getElem?_eq_getElem hj1] at hj
    cases hj
    obtain ⟨k1, k2, k3⟩ := C.at' _ (List.getElem_mem hj1)
    refine ⟨decide_eq_true (h1.at C.hF (by simp)), _, bindP_nm, ?_⟩
    simp [hi]
    rw [wp_bTuple (h1.at k3 (by simp))]
    refine ⟨Nat.lt_of_lt_of_le (show a.length < 1000 by rw [h3]; simp; omega) (small_line (by decide)), h1, by omega, ?_⟩
    rw [h3, Nat.zero_add, List.take_add_one]
    simp [List.getElem?_eq_getElem hj1]
  · obtain ⟨h1, h2, h3⟩ := hI
    refine ⟨decide_eq_true (h1.at C.hF (by simp)), ?_⟩
    simp at h3
    rw [h3]
    exact q s' h1
end Lk15
end
section
set_option Elab.async false
set_option linter.all false
set_option maxRecDepth 100000
namespace Lk15
open PySem L2 Pm
/-- what stands while eras are cut, by value -/
structure CutW (m : Int) (b F M : Nat) (P : List (Nat × Era)) (mis : List Int) (s : Sto) : Prop where
  C : CutV b F P s
  hM : b ≤ M ∧ M ≠ F ∧ s[M]? = some (.lst (mis.map .int)) ∧ mis.length ≤ 5
  hp : ∀ p ∈ P, p.1 ≠ M
  ne : mis ≠ [] → P ≠ []
theorem p_cutV (ns : List Int) {m : Int} (hm : 1 ≤ m ∧ m ≤ 5) {Ls : List (List Int)} (hl : Ls.length ≤ 50) (hll : ∀ l ∈ Ls, l.length ≤ 20) (hE : erasB m Ls = true) {st : Sto} {Q : D → Sto → Prop} (q : ∀ s, Fr [] st s → Q (.tup ((cutF m Ls).1.map lotsD)) s) : wp (m_cut_in_eras ns [.int m, lotsD Ls]) st Q := by
  have e0 : m_cut_in_eras ns = runB 7 (t_cut_in_eras_1 ns) := rfl
  rw [e0]
  simp [runB_eq, startE, t_cut_in_eras_1, t_cut_in_eras_2, t_cut_in_eras_3, seqA]
  refine wp_forL (fun i ρ s => ∃ M P mis, (∃ v4 v5 v6, ρ = [some (.int m), some (lotsD Ls), some (.loc st.length), some (.loc M), v4, v5, v6]) ∧ Fr [] st s ∧ CutW m st.length st.length M P mis s ∧ P.length ≤ i ∧ (∀ p ∈ P, p.2.length ≤ i) ∧ cutF m (Ls.take i) = (P.map (·.2), mis) ∧ erasF m (stillOf m mis) (Ls.drop i) = true) _ 0 _ _
    ⟨st.length + 1, [], [], ⟨_, _, _, rfl⟩, Fr.new _, ⟨⟨by simp, by simp, by simp⟩, ⟨by omega, by omega, by simp, by simp⟩, by simp, fun h => absurd rfl h⟩, by simp, by simp, rfl, hE⟩ (fun j x ρ s hj hI => ?_) fun ρ s hI => ?_
  · obtain ⟨M, P, mis, ⟨v4, v5, v6, rfl⟩, f, C, hPl, hPX, hc, he⟩ := hI
    rw [Nat.zero_add] at hPl hPX hc he
    have hj1 : j < Ls.length := by
      have := (List.getElem?_eq_some_iff.mp hj).1
      simpa using this
    have hx : x = lotD Ls[j] := by
      rw [List.getElem?_map, List.getElem?_eq_getElem hj1] at hj
      simpa using hj.symm
    subst hx
    have hlot := hll _ (List.getElem_mem hj1)
    have hd : Ls.drop j = Ls[j] :: Ls.drop (j + 1) := List.drop_eq_getElem_cons hj1
    rw [hd, erasF, Bool.and_eq_true] at he
    obtain ⟨ha, he⟩ := he
    have hcn := cutF_step (m := m) hj1
    rw [hc] at hcn
    refine ⟨rfl, _, by simp; rfl, ?_⟩
    simp [t_cut_in_eras_3_1]
    rw [wp_obj C.hM.2.2.1]
    simp [opEq_int]
    -- behind the first statement: P0 and the last one
    have rest : ∀ M1 P0 e X s1 v6', Fr [] st s1 → CutW m st.length st.length M1 (P0 ++ [(e, X)]) (stillOf m mis) s1 → P0.length ≤ j → (∀ p ∈ P0, p.2.length ≤ j) → X.length ≤ j → cutF m (Ls.take (j + 1)) = (P0.map (·.2) ++ [X ++ [Ls[j]]], restS (stillOf m mis) Ls[j]) → wp (t_cut_in_eras_3_2 ns [some (.int m), some (lotsD Ls), some (.loc st.length), some (.loc M1), some (lotD Ls[j]), v5, v6']) s1 fun y st' => match y.1 with
        | .nx => ∃ M P mis, (∃ v4 v5 v6, y.2 = [some (.int m), some (lotsD Ls), some (.loc st.length), some (.loc M), v4, v5, v6]) ∧ Fr [] st st' ∧ CutW m st.length st.length M P mis st' ∧ P.length ≤ j + 1 ∧ (∀ p ∈ P, p.2.length ≤ j + 1) ∧ cutF m (Ls.take (j + 1)) = (P.map (·.2), mis) ∧ erasF m (stillOf m mis) (Ls.drop (j + 1)) = true
        | .rt d => Q d st'
        | _ => False := by
      intro M1 P0 e X s1 v6' f1 C1 hP0 hPX0 hX hc1
      simp [t_cut_in_eras_3_2, seqA]
      refine wp_allC (inI (stillOf m mis)) _ (fun _ _ => rfl) (by simp; omega) (fun y hy s2 fr => ?_) fun s2 r2 => ?_
      · obtain ⟨a, ha, rfl⟩ := List.mem_map.mp hy
        refine ⟨_, by simp; rfl, ?_⟩
        simp [wipeE]
        rw [wp_inL (fr.at C1.hM.2.2.1 (by simp))]
        exact ⟨rfl, Fr.refl⟩
      · rw [all_inI, ha]
        simp [t_cut_in_eras_3_3]
        have C2 := C1.C.fr r2
        obtain ⟨h1, h2, ge⟩ := C2.at' (e, X) (by simp)
        have heM : e ≠ M1 := C1.hp (e, X) (by simp)
        have gM0 := r2.at C1.hM.2.2.1 (by simp)
        have hMl : M1 < s2.length := (List.getElem?_eq_some_iff.mp gM0).1
        simp [opIx_loc]
        rw [wp_obj C2.hF]
        show wp (ofO (atI ((P0 ++ [(e, X)]).map fun p => D.loc p.1) (-1))) s2 _
        rw [last_at]
        simp
        rw [wp_isL ge, wp_append ge (by simp; omega)]
        have gM : (s2.set e (.lst (X.map lotD ++ [lotD Ls[j]])))[M1]? = some (.lst ((stillOf m mis).map .int)) := by
          rw [List.getElem?_set_ne (by omega)]
          exact gM0
        simp [t_cut_in_eras_3_4]
        rw [wp_seqA gM]
        have fr2 : Fr [] st (s2.set e (.lst (X.map lotD ++ [lotD Ls[j]]))) := (f1.trans r2).setNew h1
        refine pu_lcLok (fun d => if !inI Ls[j] d then some d else none) _ (fun s fr => decide_eq_true (fr.at gM (by simp))) (by simp; have := C1.hM.2.2.2; omega) (fun x hx => ?_) fun s3 r3 => ?_
        · obtain ⟨a, ha, rfl⟩ := List.mem_map.mp hx
          refine ⟨_, by simp; rfl, ?_⟩
          by_cases h : a ∈ Ls[j]
          · refine .inl ⟨by simp [inI, h], ?_⟩
            simp [wipeE]
            rw [opNotIn_intT, decide_eq_true h]
            exact .ret'
          · refine .inr ⟨_, by simp [inI, h]; rfl, ?_, ?_⟩
            · simp [wipeE]
              rw [opNotIn_intT, decide_eq_false h]
              exact .ret'
            · simp [wipeE]
              exact .ret'
        · rw [filter_not]
          try simp
          have hl3 : (s2.set e (.lst (X.map lotD ++ [lotD Ls[j]]))).length ≤ s3.length := r3.1
          simp at hl3
          have C3 := (C2.last (lot := Ls[j])).fr (r3.trans (Fr.new [O.lst ((restS (stillOf m mis) Ls[j]).map .int)]))
          refine ⟨(fr2.trans r3).trans (Fr.new _), P0 ++ [(e, X ++ [Ls[j]])], restS (stillOf m mis) Ls[j], ⟨C3, ⟨by have := C2.lt; omega, by have := C2.lt; omega, by simp, Nat.le_trans (restS_len ..) C1.hM.2.2.2⟩, fun p hp => ?_, fun _ => by simp⟩, by simp; omega, ?_, by rw [hc1]; simp, ?_⟩
          · have : p.1 < s3.length := by
              rcases List.mem_append.mp hp with hp | hp
              · have := C2.plt (List.mem_append_left _ hp)
                omega
              · cases List.mem_singleton.mp hp
                have := C2.plt (p := (e, X)) (by simp)
                show e < s3.length
                simp at this
                omega
            omega
          · intro a b' hp
            rcases List.mem_append.mp hp with hp | hp
            · have := hPX0 _ hp
              simp at this
              omega
            · cases List.mem_singleton.mp hp
              simp
              omega
          · rw [← nextS_eq]
            exact he
    have hls := f.1
    have hMl : M < s.length := (List.getElem?_eq_some_iff.mp C.hM.2.2.1).1
    by_cases em : mis = []
    · rw [if_pos em, wp_isL C.C.hF]
      have hFl := C.C.lt
      have g1 : (s ++ [O.lst []])[st.length]? = some (.lst (P.map fun p => D.loc p.1)) := (Fr.new (S := []) _).at C.C.hF (by simp)
      rw [wp_append g1 (by simp; omega), wp_rg1 hm]
      have fr1 : Fr [] st ((s ++ [O.lst []]).set st.length (.lst (P.map (fun p => D.loc p.1) ++ [.loc s.length])) ++ [.lst ((rg m).map .int)]) := (((f.trans (Fr.new _)).setNew (Nat.le_refl _)).trans (Fr.new _))
      have es' : stillOf m mis = rg m := if_pos em
      have C1 := (C.C.new hls).fr (Fr.new [O.lst ((rg m).map .int)])
      refine wp_mono (rest _ P s.length [] _ _ fr1 ⟨C1, ⟨by simp; omega, by simp; omega, ?_, ?_⟩, fun p hp => ?_, fun _ => by simp⟩ hPl hPX (by simp) (by rw [hcn, es']; simp [cutS, em])) fun y st' h => ?_
      · rw [es']
        simp
      · rw [es']
        exact (rg_len hm).1
      · rcases List.mem_append.mp hp with hp | hp
        · have := C.C.plt hp
          simp
          omega
        · cases List.mem_singleton.mp hp
          simp
      · obtain ⟨fl, ρ2⟩ := y
        cases fl with
        | nx =>
          obtain ⟨M2, P2, mis2, h1, h2, h3, h4, h5, h6, h7⟩ := h
          exact ⟨M2, h1, h2, P2, mis2, h3, h4, by simpa using h5, h6, h7⟩
        | rt d => exact h
        | bk => exact h.elim
        | ct => exact h.elim
    · rw [if_neg em]
      have es' : stillOf m mis = mis := if_neg em
      obtain ⟨P0, p0, rfl⟩ : ∃ P0 p, P = P0 ++ [p] := ⟨P.dropLast, P.getLast (C.ne em), (List.dropLast_concat_getLast (C.ne em)).symm⟩
      obtain ⟨e, X⟩ := p0
      refine wp_mono (rest M P0 e X s v6 f ⟨C.C, by rw [es']; exact C.hM, C.hp, fun _ => by simp⟩ (by simp at hPl; omega) (fun p hp => hPX p (List.mem_append_left _ hp)) (hPX (e, X) (by simp)) (by rw [hcn, es']; simp [cutS, em])) fun y st' h => ?_
      obtain ⟨fl, ρ2⟩ := y
      cases fl with
      | nx =>
        obtain ⟨M2, P2, mis2, h1, h2, h3, h4, h5, h6, h7⟩ := h
        exact ⟨M2, h1, h2, P2, mis2, h3, h4, by simpa using h5, h6, h7⟩
      | rt d => exact h
      | bk => exact h.elim
      | ct => exact h.elim
  · obtain ⟨M, P, mis, ⟨v4, v5, v6, rfl⟩, f, C, hPl, hPX, hc, he⟩ := hI
    refine ⟨rfl, ?_⟩
    simp at hPl
    simp [t_cut_in_eras_4]
    rw [wp_seqA C.C.hF]
    simp [wipeE]
    refine p_tups C.C (by omega) (by simp) fun s' r' => ?_
    have : (cutF m Ls).1 = P.map (·.2) := by
      simp at hc
      rw [hc]
    have hq := q (s' ++ [O.lst (P.map fun p => lotsD p.2)]) ((f.trans r').trans (Fr.new _))
    rw [this, List.map_map] at hq
    exact hq
end Lk15
end
section
set_option Elab.async false
set_option linter.all false
set_option maxRecDepth 100000
namespace Lk15
open PySem L2 Pm
/-! ### what eras are -/
theorem restS_app (a b c : List Int) : restS (restS a b) c = restS a (b ++ c) := by
  unfold restS
  rw [List.filter_filter]
  congr 1
  funext w
  by_cases h1 : w ∈ b <;> by_cases h2 : w ∈ c <;> simp [h1, h2]
theorem mem_restS {a b : List Int} {w : Int} : w ∈ restS a b ↔ w ∈ a ∧ w ∉ b := by
  unfold restS
  simp
theorem cnt {m : Int} {l : List Int} (h : l.Nodup) (hs : ∀ w ∈ l, w ∈ rg m) : l.length + (restS (rg m) l).length = m.toNat := by
  have e1 : ((rg m).filter fun w => decide (w ∈ l)).Perm l := (List.perm_ext_iff_of_nodup ((rg_nodup m).filter _) h).mpr fun w => by
    simp
    exact hs w
  have e2 := e1.length_eq
  have e3 : ((rg m).filter fun w => decide (w ∈ l)).length + (restS (rg m) l).length = (rg m).length := by
    unfold restS
    have : ∀ xs : List Int, (xs.filter fun w => decide (w ∈ l)).length + (xs.filter fun w => !decide (w ∈ l)).length = xs.length := by
      intro xs
      induction xs with
      | nil => rfl
      | cons a xs ih =>
        by_cases h : a ∈ l
        · simp [h] at ih ⊢
          omega
        · simp [h] at ih ⊢
          omega
    exact this _
  rw [rg_length] at e3
  omega
def okX (m : Int) (X : Era) : Prop := X.flatten.Nodup ∧ (∀ w ∈ X.flatten, w ∈ rg m) ∧ X.flatten ≠ []
def EI (m : Int) (x : List Era × List Int) : Prop := x = ([], []) ∨ ∃ E0 X, x = (E0 ++ [X], restS (rg m) X.flatten) ∧ (∀ Y ∈ E0, restS (rg m) Y.flatten = [] ∧ okX m Y) ∧ okX m X
theorem rg_has {m w : Int} (h : 0 ≤ w ∧ w < m) : w ∈ rg m := by
  unfold rg
  rw [List.mem_map]
  exact ⟨w.toNat, List.mem_range.mpr (by omega), by omega⟩
theorem good_sub {m : Int} {l : List Int} (h : goodL m l) : ∀ w ∈ l, w ∈ rg m := fun w hw => rg_has (h.mem w hw)
theorem good_nd {m : Int} {l : List Int} (h : goodL m l) : l.Nodup := h.asc.imp fun h => by omega
theorem EI_step {m : Int} {x : List Era × List Int} (h : EI m x) {lot : List Int} (hg : goodL m lot) (hs : ∀ w ∈ lot, w ∈ stillOf m x.2) : EI m (cutS m x lot) := by
  have o1 : okX m [lot] := ⟨by simpa using good_nd hg, by simpa using good_sub hg, by simpa using hg.ne⟩
  rcases h with rfl | ⟨E0, X, rfl, hE, hX⟩
  · exact .inr ⟨[], [lot], by simp [cutS], by simp, o1⟩
  · by_cases em : restS (rg m) X.flatten = []
    · refine .inr ⟨E0 ++ [X], [lot], by simp [cutS, em], fun Y hY => ?_, o1⟩
      rcases List.mem_append.mp hY with hY | hY
      · exact hE Y hY
      · cases List.mem_singleton.mp hY
        exact ⟨em, hX⟩
    · have es : stillOf m (restS (rg m) X.flatten) = restS (rg m) X.flatten := if_neg em
      rw [es] at hs
      refine .inr ⟨E0, X ++ [lot], by simp [cutS, em, restS_app], hE, ?_, fun w hw => ?_, ?_⟩
      · rw [List.flatten_append, List.nodup_append]
        refine ⟨hX.1, by simpa using good_nd hg, fun a ha c hc e => ?_⟩
        subst e
        have := mem_restS.mp (hs a (by simpa using hc))
        exact this.2 ha
      · rw [List.flatten_append] at hw
        rcases List.mem_append.mp hw with hw | hw
        · exact hX.2.1 w hw
        · exact good_sub hg w (by simpa using hw)
      · rw [List.flatten_append]
        intro z
        exact hX.2.2 (List.append_eq_nil_iff.mp z).1
theorem EI_take {m : Int} {Ls : List (List Int)} (hg : ∀ l ∈ Ls, goodL m l) (hE : erasB m Ls = true) : ∀ i ≤ Ls.length, EI m (cutF m (Ls.take i)) ∧ erasF m (stillOf m (cutF m (Ls.take i)).2) (Ls.drop i) = true := by
  intro i
  induction i with
  | zero => exact fun _ => ⟨.inl rfl, hE⟩
  | succ j ih =>
    intro hj
    obtain ⟨h1, h2⟩ := ih (by omega)
    have hj1 : j < Ls.length := by omega
    have hd : Ls.drop j = Ls[j] :: Ls.drop (j + 1) := List.drop_eq_getElem_cons hj1
    rw [hd, erasF, Bool.and_eq_true, List.all_eq_true] at h2
    have hs : ∀ w ∈ Ls[j], w ∈ stillOf m (cutF m (Ls.take j)).2 := fun w hw => of_decide_eq_true (h2.1 w hw)
    rw [cutF_step hj1]
    refine ⟨EI_step h1 (hg _ (List.getElem_mem hj1)) hs, ?_⟩
    have e : stillOf m (cutS m (cutF m (Ls.take j)) Ls[j]).2 = nextS m (stillOf m (cutF m (Ls.take j)).2) Ls[j] := by
      rw [nextS_eq]
      unfold cutS stillOf
      split <;> rfl
    rw [e]
    exact h2.2
theorem EI_all {m : Int} {Ls : List (List Int)} (hg : ∀ l ∈ Ls, goodL m l) (hE : erasB m Ls = true) : EI m (cutF m Ls) := by
  have := (EI_take hg hE Ls.length (Nat.le_refl _)).1
  rwa [List.take_length] at this
theorem still_len {m : Int} (hm : 1 ≤ m ∧ m ≤ 5) {x : List Era × List Int} (h : EI m x) : ((stillOf m x.2).length : Int) = m ↔ x.2 = [] := by
  rcases h with rfl | ⟨E0, X, rfl, hE, hX⟩
  · simp [stillOf, rg_length]
    omega
  · simp only
    unfold stillOf
    have := cnt hX.1 hX.2.1
    have h0 : 0 < X.flatten.length := List.length_pos_iff.mpr hX.2.2
    by_cases em : restS (rg m) X.flatten = []
    · rw [if_pos em, rg_length]
      simp [em]
      omega
    · rw [if_neg em]
      simp only [em, iff_false]
      omega
def presentOf (x : List Era × List Int) : List Int := (x.1.getLastD []).flatten
def leftF (m : Int) (pres : List Int) : List Int := (rg m).filter fun w => decide ((pres.length : Int) = m) || !decide (w ∈ pres)
theorem left_eq {m : Int} (hm : 1 ≤ m ∧ m ≤ 5) {x : List Era × List Int} (h : EI m x) : leftF m (presentOf x) = stillOf m x.2 := by
  rcases h with rfl | ⟨E0, X, rfl, hE, hX⟩
  · simp [leftF, presentOf, stillOf]
  · have := cnt hX.1 hX.2.1
    have ep : presentOf (E0 ++ [X], restS (rg m) X.flatten) = X.flatten := by simp [presentOf]
    rw [ep]
    unfold leftF stillOf
    simp only
    by_cases em : restS (rg m) X.flatten = []
    · rw [if_pos em]
      rw [em] at this
      simp at this
      have e : decide ((X.flatten.length : Int) = m) = true := decide_eq_true (by simp; omega)
      rw [e]
      simp
    · rw [if_neg em]
      have h0 : 0 < (restS (rg m) X.flatten).length := List.length_pos_iff.mpr em
      have e : decide ((X.flatten.length : Int) = m) = false := decide_eq_false (by omega)
      rw [e]
      simp only [Bool.false_or]
      rfl
end Lk15
end
section
set_option Elab.async false
set_option linter.all false
set_option maxRecDepth 100000
namespace Lk15
open PySem L2 Pm
/-! ### three fors over tuples -/
theorem wp_walk {p : Pat} {t : MT} {mb : MB} {ρ ρ1 : En} {x : D} {r acc : List D} {st : Sto} {Q : List D → Sto → Prop} (hb : bindP p x ρ = some ρ1) : wp (walkL (fun _ => true) p t mb ρ (x :: r) acc) st Q = wp (bnd (nox (t ρ1)) fun k => if k = true then bnd (mb ρ1 acc) fun a => walkL (fun _ => true) p t mb ρ r a else walkL (fun _ => true) p t mb ρ r acc) st Q := by
  have e : walkL (fun _ => true) p t mb ρ (x :: r) acc st = (bnd (nox (t ρ1)) fun k => if k = true then bnd (mb ρ1 acc) fun a => walkL (fun _ => true) p t mb ρ r a else walkL (fun _ => true) p t mb ρ r acc) st := by
    rw [walkL]
    simp only [if_true, hb]
    rfl
  unfold wp
  rw [e]
theorem w3f {ρ : En} (h7 : ρ.length = 7) {st : Sto} {Q : List D → Sto → Prop} : ∀ (l : List Int) (acc : List D), acc.length + l.length ≤ 1000 → Q (acc ++ l.map .int) st → wp (walkL (fun _ => true) (.nm 6) yesT (mAp (rd 6)) ρ (l.map .int) acc) st Q
  | [], acc, _, q => by
    show Q acc st
    simpa using q
  | a :: l, acc, hl, q => by
    rw [List.map_cons, wp_walk bindP_nm]
    have hz : acc.length < sizeLine := Nat.lt_of_lt_of_le (show acc.length < 100000 by simp at hl; omega) (small_line (Nat.le_refl _))
    simp [mAp, h7, hz]
    exact w3f h7 l (acc ++ [.int a]) (by simp at hl ⊢; omega) (by simpa using q)
theorem w2f {ρ : En} (h7 : ρ.length = 7) {st : Sto} {Q : List D → Sto → Prop} : ∀ (X : Era) (acc : List D), acc.length + X.flatten.length ≤ 1000 → Q (acc ++ X.flatten.map .int) st → wp (walkL (fun _ => true) (.nm 5) yesT (mCl (iterA (rd 5)) (.nm 6) yesT (mAp (rd 6)) [6]) ρ (X.map lotD) acc) st Q
  | [], acc, _, q => by
    show Q acc st
    simpa using q
  | a :: X, acc, hl, q => by
    rw [List.map_cons, wp_walk bindP_nm]
    simp [mCl, h7, seqA]
    refine w3f (by simp [wipeE, h7]) a acc (by simp at hl; omega) ?_
    exact w2f h7 X (acc ++ a.map .int) (by simp at hl ⊢; omega) (by simpa using q)
theorem w1f {ρ : En} (h7 : ρ.length = 7) {st : Sto} {Q : List D → Sto → Prop} (X : Era) (hl : X.flatten.length ≤ 1000) (q : Q (X.flatten.map .int) st) : wp (walkL (fun _ => true) (.nm 4) yesT (mCl (iterA (rd 4)) (.nm 5) yesT (mCl (iterA (rd 5)) (.nm 6) yesT (mAp (rd 6)) [6]) [5, 6]) ρ [lotsD X] []) st Q := by
  rw [wp_walk bindP_nm]
  simp [mCl, h7, seqA]
  refine w2f (by simp [wipeE, h7]) X [] (by simpa using hl) ?_
  exact q
/-! ### checks -/
theorem e_check_many (ns : List Int) {m : Int} (hm : 1 ≤ m ∧ m ≤ 5) : m_check_many ns [.int m] = ret .non := by
  simp [m_check_many, b_check_many, runB_eq, startE, e_is_within, hm]
theorem p_check_lots (ns : List Int) {m : Int} (hm : 1 ≤ m ∧ m ≤ 5) {its : Str} {v : D} {st : Sto} (h : okV st v) (hk : kindB its m v = true) {Q : D → Sto → Prop} (q : ∀ s, Fr [] st s → Q .non s) : wp (m_check_lots ns [.str its, .int m, v]) st Q := by
  simp [m_check_lots, b_check_lots, runB_eq, startE]
  refine p_is_of_kind ns hm h fun s fr => ?_
  rw [hk]
  simp
  exact q s fr
theorem cut_last {xs : List D} {x : D} : cutD (xs ++ [x]) (some (-1)) none = [x] := by
  simp [cutD, HT.sIx]
  rw [show (-1 + ((xs.length : Int) + 1)).toNat = xs.length by omega]
  simp
theorem p_eras (ns : List Int) {m : Int} (hm : 1 ≤ m ∧ m ≤ 5) {Ls : List (List Int)} {st : Sto} (h : okV st (lotsD Ls)) (hk : kindB "eras" m (lotsD Ls) = true) (hE : erasB m Ls = true) (hl : Ls.length ≤ 50) (hll : ∀ l ∈ Ls, l.length ≤ 20) {Q : D → Sto → Prop} (q : ∀ s, Fr [] st s → Q (.tup ((cutF m Ls).1.map lotsD)) s) : wp (m_eras ns [.int m, lotsD Ls]) st Q := by
  simp [m_eras, b_eras, runB_eq, startE, e_check_many ns hm]
  refine p_check_lots ns hm h hk fun s1 f1 => ?_
  refine p_cutV ns hm hl hll hE fun s2 f2 => ?_
  exact q s2 (f1.trans f2)
theorem p_left (ns : List Int) {m : Int} (hm : 1 ≤ m ∧ m ≤ 5) {Ls : List (List Int)} {st : Sto} (h : okV st (lotsD Ls)) (hk : kindB "eras" m (lotsD Ls) = true) (hE : erasB m Ls = true) (hI : EI m (cutF m Ls)) (hl : Ls.length ≤ 50) (hll : ∀ l ∈ Ls, l.length ≤ 20) {Q : D → Sto → Prop} (q : ∀ s, Fr [] st s → Q (lotD (stillOf m (cutF m Ls).2)) s) : wp (m_left ns [.int m, lotsD Ls]) st Q := by
  simp only [m_left, runB_eq, b_left]
  simp [startE, e_check_many ns hm]
  refine p_check_lots ns hm h hk fun s1 f1 => ?_
  refine p_cutV ns hm hl hll hE fun s2 f2 => ?_
  have hp5 : (presentOf (cutF m Ls)).length ≤ 5 := by
    rcases hI with e | ⟨E0, X, e, _, hX⟩
    · rw [e]; simp [presentOf]
    · have := cnt hX.1 hX.2.1
      rw [e]
      simp [presentOf] at this ⊢
      omega
  have key : ∀ (C : List D) (pres : List Int), pres.length ≤ 5 → leftF m pres = stillOf m (cutF m Ls).2 → (∀ (s : Sto) (Q' : List D → Sto → Prop), Q' (pres.map .int) s → wp (walkL (fun _ => true) (.nm 4) yesT (mCl (iterA (rd 4)) (.nm 5) yesT (mCl (iterA (rd 5)) (.nm 6) yesT (mAp (rd 6)) [6]) [5, 6]) [some (.int m), some (lotsD Ls), some (.tup C), none, none, none, none] C []) s Q') →
      wp (lcEI (iterA (rd 2)) (.nm 4) yesT (mCl (iterA (rd 4)) (.nm 5) yesT (mCl (iterA (rd 5)) (.nm 6) yesT (mAp (rd 6)) [6]) [5, 6]) [4, 5, 6] [some (.int m), some (lotsD Ls), some (.tup C), none, none, none, none]) s2 fun a_1 st' =>
      okR m = true ∧ wp (lcL (rngI 0 m).ok (.nm 6) (orT (tstB (bin (appA (conA (rd 3) nilA) (bLen ns)) (rd 0) opEq)) (tstB (bin (rd 6) (rd 3) opNotIn))) (rd 6) (wipeE [some (.int m), some (lotsD Ls), some (.tup C), some a_1, none, none, none] [6]) (rngI 0 m).xs []) st' fun a st' => Q (.tup a) (st' ++ [O.lst a]) := by
    intro C pres h5 hlf hw
    unfold lcEI
    simp [seqA, wipeE]
    refine hw _ _ ?_
    refine ⟨okR_small (by omega) (by omega), ?_⟩
    have exs : (rngI 0 m).xs = (rg m).map .int := by
      simp [rngI, rg]
    rw [exs]
    refine wp_lcFil (fun d => match d with
      | .int i => decide ((pres.length : Int) = m) || !decide (i ∈ pres)
      | _ => false) _ (fun _ _ => rfl) (by simp; have := rg_len hm; omega) (fun x hx s fs => ?_) fun s3 r3 => ?_
    · obtain ⟨i, hi, rfl⟩ := List.mem_map.mp hx
      have g := fs.at (l := s2.length) (o := .lst (pres.map .int)) (by simp) (by simp)
      refine ⟨_, bindP_nm, ?_⟩
      simp
      rw [wp_obj g]
      simp [opEq_int]
      by_cases hc : (pres.length : Int) = m
      · rw [if_pos hc]
        simp [hc]
        exact Fr.refl
      · rw [if_neg hc, wp_notInL g]
        simp [hc]
        exact Fr.refl
    · have ef : ((rg m).map D.int).filter (fun d => match d with
          | .int i => decide ((pres.length : Int) = m) || !decide (i ∈ pres)
          | _ => false) = (leftF m pres).map .int := by
        rw [List.filter_map]
        rfl
      rw [ef, hlf]
      exact q _ (((f1.trans f2).trans ((Fr.new _).trans r3)).trans (Fr.new _))
  show wp (ret (D.tup (cutD ((cutF m Ls).1.map lotsD) (some (-1)) none))) s2 _
  rw [wp_ret]
  refine key _ (presentOf (cutF m Ls)) hp5 (left_eq hm hI) fun s Q' q' => ?_
  rcases hI with e | ⟨E0, X, e, _, hX⟩
  · rw [e] at q' ⊢
    exact q'
  · rw [e] at q' hp5 ⊢
    simp only [List.map_append, List.map_cons, List.map_nil, cut_last]
    have ep : presentOf (E0 ++ [X], restS (rg m) X.flatten) = X.flatten := by simp [presentOf]
    rw [ep] at q' hp5
    exact w1f rfl X (by omega) q'
end Lk15
end
section
set_option Elab.async false
set_option linter.all false
set_option maxRecDepth 100000
namespace Lk15
open PySem L2 Pm
@[simp] theorem seqD_tup {ns : List Int} {xs : List D} : seqD ns (.tup xs) = ret xs := rfl
def FA : Nat → List (List Int)
  | 0 => []
  | i + 1 => FA i ++ (FA i).map (fun l => l ++ [(i : Int)]) ++ [[(i : Int)]]
def FB : Nat → List (List Int)
  | 0 => [[]]
  | i + 1 => FB i ++ (FB i).map fun l => l ++ [(i : Int)]
def rowL (l : List Int) : Row := l.map .inl
theorem rowL_D (l : List Int) : rowD (rowL l) = lotD l := by
  show D.tup ((l.map Sum.inl).map kD) = _
  rw [List.map_map]
  rfl
def SD (L : List (List Int)) : List D := (sortR (L.map rowL)).map rowD
theorem FA_ok : ∀ i < 6, (FA i).length ≤ 31 ∧ (FA i).all (fun l => !decide (l = []) && decide (l.length ≤ 5) && l.all fun w => decide (0 ≤ w ∧ w < 5)) = true ∧ (FB i).length ≤ 32 ∧ (1 ≤ i → FA i ≠ []) := by decide +kernel
theorem FA_perm : ∀ i < 6, (FA i).Perm ((FB i).filter fun l => !decide (l = [])) := by decide +kernel
theorem SD_eq {i : Nat} (h : i < 6) : SD ((FB i).filter fun l => !decide (l = [])) = SD (FA i) := by
  unfold SD
  congr 1
  exact (sortR_uniq ((sortR_perm _).trans ((FA_perm i h).map rowL)) (sortR_sorted _)).symm
theorem shOf_L (L : List (List Int)) (i : Nat) : shOf (L.map rowL) i = false := by
  cases L with
  | nil => rfl
  | cons w r =>
    show (match (w.map Sum.inl : Row)[i]? with | some (.inr _) => true | _ => false) = false
    rw [List.getElem?_map]
    cases w[i]? <;> rfl
theorem okRow_L {sh : Nat → Bool} (h : ∀ i, sh i = false) : ∀ (l : List Int) (i : Nat), okRow sh i (rowL l) = true
  | [], _ => rfl
  | a :: l, i => by
    show (!sh i && okRow sh (i + 1) (rowL l)) = true
    rw [h, okRow_L h l]
    rfl
theorem okRows_L {L : List (List Int)} (h : ∀ l ∈ L, l ≠ []) : okRows (L.map rowL) = true := by
  unfold okRows
  rw [List.all_eq_true]
  intro r hr
  obtain ⟨l, hl, rfl⟩ := List.mem_map.mp hr
  rw [okRow_L (shOf_L L) l 0]
  cases l with
  | nil => exact absurd rfl (h [] hl)
  | cons a l => rfl
theorem wp_sortL {L : List (List Int)} (h1 : L ≠ []) (h : ∀ l ∈ L, l ≠ []) {p : Nat} {st : Sto} {Q : D → Sto → Prop} (hp : st[p]? = some (.lst (L.map lotD))) : wp (bSortX [.loc p]) st Q = Q (.loc st.length) (st ++ [.lst (SD L)]) := by
  show wp (bnd (lst p) srtX) st Q = _
  rw [wp_bnd, wp_lst hp]
  have e0 : L.map lotD = (L.map rowL).map rowD := by
    rw [List.map_map]
    exact List.map_congr_left fun l _ => (rowL_D l).symm
  have e1 : intsOf (L.map lotD) = none := by
    cases L with
    | nil => exact absurd rfl h1
    | cons w r => rfl
  have e3 : strsOf (L.map lotD) = none := by
    cases L with
    | nil => exact absurd rfl h1
    | cons w r => rfl
  have e2 : rowsOf (L.map lotD) = some (L.map rowL) := by rw [e0, rowsOf_rows]
  unfold srtX
  rw [e1]
  simp only
  rw [e3]
  simp only
  rw [e2]
  simp only
  rw [if_pos (okRows_L h)]
  rfl
theorem FA_ne {i : Nat} (h : i < 6) : ∀ l ∈ FA i, l ≠ [] := fun l hl => by
  have := List.all_eq_true.mp (FA_ok i h).2.1 l hl
  simp at this
  exact this.1.1
/-- what is sorted: tuples of few ints -/
theorem SD_mem {i : Nat} (h : i < 6) {d : D} (hd : d ∈ SD (FA i)) : ∃ l : List Int, d = lotD l ∧ l.length ≤ 5 ∧ ∀ w ∈ l, 0 ≤ w ∧ w < 5 := by
  obtain ⟨r, hr, rfl⟩ := List.mem_map.mp hd
  obtain ⟨l, hl, rfl⟩ := List.mem_map.mp ((sortR_perm _).mem_iff.mp hr)
  have := List.all_eq_true.mp (FA_ok i h).2.1 l hl
  simp at this
  exact ⟨l, rowL_D l, this.1.2, this.2⟩
theorem SD_len {i : Nat} (h : i < 6) : (SD (FA i)).length ≤ 31 := by
  unfold SD
  rw [List.length_map, (sortR_perm _).length_eq, List.length_map]
  exact (FA_ok i h).1
theorem p_lots_among (ns : List Int) {m : Int} (hm : 1 ≤ m ∧ m ≤ 5) {st : Sto} {l0 : Nat} (h0 : st[l0]? = some (.lst ((List.range m.toNat).map fun i => D.int (0 + (i : Nat))))) {Q : D → Sto → Prop} (q : ∀ l s, Fr [] st s → st.length ≤ l → s[l]? = some (.lst (SD (FA m.toNat))) → Q (.loc l) s) : wp (m_lots_among ns [.loc l0]) st Q := by
  simp [m_lots_among, b_lots_among, runB_eq, startE]
  have hl0 := (List.getElem?_eq_some_iff.mp h0).1
  rw [wp_seqA (xs := (List.range m.toNat).map fun i => D.int (0 + (i : Nat))) (by rw [List.getElem?_append_left hl0]; exact h0)]
  refine wp_forL (fun i ρ s => ∃ F, (∃ v2 v3, ρ = [some (.loc l0), some (.loc F), v2, v3]) ∧ Fr [] st s ∧ st.length ≤ F ∧ s[F]? = some (.lst ((FA i).map lotD))) _ 0 _ _ ⟨st.length, ⟨_, _, rfl⟩, Fr.new _, Nat.le_refl _, by simp [FA]⟩ (fun j x ρ s hj hI => ?_) fun ρ s hI => ?_
  · obtain ⟨F, ⟨v2, v3, rfl⟩, f, hF, g⟩ := hI
    rw [Nat.zero_add] at g
    have hj1 : j < m.toNat := by
      have := (List.getElem?_eq_some_iff.mp hj).1
      simpa using this
    have hx : x = .int (j : Int) := by
      rw [List.getElem?_map, List.getElem?_range hj1] at hj
      simpa using hj.symm
    subst hx
    have hlen := (FA_ok j (by omega)).1
    refine ⟨decide_eq_true (f.at h0 (by simp)), _, by simp; rfl, ?_⟩
    simp
    rw [wp_seqA g]
    simp [wipeE]
    refine wp_lcMap (fun d => match d with
      | .tup ys => .tup (ys ++ [.int (j : Int)])
      | d => d) _ (fun s' f' => decide_eq_true (f'.at g (by simp))) (by simp; omega) (fun x hx s1 f1 => ?_) fun s1 r1 => ?_
    · obtain ⟨l, hl, rfl⟩ := List.mem_map.mp hx
      refine ⟨_, bindP_nm, ?_⟩
      have hl5 : l.length ≤ 5 := by
        have := List.all_eq_true.mp (FA_ok j (by omega)).2.1 l hl
        simp at this
        exact this.1.2
      simp
      exact ⟨small_line (by omega), Fr.refl⟩
    · have eA : ((FA j).map lotD).map (fun d => match d with
        | .tup ys => .tup (ys ++ [.int (j : Int)])
        | d => d) = ((FA j).map fun l => l ++ [(j : Int)]).map lotD := by
        rw [List.map_map, List.map_map]
        refine List.map_congr_left fun l _ => ?_
        simp [lotD]
      rw [eA]
      have gF := r1.at g (by simp)
      have hFl := (List.getElem?_eq_some_iff.mp gF).1
      rw [wp_addL (xs := (FA j).map lotD) (ys := ((FA j).map fun l => l ++ [(j : Int)]).map lotD) (by rw [List.getElem?_append_left hFl]; exact gF) (by simp) (by simp; omega)]
      refine ⟨small_line (by decide), ?_⟩
      rw [wp_addL (xs := (FA j).map lotD ++ ((FA j).map fun l => l ++ [(j : Int)]).map lotD) (ys := [.tup [.int (j : Int)]]) (by rw [List.getElem?_append_left (by simp)]; simp) (by simp) (by simp; omega)]
      have hf1 := f.1
      have hr1 := r1.1
      refine ⟨_, rfl, f.trans (r1.trans ((((Fr.new _).trans (Fr.new _)).trans (Fr.new _)).trans (Fr.new _))), by simp; omega, ?_⟩
      simp [FA, lotD]
  · obtain ⟨F, ⟨v2, v3, rfl⟩, f, hF, g⟩ := hI
    refine ⟨decide_eq_true (f.at h0 (by simp)), ?_⟩
    simp at g
    simp
    rw [wp_sortL ((FA_ok m.toNat (by omega)).2.2.2 (by omega)) (FA_ne (by omega)) g]
    exact q _ _ (f.trans (Fr.new _)) f.1 (by simp)
end Lk15
end
section
set_option Elab.async false
set_option linter.all false
set_option maxRecDepth 100000
namespace Lk15
open PySem L2 Pm
theorem okV_lots {m : Int} {Ls : List (List Int)} (hg : ∀ l ∈ Ls, goodL m l) (hl : Ls.length ≤ 50) (st : Sto) : okV st (lotsD Ls) := ⟨fun x hx => by
  obtain ⟨l, hl', rfl⟩ := List.mem_map.mp hx
  exact ⟨fun y hy => by
    obtain ⟨i, _, rfl⟩ := List.mem_map.mp hy
    rfl, by have := (hg l hl').len; simp; omega⟩, by simpa using hl⟩
theorem sh_lot {l : List Int} (h : ∀ w ∈ l, 0 ≤ w ∧ w < 5) (hl : l.length ≤ 5) : Sh 2 (5 * (31 + 2) + 3) (lotD l) := by
  refine Sh.tup (e := 1) (w := 31) (n := 5) (fun x hx => ?_) (by simpa using hl)
  obtain ⟨w, hw, rfl⟩ := List.mem_map.mp hx
  have := h w hw
  exact Sh.int (by omega)
theorem e_check_kind (ns : List Int) {its : Str} (hi : its ∈ KW) : m_check_kind ns [.str its] = ret .non := by
  simp [m_check_kind, b_check_kind, runB_eq, startE, KW_eq]
  rw [opNotIn_strT, decide_eq_true hi]
  simp
def gN (its : Str) (m : Int) (Ls : List (List Int)) (d : D) : Bool := kindB its m (.tup (Ls.map lotD ++ [d]))
theorem okV_snoc {m : Int} {Ls : List (List Int)} (hg : ∀ l ∈ Ls, goodL m l) (hl : Ls.length ≤ 12) {l : List Int} (h5 : l.length ≤ 5) (st : Sto) : okV st (.tup (Ls.map lotD ++ [lotD l])) := ⟨fun x hx => by
  rcases List.mem_append.mp hx with hx | hx
  · exact (okV_lots hg (by omega) st).1 x hx
  · cases List.mem_singleton.mp hx
    exact ⟨fun y hy => by
      obtain ⟨i, _, rfl⟩ := List.mem_map.mp hy
      rfl, by simp; omega⟩, by simp; omega⟩
theorem p_next_lots (ns : List Int) {m : Int} (hm : 1 ≤ m ∧ m ≤ 5) {its : Str} (hi : its ∈ KW) {Ls : List (List Int)} (hg : ∀ l ∈ Ls, goodL m l) (hl : Ls.length ≤ 12) (hk : kindB its m (lotsD Ls) = true) {st : Sto} {Q : D → Sto → Prop} (q : ∀ s, Fr [] st s → Q (.tup ((SD (FA m.toNat)).filter (gN its m Ls))) s) : wp (m_next_lots ns [.str its, .int m, lotsD Ls]) st Q := by
  simp [m_next_lots, b_next_lots, runB_eq, startE, e_check_kind ns hi, e_check_many ns hm]
  refine p_check_lots ns hm (okV_lots hg (by omega) _) hk fun s1 f1 => ?_
  rw [show bRg1 (.int m) = alloc ((List.range m.toNat).map fun i => D.int (0 + (i : Nat))) from if_pos ⟨by omega, by omega⟩]
  simp only [wp_bnd, wp_alloc, wp_ret]
  refine p_lots_among ns hm (st := s1 ++ _) (by simp) fun l s2 f2 hl2 g2 => ?_
  replace f2 := (Fr.new (S := []) (st := s1) _).trans f2
  have hlen := SD_len (show m.toNat < 6 by omega)
  rw [wp_seqA g2]
  simp [wipeE]
  refine wp_lcFil (gN its m Ls) _ (fun s' f' => decide_eq_true (f'.at g2 (by simp))) (by omega) (fun x hx s f => ?_) fun s3 f3 => ?_
  · obtain ⟨l, rfl, h5, hw⟩ := SD_mem (show m.toNat < 6 by omega) hx
    refine ⟨_, bindP_nm, ?_⟩
    simp
    refine ⟨small_line (by omega), ?_⟩
    refine p_is_of_kind ns hm (okV_snoc hg hl h5 s) fun s' f' => ?_
    simp
    exact ⟨rfl, f', Fr.refl⟩
  · exact q _ (((f1.trans f2).trans f3).trans (Fr.new _))
theorem sh_next {m : Int} (hm : 1 ≤ m ∧ m ≤ 5) (g : D → Bool) : Sh 3 (31 * (168 + 2) + 3) (.tup ((SD (FA m.toNat)).filter g)) := by
  refine Sh.tup (e := 2) (w := 168) (n := 31) (fun x hx => ?_) (Nat.le_trans (List.length_filter_le _ _) (SD_len (by omega)))
  obtain ⟨l, rfl, h5, hw⟩ := SD_mem (show m.toNat < 6 by omega) (List.mem_filter.mp hx).1
  exact sh_lot hw h5
theorem one_eq0 : ∀ i < 6, 1 ≤ i → (SD (FA i)).filter (gN "one" (i : Nat) []) = (List.range i).map fun j : Nat => D.tup [.int (j : Int)] := by decide +kernel
end Lk15
end
section
set_option Elab.async false
set_option linter.all false
set_option maxRecDepth 100000
namespace Lk15
open PySem L2 Pm TL
def t_beat_3 (ns : List Int) : MS := (retS (calE (conA (rd 0) (conA (rd 1) (conA (rd 2) (conA (rd 3) nilA)))) (ofLen 4 (m_standing_behind ns))))
def t_beat_2 (ns : List Int) : MS := (seqS (ifS (notT (tstV (calE (conA (appA (conA (rd 2) nilA) (bLen ns)) (conA (rd 3) nilA)) (ofLen 2 (m_is_lot ns))))) nevS nxS) (t_beat_3 ns))
def t_beat_1 (ns : List Int) : MS := (seqS (dropS (calE (conA (rd 0) (conA (rd 1) (conA (rd 2) nilA))) (ofLen 3 (m_check_start ns)))) (t_beat_2 ns))
theorem e_t_beat (ns : List Int) : b_beat ns = t_beat_1 ns := rfl
def t_run_5 (ns : List Int) : MS := (retS (appA (conA (rd 4) nilA) bTuple))
def t_run_4 (ns : List Int) : MS := (seqS (forS (iterA (rd 3)) (.nm 5) (dropS (meth (rd 4) (conA (calE (conA (rd 0) (conA (rd 1) (conA (bin (rd 4) (una (kon (.int 1)) opNeg) (opIx ns)) (conA (rd 5) nilA)))) (ofLen 4 (m_standing_behind ns))) nilA) mAppend))) (t_run_5 ns))
def t_run_3 (ns : List Int) : MS := (seqS (setS (.nm 4) (lstE (conA (rd 2) nilA))) (t_run_4 ns))
def t_run_2 (ns : List Int) : MS := (seqS (ifS (notT (tstV (calE (conA (appA (conA (rd 2) nilA) (bLen ns)) (conA (rd 3) nilA)) (ofLen 2 (m_are_lots ns))))) nevS nxS) (t_run_3 ns))
def t_run_1 (ns : List Int) : MS := (seqS (dropS (calE (conA (rd 0) (conA (rd 1) (conA (rd 2) nilA))) (ofLen 3 (m_check_start ns)))) (t_run_2 ns))
theorem e_t_run (ns : List Int) : b_run ns = t_run_1 ns := rfl
def t_check_start_4 (ns : List Int) : MS := (ifS (notT (tstV (appA (conA (lcE (iterA (rd 2)) (.nm 3) yesT (bin (bin (rd 3) (kon (.int 1)) (opIx ns)) (fldE (rd 0) ["Program"] "marks") opLtX) [3]) nilA) bAll))) nevS nxS)
def t_check_start_3 (ns : List Int) : MS := (seqS (dropS (calE (conA (rd 1) (conA (rd 2) nilA)) (ofLen 2 (m_check_standing ns)))) (t_check_start_4 ns))
def t_check_start_2 (ns : List Int) : MS := (seqS (dropS (calE (conA (rd 1) nilA) (ofLen 1 (m_check_floor ns)))) (t_check_start_3 ns))
def t_check_start_1 (ns : List Int) : MS := (seqS (dropS (calE (conA (rd 0) nilA) (ofLen 1 (m_check_program ns)))) (t_check_start_2 ns))
theorem e_t_check_start (ns : List Int) : b_check_start ns = t_check_start_1 ns := rfl
/-! ### floors, standings -/
theorem e_is_tuple_of (ns : List Int) (xs : List D) (n : Int) : m_is_tuple_of ns [.tup xs, .int n] = ret (.bl (decide ((xs.length : Int) = n))) := by
  simp [m_is_tuple_of, b_is_tuple_of, runB_eq, startE, isT, opEq_int]
def okF (ring : Bool) (n : Int) : Prop := (ring = true → 3 ≤ n) ∧ 1 ≤ n ∧ n ≤ 8
theorem e_is_floor (ns : List Int) {ring : Bool} {n : Int} (h : okF ring n) : m_is_floor ns [flD ring n] = ret (.bl true) := by
  have e1 : ("row" : Str) ≠ "ring" := by decide +kernel
  obtain ⟨h1, h2, h3⟩ := h
  unfold flD
  cases ring with
  | true =>
    have := h1 rfl
    simp [m_is_floor, b_is_floor, runB_eq, startE, e_is_tuple_of, opEq_str, kindS, e_is_within, this, h3]
  | false => simp [m_is_floor, b_is_floor, runB_eq, startE, e_is_tuple_of, opEq_str, kindS, e_is_within, e1, h2, h3]
theorem e_check_floor (ns : List Int) {ring : Bool} {n : Int} (h : okF ring n) : m_check_floor ns [flD ring n] = ret .non := by
  simp [m_check_floor, b_check_floor, runB_eq, startE, e_is_floor ns h]
theorem e_is_place (ns : List Int) {ring : Bool} {n : Int} (p : Int) : m_is_place ns [flD ring n, .int p] = ret (.bl (decide (0 ≤ p ∧ p ≤ n - 1))) := by
  unfold flD
  simp [m_is_place, b_is_place, runB_eq, startE, e_is_within, atI, ixN]
def okW (n : Int) (w : Ent) : Prop := (0 ≤ w.1 ∧ w.1 < n) ∧ (0 ≤ w.2.1 ∧ w.2.1 ≤ 3) ∧ (w.2.2 = 1 ∨ w.2.2 = -1)
def okS (n : Int) (ws : List Ent) : Prop := 1 ≤ ws.length ∧ ws.length ≤ 5 ∧ ∀ w ∈ ws, okW n w
theorem e_is_mark (ns : List Int) (m : Int) : m_is_mark ns [.int m] = ret (.bl (decide (0 ≤ m ∧ m ≤ 3))) := by
  simp [m_is_mark, b_is_mark, runB_eq, startE, e_is_within]
theorem e_is_sense (ns : List Int) {s : Int} (h : s = 1 ∨ s = -1) : m_is_sense ns [.int s] = ret (.bl true) := by
  simp [m_is_sense, b_is_sense, runB_eq, startE, e_is_within, opNe_int]
  rcases h with rfl | rfl <;> simp
theorem e_is_placed (ns : List Int) {ring : Bool} {n : Int} {w : Ent} (h : okW n w) : m_is_placed ns [flD ring n, entD w] = ret (.bl true) := by
  obtain ⟨h1, h2, h3⟩ := h
  have h1' : 0 ≤ w.1 ∧ w.1 ≤ n - 1 := by omega
  simp only [entD]
  simp [m_is_placed, b_is_placed, runB_eq, startE, e_is_tuple_of, e_is_place, e_is_mark, e_is_sense ns h3, h1', h2]
theorem p_is_standing (ns : List Int) {ring : Bool} {n : Int} {ws : List Ent} (h : okS n ws) : Pu (m_is_standing ns [flD ring n, stD ws]) (.bl true) := by
  obtain ⟨h1, h2, h3⟩ := h
  intro st Q q
  unfold stD
  simp [m_is_standing, b_is_standing, runB_eq, startE, isT, seqA, h1, h2, show (1 : Int) ≤ ws.length by omega, show (ws.length : Int) ≤ 5 by omega, wipeE]
  refine pu_lcL (fun _ => some (.bl true)) (ws.map entD) [] (by simp; omega) (fun x hx => ⟨_, by simp; rfl, .inr ⟨_, rfl, .ret', ?_⟩⟩) st _ fun st' fr => ?_
  · obtain ⟨w, hw, rfl⟩ := List.mem_map.mp hx
    simp
    rw [e_is_placed ns (h3 w hw)]
    exact .ret'
  · rw [fm_const]
    simp
    exact q _ (fr.trans (Fr.new _))
theorem p_check_standing (ns : List Int) {ring : Bool} {n : Int} {ws : List Ent} (h : okS n ws) : Pu (m_check_standing ns [flD ring n, stD ws]) .non := by
  intro st Q q
  simp [m_check_standing, b_check_standing, runB_eq, startE]
  exact (p_is_standing ns h).ap fun st' fr => by simp; exact q st' fr
theorem p_check_program (ns : List Int) {p : Nat} {fs : List (Str × D)} {st : Sto} (hp : st[p]? = some (.ins "Program" fs)) {Q : D → Sto → Prop} (q : Q .non st) : wp (m_check_program ns [.loc p]) st Q := by
  have eC : ∀ Q : D → Sto → Prop, wp (isC tab_Program (.loc p)) st Q = Q (.bl true) st := fun Q => by
    show wp (bnd (obj p) _) st Q = _
    rw [wp_bnd, wp_obj hp]
    rfl
  simp [m_check_program, b_check_program, runB_eq, startE, eC, q]
theorem p_check_start (ns : List Int) {P : Pg} {ring : Bool} {n : Int} {S : List Ent} (hF : okF ring n) (hS : okS n S) (hm : ∀ e ∈ S, e.2.1 < P.m) {p : Nat} {st : Sto} (hp : st[p]? = some (.ins "Program" P.flds)) {Q : D → Sto → Prop} (q : ∀ s, Fr [] st s → Q .non s) :
    wp (m_check_start ns [.loc p, flD ring n, stD S]) st Q := by
  have e0 : m_check_start ns = runB 4 (t_check_start_1 ns) := rfl
  rw [e0]
  simp only [runB_eq, wp_bnd]
  unfold t_check_start_1
  generalize hT : t_check_start_2 ns = T
  simp [startE]
  refine p_check_program ns hp ?_
  rw [← hT]
  unfold t_check_start_2
  generalize hT : t_check_start_3 ns = T
  simp [e_check_floor ns hF]
  rw [← hT]
  unfold t_check_start_3
  generalize hT : t_check_start_4 ns = T
  simp
  refine (p_check_standing ns hS).ap fun s1 f1 => ?_
  rw [← hT]
  unfold t_check_start_4
  have hp1 := f1.at hp (by simp)
  simp [seqA, stD]
  have hl := hS.2.1
  refine wp_allC (fun _ => true) _ (fun s fr => rfl) (by simp; omega) (fun x hx s fr => ?_) fun s f => ?_
  · obtain ⟨e, he, rfl⟩ := List.mem_map.mp hx
    refine ⟨_, by simp; rfl, ?_⟩
    have e1 : opIx ns (entD e) (.int 1) = ret (.int e.2.1) := rfl
    simp [wipeE, e1]
    rw [wp_getF (fr.at hp1 (by simp)) (by simp) (show P.flds.lookup ("marks" : Str) = some (.int P.m) from rfl)]
    simp [hm e he, Fr.refl]
  · simp
    exact q _ (f1.trans f)
end Lk15
end
section
set_option Elab.async false
set_option linter.all false
set_option maxRecDepth 100000
namespace Lk15
open PySem L2 Pm TL
/-! ### beats -/
def placeB (ring : Bool) (n place sense step : Int) : Int := match placeO ring n place (sense * step) with
  | none => place
  | some p => p
theorem e_place_behind (ns : List Int) {ring : Bool} {n : Int} (hn : 0 < n) {place sense step : Int} (hs : -1000 ≤ sense ∧ sense ≤ 1000) : m_place_behind ns [flD ring n, .int place, .int sense, .int step] = ret (.int (placeB ring n place sense step)) := by
  have e0 : m_place_behind ns = runB 5 (t_place_behind_1 ns) := rfl
  rw [e0]
  unfold t_place_behind_1
  simp [runB_eq, startE]
  rw [opMul_int (.inl (by omega))]
  simp [e_place_at ns hn]
  unfold t_place_behind_2 placeB
  cases placeO ring n place (sense * step) with
  | none =>
    have eI : opIs .non .non = ret (.bl true) := rfl
    simp [intOD, eI]
  | some k =>
    have eI : opIs (.int k) .non = ret (.bl false) := rfl
    simp [intOD, eI]
def entryE (P : Pg) (ring : Bool) (n : Int) (S : List Ent) (w : Nat) (e : Ent) : Ent := (placeB ring n e.1 e.2.2 (P.thS ring n (viewE ring n S w e)), P.thM ring n (viewE ring n S w e), e.2.2)
theorem p_entry_behind (ns : List Int) {P : Pg} (hg : P.Good) {ring : Bool} {n : Int} (hn : 0 < n) (hn2 : n ≤ 100) {S : List Ent} (hS : S.length ≤ 1000) {w : Nat} {e : Ent} (he : S[w]? = some e) (hs : -1000 ≤ e.2.2 ∧ e.2.2 ≤ 1000) {p : Nat} {st : Sto} (hp : st[p]? = some (.ins "Program" P.flds)) {Q : D → Sto → Prop}
    (q : ∀ s, Fr [] st s → Q (entD (entryE P ring n S w e)) s) : wp (m_entry_behind ns [.loc p, flD ring n, stD S, .int w]) st Q := by
  have e0 : m_entry_behind ns = runB 9 (t_entry_behind_1 ns) := rfl
  have z : ∀ k, k ≤ 10 → k ≤ sizeLine := fun k h => Nat.le_trans h (small_line (by decide))
  have eix : opIx ns (stD S) (.int w) = ret (entD e) := by
    show ofO (atI (S.map entD) w) = _
    rw [atI_ent he]
    rfl
  rw [e0]
  simp only [runB_eq, wp_bnd]
  unfold t_entry_behind_1
  generalize hT : t_entry_behind_2 ns = T
  simp [startE, eix, entD]
  rw [← hT]
  unfold t_entry_behind_2
  generalize hT : t_entry_behind_3 ns = T
  simp
  refine p_view_of ns hn hn2 hS he hs fun s1 f1 => ?_
  refine p_thought_of ns hg hn (view_sm hn2) (f1.at hp (by simp)) fun s2 f2 => ?_
  rw [← hT]
  unfold t_entry_behind_3
  simp [e_place_behind ns hn hs, z 3 (by decide)]
  exact q _ (f1.trans f2)
def stepE (P : Pg) (ring : Bool) (n : Int) (S : List Ent) (lot : List Int) (p : Ent × Nat) : Ent := if (p.2 : Int) ∈ lot then entryE P ring n S p.2 p.1 else p.1
def standB (P : Pg) (ring : Bool) (n : Int) (S : List Ent) (lot : List Int) : List Ent := S.zipIdx.map (stepE P ring n S lot)
theorem p_standing_behind (ns : List Int) {P : Pg} (hg : P.Good) {ring : Bool} {n : Int} (hn : 0 < n) (hn2 : n ≤ 100) {S : List Ent} (hS : S.length ≤ 1000) (hs : ∀ e ∈ S, -1000 ≤ e.2.2 ∧ e.2.2 ≤ 1000) {lot : List Int} {p : Nat} {st : Sto} (hp : st[p]? = some (.ins "Program" P.flds)) {Q : D → Sto → Prop}
    (q : ∀ s, Fr [] st s → Q (stD (standB P ring n S lot)) s) : wp (m_standing_behind ns [.loc p, flD ring n, stD S, lotD lot]) st Q := by
  have e0 : m_standing_behind ns = runB 7 (t_standing_behind_1 ns) := rfl
  rw [e0]
  simp only [runB_eq, wp_bnd]
  unfold t_standing_behind_1
  generalize hT : t_standing_behind_2 ns = T
  simp [startE]
  rw [← hT]
  unfold t_standing_behind_2
  generalize hT : t_standing_behind_3 ns = T
  simp
  change wp (ret (⟨(S.map entD).zipIdx.map fun p => .tup [.int (p.2 : Nat), p.1], fun _ => true⟩ : Itm)) _ _
  simp only [wp_ret]
  refine wp_forL (fun i ρ s => (∃ v5 v6, ρ = [some (.loc p), some (flD ring n), some (stD S), some (lotD lot), some (.loc st.length), v5, v6]) ∧ i ≤ S.length ∧ s[st.length]? = some (.lst ((S.zipIdx.map fun p => entD (stepE P ring n S lot p)).take i)) ∧ Fr [] st s) _ 0 _ _
    ⟨⟨_, _, rfl⟩, by omega, by simp, Fr.new _⟩ (fun j x ρ s hj hI => ?_) fun ρ s hI => ?_
  · obtain ⟨⟨v5, v6, rfl⟩, hi, hL, f⟩ := hI
    rw [Nat.zero_add] at hi hL
    have hj1 : j < S.length := by
      have := (List.getElem?_eq_some_iff.mp hj).1
      simpa using this
    have hx : x = .tup [.int (j : Nat), entD S[j]] := by
      rw [List.getElem?_map, List.getElem?_zipIdx, List.getElem?_map, List.getElem?_eq_getElem hj1] at hj
      simpa using hj.symm
    subst hx
    have he : S[j]? = some S[j] := List.getElem?_eq_getElem hj1
    have hm := List.getElem_mem hj1
    have ht : (S.zipIdx.map fun p => entD (stepE P ring n S lot p)).take (j + 1) = (S.zipIdx.map fun p => entD (stepE P ring n S lot p)).take j ++ [entD (stepE P ring n S lot (S[j], j))] := by
      rw [List.take_succ_eq_append_getElem (by simpa using hj1)]
      simp
    rw [Nat.zero_add, ht]
    have hlen : ((S.zipIdx.map fun p => entD (stepE P ring n S lot p)).take j).length ≤ 1000 := by
      simp
      omega
    generalize S[j] = e at he hm ht
    generalize (S.zipIdx.map fun p => entD (stepE P ring n S lot p)).take j = L at hL hlen
    refine ⟨rfl, _, by simp; rfl, ?_⟩
    have eIn : opIn (.int (j : Nat)) (lotD lot) = ret (.bl (decide (((j : Nat) : Int) ∈ lot))) := opIn_intT
    simp [eIn]
    rw [wp_isL hL]
    by_cases hin : ((j : Nat) : Int) ∈ lot
    · simp [hin]
      refine p_entry_behind ns hg hn hn2 hS he (hs e hm) (f.at hp (by simp)) fun s1 f1 => ?_
      have g1 := f1.at hL (by simp)
      rw [wp_append g1 (by omega)]
      refine ⟨by omega, ?_, (f.trans f1).setNew (Nat.le_refl _)⟩
      rw [List.getElem?_set_self (List.getElem?_eq_some_iff.mp g1).1]
      simp [stepE, hin]
    · simp [hin]
      rw [wp_append hL (by omega)]
      refine ⟨by omega, ?_, f.setNew (Nat.le_refl _)⟩
      rw [List.getElem?_set_self (List.getElem?_eq_some_iff.mp hL).1]
      simp [stepE, hin]
  · obtain ⟨⟨v5, v6, rfl⟩, hi, hL, f⟩ := hI
    refine ⟨rfl, ?_⟩
    rw [← hT]
    unfold t_standing_behind_3
    rw [List.take_of_length_le (by simp)] at hL
    simp
    rw [wp_bTuple hL]
    have := q s f
    unfold stD standB at this
    rw [List.map_map] at this
    exact this
/-- who can stand, goes on to stand -/
theorem place_ok {ring : Bool} {n place sense step : Int} (hn : 0 < n) (hp : 0 ≤ place ∧ place < n) : 0 ≤ placeB ring n place sense step ∧ placeB ring n place sense step < n := by
  unfold placeB placeO
  cases ring with
  | true =>
    simp
    exact ⟨Int.emod_nonneg _ (by omega), Int.emod_lt_of_pos _ hn⟩
  | false =>
    simp
    by_cases h : 0 ≤ place + sense * step ∧ place + sense * step < n
    · rw [if_pos h]
      exact h
    · rw [if_neg h]
      exact hp
theorem held_in {v lo hi : Int} (h : lo ≤ hi) : lo ≤ heldI v lo hi ∧ heldI v lo hi ≤ hi := by
  unfold heldI
  split <;> split <;> omega
theorem step_ok {P : Pg} (hm : 1 ≤ P.m ∧ P.m ≤ 4) {ring : Bool} {n : Int} (hn : 0 < n) {S : List Ent} (hS : okS n S) (hM : ∀ e ∈ S, e.2.1 < P.m) {lot : List Int} : okS n (standB P ring n S lot) ∧ ∀ e ∈ standB P ring n S lot, e.2.1 < P.m := by
  have key : ∀ e ∈ standB P ring n S lot, okW n e ∧ e.2.1 < P.m := fun e he => by
    obtain ⟨⟨e', i⟩, hp, rfl⟩ := List.mem_map.mp he
    have hm' : e' ∈ S := by
      have := List.mem_zipIdx hp
      have h2 := this.2.2
      simp at h2
      rw [h2]
      exact List.getElem_mem _
    have h1 := hS.2.2 e' hm'
    have h2 := hM e' hm'
    unfold stepE
    split
    · have a1 := place_ok (ring := ring) (sense := e'.2.2) (step := P.thS ring n (viewE ring n S i e')) hn h1.1
      have a2 : 0 ≤ P.thM ring n (viewE ring n S i e') ∧ P.thM ring n (viewE ring n S i e') ≤ P.m - 1 := held_in (show (0 : Int) ≤ P.m - 1 by omega)
      have e2 : (entryE P ring n S i e').2.1 = P.thM ring n (viewE ring n S i e') := rfl
      exact ⟨⟨a1, ⟨a2.1, by show (entryE P ring n S i e').2.1 ≤ 3; omega⟩, h1.2.2⟩, by show (entryE P ring n S i e').2.1 < P.m; omega⟩
    · exact ⟨h1, h2⟩
  have hl : (standB P ring n S lot).length = S.length := by simp [standB]
  exact ⟨⟨by rw [hl]; exact hS.1, by rw [hl]; exact hS.2.1, fun e he => (key e he).1⟩, fun e he => (key e he).2⟩
theorem okS.sense {n : Int} {S : List Ent} (h : okS n S) : ∀ e ∈ S, -1000 ≤ e.2.2 ∧ e.2.2 ≤ 1000 := fun e he => by
  rcases (h.2.2 e he).2.2 with h | h <;> omega
theorem okE_lot {st : Sto} {m : Int} {l : List Int} (h : goodL m l) : okE st (lotD l) := ⟨fun y hy => by
  obtain ⟨i, _, rfl⟩ := List.mem_map.mp hy
  rfl, by have := h.len; simp; omega⟩
structure Can (P : Pg) (ring : Bool) (n : Int) (S : List Ent) : Prop where
  g : P.Good
  m : 1 ≤ P.m ∧ P.m ≤ 4
  F : okF ring n
  M : ∀ e ∈ S, e.2.1 < P.m
  S : okS n S
theorem Can.go {P : Pg} {ring : Bool} {n : Int} {S : List Ent} (h : Can P ring n S) (lot : List Int) : Can P ring n (standB P ring n S lot) :=
  ⟨h.g, h.m, h.F, (step_ok h.m (by have := h.F.2; omega) h.S h.M).2, (step_ok h.m (by have := h.F.2; omega) h.S h.M).1⟩
theorem p_beat (ns : List Int) {P : Pg} {ring : Bool} {n : Int} {S : List Ent} (h : Can P ring n S) {lot : List Int} (hl : goodL S.length lot) {p : Nat} {st : Sto} (hp : st[p]? = some (.ins "Program" P.flds)) {Q : D → Sto → Prop}
    (q : ∀ s, Fr [] st s → Q (stD (standB P ring n S lot)) s) : wp (m_beat ns [.loc p, flD ring n, stD S, lotD lot]) st Q := by
  have e0 : m_beat ns = runB 4 (t_beat_1 ns) := rfl
  have eL : bLen ns [stD S] = ret (.int S.length) := by
    show ret (D.int ((S.map entD).length : Nat)) = _
    rw [List.length_map]
  have hn := h.F.2
  have hS := h.S.2.1
  rw [e0]
  simp only [runB_eq, wp_bnd]
  unfold t_beat_1
  generalize hT : t_beat_2 ns = T
  simp [startE]
  refine p_check_start ns h.F h.S h.M hp fun s1 f1 => ?_
  rw [← hT]
  unfold t_beat_2
  generalize hT : t_beat_3 ns = T
  simp [eL]
  refine p_is_lot ns (okE_lot hl) fun s2 f2 => ?_
  rw [hl.lot]
  simp
  rw [← hT]
  unfold t_beat_3
  simp
  exact p_standing_behind ns h.g (by omega) (by omega) (by omega) h.S.sense ((f1.trans f2).at hp (by simp)) fun s3 f3 => q _ ((f1.trans f2).trans f3)
end Lk15
end
section
set_option Elab.async false
set_option linter.all false
set_option maxRecDepth 100000
namespace Lk15
open PySem L2 Pm TL
/-! ### runs -/
def lastS (acc : List (List Ent)) : List Ent := acc.getLastD []
theorem lastS_app {acc : List (List Ent)} {x : List Ent} : lastS (acc ++ [x]) = x := by simp [lastS]
def goF (P : Pg) (ring : Bool) (n : Int) (acc : List (List Ent)) (l : List Int) : List (List Ent) := acc ++ [standB P ring n (lastS acc) l]
def runs (P : Pg) (ring : Bool) (n : Int) (S : List Ent) (Ls : List (List Int)) : List (List Ent) := Ls.foldl (goF P ring n) [S]
theorem standB_len {P : Pg} {ring : Bool} {n : Int} {S : List Ent} {lot : List Int} : (standB P ring n S lot).length = S.length := by simp [standB]
theorem at_lastD {f : List Ent → D} {ys : List (List Ent)} (h : ys ≠ []) : atI (ys.map f) (-1) = some (f (lastS ys)) := by
  obtain ⟨zs, z, rfl⟩ : ∃ zs z, ys = zs ++ [z] := ⟨_, _, (List.dropLast_concat_getLast h).symm⟩
  rw [lastS_app]
  simp [atI, ixN]
  rw [if_pos (show (1 : Int) ≤ (zs.length : Int) + 1 by omega)]
  simp
  rw [show (-1 + ((zs.length : Int) + 1)).toNat = zs.length by omega]
  simp
theorem p_run (ns : List Int) {P : Pg} {ring : Bool} {n : Int} {S : List Ent} (h : Can P ring n S) {Ls : List (List Int)} (hlen : Ls.length ≤ 50) (hl : ∀ l ∈ Ls, goodL S.length l) {p : Nat} {st : Sto} (hp : st[p]? = some (.ins "Program" P.flds)) {Q : D → Sto → Prop}
    (q : ∀ s, Fr [] st s → Q (.tup ((runs P ring n S Ls).map stD)) s) : wp (m_run ns [.loc p, flD ring n, stD S, lotsD Ls]) st Q := by
  have e0 : m_run ns = runB 6 (t_run_1 ns) := rfl
  have eL : bLen ns [stD S] = ret (.int S.length) := by
    show ret (D.int ((S.map entD).length : Nat)) = _
    rw [List.length_map]
  have z : ∀ k, k ≤ 10 → k ≤ sizeLine := fun k h => Nat.le_trans h (small_line (by decide))
  have hn := h.F.2
  have hS := h.S.2.1
  rw [e0]
  simp only [runB_eq, wp_bnd]
  unfold t_run_1
  generalize hT : t_run_2 ns = T
  simp [startE]
  refine p_check_start ns h.F h.S h.M hp fun s1 f1 => ?_
  rw [← hT]
  unfold t_run_2
  generalize hT : t_run_3 ns = T
  simp [eL]
  refine p_are_lots ns (m := S.length) (show okV s1 (lotsD Ls) from ⟨fun x hx => ?_, by simpa using hlen⟩) fun s2 f2 => ?_
  · obtain ⟨l, hl', rfl⟩ := List.mem_map.mp hx
    exact okE_lot (hl l hl')
  rw [lots_good hl]
  simp
  rw [← hT]
  unfold t_run_3
  generalize hT : t_run_4 ns = T
  simp [z 1 (by decide)]
  rw [← hT]
  unfold t_run_4
  generalize hT : t_run_5 ns = T
  simp
  change wp (ret (⟨Ls.map lotD, fun _ => true⟩ : Itm)) _ _
  simp only [wp_ret]
  have F2 : Fr [] st (s2 ++ [O.lst [stD S]]) := (f1.trans f2).trans (Fr.new _)
  have hst : st.length ≤ s2.length := (f1.trans f2).1
  refine wp_forL (fun i ρ s => ∃ acc : List (List Ent), (∃ v5, ρ = [some (.loc p), some (flD ring n), some (stD S), some (lotsD Ls), some (.loc s2.length), v5]) ∧ i ≤ Ls.length ∧ acc ≠ [] ∧ acc.length ≤ i + 1 ∧ Can P ring n (lastS acc) ∧ (lastS acc).length = S.length ∧ (Ls.drop i).foldl (goF P ring n) acc = runs P ring n S Ls ∧ s[s2.length]? = some (.lst (acc.map stD)) ∧ Fr [] st s) _ 0 _ _
    ⟨[S], ⟨_, rfl⟩, by omega, by simp, by simp, h, rfl, rfl, by simp, F2⟩ (fun j x ρ s hj hI => ?_) fun ρ s hI => ?_
  · obtain ⟨acc, ⟨v5, rfl⟩, hi, hne, hal, hC, hCl, hR, hL, f⟩ := hI
    rw [Nat.zero_add] at hi hal hR
    have hj1 : j < Ls.length := by
      have := (List.getElem?_eq_some_iff.mp hj).1
      simpa using this
    have hx : x = lotD Ls[j] := by
      rw [List.getElem?_map, List.getElem?_eq_getElem hj1] at hj
      simpa using hj.symm
    subst hx
    rw [List.drop_eq_getElem_cons hj1, List.foldl_cons] at hR
    generalize Ls[j] = l at hR
    refine ⟨rfl, _, by simp; rfl, ?_⟩
    have hC2 := hC.go l
    have hn' := hC.F.2
    simp
    rw [wp_isL hL, opIx_loc, wp_bnd, wp_obj hL]
    simp only
    rw [at_lastD hne]
    simp only [ofO_some, wp_ret]
    refine p_standing_behind ns hC.g (by omega) (by omega) (by omega) hC.S.sense (f.at hp (by simp)) fun s3 f3 => ?_
    have g3 := f3.at hL (by simp)
    rw [wp_append g3 (by simp; omega)]
    refine ⟨by omega, goF P ring n acc l, by simp [goF], by simp [goF]; omega, by rw [goF, lastS_app]; exact hC2, by rw [goF, lastS_app, standB_len]; exact hCl, hR, ?_, (f.trans f3).setNew hst⟩
    rw [List.getElem?_set_self (List.getElem?_eq_some_iff.mp g3).1]
    simp [goF]
  · obtain ⟨acc, ⟨v5, rfl⟩, hi, hne, hal, hC, hCl, hR, hL, f⟩ := hI
    refine ⟨rfl, ?_⟩
    have hnil : Ls.drop (0 + (Ls.map lotD).length) = [] := List.drop_eq_nil_of_le (by simp)
    rw [hnil, List.foldl_nil] at hR
    subst hR
    rw [← hT]
    unfold t_run_5
    simp
    rw [wp_bTuple hL]
    exact q s f
end Lk15
end
section
set_option Elab.async false
set_option linter.all false
set_option maxRecDepth 100000
namespace Pm
open PySem L2
/-- what is shown of a list, wherever it stands -/
theorem Sh.reprL {e w n : Nat} {xs : List D} (h : ∀ x ∈ xs, Sh e w x) (hn : xs.length ≤ n) (he : e + 1 ≤ 60) (hw : n * (w + 2) + 3 ≤ 100000) : ∃ t : Str, ∀ (st : Sto) (l : Nat) (Q : D → Sto → Prop), st[l]? = some (.lst xs) → wp (bRepr [.loc l]) st Q = Q (.str t) st := by
  obtain ⟨ps, a, l, b, c, f, g⟩ := toPys_of (st := []) (Nat.le_refl e) xs h
  have s1 : (PyData.list ps).showable = true := by simpa [PyData.showable] using b
  have s2 : (PyData.list ps).hasDict = false := by simpa [PyData.hasDict] using c
  have s3 : (PyData.list ps).depth ≤ 60 := by simp [PyData.depth]; omega
  have s4 : (PyData.list ps).shown.length ≤ 100000 := by
    have g2 : xs.length * (w + 2) ≤ n * (w + 2) := Nat.mul_le_mul_right _ hn
    simp only [PyData.shown]
    unfold listText
    rw [strLen_append]
    have e1 : ((("[" : String) : Str)).length = 1 := rfl
    have e3 : ((("]" : String) : Str)).length = 1 := rfl
    have e4 : ((("" : String) : Str)).length = 0 := rfl
    rw [e3]
    generalize PyData.shownAll ps = ts at g
    cases ts with
    | nil =>
      show (Str.ofString "[").length + 1 ≤ 100000
      omega
    | cons t ts =>
      show (textFrom 1 ((Str.ofString "[") ++ Str.ofString "" ++ t) ts).length + 1 ≤ 100000
      rw [textFrom_length_pos _ _ _ (by decide), strLen_append, strLen_append]
      rw [piled_cons] at g
      omega
  refine ⟨(PyData.list ps).shown, fun st k Q hk => ?_⟩
  have e1 : py (.loc k) st = .ok (.list ps) st := by
    unfold py
    have : toPy st 60 (.loc k) = some (.list ps) := by
      show (match st[k]? with
        | some (.lst xs) => (toPys (toPy st 59) xs).map PyData.list
        | _ => none) = _
      rw [hk]
      simp only [a st 59 (by omega), Option.map_some]
    rw [this]
  show wp (bnd (py (.loc k)) _) st Q = _
  rw [wp_bnd]
  have e2 : ∀ Q : PyData → Sto → Prop, wp (py (.loc k)) st Q = Q (.list ps) st := fun Q => by
    unfold wp
    rw [e1]
  rw [e2, if_pos ⟨s1, s2, s3, s4⟩]
  rfl
end Pm
end
section
set_option Elab.async false
set_option linter.all false
set_option maxRecDepth 100000
namespace Lk15
open PySem L2 Pm TL
theorem wp_newO {x : Str} {n : Nat} {m : List D → M D} {ds : List D} {st : Sto} {Q : D → Sto → Prop} (hn : ds.length + 1 = n) (h : wp (m (.loc st.length :: ds)) (st ++ [.ins x []]) fun r s => r = .non ∧ Q (.loc st.length) s) : wp (newO x n m ds) st Q := by
  unfold newO
  rw [if_pos hn, wp_bnd]
  show wp (bnd (m (.loc st.length :: ds)) _) (st ++ [.ins x []]) Q
  rw [wp_bnd]
  refine wp_mono h fun r s ⟨e, q⟩ => ?_
  subst e
  exact q
theorem p_make (ns : List Int) {P : Pg} (h : P.Ok) {st : Sto} {Q : D → Sto → Prop} (q : ∀ s, s[st.length]? = some (.ins "Program" P.flds) → Fr [] st s → Q (.loc st.length) s) : wp (newO "Program" 2 (m_Program___init__ ns) [.str P.text]) st Q :=
  wp_newO rfl (p_init ns h (by simp) fun s g f => ⟨rfl, q s g (f.old (by simp))⟩)
/-! ### the two programs -/
def wxB (w : Str) : Bool := decide (0 < w.length) && (decide (w.length ≤ 600) && (!figsB w || (PySem.intText? w).isSome))
def P1 : Pg := ⟨"2", [], ["1"], ["same", "mine", "0"]⟩
def P2 : Pg := ⟨"1", [], ["pick", "same", "ahead", "1", "pick", "same", "behind", "1", "0", "-1", "1"], ["0"]⟩
theorem P1_text : ("marks 2\nstep 1\nmark same mine 0" : Str) = P1.text := by decide +kernel
theorem P2_text : ("marks 1\nstep pick same ahead 1 pick same behind 1 0 -1 1\nmark 0" : Str) = P2.text := by decide +kernel
theorem P1_stands : progOk [] ["marks"] P1.lines = true := by decide +kernel
theorem P2_stands : progOk [] ["marks"] P2.lines = true := by decide +kernel
theorem figs_yes : figsB "1" = true ∧ figsB "0" = true ∧ figsB "-1" = true := by decide +kernel
theorem figs_no : figsB "same" = false ∧ figsB "mine" = false ∧ figsB "pick" = false ∧ figsB "ahead" = false ∧ figsB "behind" = false := by decide +kernel
theorem nums : PySem.intText? "1" = some 1 ∧ PySem.intText? "0" = some 0 ∧ PySem.intText? "-1" = some (-1) := by decide +kernel
theorem many_yes : manyN "1" = 0 ∧ manyN "0" = 0 ∧ manyN "-1" = 0 ∧ manyN "same" = 2 ∧ manyN "pick" = 3 ∧ manyN "mine" = 0 ∧ manyN "ahead" = 0 ∧ manyN "behind" = 0 := by decide +kernel
section
variable (ring : Bool) (n : Int) (v : Vw) (ps : List Int)
theorem w_one : wordI (kn0 ring n v) ring n v "1" ps = 1 := by
  unfold wordI
  rw [if_pos figs_yes.1, nums.1]
  rfl
theorem w_zero : wordI (kn0 ring n v) ring n v "0" ps = 0 := by
  unfold wordI
  rw [if_pos figs_yes.2.1, nums.2.1]
  rfl
theorem w_m1 : wordI (kn0 ring n v) ring n v "-1" ps = -1 := by
  unfold wordI
  rw [if_pos figs_yes.2.2, nums.2.2]
  rfl
theorem w_mine : wordI (kn0 ring n v) ring n v "mine" ps = v.mark := by
  unfold wordI
  rw [if_neg (by rw [figs_no.2.1]; decide), show (kn0 ring n v).lookup ("mine" : Str) = some v.mark from rfl]
theorem w_ahead : wordI (kn0 ring n v) ring n v "ahead" ps = firstI v.ahead := by
  unfold wordI
  rw [if_neg (by rw [figs_no.2.2.2.1]; decide), show (kn0 ring n v).lookup ("ahead" : Str) = some (firstI v.ahead) from rfl]
theorem w_behind : wordI (kn0 ring n v) ring n v "behind" ps = firstI v.behind := by
  unfold wordI
  rw [if_neg (by rw [figs_no.2.2.2.2]; decide), show (kn0 ring n v).lookup ("behind" : Str) = some (firstI v.behind) from rfl]
theorem w_same (a b : Int) : wordI (kn0 ring n v) ring n v "same" [a, b] = if a = b then 1 else 0 := by
  unfold wordI
  rw [if_neg (by rw [figs_no.1]; decide), show (kn0 ring n v).lookup ("same" : Str) = none from rfl]
  simp only
  rw [if_neg (by decide +kernel)]
  unfold reckI
  rw [if_neg (by decide +kernel), if_neg (by decide +kernel), if_neg (by decide +kernel), if_neg (by decide +kernel), if_pos rfl]
  rfl
theorem w_pick (a b c : Int) : wordI (kn0 ring n v) ring n v "pick" [a, b, c] = if a = 0 then b else c := by
  unfold wordI
  rw [if_neg (by rw [figs_no.2.2.1]; decide), show (kn0 ring n v).lookup ("pick" : Str) = none from rfl]
  simp only
  rw [if_neg (by decide +kernel)]
  unfold reckI
  rw [if_neg (by decide +kernel), if_neg (by decide +kernel), if_neg (by decide +kernel), if_neg (by decide +kernel), if_neg (by decide +kernel)]
  rfl
theorem P1_val : valI (kn0 ring n v) ring n v ["1"] = 1 := by
  simp [valI, vRun, vStep, many_yes, w_one]
theorem P1_mark : valI (kn0 ring n v) ring n v ["same", "mine", "0"] = if v.mark = 0 then 1 else 0 := by
  simp [valI, vRun, vStep, many_yes, w_zero, w_mine, w_same]
theorem P2_val : valI (kn0 ring n v) ring n v ["pick", "same", "ahead", "1", "pick", "same", "behind", "1", "0", "-1", "1"] = if firstI v.ahead = 1 then 1 else if firstI v.behind = 1 then -1 else 0 := by
  simp [valI, vRun, vStep, many_yes, w_zero, w_one, w_m1, w_ahead, w_behind, w_same, w_pick]
theorem P2_mark : valI (kn0 ring n v) ring n v ["0"] = 0 := by
  simp [valI, vRun, vStep, many_yes, w_zero]
end
end Lk15
end
section
set_option Elab.async false
set_option linter.all false
set_option maxRecDepth 100000
namespace Lk15
open PySem L2 Pm TL
def wordB (w : Str) : Bool := decide (w.length ≤ 600) && (!decide (w.length = 0) && ((!figsB w || (PySem.intText? w).isSome) && (decide (32 ∉ tl w) && (decide (10 ∉ tl w) && decide ((Txt.removeprefix w "-").length ≤ 1000)))))
theorem word_ok {w : Str} (h : wordB w = true) : okWX w ∧ plainW w := by
  unfold wordB at h
  simp only [Bool.and_eq_true, decide_eq_true_eq, Bool.or_eq_true, Bool.not_eq_true'] at h
  obtain ⟨h1, h2, h3, h4, h5, h6⟩ := h
  have h7 : figsB w = true → (PySem.intText? w).isSome = true := fun e => by
    rcases h3 with h3 | h3
    · rw [e] at h3
      cases h3
    · exact h3
  exact ⟨{ len := by omega, cut := h6, ne := by simpa using h2, short := h1, num := h7 }, h4, h5⟩
def linesB (ls : List (List Str)) : Bool := !decide (ls = []) && (decide (ls.length ≤ 50) && (ls.all (fun l => !decide (l = []) && (decide (l.length ≤ 100) && (l.all wordB && decide ((Txt.join " " l).length ≤ 50000)))) && decide ((textL ls).length ≤ 50000)))
theorem lines_ok {ls : List (List Str)} (h : linesB ls = true) : okLs ls := by
  unfold linesB at h
  simp only [Bool.and_eq_true, decide_eq_true_eq, Bool.not_eq_true', decide_eq_false_iff_not, List.all_eq_true] at h
  obtain ⟨h1, h2, h3, h4⟩ := h
  exact ⟨h1, h2, fun l hl => ⟨(h3 l hl).1, (h3 l hl).2.1, fun w hw => word_ok ((h3 l hl).2.2.1 w hw)⟩, h4, fun l hl => (h3 l hl).2.2.2⟩
theorem P1_ok : P1.Ok := ⟨lines_ok (by decide +kernel), P1_stands, by decide +kernel⟩
theorem P2_ok : P2.Ok := ⟨lines_ok (by decide +kernel), P2_stands, by decide +kernel⟩
theorem P1_good : P1.Good := ⟨by decide, trivial, by decide +kernel, by decide, by decide +kernel, by decide⟩
theorem P2_good : P2.Good := ⟨by decide, trivial, by decide +kernel, by decide, by decide +kernel, by decide⟩
theorem P1_m : P1.m = 2 := by decide +kernel
theorem P2_m : P2.m = 1 := by decide +kernel
theorem P1_thS (ring : Bool) (n : Int) (v : Vw) : P1.thS ring n v = 1 := by
  show heldI (valI (kn0 ring n v) ring n v ["1"]) (-1) 1 = 1
  rw [P1_val]
  rfl
theorem P1_thM {ring : Bool} {n : Int} {v : Vw} (h : v.mark = 0 ∨ v.mark = 1) : P1.thM ring n v = 1 - v.mark := by
  show heldI (valI (kn0 ring n v) ring n v ["same", "mine", "0"]) 0 (P1.m - 1) = _
  rw [P1_mark, P1_m]
  rcases h with h | h <;> rw [h] <;> decide
theorem P2_thS (ring : Bool) (n : Int) (v : Vw) : P2.thS ring n v = if firstI v.ahead = 1 then 1 else if firstI v.behind = 1 then -1 else 0 := by
  show heldI (valI (kn0 ring n v) ring n v ["pick", "same", "ahead", "1", "pick", "same", "behind", "1", "0", "-1", "1"]) (-1) 1 = _
  rw [P2_val]
  split
  · decide
  · split <;> decide
theorem P2_thM (ring : Bool) (n : Int) (v : Vw) : P2.thM ring n v = 0 := by
  show heldI (valI (kn0 ring n v) ring n v ["0"]) 0 (P2.m - 1) = _
  rw [P2_mark, P2_m]
  decide
/-! ### one who goes ahead -/
theorem one_beat {ring : Bool} {n place mark sense : Int} (h : mark = 0 ∨ mark = 1) : standB P1 ring n [(place, mark, sense)] [0] = [(placeB ring n place sense 1, 1 - mark, sense)] := by
  unfold standB stepE entryE
  simp [P1_thS, P1_thM (v := viewE ring n [(place, mark, sense)] 0 (place, mark, sense)) h]
  rfl
def lap (n place mark : Int) (i : Nat) : List Ent := [((if place + i < n - 1 then place + i else n - 1), (mark + i) % 2, 1)]
theorem lap_next {n place mark : Int} {i : Nat} (hp : 0 ≤ place ∧ place < n) : standB P1 false n (lap n place mark i) [0] = lap n place mark (i + 1) := by
  have hm : (mark + i) % 2 = 0 ∨ (mark + i) % 2 = 1 := by omega
  unfold lap
  rw [one_beat hm]
  unfold placeB placeO
  simp only [Bool.false_eq_true, if_false]
  congr 2
  · by_cases h : place + i < n - 1
    · rw [if_pos h]
      by_cases h2 : place + ((i + 1 : Nat) : Int) < n - 1
      · rw [if_pos h2, if_pos (by omega)]
        simp
        omega
      · rw [if_neg h2, if_pos (by omega)]
        simp
        omega
    · rw [if_neg h, if_neg (by omega), if_neg (by omega)]
  · congr 1
    omega
theorem laps {n place mark : Int} (hp : 0 ≤ place ∧ place < n) (hm : mark = 0 ∨ mark = 1) : ∀ k : Nat, runs P1 false n [(place, mark, 1)] (List.replicate k [0]) = (List.range (k + 1)).map (lap n place mark)
  | 0 => by
    show [[(place, mark, 1)]] = [lap n place mark 0]
    unfold lap
    have e1 : (if place + ((0 : Nat) : Int) < n - 1 then place + ((0 : Nat) : Int) else n - 1) = place := by
      split <;> omega
    have e2 : (mark + ((0 : Nat) : Int)) % 2 = mark := by omega
    rw [e1, e2]
  | k + 1 => by
    have ih := laps hp hm k
    unfold runs at ih ⊢
    rw [List.replicate_succ', List.foldl_append, ih, List.foldl_cons, List.foldl_nil]
    unfold goF
    rw [List.range_succ (n := k + 1), List.map_append]
    congr 1
    have e : lastS ((List.range (k + 1)).map (lap n place mark)) = lap n place mark k := by
      rw [List.range_succ, List.map_append]
      exact lastS_app
    rw [e, lap_next hp]
    rfl
/-! ### two who exchange places -/
def st2 (n : Int) (S : List Ent) (lot : List Int) : List Ent := S.zipIdx.map fun p => if (p.2 : Int) ∈ lot then
  (placeB false n p.1.1 p.1.2.2 (if firstI (viewE false n S p.2 p.1).ahead = 1 then 1 else if firstI (viewE false n S p.2 p.1).behind = 1 then -1 else 0), 0, p.1.2.2) else p.1
theorem st2_eq (n : Int) (S : List Ent) (lot : List Int) : standB P2 false n S lot = st2 n S lot := by
  unfold standB st2
  refine congrArg (fun f => List.map f S.zipIdx) (funext fun p => ?_)
  unfold stepE entryE
  rw [P2_thS, P2_thM]
def two (place s1 s2 : Int) : List Ent := [(place, 0, s1), (place + 1, 0, s2)]
theorem both_all : ∀ n ∈ ([4, 5, 6, 7, 8] : List Int), ∀ place ∈ ([0, 1, 2] : List Int), ∀ s1 ∈ ([1, -1] : List Int), ∀ s2 ∈ ([1, -1] : List Int),
    st2 n (two place s1 s2) [0, 1] = [(place + 1, 0, s1), (place, 0, s2)] ∧ st2 n (two place s1 s2) [1] = [(place, 0, s1), (place, 0, s2)] ∧ st2 n [(place, 0, s1), (place, 0, s2)] [0] = [(place, 0, s1), (place, 0, s2)] := by decide +kernel
end Lk15
end
section
set_option Elab.async false
set_option linter.all false
set_option maxRecDepth 100000
namespace Lk15
open PySem L2 Pm TL
def t_law_are_steps_right_9 (ns : List Int) : MS := (retS (bin (appA (conA (calE (conA (rd 1) (conA (tupE (conA (kon (.str "row")) (conA (kon (.int 1)) nilA))) (conA (tupE (conA (tupE (conA (kon (.int 0)) (conA (kon (.int 0)) (conA (una (kon (.int 1)) opNeg) nilA)))) nilA)) (conA (tupE (conA (kon (.int 0)) nilA)) nilA)))) (ofLen 4 (m_beat ns))) nilA) bRepr) (appA (conA (tupE (conA (tupE (conA (kon (.int 0)) (conA (kon (.int 1)) (conA (una (kon (.int 1)) opNeg) nilA)))) nilA)) nilA) bRepr) opEq))
def t_law_are_steps_right_8 (ns : List Int) : MS := (seqS (ifS (orT (tstB (bin (appA (conA (lcE (iterA (rd 8)) (.nm 11) yesT (bin (bin (rd 11) (kon (.int 0)) (opIx ns)) (kon (.int 0)) (opIx ns)) [11]) nilA) bRepr) (appA (conA (rd 9) nilA) bRepr) opNe)) (tstB (bin (appA (conA (bin (rd 8) (una (kon (.int 1)) opNeg) (opIx ns)) nilA) bRepr) (appA (conA (tupE (conA (tupE (conA (bin (rd 2) (kon (.int 1)) opSub) (conA (bin (bin (rd 4) (rd 2) opAdd) (kon (.int 2)) opMod) (conA (kon (.int 1)) nilA)))) nilA)) nilA) bRepr) opNe))) (retS (kon (.bl false))) nxS) (t_law_are_steps_right_9 ns))
def t_law_are_steps_right_7 (ns : List Int) : MS := (seqS (setS (.nm 9) (lcE (rng1 (bin (rd 2) (kon (.int 1)) opAdd)) (.nm 10) yesT (appA (conA (bin (rd 2) (kon (.int 1)) opSub) (conA (bin (rd 3) (rd 10) opAdd) nilA)) bMin) [10])) (t_law_are_steps_right_8 ns))
def t_law_are_steps_right_6 (ns : List Int) : MS := (seqS (setS (.nm 8) (calE (conA (rd 1) (conA (tupE (conA (kon (.str "row")) (conA (rd 2) nilA))) (conA (rd 5) (conA (bin (tupE (conA (tupE (conA (kon (.int 0)) nilA)) nilA)) (rd 2) opRep) nilA)))) (ofLen 4 (m_run ns)))) (t_law_are_steps_right_7 ns))
def t_law_are_steps_right_5 (ns : List Int) : MS := (seqS (ifS (tstB (bin (appA (conA (tupE (conA (calE (conA (rd 1) (conA (tupE (conA (kon (.str "ring")) (conA (rd 2) nilA))) (conA (rd 5) (conA (tupE (conA (kon (.int 0)) nilA)) nilA)))) (ofLen 4 (m_beat ns))) (conA (calE (conA (rd 1) (conA (tupE (conA (kon (.str "ring")) (conA (rd 2) nilA))) (conA (rd 6) (conA (tupE (conA (kon (.int 0)) nilA)) nilA)))) (ofLen 4 (m_beat ns))) nilA))) nilA) bRepr) (appA (conA (rd 7) nilA) bRepr) opNe)) (retS (kon (.bl false))) nxS) (t_law_are_steps_right_6 ns))
def t_law_are_steps_right_4 (ns : List Int) : MS := (seqS (setS (.nm 7) (tupE (conA (tupE (conA (tupE (conA (bin (bin (rd 3) (kon (.int 1)) opAdd) (rd 2) opMod) (conA (bin (kon (.int 1)) (rd 4) opSub) (conA (kon (.int 1)) nilA)))) nilA)) (conA (tupE (conA (tupE (conA (bin (bin (rd 3) (kon (.int 1)) opSub) (rd 2) opMod) (conA (bin (kon (.int 1)) (rd 4) opSub) (conA (una (kon (.int 1)) opNeg) nilA)))) nilA)) nilA)))) (t_law_are_steps_right_5 ns))
def t_law_are_steps_right_3 (ns : List Int) : MS := (seqS (parS 5 6 (conA (tupE (conA (tupE (conA (rd 3) (conA (rd 4) (conA (kon (.int 1)) nilA)))) nilA)) (conA (tupE (conA (tupE (conA (rd 3) (conA (rd 4) (conA (una (kon (.int 1)) opNeg) nilA)))) nilA)) nilA))) (t_law_are_steps_right_4 ns))
def t_law_are_steps_right_2 (ns : List Int) : MS := (seqS (setS (.tp [(.nm 3), (.nm 4)]) (tupE (conA (calE (conA (rd 0) (conA (rd 2) nilA)) (ofLen 2 (m_law_take ns))) (conA (calE (conA (rd 0) (conA (kon (.int 2)) nilA)) (ofLen 2 (m_law_take ns))) nilA)))) (t_law_are_steps_right_3 ns))
def t_law_are_steps_right_1 (ns : List Int) : MS := (seqS (setS (.tp [(.nm 1), (.nm 2)]) (tupE (conA (makE "Program" 2 (conA (kon (.str "marks 2\nstep 1\nmark same mine 0")) nilA) (m_Program___init__ ns)) (conA (bin (kon (.int 3)) (calE (conA (rd 0) (conA (kon (.int 6)) nilA)) (ofLen 2 (m_law_take ns))) opAdd) nilA)))) (t_law_are_steps_right_2 ns))
theorem e_t_law_are_steps_right (ns : List Int) : b_law_are_steps_right ns = t_law_are_steps_right_1 ns := rfl
theorem can1 {ring : Bool} {n place mark sense : Int} (hF : okF ring n) (hp : 0 ≤ place ∧ place < n) (hm : mark = 0 ∨ mark = 1) (hs : sense = 1 ∨ sense = -1) : Can P1 ring n [(place, mark, sense)] :=
  ⟨P1_good, by rw [P1_m]; decide, hF, fun e he => by
    rw [P1_m]
    simp at he
    rw [he]
    show mark < 2
    omega, by simp, by simp, fun e he => by
    simp at he
    rw [he]
    refine ⟨hp, ?_, hs⟩
    show 0 ≤ mark ∧ mark ≤ 3
    omega⟩
theorem lot0 {m : Int} (h : 0 < m) : goodL m [0] := ⟨by simp, by simp; omega, by simp, by simp⟩
theorem sh_ent {a b c : Int} (h1 : a.natAbs < 10 ^ 30) (h2 : b.natAbs < 10 ^ 30) (h3 : c.natAbs < 10 ^ 30) : Sh 2 (3 * (31 + 2) + 3) (entD (a, b, c)) := Sh.tup (n := 3) (fun x hx => by
  simp at hx
  rcases hx with rfl | rfl | rfl
  · exact .int h1
  · exact .int h2
  · exact .int h3) (by simp)
def smE (e : Ent) : Prop := e.1.natAbs < 10 ^ 30 ∧ e.2.1.natAbs < 10 ^ 30 ∧ e.2.2.natAbs < 10 ^ 30
theorem sh_st {S : List Ent} (h : ∀ e ∈ S, smE e) (hl : S.length ≤ 5) : Sh 3 (5 * (102 + 2) + 3) (stD S) := Sh.tup (n := 5) (e := 2) (w := 102) (fun x hx => by
  obtain ⟨e, he, rfl⟩ := List.mem_map.mp hx
  obtain ⟨a, b, c⟩ := e
  exact sh_ent (h _ he).1 (h _ he).2.1 (h _ he).2.2) (by simpa using hl)
theorem sh_sts {Ss : List (List Ent)} (h : ∀ S ∈ Ss, (∀ e ∈ S, smE e) ∧ S.length ≤ 5) (hl : Ss.length ≤ 20) : Sh 4 (20 * (523 + 2) + 3) (.tup (Ss.map stD)) := Sh.tup (n := 20) (e := 3) (w := 523) (fun x hx => by
  obtain ⟨S, hS, rfl⟩ := List.mem_map.mp hx
  exact sh_st (h S hS).1 (h S hS).2) (by simpa using hl)
theorem sm_of {a b c : Int} (h1 : -100 ≤ a ∧ a ≤ 100) (h2 : -100 ≤ b ∧ b ≤ 100) (h3 : -100 ≤ c ∧ c ≤ 100) : smE (a, b, c) := by
  have big : (1000 : Nat) ≤ 10 ^ 30 := by decide
  exact ⟨Nat.lt_of_lt_of_le (show a.natAbs < 1000 by omega) big, Nat.lt_of_lt_of_le (show b.natAbs < 1000 by omega) big, Nat.lt_of_lt_of_le (show c.natAbs < 1000 by omega) big⟩
theorem rep0 (k : Nat) : repL k [.tup [.int 0]] = (List.replicate k ([0] : List Int)).map lotD := by
  unfold repL
  induction k with
  | zero => rfl
  | succ k ih =>
    rw [List.replicate_succ, List.replicate_succ, List.flatten_cons, List.map_cons, ih]
    rfl
theorem steps_spec (ns : List Int) {l k : Nat} {st : Sto} (hp : Pot l k st) (hk : k ≤ 1000) {Q : D → Sto → Prop} (q : ∀ s, Pot l (k + 3) s → Fr [l] st s → Q (.bl true) s) : wp (m_law_are_steps_right ns [.loc l]) st Q := by
  have e0 : m_law_are_steps_right ns = runB 12 (t_law_are_steps_right_1 ns) := rfl
  have z : ∀ k, k ≤ 10 → k ≤ sizeLine := fun k h => Nat.le_trans h (small_line (by decide))
  rw [e0]
  simp only [runB_eq, wp_bnd]
  unfold t_law_are_steps_right_1
  generalize hT : t_law_are_steps_right_2 ns = T
  simp [startE, z 2 (by decide)]
  rw [P1_text]
  refine p_make ns P1_ok fun s1 gP f1 => ?_
  have hlt := hp.lt
  have o1 := hp.fr f1 (by simp) (Nat.le_refl _)
  generalize hP : List.length st = p at gP
  have hpl : p ∉ [l] := by simp; omega
  refine p_take ns o1 (by omega) (by decide) fun a s2 ha o2 f2 => ?_
  have gP2 := f2.at gP hpl
  obtain ⟨n, hn⟩ : ∃ n : Int, n = 3 + a := ⟨_, rfl⟩
  simp
  rw [← hn]
  have hn8 : 3 ≤ n ∧ n ≤ 8 := by omega
  clear hn ha
  rw [← hT]
  unfold t_law_are_steps_right_2
  generalize hT : t_law_are_steps_right_3 ns = T
  simp
  refine p_take ns o2 (by omega) (by omega) fun place s3 hpl3 o3 f3 => ?_
  refine p_take ns o3 (by omega) (by decide) fun mark s4 hm o4 f4 => ?_
  have gP4 := f4.at (f3.at gP2 hpl) hpl
  have hmark : mark = 0 ∨ mark = 1 := by omega
  have F4 : Fr [l] st s4 := ((f1.up.trans f2).trans f3).trans f4
  simp [z 2 (by decide)]
  rw [← hT]
  unfold t_law_are_steps_right_3
  generalize hT : t_law_are_steps_right_4 ns = T
  simp [z 1 (by decide), z 3 (by decide)]
  rw [← hT]
  unfold t_law_are_steps_right_4
  generalize hT : t_law_are_steps_right_5 ns = T
  have hn0 : 0 < n := by omega
  simp [opMod_int hn0, z 1 (by decide), z 2 (by decide), z 3 (by decide)]
  rw [← hT]
  unfold t_law_are_steps_right_5
  generalize hT : t_law_are_steps_right_6 ns = T
  have okr : okF true n := ⟨fun _ => hn8.1, by omega, hn8.2⟩
  have okw : okF false n := ⟨(fun e => nomatch e), by omega, hn8.2⟩
  simp [z 1 (by decide), z 2 (by decide)]
  refine p_beat ns (can1 (ring := true) (n := n) (place := place) (mark := mark) (sense := 1) okr hpl3 hmark (.inl rfl)) (lot := [0]) (lot0 (by simp)) gP4 fun s5 f5 => ?_
  have gP5 := f5.at gP4 (by simp)
  refine p_beat ns (can1 (ring := true) (n := n) (place := place) (mark := mark) (sense := -1) okr hpl3 hmark (.inr rfl)) (lot := [0]) (lot0 (by simp)) gP5 fun s6 f6 => ?_
  have gP6 := f6.at gP5 (by simp)
  have b1 : placeB true n place 1 1 = (place + 1) % n := by simp [placeB, placeO]
  have b2 : placeB true n place (-1) 1 = (place - 1) % n := by simp [placeB, placeO]; rfl
  rw [one_beat hmark, one_beat hmark, b1, b2]
  have m1 := Int.emod_nonneg (place + 1) (show n ≠ 0 by omega)
  have m2 := Int.emod_lt_of_pos (place + 1) hn0
  have m3 := Int.emod_nonneg (place - 1) (show n ≠ 0 by omega)
  have m4 := Int.emod_lt_of_pos (place - 1) hn0
  have sh1 : Sh 4 (20 * (523 + 2) + 3) (.tup [stD [((place + 1) % n, 1 - mark, 1)], stD [((place - 1) % n, 1 - mark, -1)]]) := sh_sts (Ss := [[((place + 1) % n, 1 - mark, 1)], [((place - 1) % n, 1 - mark, -1)]]) (fun S hS => by
    simp at hS
    rcases hS with rfl | rfl
    · refine ⟨fun e he => ?_, by simp⟩
      simp at he
      subst he
      exact sm_of (by omega) (by omega) (by omega)
    · refine ⟨fun e he => ?_, by simp⟩
      simp at he
      subst he
      exact sm_of (by omega) (by omega) (by omega)) (by simp)
  obtain ⟨t1, ht1⟩ := sh1.repr (by decide) (by decide)
  have ht1' : bRepr [D.tup [D.tup [D.tup [D.int ((place + 1) % n), D.int (1 - mark), D.int 1]], D.tup [D.tup [D.int ((place - 1) % n), D.int (1 - mark), D.int (-1)]]]] = ret (.str t1) := ht1
  simp [ht1, ht1', opNe_str]
  rw [← hT]
  unfold t_law_are_steps_right_6
  generalize hT : t_law_are_steps_right_7 ns = T
  have eRep : opRep (.tup [.tup [.int 0]]) (.int n) = ret (lotsD (List.replicate n.toNat [0])) := by
    show (if n = 1 then ret (D.tup [.tup [.int 0]]) else if [D.tup [.int 0]] ≠ [] ∧ 2 ≤ n ∧ n ≤ 1000 ∧ [D.tup [.int 0]].length ≤ 1000 then ret (D.tup (repL n.toNat [.tup [.int 0]])) else no) = _
    rw [if_neg (by omega), if_pos ⟨by simp, by omega, by omega, by simp⟩, rep0]
  simp [z 1 (by decide), z 2 (by decide), eRep]
  refine p_run ns (can1 (ring := false) (n := n) (place := place) (mark := mark) (sense := 1) okw hpl3 hmark (.inl rfl)) (Ls := List.replicate n.toNat [0]) (by simp; omega) (fun l hl => by rw [List.eq_of_mem_replicate hl]; exact lot0 (by simp)) gP6 fun s7 f7 => ?_
  have gP7 := f7.at gP6 (by simp)
  rw [laps hpl3 hmark]
  rw [← hT]
  unfold t_law_are_steps_right_7
  generalize hT : t_law_are_steps_right_8 ns = T
  simp
  refine ⟨okR_small (by omega) (by omega), ?_⟩
  have eX : (rngI 0 (n + 1)).xs = (List.range (n.toNat + 1)).map fun i : Nat => D.int (0 + (i : Nat)) := by
    show (List.range (n + 1 - 0).toNat).map _ = _
    rw [show (n + 1 - 0).toNat = n.toNat + 1 by omega]
  rw [eX]
  generalize hL : (List.range (n.toNat + 1)).map (fun i : Nat => D.int (if place + (i : Int) < n - 1 then place + (i : Int) else n - 1)) = L
  have hLl : L.length ≤ 20 := by rw [← hL]; simp; omega
  have hLs : ∀ x ∈ L, Sh 1 31 x := fun x hx => by
    rw [← hL] at hx
    obtain ⟨i, hi, rfl⟩ := List.mem_map.mp hx
    have hi := List.mem_range.mp hi
    have big : (1000 : Nat) ≤ 10 ^ 30 := by decide
    exact .int (Nat.lt_of_lt_of_le (by split <;> omega) big)
  refine wp_lcMap (fun d => match d with
    | .int i => .int (if place + i < n - 1 then place + i else n - 1)
    | d => d) _ (fun s fr => rfl) (by simp; omega) (fun x hx s fr => ?_) fun s8 f8 => ?_
  · obtain ⟨i, _, rfl⟩ := List.mem_map.mp hx
    refine ⟨_, by simp; rfl, ?_⟩
    simp [wipeE, bMin, Fr.refl]
  have eL1 : ((List.range (n.toNat + 1)).map fun i : Nat => D.int (0 + (i : Nat))).map (fun d => match d with
    | .int i => .int (if place + i < n - 1 then place + i else n - 1)
    | d => d) = L := by
    rw [← hL, List.map_map]
    refine List.map_congr_left fun i _ => ?_
    simp
  rw [eL1]
  rw [← hT]
  unfold t_law_are_steps_right_8
  generalize hT : t_law_are_steps_right_9 ns = T
  have gL : (s8 ++ [O.lst L])[s8.length]? = some (.lst L) := by simp
  generalize hs9 : s8 ++ [O.lst L] = s9 at gL
  have f9 : Fr [] s8 s9 := by rw [← hs9]; exact Fr.new _
  obtain ⟨t2, ht2⟩ := Sh.reprL hLs hLl (by decide) (by decide)
  simp [seqA]
  refine wp_lcMap (fun d => match d with
    | .tup (.tup (x :: _) :: _) => x
    | d => d) _ (fun s fr => rfl) (by simp; omega) (fun x hx s fr => ?_) fun s10 f10 => ?_
  · obtain ⟨i, _, rfl⟩ := List.mem_map.mp hx
    refine ⟨_, by simp; rfl, ?_⟩
    have q1 : opIx ns (stD (lap n place mark i)) (.int 0) = ret (entD ((if place + (i : Int) < n - 1 then place + (i : Int) else n - 1), (mark + i) % 2, 1)) := rfl
    have q2 : ∀ e : Ent, opIx ns (entD e) (.int 0) = ret (.int e.1) := fun _ => rfl
    simp [wipeE, q1, q2, Fr.refl]
    rfl
  have eL2 : ((List.range (n.toNat + 1)).map (stD ∘ lap n place mark)).map (fun d => match d with
    | .tup (.tup (x :: _) :: _) => x
    | d => d) = L := by
    rw [← hL, List.map_map]
    rfl
  rw [eL2]
  rw [ht2 _ _ _ (by simp)]
  rw [ht2 _ _ _ ((f10.trans (Fr.new (S := []) _)).at gL (by simp))]
  have eA : atI (List.map (stD ∘ lap n place mark) (List.range (n.toNat + 1))) (-1) = some (stD (lap n place mark n.toNat)) := by
    rw [← List.map_map, at_lastD (by simp), List.range_succ, List.map_append]
    exact congrArg (fun x => some (stD x)) lastS_app
  have eB : lap n place mark n.toNat = [(n - 1, (mark + n) % 2, 1)] := by
    unfold lap
    rw [if_neg (by omega), show ((n.toNat : Nat) : Int) = n by omega]
  obtain ⟨t3, ht3⟩ := (sh_st (S := [(n - 1, (mark + n) % 2, 1)]) (fun e he => by
    simp at he
    subst he
    exact sm_of (by omega) (by omega) (by omega)) (by simp)).repr (by decide) (by decide)
  have ht3' : bRepr [D.tup [D.tup [D.int (n - 1), D.int ((mark + n) % 2), D.int 1]]] = ret (.str t3) := ht3
  simp [opNe_str, eA, eB, ht3, opMod_int (show (0 : Int) < 2 by decide), ht3', z 1 (by decide), z 3 (by decide)]
  rw [← hT]
  unfold t_law_are_steps_right_9
  have gP8 := (((((f8.trans f9).trans f10).trans (Fr.new (S := []) [O.lst L]))).at gP7 (by simp))
  simp [z 1 (by decide), z 2 (by decide), z 3 (by decide)]
  refine p_beat ns (can1 (ring := false) (n := 1) (place := 0) (mark := 0) (sense := -1) ⟨(fun e => nomatch e), by decide, by decide⟩ (by decide) (.inl rfl) (.inr rfl)) (lot := [0]) (lot0 (by simp)) gP8 fun s11 f11 => ?_
  rw [one_beat (.inl rfl)]
  have b3 : placeB false 1 0 (-1) 1 = 0 := by decide
  rw [b3, show (1 : Int) - 0 = 1 from rfl]
  obtain ⟨t4, ht4⟩ := (sh_st (S := [(0, 1, -1)]) (fun e he => by
    simp at he
    subst he
    exact sm_of (by omega) (by omega) (by omega)) (by simp)).repr (by decide) (by decide)
  have ht4' : bRepr [D.tup [D.tup [D.int 0, D.int 1, D.int (-1)]]] = ret (.str t4) := ht4
  simp [ht4, ht4', opEq_str]
  have F : Fr [] s4 s11 := (((((((f5.trans f6).trans f7).trans f8).trans f9).trans f10).trans (Fr.new _))).trans f11
  exact q _ (o4.fr F (by simp) (by omega)) (F4.trans F.up)
end Lk15
end
section
set_option Elab.async false
set_option linter.all false
set_option maxRecDepth 100000
namespace Lk15
open PySem L2 Pm TL
def t_law_are_exchanges_right_8 (ns : List Int) : MS := (retS (bin (appA (conA (rd 6) nilA) bRepr) (appA (conA (tupE (conA (rd 4) (conA (rd 7) (conA (rd 7) nilA)))) nilA) bRepr) opEq))
def t_law_are_exchanges_right_7 (ns : List Int) : MS := (seqS (setS (.nm 7) (tupE (conA (bin (rd 4) (kon (.int 0)) (opIx ns)) (conA (tupE (conA (rd 3) (conA (kon (.int 0)) (conA (bin (bin (rd 4) (kon (.int 1)) (opIx ns)) (kon (.int 2)) (opIx ns)) nilA)))) nilA)))) (t_law_are_exchanges_right_8 ns))
def t_law_are_exchanges_right_6 (ns : List Int) : MS := (seqS (setS (.nm 6) (calE (conA (rd 1) (conA (tupE (conA (kon (.str "row")) (conA (rd 2) nilA))) (conA (rd 4) (conA (tupE (conA (tupE (conA (kon (.int 1)) nilA)) (conA (tupE (conA (kon (.int 0)) nilA)) nilA))) nilA)))) (ofLen 4 (m_run ns)))) (t_law_are_exchanges_right_7 ns))
def t_law_are_exchanges_right_5 (ns : List Int) : MS := (seqS (ifS (tstB (bin (appA (conA (calE (conA (rd 1) (conA (tupE (conA (kon (.str "row")) (conA (rd 2) nilA))) (conA (rd 4) (conA (tupE (conA (kon (.int 0)) (conA (kon (.int 1)) nilA))) nilA)))) (ofLen 4 (m_beat ns))) nilA) bRepr) (appA (conA (rd 5) nilA) bRepr) opNe)) (retS (kon (.bl false))) nxS) (t_law_are_exchanges_right_6 ns))
def t_law_are_exchanges_right_4 (ns : List Int) : MS := (seqS (setS (.nm 5) (tupE (conA (tupE (conA (bin (rd 3) (kon (.int 1)) opAdd) (conA (kon (.int 0)) (conA (bin (bin (rd 4) (kon (.int 0)) (opIx ns)) (kon (.int 2)) (opIx ns)) nilA)))) (conA (tupE (conA (rd 3) (conA (kon (.int 0)) (conA (bin (bin (rd 4) (kon (.int 1)) (opIx ns)) (kon (.int 2)) (opIx ns)) nilA)))) nilA)))) (t_law_are_exchanges_right_5 ns))
def t_law_are_exchanges_right_3 (ns : List Int) : MS := (seqS (setS (.nm 4) (tupE (conA (tupE (conA (rd 3) (conA (kon (.int 0)) (conA (calE (conA (rd 0) (conA (lstE (conA (kon (.int 1)) (conA (una (kon (.int 1)) opNeg) nilA))) nilA)) (ofLen 2 (m_law_of ns))) nilA)))) (conA (tupE (conA (bin (rd 3) (kon (.int 1)) opAdd) (conA (kon (.int 0)) (conA (calE (conA (rd 0) (conA (lstE (conA (kon (.int 1)) (conA (una (kon (.int 1)) opNeg) nilA))) nilA)) (ofLen 2 (m_law_of ns))) nilA)))) nilA)))) (t_law_are_exchanges_right_4 ns))
def t_law_are_exchanges_right_2 (ns : List Int) : MS := (seqS (parS 2 3 (conA (bin (kon (.int 4)) (calE (conA (rd 0) (conA (kon (.int 5)) nilA)) (ofLen 2 (m_law_take ns))) opAdd) (conA (calE (conA (rd 0) (conA (kon (.int 3)) nilA)) (ofLen 2 (m_law_take ns))) nilA))) (t_law_are_exchanges_right_3 ns))
def t_law_are_exchanges_right_1 (ns : List Int) : MS := (seqS (setS (.nm 1) (makE "Program" 2 (conA (kon (.str "marks 1\nstep pick same ahead 1 pick same behind 1 0 -1 1\nmark 0")) nilA) (m_Program___init__ ns))) (t_law_are_exchanges_right_2 ns))
theorem e_t_law_are_exchanges_right (ns : List Int) : b_law_are_exchanges_right ns = t_law_are_exchanges_right_1 ns := rfl
theorem e_of (ns : List Int) : m_law_of ns = runB 2 (bOf ns (m_law_take ns)) := rfl
theorem can2 {n : Int} {S : List Ent} (hF : okF false n) (hS : okS n S) (hm : ∀ e ∈ S, e.2.1 = 0) : Can P2 false n S :=
  ⟨P2_good, by rw [P2_m]; decide, hF, fun e he => by rw [P2_m, hm e he]; decide, hS⟩
theorem signs_in {x : D} (h : x ∈ [D.int 1, D.int (-1)]) : ∃ s : Int, x = .int s ∧ (s = 1 ∨ s = -1) := by
  simp at h
  rcases h with rfl | rfl
  · exact ⟨1, rfl, .inl rfl⟩
  · exact ⟨-1, rfl, .inr rfl⟩
theorem exch_spec (ns : List Int) {l k : Nat} {st : Sto} (hp : Pot l k st) (hk : k ≤ 1000) {Q : D → Sto → Prop} (q : ∀ s, Pot l (k + 4) s → Fr [l] st s → Q (.bl true) s) : wp (m_law_are_exchanges_right ns [.loc l]) st Q := by
  have e0 : m_law_are_exchanges_right ns = runB 8 (t_law_are_exchanges_right_1 ns) := rfl
  have z : ∀ k, k ≤ 10 → k ≤ sizeLine := fun k h => Nat.le_trans h (small_line (by decide))
  rw [e0]
  simp only [runB_eq, wp_bnd]
  unfold t_law_are_exchanges_right_1
  generalize hT : t_law_are_exchanges_right_2 ns = T
  simp [startE]
  rw [P2_text]
  refine p_make ns P2_ok fun s1 gP f1 => ?_
  have hlt := hp.lt
  have o1 := hp.fr f1 (by simp) (Nat.le_refl _)
  generalize hP : List.length st = p at gP
  have hpl : p ∉ [l] := by simp; omega
  rw [← hT]
  unfold t_law_are_exchanges_right_2
  generalize hT : t_law_are_exchanges_right_3 ns = T
  simp
  refine p_take ns o1 (by omega) (by decide) fun a s2 ha o2 f2 => ?_
  obtain ⟨n, hn⟩ : ∃ n : Int, n = 4 + a := ⟨_, rfl⟩
  simp
  rw [← hn]
  have hn8 : 4 ≤ n ∧ n ≤ 8 := by omega
  clear hn ha
  refine p_take ns o2 (by omega) (by decide) fun place s3 hpl3 o3 f3 => ?_
  rw [← hT]
  unfold t_law_are_exchanges_right_3
  generalize hT : t_law_are_exchanges_right_4 ns = T
  simp [z 1 (by decide), z 2 (by decide), z 3 (by decide)]
  rw [e_of]
  refine of_spec (e_take ns) sm (o3.fr (Fr.new (S := []) [O.lst [D.int 1, D.int (-1)]]) (by simp) (Nat.le_refl _)) (xs := [D.int 1, D.int (-1)]) (by omega) (by simp) (by have := o3.lt; omega) (by simp) fun x s4 hx o4 f4 => ?_
  refine of_spec (e_take ns) sm (o4.fr (Fr.new (S := []) [O.lst [D.int 1, D.int (-1)]]) (by simp) (Nat.le_refl _)) (xs := [D.int 1, D.int (-1)]) (by omega) (by simp) (by have := o4.lt; omega) (by simp) fun y s5 hy o5 f5 => ?_
  obtain ⟨u, rfl, hu⟩ := signs_in hx
  obtain ⟨w, rfl, hw⟩ := signs_in hy
  have gP5 := f5.at ((Fr.new (S := [l]) _).at (f4.at ((Fr.new (S := [l]) _).at (f3.at (f2.at gP hpl) hpl) hpl) hpl) hpl) hpl
  have F5 : Fr [l] st s5 := ((((f1.up.trans f2).trans f3).trans (Fr.new _)).trans f4).trans ((Fr.new _).trans f5)
  rw [← hT]
  unfold t_law_are_exchanges_right_4
  generalize hT : t_law_are_exchanges_right_5 ns = T
  simp [atI, ixN, z 1 (by decide), z 2 (by decide), z 3 (by decide)]
  rw [← hT]
  unfold t_law_are_exchanges_right_5
  generalize hT : t_law_are_exchanges_right_6 ns = T
  have okw : okF false n := ⟨(fun e => nomatch e), by omega, hn8.2⟩
  have hall := both_all n (by simp; omega) place (by simp; omega) u (by simpa using hu) w (by simpa using hw)
  have eA : ∀ a b : Ent, D.tup [.tup [.int a.1, .int a.2.1, .int a.2.2], .tup [.int b.1, .int b.2.1, .int b.2.2]] = stD [a, b] := fun _ _ => rfl
  have hC : Can P2 false n [(place, 0, u), (place + 1, 0, w)] := can2 okw ⟨by simp, by simp, fun e he => by
    simp at he
    rcases he with rfl | rfl
    · exact ⟨(show 0 ≤ place ∧ place < n by omega), (show (0 : Int) ≤ 0 ∧ (0 : Int) ≤ 3 by decide), hu⟩
    · exact ⟨(show 0 ≤ place + 1 ∧ place + 1 < n by omega), (show (0 : Int) ≤ 0 ∧ (0 : Int) ≤ 3 by decide), hw⟩⟩ (fun e he => by
    simp at he
    rcases he with rfl | rfl <;> rfl)
  simp [z 1 (by decide), z 2 (by decide)]
  refine p_beat ns hC (lot := [0, 1]) ⟨by simp, by simp, by simp, by simp⟩ gP5 fun s6 f6 => ?_
  have gP6 := f6.at gP5 (by simp)
  have e1 : standB P2 false n [(place, 0, u), (place + 1, 0, w)] [0, 1] = [(place + 1, 0, u), (place, 0, w)] := (st2_eq _ _ _).trans hall.1
  rw [e1]
  have smu : ∀ a : Int, 0 ≤ a ∧ a ≤ 10 → smE (a, 0, u) := fun a ha => sm_of (by omega) (by omega) (by rcases hu with h | h <;> omega)
  have smw : ∀ a : Int, 0 ≤ a ∧ a ≤ 10 → smE (a, 0, w) := fun a ha => sm_of (by omega) (by omega) (by rcases hw with h | h <;> omega)
  obtain ⟨t1, ht1⟩ := (sh_st (S := [(place + 1, 0, u), (place, 0, w)]) (fun e he => by
    simp at he
    rcases he with rfl | rfl
    · exact smu _ (by omega)
    · exact smw _ (by omega)) (by simp)).repr (by decide) (by decide)
  have ht1' : bRepr [D.tup [.tup [.int (place + 1), .int 0, .int u], .tup [.int place, .int 0, .int w]]] = ret (.str t1) := ht1
  simp [ht1, ht1', opNe_str]
  rw [← hT]
  unfold t_law_are_exchanges_right_6
  generalize hT : t_law_are_exchanges_right_7 ns = T
  simp [z 1 (by decide), z 2 (by decide)]
  refine p_run ns hC (Ls := [[1], [0]]) (by simp) (fun l hl => by
    simp at hl
    rcases hl with rfl | rfl
    · exact ⟨by simp, by simp, by simp, by simp⟩
    · exact ⟨by simp, by simp, by simp, by simp⟩) gP6 fun s7 f7 => ?_
  have e2 : runs P2 false n [(place, 0, u), (place + 1, 0, w)] [[1], [0]] = [[(place, 0, u), (place + 1, 0, w)], [(place, 0, u), (place, 0, w)], [(place, 0, u), (place, 0, w)]] := by
    have a1 : standB P2 false n [(place, 0, u), (place + 1, 0, w)] [1] = [(place, 0, u), (place, 0, w)] := (st2_eq _ _ _).trans hall.2.1
    have a2 : standB P2 false n [(place, 0, u), (place, 0, w)] [0] = [(place, 0, u), (place, 0, w)] := (st2_eq _ _ _).trans hall.2.2
    unfold runs
    simp only [List.foldl_cons, List.foldl_nil]
    have b1 : goF P2 false n [[(place, 0, u), (place + 1, 0, w)]] [1] = [[(place, 0, u), (place + 1, 0, w)], [(place, 0, u), (place, 0, w)]] := by
      show [[(place, 0, u), (place + 1, 0, w)]] ++ [standB P2 false n [(place, 0, u), (place + 1, 0, w)] [1]] = _
      rw [a1]
      rfl
    rw [b1]
    show [[(place, 0, u), (place + 1, 0, w)], [(place, 0, u), (place, 0, w)]] ++ [standB P2 false n [(place, 0, u), (place, 0, w)] [0]] = _
    rw [a2]
    rfl
  rw [e2]
  rw [← hT]
  unfold t_law_are_exchanges_right_7
  generalize hT : t_law_are_exchanges_right_8 ns = T
  simp [atI, ixN, z 2 (by decide), z 3 (by decide)]
  rw [← hT]
  unfold t_law_are_exchanges_right_8
  obtain ⟨t2, ht2⟩ := (sh_sts (Ss := [[(place, 0, u), (place + 1, 0, w)], [(place, 0, u), (place, 0, w)], [(place, 0, u), (place, 0, w)]]) (fun S hS => by
    simp at hS
    rcases hS with rfl | rfl <;> refine ⟨fun e he => ?_, by simp⟩ <;> simp at he <;> rcases he with rfl | rfl
    · exact smu _ (by omega)
    · exact smw _ (by omega)
    · exact smu _ (by omega)
    · exact smw _ (by omega)) (by simp)).repr (by decide) (by decide)
  have ht2' : bRepr [D.tup [D.tup [D.tup [D.int place, D.int 0, D.int u], D.tup [D.int (place + 1), D.int 0, D.int w]], D.tup [D.tup [D.int place, D.int 0, D.int u], D.tup [D.int place, D.int 0, D.int w]], D.tup [D.tup [D.int place, D.int 0, D.int u], D.tup [D.int place, D.int 0, D.int w]]]] = ret (.str t2) := ht2
  simp at ht2
  simp [z 3 (by decide), ht2, ht2', opEq_str]
  have F : Fr [] s5 s7 := f6.trans f7
  exact q _ (o5.fr F (by simp) (by omega)) (F5.trans F.up)
end Lk15
end
section
set_option Elab.async false
set_option linter.all false
set_option maxRecDepth 100000
namespace Lk15
open PySem L2 Pm TL
def t_law_are_lots_right_3 (ns : List Int) : MS := (retS (andV (bin (appA (conA (calE (conA (kon (.str "eras")) (conA (kon (.int 3)) (conA (rd 0) nilA))) (ofLen 3 (m_next_lots ns))) nilA) bRepr) (kon (.str "((0,), (0, 1), (1,))")) opEq) (bin (appA (conA (calE (conA (kon (.str "full")) (conA (kon (.int 2)) (conA (tupE nilA) nilA))) (ofLen 3 (m_next_lots ns))) nilA) bRepr) (kon (.str "((0, 1),)")) opEq)))
def t_law_are_lots_right_2 (ns : List Int) : MS := (seqS (ifS (tstB (bin (appA (conA (tupE (conA (calE (conA (kon (.int 3)) (conA (rd 0) nilA)) (ofLen 2 (m_eras ns))) (conA (calE (conA (kon (.int 3)) (conA (rd 0) nilA)) (ofLen 2 (m_left ns))) nilA))) nilA) bRepr) (appA (conA (tupE (conA (tupE (conA (tupE (conA (tupE (conA (kon (.int 1)) nilA)) (conA (tupE (conA (kon (.int 0)) (conA (kon (.int 2)) nilA))) nilA))) (conA (tupE (conA (tupE (conA (kon (.int 0)) (conA (kon (.int 1)) (conA (kon (.int 2)) nilA)))) nilA)) (conA (tupE (conA (tupE (conA (kon (.int 2)) nilA)) nilA)) nilA)))) (conA (tupE (conA (kon (.int 0)) (conA (kon (.int 1)) nilA))) nilA))) nilA) bRepr) opNe)) (retS (kon (.bl false))) nxS) (t_law_are_lots_right_3 ns))
def t_law_are_lots_right_1 (ns : List Int) : MS := (seqS (setS (.nm 0) (tupE (conA (tupE (conA (kon (.int 1)) nilA)) (conA (tupE (conA (kon (.int 0)) (conA (kon (.int 2)) nilA))) (conA (tupE (conA (kon (.int 0)) (conA (kon (.int 1)) (conA (kon (.int 2)) nilA)))) (conA (tupE (conA (kon (.int 2)) nilA)) nilA)))))) (t_law_are_lots_right_2 ns))
theorem e_t_law_are_lots_right (ns : List Int) : b_law_are_lots_right ns = t_law_are_lots_right_1 ns := rfl
def t_law_right_1 (ns : List Int) : MS := (retS (andV (calE (conA (rd 0) nilA) (ofLen 1 (m_law_are_steps_right ns))) (andV (calE (conA (rd 0) nilA) (ofLen 1 (m_law_are_exchanges_right ns))) (calE nilA (m_law_are_lots_right ns)))))
theorem e_t_law_right (ns : List Int) : b_law_right ns = t_law_right_1 ns := rfl
def L4 : List (List Int) := [[1], [0, 2], [0, 1, 2], [2]]
theorem L4_good : ∀ l ∈ L4, goodL 3 l := fun l hl => by
  simp [L4] at hl
  rcases hl with rfl | rfl | rfl | rfl <;> exact ⟨by simp, by simp, by simp, by simp⟩
theorem L4_eras : erasB 3 L4 = true := by decide +kernel
theorem L4_kind : kindB "eras" 3 (lotsD L4) = true := by decide +kernel
theorem L4_cut : (cutF 3 L4).1 = [[[1], [0, 2]], [[0, 1, 2]], [[2]]] := by decide +kernel
theorem L4_left : stillOf 3 (cutF 3 L4).2 = [0, 1] := by decide +kernel
theorem L4_next : (SD (FA (3 : Int).toNat)).filter (gN "eras" 3 L4) = [lotD [0], lotD [0, 1], lotD [1]] := by decide +kernel
theorem L0_next : (SD (FA (2 : Int).toNat)).filter (gN "full" 2 []) = [lotD [0, 1]] := by decide +kernel
theorem sh_l {l : List Int} (h : ∀ w ∈ l, 0 ≤ w ∧ w < 5) (hl : l.length ≤ 5) : Sh 2 168 (lotD l) := sh_lot h hl
theorem sh_ls {Ls : List (List Int)} (h : ∀ l ∈ Ls, (∀ w ∈ l, 0 ≤ w ∧ w < 5) ∧ l.length ≤ 5) (hl : Ls.length ≤ 5) : Sh 3 (5 * (168 + 2) + 3) (lotsD Ls) := Sh.tup (n := 5) (fun x hx => by
  obtain ⟨l, hl', rfl⟩ := List.mem_map.mp hx
  exact sh_l (h l hl').1 (h l hl').2) (by simpa using hl)
theorem repr_next : bRepr [.tup [lotD [0], lotD [0, 1], lotD [1]]] = ret (.str "((0,), (0, 1), (1,))") := by
  obtain ⟨t, ht⟩ := (sh_ls (Ls := [[0], [0, 1], [1]]) (by simp) (by simp)).repr (by decide) (by decide)
  have : t = "((0,), (0, 1), (1,))" := by
    have e := congrFun ht []
    have e2 : bRepr [.tup [lotD [0], lotD [0, 1], lotD [1]]] [] = .ok (.str "((0,), (0, 1), (1,))") [] := by rfl
    have e3 := e2.symm.trans e
    cases e3
    rfl
  exact this ▸ ht
theorem repr_full : bRepr [.tup [lotD [0, 1]]] = ret (.str "((0, 1),)") := by
  obtain ⟨t, ht⟩ := (sh_ls (Ls := [[0, 1]]) (by simp) (by simp)).repr (by decide) (by decide)
  have : t = "((0, 1),)" := by
    have e := congrFun ht []
    have e2 : bRepr [.tup [lotD [0, 1]]] [] = .ok (.str "((0, 1),)") [] := by rfl
    have e3 := e2.symm.trans e
    cases e3
    rfl
  exact this ▸ ht
theorem lots_spec (ns : List Int) {st : Sto} {Q : D → Sto → Prop} (q : ∀ s, Fr [] st s → Q (.bl true) s) : wp (m_law_are_lots_right ns []) st Q := by
  have e0 : m_law_are_lots_right ns = runB 1 (t_law_are_lots_right_1 ns) := rfl
  have z : ∀ k, k ≤ 10 → k ≤ sizeLine := fun k h => Nat.le_trans h (small_line (by decide))
  rw [e0]
  simp only [runB_eq, wp_bnd]
  unfold t_law_are_lots_right_1
  generalize hT : t_law_are_lots_right_2 ns = T
  simp [startE, z 1 (by decide), z 2 (by decide), z 3 (by decide), z 4 (by decide)]
  have eD : D.tup [.tup [.int 1], .tup [.int 0, .int 2], .tup [.int 0, .int 1, .int 2], .tup [.int 2]] = lotsD L4 := rfl
  rw [eD]
  rw [← hT]
  unfold t_law_are_lots_right_2
  generalize hT : t_law_are_lots_right_3 ns = T
  simp [z 1 (by decide), z 2 (by decide), z 3 (by decide), z 4 (by decide)]
  have hll : ∀ l ∈ L4, l.length ≤ 20 := fun l hl => by have := (L4_good l hl).len; omega
  refine p_eras ns (by decide) (okV_lots L4_good (by decide) _) L4_kind L4_eras (by decide) hll fun s1 f1 => ?_
  refine p_left ns (by decide) (okV_lots L4_good (by decide) _) L4_kind L4_eras (EI_all L4_good L4_eras) (by decide) hll fun s2 f2 => ?_
  rw [L4_cut, L4_left]
  obtain ⟨t1, ht1⟩ := (Sh.tup (e := 4) (w := 5 * (5 * (168 + 2) + 3 + 2) + 3) (n := 2) (xs := [.tup ([[[1], [0, 2]], [[0, 1, 2]], [[2]]].map lotsD), lotD [0, 1]]) (fun x hx => by
    simp only [List.mem_cons, List.not_mem_nil, or_false] at hx
    rcases hx with rfl | rfl
    · refine Sh.tup (n := 5) (e := 3) (w := 5 * (168 + 2) + 3) (fun x hx => ?_) (by simp)
      simp only [List.map_cons, List.map_nil, List.mem_cons, List.not_mem_nil, or_false] at hx
      rcases hx with rfl | rfl | rfl
      · exact sh_ls (by simp) (by simp)
      · exact sh_ls (by simp) (by simp)
      · exact sh_ls (by simp) (by simp)
    · exact (sh_l (by simp) (by simp)).mono (by decide) (by decide)) (by simp)).repr (by decide) (by decide)
  have ht1' := ht1
  simp at ht1'
  simp [ht1', opNe_str]
  have ht1'' : bRepr [D.tup [D.tup [D.tup [D.tup [D.int 1], D.tup [D.int 0, D.int 2]], D.tup [D.tup [D.int 0, D.int 1, D.int 2]], D.tup [D.tup [D.int 2]]], D.tup [D.int 0, D.int 1]]] = ret (.str t1) := ht1
  simp [ht1'', opNe_str]
  rw [← hT]
  unfold t_law_are_lots_right_3
  simp
  refine p_next_lots ns (by decide) (by decide) L4_good (by decide) L4_kind fun s3 f3 => ?_
  rw [L4_next, repr_next]
  simp [opEq_str, z 0 (by decide)]
  have eN : D.tup [] = lotsD [] := rfl
  rw [eN]
  refine p_next_lots ns (by decide) (by decide) (by simp) (by decide) (by decide) fun s4 f4 => ?_
  rw [L0_next, repr_full]
  simp [opEq_str]
  exact q _ (((f1.trans f2).trans f3).trans f4)
theorem right_spec (ns : List Int) {l : Nat} {st : Sto} (hp : Pot l 0 st) : wp (m_law_right ns [.loc l]) st fun r st' => r = .bl true ∧ Fr [l] st st' := by
  have e0 : m_law_right ns = runB 1 (t_law_right_1 ns) := rfl
  rw [e0]
  simp only [runB_eq, wp_bnd]
  unfold t_law_right_1
  simp [startE]
  refine steps_spec ns hp (by omega) fun s1 o1 f1 => ?_
  simp
  refine exch_spec ns o1 (by omega) fun s2 o2 f2 => ?_
  simp
  refine lots_spec ns fun s3 f3 => ?_
  exact ⟨rfl, (f1.trans f2).trans f3.up⟩
theorem law_true (ns : List Int) (hn : ns.length ≤ 63) : ∃ st, m_law ns [.scr] [] = .ok (.bl true) st :=
  law_all (L := 2) (mp := m_law_pot ns) (mr := m_law_right ns) hn (by decide) rfl sm2 fun l st hp => right_spec ns hp
end Lk15
end
open PySem PySem.W PySem.Calls PyProof.Rows
set_option maxHeartbeats 0 in
theorem PySem.Challenge.cw_onestillview_k15_beats_by_hand_holds : PySem.Challenge.rw_onestillview_k15_beats_by_hand.Holds := by
  w_on; o_law
  refine HandSHeadRun.head_any (r := OpenLaw.row PySem.Challenge.rw_onestillview_k15_beats_by_hand) (q := view (OpenLaw.row PySem.Challenge.rw_onestillview_k15_beats_by_hand).prog [91]) (H := Lk15.hk) (ob := Lk15.ob) (M := 20000) (loose := Lk15.loose) (d := HandSHeadRun.topDef (OpenLaw.row PySem.Challenge.rw_onestillview_k15_beats_by_hand).prog 91) (kwd := []) Lk15.ob_eq
    (by kernel_rfl) (fun s => by kernel_rfl) Lk15.run (by kernel_rfl) (by kernel_rfl) (by kernel_rfl) (by rfl) (by first | assumption | decide +kernel) (by decide +kernel) ⟨rfl, rfl, rfl, rfl, rfl, by decide +kernel⟩ ?hw ?hc
  case hw => w_witness2
  case hc =>
    refine Pm.walkG (l := PySem.Challenge.rw_onestillview_k15_beats_by_hand) (n := 63) (k := 13) (x := "script") (m := Lk15.m_law) (CX := fun w => L2.CX (PySem.Challenge.rw_onestillview_k15_beats_by_hand).prog w) rfl (by decide) (by kernel_rfl) ⟨rfl, by decide, by decide⟩ ?F Lk15.law_true (fun w H s e s' z => ?hx)
    case hx =>
      obtain ⟨_, _, _, _, _, _, _, _, _, _, _, _, z⟩ := z
      exact z.elim
    intro w mg fa h Y G hmg0
    obtain ⟨K, KX, c⟩ := Y
    have hmg : mg ("law" : PySem.Str) = some (.ref fa) := by
      have e : (HandSHeadRun.topDef (OpenLaw.row PySem.Challenge.rw_onestillview_k15_beats_by_hand).prog 91).name = ("law" : PySem.Str) := by kernel_rfl
      rw [← e]
      exact hmg0
    obtain ⟨fd, hb, hF⟩ := Lk15.facts (P := (PySem.Challenge.rw_onestillview_k15_beats_by_hand).prog) (w := w) KX G hmg c
    exact ⟨K, fd, Pm.clK K, KX, hb, fun sa ns base b1 b2 => hF sa ns base b1 b2⟩
