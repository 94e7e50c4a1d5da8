import PyProof.Rows.All
import Wide.All
import OpenK.AllK
import Wide.FinOn
import HandS.ForMost
import HandS.ForExc
import HandS.TupAny
import HandS.Conv
import HandS.IsInst
import HandS.Flow
import HandS.Style
import HandS.SortInts
import PyProof.TupleOfSeq
import HandS.RaiseMore
import KE.KSortedM
import PyProof.ReprRoads
import PyProof.CallFns
import HandS.Walk
import HandS.Exc
import HandS.WordsExc
import HandS.Defaults
import HandS.HeadEnd
import KE.GoesMore
import HandS.Star
import HandS.Rev
import KE.GoesEnumKw
import HandS.Zip
import KE.GoesEnum
import HandS.HeadHook1
import HandS.HeadHook2
import HandS.HeadHook3
import HandS.HeadHook4
import HandS.SortRule
import KE.KSortTupG
import HandS.SetFor
import HandS.OwnEq
import HandS.StrMore
import HandS.SortKw
import HandS.TupMul
import HandS.Head0
import HandS.Head1
import HandS.Head2
import PyProof.FitsInt
import KE.IntBitsLaws
import PySem.Challenge.RW_onestillview_k38_whole_fewest_deeds_by_t
section
set_option Elab.async false
set_option linter.all false
set_option maxRecDepth 100000
namespace Pm
open PySem PySem.Spec PyProof.Rows L2

/-- data: what a value is, without addresses; loc: an object that may change -/
inductive D where
  | non | bl (b : Bool) | int (i : Int) | str (s : Str) | tup (xs : List D) | loc (n : Nat) | scr

mutual
def D.deq : (a b : D) → Decidable (a = b)
  | .non, .non => Decidable.isTrue rfl
  | .bl a, .bl b => if h : a = b then Decidable.isTrue (by rw [h]) else isFalse (fun e => h (D.bl.inj e))
  | .int a, .int b => if h : a = b then Decidable.isTrue (by rw [h]) else isFalse (fun e => h (D.int.inj e))
  | .str a, .str b => if h : a = b then Decidable.isTrue (by rw [h]) else isFalse (fun e => h (D.str.inj e))
  | .tup a, .tup b => match D.deqs a b with
    | .isTrue h => Decidable.isTrue (by rw [h])
    | .isFalse h => isFalse (fun e => h (D.tup.inj e))
  | .loc a, .loc b => if h : a = b then Decidable.isTrue (by rw [h]) else isFalse (fun e => h (D.loc.inj e))
  | .scr, .scr => Decidable.isTrue rfl
  | .non, .bl _ => isFalse nofun | .non, .int _ => isFalse nofun | .non, .str _ => isFalse nofun | .non, .tup _ => isFalse nofun | .non, .loc _ => isFalse nofun | .non, .scr => isFalse nofun
  | .bl _, .non => isFalse nofun | .bl _, .int _ => isFalse nofun | .bl _, .str _ => isFalse nofun | .bl _, .tup _ => isFalse nofun | .bl _, .loc _ => isFalse nofun | .bl _, .scr => isFalse nofun
  | .int _, .non => isFalse nofun | .int _, .bl _ => isFalse nofun | .int _, .str _ => isFalse nofun | .int _, .tup _ => isFalse nofun | .int _, .loc _ => isFalse nofun | .int _, .scr => isFalse nofun
  | .str _, .non => isFalse nofun | .str _, .bl _ => isFalse nofun | .str _, .int _ => isFalse nofun | .str _, .tup _ => isFalse nofun | .str _, .loc _ => isFalse nofun | .str _, .scr => isFalse nofun
  | .tup _, .non => isFalse nofun | .tup _, .bl _ => isFalse nofun | .tup _, .int _ => isFalse nofun | .tup _, .str _ => isFalse nofun | .tup _, .loc _ => isFalse nofun | .tup _, .scr => isFalse nofun
  | .loc _, .non => isFalse nofun | .loc _, .bl _ => isFalse nofun | .loc _, .int _ => isFalse nofun | .loc _, .str _ => isFalse nofun | .loc _, .tup _ => isFalse nofun | .loc _, .scr => isFalse nofun
  | .scr, .non => isFalse nofun | .scr, .bl _ => isFalse nofun | .scr, .int _ => isFalse nofun | .scr, .str _ => isFalse nofun | .scr, .tup _ => isFalse nofun | .scr, .loc _ => isFalse nofun
def D.deqs : (a b : List D) → Decidable (a = b)
  | [], [] => Decidable.isTrue rfl
  | [], _ :: _ => isFalse nofun
  | _ :: _, [] => isFalse nofun
  | x :: xs, y :: ys => match D.deq x y with
    | .isTrue h => match D.deqs xs ys with
      | .isTrue h' => Decidable.isTrue (by rw [h, h'])
      | .isFalse h' => isFalse (fun e => h' (List.cons.inj e).2)
    | .isFalse h => isFalse (fun e => h (List.cons.inj e).1)
end
instance : DecidableEq D := D.deq

/-- what stands at a loc -/
inductive O where
  | lst (xs : List D)
  | dct (kvs : List (Key × D))
  /-- an instance of the class of this name, its attributes -/
  | ins (x : Str) (fs : List (Str × D))
  deriving DecidableEq
abbrev Sto := List O
inductive Res (α : Type) where
  | ok (a : α) (st : Sto)
  | exc (c : Str) (d : D) (st : Sto)
  | stuck
abbrev M (α : Type) := Sto → Res α
def ret {α : Type} (a : α) : M α := fun st => .ok a st
def bnd {α β : Type} (m : M α) (k : α → M β) : M β := fun st => match m st with
  | .ok a st' => k a st'
  | .exc c d st' => .exc c d st'
  | .stuck => .stuck
def no {α : Type} : M α := fun _ => .stuck
def raise {α : Type} (c : Str) (d : D) : M α := fun st => .exc c d st

/-- the context of a law: the written part, the script -/
structure Ct where
  K : PySem.W.Frag
  sa : Addr
  ns : List Int
  /-- the class of the program by its name -/
  cl : Str → Option Addr

/-- the object there has no dict of its own -/
def DL (K : PySem.W.Frag) (H : Hp) (a : Addr) : Prop := (∃ o u, H a = some (.frz o u) ∧ o.dict = none) ∨ ∃ o, K.lookup a = some o ∧ o.dict = none
section
variable (c : Ct) (bs : List Addr) (H : Hp)
mutual
inductive RD : V → D → Prop
  | non : RD .non .non
  | bl (b : Bool) : RD (.bl b) (.bl b)
  | int (i : Int) : RD (.int i) (.int i)
  | str (x : Str) : RD (.str x) (.str x)
  | tup {a : Addr} {vs : List V} {ds : List D} : SqT c.K H a vs → DL c.K H a → RDs vs ds → RD (.ref a) (.tup ds)
  | loc {a : Addr} {n : Nat} : bs[n]? = some a → RD (.ref a) (.loc n)
  | scr : RD (.ref c.sa) .scr
inductive RDs : List V → List D → Prop
  | nil : RDs [] []
  | cons {v : V} {d : D} {vs : List V} {ds : List D} : RD v d → RDs vs ds → RDs (v :: vs) (d :: ds)
end
def ROb (a : Addr) : O → Prop
  | .lst xs => ∃ vs, H a = some (.lst vs) ∧ RDs c bs H vs xs
  | .dct kvs => ∃ vks : List (Key × V), H a = some (.dK vks) ∧ vks.map (·.1) = kvs.map (·.1) ∧ RDs c bs H (vks.map (·.2)) (kvs.map (·.2))
  | .ins x fs => ∃ (C dx : Addr) (vfs : List (Str × V)), c.cl x = some C ∧ H a = some (.ins C dx vfs) ∧ vfs.map (·.1) = fs.map (·.1) ∧ RDs c bs H (vfs.map (·.2)) (fs.map (·.2))
/-- the script, to be read -/
def Scr : Prop := (∃ o, H c.sa = some (.frz o (.lst (c.ns.map V.int)))) ∨ ∀ H', SqL c.K H' c.sa (c.ns.map V.int)
structure Rel (st : Sto) : Prop where
  len : bs.length = st.length
  obj : ∀ (l : Nat) (a : Addr) (o : O), bs[l]? = some a → st[l]? = some o → ROb c bs H a o
  nd : bs.Nodup
  scr : Scr c H
end
def Imm : HO → Prop
  | .tup _ => True
  | .frz _ _ => True
  | _ => False
structure Ext (bs : List Addr) (H : Hp) (bs' : List Addr) (H' : Hp) : Prop where
  pre : ∃ t, bs' = bs ++ t
  keep : ∀ a o, H a = some o → (a ∉ bs ∨ Imm o) → H' a = some o
  fresh : ∀ a, a ∈ bs' → a ∉ bs → H a = none

section
variable {c : Ct} {bs bs1 bs2 : List Addr} {H H1 H2 : Hp}
theorem Ext.refl : Ext bs H bs H := ⟨⟨[], by simp⟩, fun _ _ h _ => h, fun a h n => absurd h n⟩
theorem Ext.trans (e1 : Ext bs H bs1 H1) (e2 : Ext bs1 H1 bs2 H2) : Ext bs H bs2 H2 := by
  refine ⟨?_, fun a o h q => ?_, fun a h n => ?_⟩
  · obtain ⟨t, rfl⟩ := e1.pre
    obtain ⟨u, rfl⟩ := e2.pre
    exact ⟨t ++ u, by simp⟩
  · have h1 := e1.keep a o h q
    refine e2.keep a o h1 ?_
    rcases q with q | q
    · refine .inl fun z => ?_
      have := e1.fresh a z q
      rw [this] at h
      cases h
    · exact .inr q
  · by_cases z : a ∈ bs1
    · exact e1.fresh a z n
    · have q := e2.fresh a h z
      cases e : H a with
      | none => rfl
      | some o =>
        rw [e1.keep a o e (.inl n)] at q
        cases q
theorem Ext.get (e : Ext bs H bs1 H1) {n : Nat} {a : Addr} (h : bs[n]? = some a) : bs1[n]? = some a := by
  obtain ⟨t, rfl⟩ := e.pre
  have hl : n < bs.length := by
    rcases List.getElem?_eq_some_iff.mp h with ⟨q, _⟩
    exact q
  rw [List.getElem?_append_left hl]
  exact h
theorem Ext.sqT (e : Ext bs H bs1 H1) {a : Addr} {vs : List V} (h : SqT c.K H a vs) : SqT c.K H1 a vs := by
  rcases h with (h | ⟨o, h⟩) | h
  · exact .inl (.inl (e.keep _ _ h (.inr trivial)))
  · exact .inl (.inr ⟨o, e.keep _ _ h (.inr trivial)⟩)
  · exact .inr h
theorem Ext.scr (e : Ext bs H bs1 H1) (h : Scr c H) : Scr c H1 := by
  rcases h with ⟨o, h⟩ | h
  · exact .inl ⟨o, e.keep _ _ h (.inr trivial)⟩
  · exact .inr h
theorem Scr.sq (h : Scr c H) : SqL c.K H c.sa (c.ns.map V.int) := by
  rcases h with ⟨o, h⟩ | h
  · exact .inl (.inr ⟨o, h⟩)
  · exact h H
/-- what a change leaves: tuples and places -/
structure Pre (c : Ct) (bs : List Addr) (H : Hp) (bs1 : List Addr) (H1 : Hp) : Prop where
  get : ∀ (n : Nat) (a : Addr), bs[n]? = some a → bs1[n]? = some a
  sqT : ∀ a vs, SqT c.K H a vs → SqT c.K H1 a vs
  dl : ∀ a, DL c.K H a → DL c.K H1 a
theorem Ext.dl (e : Ext bs H bs1 H1) {a : Addr} (h : DL c.K H a) : DL c.K H1 a := h.imp (fun ⟨o, u, h1, h2⟩ => ⟨o, u, e.keep _ _ h1 (.inr trivial), h2⟩) id
theorem Ext.mov (e : Ext bs H bs1 H1) : Pre c bs H bs1 H1 := ⟨fun _ _ => e.get, fun _ _ => e.sqT, fun _ => e.dl⟩
mutual
theorem RD.mono (m : Pre c bs H bs1 H1) : ∀ {v : V} {d : D}, RD c bs H v d → RD c bs1 H1 v d
  | _, _, .non => .non
  | _, _, .bl b => .bl b
  | _, _, .int i => .int i
  | _, _, .str x => .str x
  | _, _, .tup s tl r => .tup (m.sqT _ _ s) (m.dl _ tl) (RDs.mono m r)
  | _, _, .loc h => .loc (m.get _ _ h)
  | _, _, .scr => .scr
theorem RDs.mono (m : Pre c bs H bs1 H1) : ∀ {vs : List V} {ds : List D}, RDs c bs H vs ds → RDs c bs1 H1 vs ds
  | _, _, .nil => .nil
  | _, _, .cons r t => .cons (RD.mono m r) (RDs.mono m t)
end
theorem RD.ext (e : Ext bs H bs1 H1) {v : V} {d : D} (h : RD c bs H v d) : RD c bs1 H1 v d := h.mono e.mov
theorem RDs.ext (e : Ext bs H bs1 H1) {vs : List V} {ds : List D} (h : RDs c bs H vs ds) : RDs c bs1 H1 vs ds := h.mono e.mov
theorem RDs.length : ∀ {vs : List V} {ds : List D}, RDs c bs H vs ds → vs.length = ds.length
  | _, _, .nil => rfl
  | _, _, .cons _ t => by simp [RDs.length t]
theorem RDs.get : ∀ {vs : List V} {ds : List D} {i : Nat} {d : D}, RDs c bs H vs ds → ds[i]? = some d → ∃ v, vs[i]? = some v ∧ RD c bs H v d
  | _, _, _, _, .nil, e => by simp at e
  | _, _, 0, _, .cons r _, e => by simp at e; subst e; exact ⟨_, rfl, r⟩
  | _, _, i + 1, _, .cons _ t, e => by
    obtain ⟨v, h1, h2⟩ := RDs.get (i := i) t (by simpa using e)
    exact ⟨v, by simpa using h1, h2⟩
theorem RDs.getV : ∀ {vs : List V} {ds : List D} {i : Nat} {v : V}, RDs c bs H vs ds → vs[i]? = some v → ∃ d, ds[i]? = some d ∧ RD c bs H v d
  | _, _, _, _, .nil, e => by simp at e
  | _, _, 0, _, .cons r _, e => by simp at e; subst e; exact ⟨_, rfl, r⟩
  | _, _, i + 1, _, .cons _ t, e => by
    obtain ⟨v, h1, h2⟩ := RDs.getV (i := i) t (by simpa using e)
    exact ⟨v, by simpa using h1, h2⟩
theorem RDs.append : ∀ {vs ws : List V} {ds es : List D}, RDs c bs H vs ds → RDs c bs H ws es → RDs c bs H (vs ++ ws) (ds ++ es)
  | _, _, _, _, .nil, s => s
  | _, _, _, _, .cons r t, s => .cons r (RDs.append t s)
theorem RDs.set {v : V} {d : D} (r : RD c bs H v d) : ∀ {vs : List V} {ds : List D} (i : Nat), RDs c bs H vs ds → RDs c bs H (vs.set i v) (ds.set i d)
  | _, _, _, .nil => .nil
  | _, _, 0, .cons _ t => .cons r t
  | _, _, i + 1, .cons q t => .cons q (RDs.set r i t)
theorem RDs.take : ∀ {vs : List V} {ds : List D} (n : Nat), RDs c bs H vs ds → RDs c bs H (vs.take n) (ds.take n)
  | _, _, 0, _ => .nil
  | _, _, _ + 1, .nil => .nil
  | _, _, n + 1, .cons r t => .cons r (RDs.take n t)
theorem RDs.drop : ∀ {vs : List V} {ds : List D} (n : Nat), RDs c bs H vs ds → RDs c bs H (vs.drop n) (ds.drop n)
  | _, _, 0, r => r
  | _, _, _ + 1, .nil => .nil
  | _, _, n + 1, .cons r t => RDs.drop n t
theorem RDs.reverse : ∀ {vs : List V} {ds : List D}, RDs c bs H vs ds → RDs c bs H vs.reverse ds.reverse
  | _, _, .nil => .nil
  | _, _, .cons r t => by simp only [List.reverse_cons]; exact RDs.append (RDs.reverse t) (.cons r .nil)
theorem RDs.ints : ∀ (ns : List Int), RDs c bs H (ns.map V.int) (ns.map D.int)
  | [] => .nil
  | n :: ns => .cons (.int n) (RDs.ints ns)
theorem RDs.atI {vs : List V} {ds : List D} (r : RDs c bs H vs ds) {i : Int} {d : D} (h : L2.atI ds i = some d) : ∃ v, L2.atI vs i = some v ∧ RD c bs H v d := by
  unfold L2.atI at h ⊢
  rw [r.length]
  cases e : ixN ds.length i with
  | none => rw [e] at h; cases h
  | some j =>
    rw [e] at h
    exact r.get h
end
end Pm
end
section
set_option Elab.async false
set_option linter.all false
set_option maxRecDepth 100000
namespace Pm
open PySem PySem.Spec PyProof.Rows L2

/-! ### what is wanted behind a run -/
abbrev Wh := Str → D → List Addr → Hp → Prop
def Post {α : Type} (c : Ct) (ex : Wh) (r : Res α) (bs : List Addr) (H : Hp) (k : α → Sto → List Addr → Hp → Prop) : Prop :=
  match r with
  | .ok a st' => ∀ bs' H', Ext bs H bs' H' → Rel c bs' H' st' → k a st' bs' H'
  | .exc n d st' => ∀ bs' H', Ext bs H bs' H' → Rel c bs' H' st' → ex n d bs' H'
  | .stuck => False
section
variable {c : Ct} {ex : Wh} {α β : Type} {bs bs1 bs2 : List Addr} {H H1 H2 : Hp} {st : Sto}
theorem Post.far {r : Res α} {k : α → Sto → List Addr → Hp → Prop} (p : Post c ex r bs H k) (e : Ext bs H bs1 H1) : Post c ex r bs1 H1 k := by
  cases r with
  | ok a st' => exact fun b' H' e' rl => p b' H' (e.trans e') rl
  | exc n d st' => exact fun b' H' e' rl => p b' H' (e.trans e') rl
  | stuck => exact p
theorem Post.bnd {m : M α} {f : α → M β} {k : β → Sto → List Addr → Hp → Prop} (p : Post c ex (bnd m f st) bs H k) : Post c ex (m st) bs H fun a st1 bs1 H1 => Post c ex (f a st1) bs1 H1 k := by
  unfold Pm.bnd at p
  cases e : m st with
  | ok a st' =>
    rw [e] at p
    exact fun b' H' e' rl => Post.far p e'
  | exc n d st' =>
    rw [e] at p
    exact p
  | stuck =>
    rw [e] at p
    exact p
theorem Post.imp {r : Res α} {k k' : α → Sto → List Addr → Hp → Prop} (p : Post c ex r bs H k) (q : ∀ a st' bs' H', Ext bs H bs' H' → Rel c bs' H' st' → k a st' bs' H' → k' a st' bs' H') : Post c ex r bs H k' := by
  cases r with
  | ok a st' => exact fun b' H' e' rl => q _ _ _ _ e' rl (p b' H' e' rl)
  | exc n d st' => exact p
  | stuck => exact p
theorem Post.now {a : α} {k : α → Sto → List Addr → Hp → Prop} (p : Post c ex (ret a st) bs H k) (rl : Rel c bs H st) : k a st bs H := p bs H Ext.refl rl
theorem Post.of {a : α} {k : α → Sto → List Addr → Hp → Prop} (p : Post c ex (.ok a st) bs H k) (rl : Rel c bs H st) : k a st bs H := p bs H Ext.refl rl
theorem Post.at {a : α} {k : α → Sto → List Addr → Hp → Prop} (p : Post c ex (.ok a st) bs H k) (e : Ext bs H bs1 H1) (rl : Rel c bs1 H1 st) : k a st bs1 H1 := p bs1 H1 e rl
/-- only so -/
theorem Post.iff {p : Prop} [Decidable p] {m : M α} {k : α → Sto → List Addr → Hp → Prop} (q : Post c ex ((if p then m else no) st) bs H k) : p ∧ Post c ex (m st) bs H k := by
  by_cases h : p
  · rw [if_pos h] at q
    exact ⟨h, q⟩
  · rw [if_neg h] at q
    exact q.elim
end

/-! ### the slots -/
abbrev En := List (Option D)
structure RE (c : Ct) (bs : List Addr) (H : Hp) (ρ : En) (σ : L2.St) : Prop where
  len : σ.length = ρ.length
  val : ∀ (i : Nat) (d : D), ρ[i]? = some (some d) → ∃ v, σ[i]? = some (some v) ∧ RD c bs H v d
section
variable {c : Ct} {ex : Wh} {bs bs1 bs2 : List Addr} {H H1 H2 : Hp} {st : Sto} {ρ : En} {σ : L2.St}
theorem RE.ext (r : RE c bs H ρ σ) (e : Ext bs H bs1 H1) : RE c bs1 H1 ρ σ := ⟨r.len, fun i d h => let ⟨v, a, b⟩ := r.val i d h; ⟨v, a, b.ext e⟩⟩
theorem RE.set (r : RE c bs H ρ σ) {v : V} {d : D} (h : RD c bs H v d) (i : Nat) : RE c bs H (ρ.set i (some d)) (σ.set i (some v)) := by
  refine ⟨by rw [List.length_set, List.length_set, r.len], fun j e q => ?_⟩
  by_cases hj : i = j
  · subst hj
    have hl : i < ρ.length := by
      obtain ⟨z, _⟩ := List.getElem?_eq_some_iff.mp q
      rw [List.length_set] at z
      exact z
    rw [List.getElem?_set_self hl] at q
    cases q
    exact ⟨v, List.getElem?_set_self (by rw [r.len]; exact hl), h⟩
  · rw [List.getElem?_set_ne hj] at q ⊢
    exact r.val j e q
end

/-! ### readings -/
abbrev ME := En → M D
abbrev MT := En → M Bool
abbrev MA := En → M (List D)
inductive Fl where
  | nx | bk | ct | rt (d : D)
abbrev MS := En → M (Fl × En)
def tE (c : Ct) (ex : Wh) (f : ME) : TE := fun σ H Q => ∃ ρ st bs, Rel c bs H st ∧ RE c bs H ρ σ ∧ Post c ex (f ρ st) bs H fun d _ bs' H' => ∀ v, RD c bs' H' v d → Q v H'
def tT (c : Ct) (ex : Wh) (f : MT) : TT := fun σ H Q => ∃ ρ st bs, Rel c bs H st ∧ RE c bs H ρ σ ∧ Post c ex (f ρ st) bs H fun b _ _ H' => Q b H'
def tA (c : Ct) (ex : Wh) (f : MA) : TA := fun σ H Q => ∃ ρ st bs, Rel c bs H st ∧ RE c bs H ρ σ ∧ Post c ex (f ρ st) bs H fun ds _ bs' H' => ∀ vs, RDs c bs' H' vs ds → Q vs H'
def Fin (c : Ct) (E : Ends) (bs : List Addr) (H : Hp) (σ : L2.St) : Fl → Prop
  | .nx => E.nx σ H
  | .bk => E.bk σ H
  | .ct => E.ct σ H
  | .rt d => ∀ v, RD c bs H v d → E.rt v H
def tS (c : Ct) (ex : Wh) (f : MS) : TS := fun E σ H => ∃ ρ st bs, Rel c bs H st ∧ RE c bs H ρ σ ∧ Post c ex (f ρ st) bs H fun x _ bs' H' => ∀ σ', RE c bs' H' x.2 σ' → Fin c E bs' H' σ' x.1

theorem PE_imp {X : Cx} {e : Expr} {t t' : TE} (h : PE X e t) (i : ∀ σ H Q, t' σ H Q → t σ H Q) : PE X e t' := ⟨fun pins s σ H Q I q => h.run pins s σ H Q I (i σ H Q q)⟩
theorem PT_imp {X : Cx} {e : Expr} {t t' : TT} (h : PT X e t) (i : ∀ σ H Q, t' σ H Q → t σ H Q) : PT X e t' := ⟨fun pins s σ H Q I q => h.run pins s σ H Q I (i σ H Q q)⟩
theorem PW_imp {X : Cx} {e : Expr} {t t' : TT} (h : PW X e t) (i : ∀ σ H Q, t' σ H Q → t σ H Q) : PW X e t' := ⟨fun wh pins s σ H Q I q => h.run wh pins s σ H Q I (i σ H Q q)⟩
theorem PA_imp {X : Cx} {es : List Expr} {t t' : TA} (h : PA X es t) (i : ∀ σ H Q, t' σ H Q → t σ H Q) : PA X es t' := ⟨fun pos pins s σ H Q I q => h.run pos pins s σ H Q I (i σ H Q q)⟩
theorem PS_imp {X : Cx} {e : Stmt} {t t' : TS} (h : PS X e t) (i : ∀ E σ H, t' E σ H → t E σ H) : PS X e t' := ⟨fun pins s σ H E I q => h.run pins s σ H E I (i E σ H q)⟩
theorem PSs_imp {X : Cx} {e : List Stmt} {t t' : TS} (h : PSs X e t) (i : ∀ E σ H, t' E σ H → t E σ H) : PSs X e t' := ⟨fun pins s σ H E I q => h.run pins s σ H E I (i E σ H q)⟩
theorem PG_imp {X : Cx} {e : Expr} {t t' : TG} (h : PG X e t) (i : ∀ v σ H Q, t' v σ H Q → t v σ H Q) : PG X e t' := ⟨fun pins s σ H v u Q I r q => h.run pins s σ H v u Q I r (i v σ H Q q)⟩
theorem PGs_imp {X : Cx} {e : List Expr} {t t' : TGs} (h : PGs X e t) (i : ∀ v σ H Q, t' v σ H Q → t v σ H Q) : PGs X e t' := ⟨fun pins s σ H v u Q I r q => h.run pins s σ H v u Q I r (i v σ H Q q)⟩

/-! ### names, constants -/
def rd (i : Nat) : ME := fun ρ => match ρ[i]? with
  | some (some d) => ret d
  | _ => no
def kon (d : D) : ME := fun _ => ret d
section
variable {X : Cx} {c : Ct} {ex : Wh} {pos : Pos}
theorem tE_rd {i : Nat} {σ : L2.St} {H : Hp} {Q : VK} (h : tE c ex (rd i) σ H Q) : tVar i σ H Q := by
  obtain ⟨ρ, st, bs, rl, re, p⟩ := h
  unfold rd at p
  cases e : ρ[i]? with
  | none =>
    rw [e] at p
    exact p.elim
  | some o =>
    rw [e] at p
    cases o with
    | none => exact p.elim
    | some d =>
      obtain ⟨v, hv, r⟩ := re.val i d e
      exact ⟨v, hv, p.now rl v r⟩
theorem md_var (i : Nat) {x : Str} (hN : X.N[i]? = some x := by rfl) (hv : Vis X.env.scope x := by first | exact Or.inl rfl | exact Or.inr (Or.inl rfl) | exact Or.inr (Or.inr rfl)) (hd : (x == ("__debug__" : Str)) = false := by decide)
    (hcd : (x == ("__classdict__" : Str)) = false := by decide) : PE X (.Name x pos) (tE c ex (rd i)) := PE_imp (pe_var hN hv hd hcd) fun _ _ _ => tE_rd
theorem tE_kon {d : D} {v : V} (r : ∀ bs H, RD c bs H v d) {σ : L2.St} {H : Hp} {Q : VK} (h : tE c ex (kon d) σ H Q) : tC v σ H Q := by
  obtain ⟨ρ, st, bs, rl, re, p⟩ := h
  exact p.now rl v (r _ _)
theorem md_int {i : Int} {j} : PE X (.Constant (.int i) j pos) (tE c ex (kon (.int i))) := PE_imp pe_int fun _ _ _ => tE_kon fun _ _ => .int i
theorem md_bl {b : Bool} {j} : PE X (.Constant (.bool b) j pos) (tE c ex (kon (.bl b))) := PE_imp pe_bl fun _ _ _ => tE_kon fun _ _ => .bl b
theorem md_non {j} : PE X (.Constant .none j pos) (tE c ex (kon .non)) := PE_imp pe_non fun _ _ _ => tE_kon fun _ _ => .non
theorem md_str {x : Str} {j} : PE X (.Constant (.str x) j pos) (tE c ex (kon (.str x))) := PE_imp pe_str fun _ _ _ => tE_kon fun _ _ => .str x
/-- a module's constant -/
theorem md_glob {x : Str} {v : V} {u : Value} {d : D} (hg : Gl X x) (hm : X.mg x = some u) (r : RelV v u) (rd : ∀ bs H, RD c bs H v d) (hd : (x == ("__debug__" : Str)) = false := by decide) : PE X (.Name x pos) (tE c ex (kon d)) :=
  PE_imp (pe_glob hg hm r hd) fun _ _ _ => tE_kon rd

/-! ### two and one -/
def bin (f g : ME) (op : D → D → M D) : ME := fun ρ => bnd (f ρ) fun x => bnd (g ρ) fun y => op x y
def una (f : ME) (op : D → M D) : ME := fun ρ => bnd (f ρ) op
def S2 (c : Ct) (ex : Wh) (g : D → D → M D) (r : R2) : Prop := ∀ x y d e bs H st Q, RD c bs H x d → RD c bs H y e → Rel c bs H st → Post c ex (g d e st) bs H (fun z _ bs' H' => ∀ v, RD c bs' H' v z → Q v H') → r x y H Q
def S1 (c : Ct) (ex : Wh) (g : D → M D) (r : V → Hp → VK → Prop) : Prop := ∀ x d bs H st Q, RD c bs H x d → Rel c bs H st → Post c ex (g d st) bs H (fun z _ bs' H' => ∀ v, RD c bs' H' v z → Q v H') → r x H Q
theorem tE_bnd {f : ME} {g : D → ME} {σ : L2.St} {H : Hp} {Q : VK} (h : tE c ex (fun ρ => bnd (f ρ) fun x => g x ρ) σ H Q) :
    ∃ ρ st bs, Rel c bs H st ∧ RE c bs H ρ σ ∧ Post c ex (f ρ st) bs H fun d st1 bs1 H1 => Post c ex (g d ρ st1) bs1 H1 fun z _ bs' H' => ∀ v, RD c bs' H' v z → Q v H' := by
  obtain ⟨ρ, st, bs, rl, re, p⟩ := h
  exact ⟨ρ, st, bs, rl, re, p.bnd⟩
theorem tE_bin {f g : ME} {op : D → D → M D} {r : R2} (s : S2 c ex op r) {σ : L2.St} {H : Hp} {Q : VK} (h : tE c ex (bin f g op) σ H Q) : tOp r (tE c ex f) (tE c ex g) σ H Q := by
  obtain ⟨ρ, st, bs, rl, re, p⟩ := h
  refine ⟨ρ, st, bs, rl, re, p.bnd.imp fun d st1 bs1 H1 e1 rl1 p1 v rv => ?_⟩
  refine ⟨ρ, st1, bs1, rl1, re.ext e1, p1.bnd.imp fun d2 st2 bs2 H2 e2 rl2 p2 w rw' => ?_⟩
  exact s _ _ _ _ _ _ _ _ (rv.ext e2) rw' rl2 p2
theorem md_bin {op : Operator} {r : R2} {g : D → D → M D} {a b : Expr} {fa fb : ME} (ho : OpR X (binaryOp op) r) (s : S2 c ex g r) (ha : PE X a (tE c ex fa)) (hb : PE X b (tE c ex fb)) : PE X (.BinOp a op b pos) (tE c ex (bin fa fb g)) :=
  PE_imp (pe_op ho ha hb) fun _ _ _ => tE_bin s
theorem tE_una {f : ME} {op : D → M D} {r : V → Hp → VK → Prop} (s : S1 c ex op r) {σ : L2.St} {H : Hp} {Q : VK} (h : tE c ex (una f op) σ H Q) : tUn r (tE c ex f) σ H Q := by
  obtain ⟨ρ, st, bs, rl, re, p⟩ := h
  exact ⟨ρ, st, bs, rl, re, p.bnd.imp fun d st1 bs1 H1 e1 rl1 p1 v rv => s _ _ _ _ _ _ rv rl1 p1⟩
theorem md_una {op : UnaryOp} {r : V → Hp → VK → Prop} {g : D → M D} {a : Expr} {fa : ME} (ho : UnR X (unaryOp op) r) (s : S1 c ex g r) (ha : PE X a (tE c ex fa)) : PE X (.UnaryOp op a pos) (tE c ex (una fa g)) :=
  PE_imp (pe_un ho ha) fun _ _ _ => tE_una s
theorem S2.orL {g : D → D → M D} {r r' : R2} (h : S2 c ex g r) : S2 c ex g (fun x y H Q => r x y H Q ∨ r' x y H Q) := fun x y d e bs H st Q a b l p => .inl (h x y d e bs H st Q a b l p)
/-- by the two values -/
theorem S2.or {p : D → D → Bool} {g1 g2 : D → D → M D} {r r' : R2} (h : S2 c ex g1 r) (h' : S2 c ex g2 r') : S2 c ex (fun d e => if p d e then g1 d e else g2 d e) (fun x y H Q => r x y H Q ∨ r' x y H Q) := fun x y d e bs H st Q a b l q => by
  by_cases z : p d e = true
  · have q' : Post c ex (g1 d e st) bs H (fun z _ bs' H' => ∀ v, RD c bs' H' v z → Q v H') := by
      simpa only [if_pos z] using q
    exact .inl (h x y d e bs H st Q a b l q')
  · have q' : Post c ex (g2 d e st) bs H (fun z _ bs' H' => ∀ v, RD c bs' H' v z → Q v H') := by
      simpa only [if_neg z] using q
    exact .inr (h' x y d e bs H st Q a b l q')
end
/-- two ints -/
def opI (C : Int → Int → Bool) (g : Int → Int → D) : D → D → M D
  | .int i, .int j => if C i j then ret (g i j) else no
  | _, _ => no
def opI0 (g : Int → Int → D) : D → D → M D
  | .int i, .int j => ret (g i j)
  | _, _ => no
section
variable {c : Ct} {ex : Wh}
theorem s2_I0 {g : Int → Int → D} {k : Int → Int → V} (hk : ∀ i j bs H, RD c bs H (k i j) (g i j)) : S2 c ex (opI0 g) (rI0 k) := by
  intro x y d e bs H st Q rx ry rl p
  cases rx with
  | int i =>
    cases ry with
    | int j => exact ⟨i, j, rfl, rfl, p.now rl _ (hk i j bs H)⟩
    | _ => exact p.elim
  | _ => exact p.elim
theorem s2_I {C : Int → Int → Bool} {C' : Int → Int → Prop} (hC : ∀ i j, C i j = true → C' i j) {g : Int → Int → D} {k : Int → Int → V} (hk : ∀ i j bs H, RD c bs H (k i j) (g i j)) : S2 c ex (opI C g) (rI C' k) := by
  intro x y d e bs H st Q rx ry rl p
  cases rx with
  | int i =>
    cases ry with
    | int j =>
      obtain ⟨h, p⟩ := Post.iff (m := ret (g i j)) p
      exact ⟨i, j, rfl, rfl, hC i j h, p.now rl _ (hk i j bs H)⟩
    | _ => exact p.elim
  | _ => exact p.elim
end
end Pm
namespace Pm
open PySem PySem.Spec PyProof.Rows L2
/-! ### new tuples, known to the object: without a dict of their own -/
abbrev tupO (us : List Value) : Obj := { cls := .type "tuple", data := .seq us.toArray }
abbrev frT (us : List Value) (xs : List V) : HO := .frz (tupO us) (.tup xs)
theorem sqF {K : PySem.W.Frag} {H : Hp} {p : Addr} {us : List Value} {xs : List V} : SqT K (upd H p (frT us xs)) p xs := .inl (.inr ⟨_, upd_same⟩)
theorem dlF {K : PySem.W.Frag} {H : Hp} {p : Addr} {us : List Value} {xs : List V} : DL K (upd H p (frT us xs)) p := .inl ⟨_, _, upd_same, rfl⟩
theorem tupF_ok {P : Program} {w : World} {H : Hp} {h : Heap} {a : Addr} {us : List Value} {xs : List V} (z : xs.length ≤ sizeLine) (r : Vals xs us) (e : h.get? a = some (tupO us)) : ObjOk P w H h a (frT us xs) := ⟨e, z, us, r, ⟨_, e, rfl, _, rfl⟩⟩
section
variable {X : Cx} {e : Expr} {es : List Expr} {t : TA} {te : TE} {pos p : Pos}
theorem tupN {pins : List (Addr × Obj)} {σ : L2.St} {H : Hp} {s : Shared} {us : List Value} {xs : List V} (I : Inv X pins σ H s) (z : xs.length ≤ sizeLine) (r : Vals xs us) (tk : Nat) : Inv X pins σ (upd H s.heap.objs.size (frT us xs)) { s with heap := s.heap.push (tupO us), toks := tk } :=
  I.laid (o := frT us xs) (fun b u e => Heap.get?_push_of_some _ e) (Nat.le_refl _) (tupF_ok z r (Heap.get?_push_size _ rfl))
def tTupF (t : TA) : TE := fun σ H Q => t σ H fun xs H1 => xs.length ≤ sizeLine ∧ ∀ p us, H1 p = none → Q (.ref p) (upd H1 p (frT us xs))
theorem pe_tupF {x1} (h : PA X es t) : PE X (.Tuple es x1 pos) (tTupF t) := ⟨fun pins s σ H Q I hq =>
  wpAny_Tuple_spliced (thn (h.run pos pins s σ H _ I hq) fun us s1 ⟨xs, H1, I1, r, z, q⟩ => ⟨by rw [← r.length]; exact z, .ref s1.heap.objs.size, _, tupN I1 z r s1.toks, rfl, q _ us (I1.hok.fresh (Nat.le_refl _))⟩)⟩
/-- tuple(x) of a list, of a tuple -/
theorem call_tupleF : CallR X (.type "tuple") (fun xs H Q => ∃ p ys, xs = [.ref p] ∧ ((SqL X.K H p ys ∧ ∀ l us, H l = none → Q (.ref l) (upd H l (frT us ys))) ∨ (SqT X.K H p ys ∧ Q (.ref p) H))) := by
  intro pins s σ H xs us Q I r ⟨p, ys, ex, h⟩
  subst ex
  obtain ⟨u, rfl, rx⟩ := vals1 r
  cases rx
  rcases h with ⟨hq, q⟩ | ⟨hq, q⟩
  · obtain ⟨its, r', pl, hz⟩ := I.list hq
    have hn := r'.length
    refine call_tuple_list pl.isList (fun h' kp => ?_) (by simp only [List.size_toArray] <;> omega)
    have I1 : Inv X pins σ H { s with heap := h' } := I.kept (t' := s.toks) kp
    exact ⟨.ref h'.objs.size, _, tupN I1 hz r' s.toks, rfl, q _ its (I1.hok.fresh (Nat.le_refl _))⟩
  · obtain ⟨_, _, pl, _⟩ := I.tuple hq
    exact call_tuple_same pl ⟨.ref p, H, I, rfl, q⟩
/-- t + u -/
def rCatF (K : PySem.W.Frag) : R2 := fun x y H Q => ∃ a b xs ys, x = .ref a ∧ y = .ref b ∧ SqT K H a xs ∧ SqT K H b ys ∧ xs.length + ys.length ≤ sizeLine ∧
  (xs = [] → Q (.ref b) H) ∧ (xs ≠ [] → ys = [] → Q (.ref a) H) ∧ (xs ≠ [] → ys ≠ [] → ∀ p us, H p = none → Q (.ref p) (upd H p (frT us (xs ++ ys))))
theorem op_catF : OpR X (binaryOp .Add) (rCatF X.K) := by
  intro pins s σ H x y v u Q I rx ry ⟨a, b, xs, ys, ex, ey, ha, hb, hz, q0, q1, q2⟩
  subst ex ey
  cases rx
  cases ry
  obtain ⟨is1, r1, p1, _⟩ := I.tuple ha
  obtain ⟨is2, r2, p2, _⟩ := I.tuple hb
  by_cases hx : xs = []
  · subst hx
    cases r1
    exact cat_tup0 p1 p2 ⟨.ref b, H, I, rfl, q0 rfl⟩
  · refine HT.cat_tup p1 p2 (fun z => hx (r1.nil_iff.mp z)) (fun z => ⟨.ref a, H, I, rfl, q1 hx (r2.nil_iff.mp z)⟩) (fun z => ?_) (by rw [← r1.length, ← r2.length]; exact hz)
    exact ⟨.ref s.heap.objs.size, _, tupN I (by rw [List.length_append]; exact hz) (r1.append r2) s.toks, rfl, q2 hx (fun w => z (r2.nil_iff.mpr w)) _ _ (I.hok.fresh (Nat.le_refl _))⟩
/-- t[lo:hi] -/
def rSlF (K : PySem.W.Frag) : V → Option Int → Option Int → Hp → VK → Prop := fun x lo hi H Q => ∃ a xs, x = .ref a ∧ SqT K H a xs ∧
  (HT.sIx xs.length 0 lo = 0 ∧ HT.sIx xs.length xs.length hi = xs.length → Q (.ref a) H) ∧ (¬ (HT.sIx xs.length 0 lo = 0 ∧ HT.sIx xs.length xs.length hi = xs.length) → ∀ p us, H p = none → Q (.ref p) (upd H p (frT us (cutV xs lo hi))))
theorem sl_tupF : SlR X (rSlF X.K) := by
  intro pins s σ H x v vl vu lo hi sl Q I rx hs pl pu ⟨a, xs, ex, hx, q1, q2⟩
  subst ex
  cases rx
  obtain ⟨its, r, ht, hz⟩ := I.tuple hx
  have hn : its.toArray.size = xs.length := by rw [List.size_toArray, r.length]
  refine ⟨"tuple", _, PyProof.Rows.slot_tuple_getitem.lookup, ht.typeIs, ?_⟩
  by_cases hw : HT.sIx xs.length 0 lo = 0 ∧ HT.sIx xs.length xs.length hi = xs.length
  · exact getItem_tuple_whole ht hs pl pu (by rw [hn]; exact hw) ⟨.ref a, H, I, rfl, q1 hw⟩
  · refine HT.getItem_tuple_cut ht hs pl pu (by rw [hn]; exact hw) ?_ (by rw [hn]; exact hz)
    rw [hn]
    exact ⟨.ref s.heap.objs.size, _, tupN I (xs := cutV xs lo hi) (Nat.le_trans (cutV_length xs lo hi) hz) ((r.drop (HT.sIx xs.length 0 lo)).take (HT.sIx xs.length xs.length hi - HT.sIx xs.length 0 lo)) s.toks, rfl, q2 hw _ _ (I.hok.fresh (Nat.le_refl _))⟩
end
end Pm
end
section
set_option Elab.async false
set_option linter.all false
set_option maxRecDepth 100000
namespace Pm
open PySem PySem.Spec PyProof.Rows L2

/-! ### changes of the heap -/
section
variable {c : Ct} {ex : Wh} {bs : List Addr} {H : Hp} {st : Sto} {p a : Addr} {o : HO} {vs : List V} {xs : List D} {l : Nat}
theorem Rel.here (rl : Rel c bs H st) (h : a ∈ bs) : ∃ o, H a = some o ∧ ¬ Imm o := by
  obtain ⟨i, hi, e⟩ := List.getElem_of_mem h
  have e1 : bs[i]? = some a := by rw [List.getElem?_eq_getElem hi, e]
  have hi2 : i < st.length := by rw [← rl.len]; exact hi
  have q := rl.obj i a st[i] e1 (List.getElem?_eq_getElem hi2)
  cases e2 : st[i] with
  | lst xs =>
    rw [e2] at q
    obtain ⟨vs, q, _⟩ := q
    exact ⟨_, q, fun z => z⟩
  | dct kvs =>
    rw [e2] at q
    obtain ⟨vs, q, _⟩ := q
    exact ⟨_, q, fun z => z⟩
  | ins x fs =>
    rw [e2] at q
    obtain ⟨C, dx, vfs, _, q, _⟩ := q
    exact ⟨_, q, fun z => z⟩
theorem ROb.same {c : Ct} {bs bs' : List Addr} {H H' : Hp} (m : Pre c bs H bs' H') (e : H' a = H a) {o : O} (h : ROb c bs H a o) : ROb c bs' H' a o := by
  cases o with
  | lst xs =>
    obtain ⟨vs, q, r⟩ := h
    exact ⟨vs, e.trans q, r.mono m⟩
  | dct kvs =>
    obtain ⟨vs, q, e2, r⟩ := h
    exact ⟨vs, e.trans q, e2, r.mono m⟩
  | ins x fs =>
    obtain ⟨C, dx, vfs, h1, q, e2, r⟩ := h
    exact ⟨C, dx, vfs, h1, e.trans q, e2, r.mono m⟩
/-- a new object that nothing tells of -/
theorem Rel.fresh (rl : Rel c bs H st) (hp : H p = none) (o : HO) : Ext bs H bs (upd H p o) ∧ Rel c bs (upd H p o) st := by
  have e : Ext bs H bs (upd H p o) := ⟨⟨[], by simp⟩, fun b u h _ => by rw [upd_ne (ne_of_none h hp)]; exact h, fun b h n => absurd h n⟩
  refine ⟨e, ⟨rl.len, fun l b u h1 h2 => ?_, rl.nd, e.scr rl.scr⟩⟩
  obtain ⟨w, hw, _⟩ := rl.here (List.mem_of_getElem? h1)
  exact (rl.obj l b u h1 h2).same e.mov (upd_ne (ne_of_none hw hp))
/-- a new object -/
theorem Rel.laid (rl : Rel c bs H st) (hp : H p = none) {u0 : O} (r : Pre c bs H (bs ++ [p]) (upd H p o) → ROb c (bs ++ [p]) (upd H p o) p u0) : Ext bs H (bs ++ [p]) (upd H p o) ∧ Rel c (bs ++ [p]) (upd H p o) (st ++ [u0]) := by
  have nb : p ∉ bs := fun z => by
    obtain ⟨w, hw, _⟩ := rl.here z
    rw [hp] at hw
    cases hw
  have e : Ext bs H (bs ++ [p]) (upd H p o) := ⟨⟨[p], rfl⟩, fun b u h _ => by rw [upd_ne (ne_of_none h hp)]; exact h, fun b h n => by
    rcases List.mem_append.mp h with z | z
    · exact absurd z n
    · rw [List.mem_singleton.mp z]
      exact hp⟩
  refine ⟨e, ⟨by simp [rl.len], fun l b u h1 h2 => ?_, ?_, e.scr rl.scr⟩⟩
  · by_cases hl : l < bs.length
    · rw [List.getElem?_append_left hl] at h1
      rw [List.getElem?_append_left (by rw [← rl.len]; exact hl)] at h2
      obtain ⟨w, hw, _⟩ := rl.here (List.mem_of_getElem? h1)
      exact (rl.obj l b u h1 h2).same e.mov (upd_ne (ne_of_none hw hp))
    · have el : l = bs.length := by
        obtain ⟨z, _⟩ := List.getElem?_eq_some_iff.mp h1
        simp at z
        omega
      subst el
      rw [List.getElem?_append_right (Nat.le_refl _)] at h1
      rw [List.getElem?_append_right (by rw [rl.len]; exact Nat.le_refl _)] at h2
      simp at h1
      simp [rl.len] at h2
      subst h1 h2
      exact r e.mov
  · rw [List.nodup_append]
    exact ⟨rl.nd, by simp, fun x hx y hy => by rw [List.mem_singleton.mp hy]; exact fun z => nb (z ▸ hx)⟩
/-- a new list -/
theorem Rel.alloc (rl : Rel c bs H st) (hp : H p = none) (r : RDs c bs H vs xs) : Ext bs H (bs ++ [p]) (upd H p (.lst vs)) ∧ Rel c (bs ++ [p]) (upd H p (.lst vs)) (st ++ [.lst xs]) :=
  rl.laid hp fun m => ⟨vs, upd_same, r.mono m⟩
/-- an object that changes -/
theorem Rel.chg (rl : Rel c bs H st) (hb : bs[l]? = some a) {u0 : O} (r : Pre c bs H bs (upd H a o) → ROb c bs (upd H a o) a u0) : Ext bs H bs (upd H a o) ∧ Rel c bs (upd H a o) (st.set l u0) := by
  obtain ⟨ws, hw, hi⟩ := rl.here (List.mem_of_getElem? hb)
  have e : Ext bs H bs (upd H a o) := ⟨⟨[], by simp⟩, fun b u h q => by
    have n : b ≠ a := fun z => by
      subst z
      rcases q with q | q
      · exact q (List.mem_of_getElem? hb)
      · rw [hw] at h
        cases h
        exact hi q
    rw [upd_ne n]
    exact h, fun b h n => absurd h n⟩
  refine ⟨e, ⟨by simp [rl.len], fun k b u h1 h2 => ?_, rl.nd, e.scr rl.scr⟩⟩
  by_cases hk : l = k
  · subst hk
    rw [hb] at h1
    cases h1
    have z : l < st.length := by
      rw [← rl.len]
      exact (List.getElem?_eq_some_iff.mp hb).1
    rw [List.getElem?_set_self z] at h2
    cases h2
    exact r e.mov
  · rw [List.getElem?_set_ne hk] at h2
    have n : b ≠ a := fun z => by
      subst z
      exact hk ((List.getElem?_inj (List.getElem?_eq_some_iff.mp hb).1 rl.nd).mp (hb.trans h1.symm))
    exact (rl.obj k b u h1 h2).same e.mov (upd_ne n)
/-- a list that changes -/
theorem Rel.put (rl : Rel c bs H st) (hb : bs[l]? = some a) {ys : List D} (hl : st[l]? = some (.lst ys)) (r : RDs c bs H vs xs) : Ext bs H bs (upd H a (.lst vs)) ∧ Rel c bs (upd H a (.lst vs)) (st.set l (.lst xs)) :=
  rl.chg hb fun m => ⟨vs, upd_same, r.mono m⟩
end
def alloc (xs : List D) : M D := fun st => .ok (.loc st.length) (st ++ [.lst xs])
def lst (l : Nat) : M (List D) := fun st => match st[l]? with
  | some (.lst xs) => .ok xs st
  | _ => .stuck
def put (l : Nat) (xs : List D) : M Unit := fun st => .ok () (st.set l (.lst xs))
/-- what stands there, of any kind -/
def obj (l : Nat) : M O := fun st => match st[l]? with
  | some o => .ok o st
  | none => .stuck
def allocO (o : O) : M D := fun st => .ok (.loc st.length) (st ++ [o])
def putO (l : Nat) (o : O) : M Unit := fun st => .ok () (st.set l o)
def dkey : D → Option Key
  | .int i => some (.inl i)
  | .str x => some (.inr x)
  | _ => none
def getK (kvs : List (Key × D)) (k : Key) : Option D := (kvs.find? fun kv => decide (kv.1 = k)).map (·.2)
def setK (kvs : List (Key × D)) (k : Key) (d : D) : List (Key × D) := if (kvs.any fun kv => decide (kv.1 = k)) = true then kvs.map (fun kv => if kv.1 = k then (kv.1, d) else kv) else kvs ++ [(k, d)]
section
variable {c : Ct} {ex : Wh} {bs : List Addr} {H : Hp} {st : Sto} {p a : Addr} {o : HO} {vs : List V} {xs : List D} {l : Nat} {α : Type}
theorem post_alloc {k : D → Sto → List Addr → Hp → Prop} (q : Post c ex (alloc xs st) bs H k) (rl : Rel c bs H st) (hp : H p = none) (r : RDs c bs H vs xs) :
    k (.loc st.length) (st ++ [.lst xs]) (bs ++ [p]) (upd H p (.lst vs)) ∧ RD c (bs ++ [p]) (upd H p (.lst vs)) (.ref p) (.loc st.length) := by
  obtain ⟨e, rl'⟩ := rl.alloc hp r
  exact ⟨Post.at (st := st ++ [.lst xs]) q e rl', .loc (by rw [← rl.len]; simp)⟩
theorem post_lst {k : List D → Sto → List Addr → Hp → Prop} {f : List D → M α} {k' : α → Sto → List Addr → Hp → Prop} (q : Post c ex (bnd (lst l) f st) bs H k') (rl : Rel c bs H st) {v : V} (r : RD c bs H v (.loc l)) :
    ∃ a vs xs, v = .ref a ∧ bs[l]? = some a ∧ st[l]? = some (.lst xs) ∧ H a = some (.lst vs) ∧ RDs c bs H vs xs ∧ Post c ex (f xs st) bs H k' := by
  cases r with
  | @loc a n h =>
    unfold Pm.bnd Pm.lst at q
    cases e : st[l]? with
    | none => rw [e] at q; exact q.elim
    | some o =>
      cases o with
      | lst xs =>
        rw [e] at q
        obtain ⟨vs, h1, h2⟩ := rl.obj l a _ h e
        exact ⟨a, vs, xs, rfl, h, rfl, h1, h2, q⟩
      | dct _ => rw [e] at q; exact q.elim
      | ins _ _ => rw [e] at q; exact q.elim
theorem post_put {k : Unit → Sto → List Addr → Hp → Prop} {ys : List D} {f : Unit → M α} {k' : α → Sto → List Addr → Hp → Prop} (q : Post c ex (bnd (put l xs) f st) bs H k') (rl : Rel c bs H st) (hb : bs[l]? = some a) (hl : st[l]? = some (.lst ys)) (r : RDs c bs H vs xs) :
    Rel c bs (upd H a (.lst vs)) (st.set l (.lst xs)) ∧ Ext bs H bs (upd H a (.lst vs)) ∧ Post c ex (f () (st.set l (.lst xs))) bs (upd H a (.lst vs)) k' := by
  obtain ⟨e, rl'⟩ := rl.put hb hl r
  exact ⟨rl', e, Post.far (show Post c ex (f () (st.set l (.lst xs))) bs H k' from q) e⟩
end

/-! ### arithmetic -/
def opMul : D → D → M D := opI (fun i j => decide ((-(2 ^ 64) < i ∧ i < 2 ^ 64) ∨ (-(2 ^ 64) < j ∧ j < 2 ^ 64))) fun i j => .int (i * j)
def opSub : D → D → M D := opI0 fun i j => .int (i - j)
def opMod : D → D → M D := opI (fun _ j => decide (0 < j)) fun i j => .int (i % j)
def opFdiv : D → D → M D := opI (fun _ j => decide (0 < j ∧ j < 1073741824)) fun i j => .int (i / j)
def CPowB (i j : Int) : Prop := 0 ≤ j ∧ (Builtin.Int.intBits i : Int) * j ≤ 2 ^ 27
instance (i j : Int) : Decidable (CPowB i j) := by unfold CPowB; infer_instance
def opPow : D → D → M D := opI (fun i j => decide (CPowB i j)) fun i j => .int (i ^ j.toNat)
theorem op_powB {X : Cx} : OpR X (binaryOp .Pow) (rI CPowB fun i j => .int (i ^ j.toNat)) := L2.opI (C := CPowB) (g := fun i j => i ^ j.toNat) fun i j t u s Q E hc q => PyProof.Rows.pow_int hc.1 hc.2 q
def opNeg : D → M D
  | .int i => ret (.int (-i))
  | _ => no
/-- +: ints, texts, tuples, lists -/
def opAdd : D → D → M D
  | .int i, .int j => ret (.int (i + j))
  | .str x, .str y => if x.length + y.length ≤ sizeLine then ret (.str (x ++ y)) else no
  | .loc l, .loc m => bnd (lst l) fun xs => bnd (lst m) fun ys => if xs.length + ys.length ≤ sizeLine then alloc (xs ++ ys) else no
  | .tup xs, .tup ys => if xs.length + ys.length ≤ sizeLine then ret (.tup (xs ++ ys)) else no
  | _, _ => no
def rAddA (K : PySem.W.Frag) : R2 := fun x y H Q => rI0 (fun i j => .int (i + j)) x y H Q ∨ (∃ i j, x = .str i ∧ y = .str j ∧ i.length + j.length ≤ sizeLine ∧ Q (.str (i ++ j)) H) ∨ rCat x y H Q ∨ rCatF K x y H Q
theorem op_addA {X : Cx} : OpR X (binaryOp .Add) (rAddA X.K) := op_add.or (op_add_str.or (op_cat.or op_catF))
section
variable {X : Cx} {c : Ct} {ex : Wh} {pos : Pos} {a b : Expr} {fa fb : ME}
theorem s2_add : S2 c ex opAdd (rAddA c.K) := by
  intro x y d e bs H st Q rx ry rl p
  cases rx with
  | int i =>
    cases ry with
    | int j => exact .inl ⟨i, j, rfl, rfl, p.now rl _ (.int _)⟩
    | _ => exact p.elim
  | str i =>
    cases ry with
    | str j =>
      obtain ⟨h, p⟩ := Post.iff (m := ret _) p
      exact .inr (.inl ⟨i, j, rfl, rfl, h, p.now rl _ (.str _)⟩)
    | _ => exact p.elim
  | @loc a1 l h1 =>
    cases ry with
    | @loc a2 m h2 =>
      obtain ⟨a1', vs, xs, e1, hb1, hl1, hv1, r1, p⟩ := post_lst (k := fun _ _ _ _ => True) p rl (RD.loc h1)
      cases e1
      obtain ⟨a2', ws, ys, e2, hb2, hl2, hv2, r2, p⟩ := post_lst (k := fun _ _ _ _ => True) p rl (RD.loc h2)
      cases e2
      obtain ⟨h, p⟩ := Post.iff (m := alloc _) p
      refine .inr (.inr (.inl ⟨a1, a2, vs, ws, rfl, rfl, hv1, hv2, by rw [r1.length, r2.length]; exact h, fun q hq => ?_⟩))
      obtain ⟨k, r⟩ := post_alloc p rl hq (r1.append r2)
      exact k _ r
    | _ => exact p.elim
  | @tup a1 vs xs s1 tl1 r1 =>
    cases ry with
    | @tup a2 ws ys s2 tl2 r2 =>
      obtain ⟨h, p⟩ := Post.iff (m := ret _) p
      refine .inr (.inr (.inr ⟨a1, a2, vs, ws, rfl, rfl, s1, s2, by rw [r1.length, r2.length]; exact h, fun z => ?_, fun _ z => ?_, fun _ _ q us hq => ?_⟩))
      · subst z
        cases r1
        exact p.now rl _ (.tup s2 tl2 r2)
      · subst z
        cases r2
        rw [List.append_nil] at p
        exact p.now rl _ (.tup s1 tl1 r1)
      · obtain ⟨e, rl'⟩ := rl.fresh hq (frT us (vs ++ ws))
        exact p.at e rl' _ (.tup sqF dlF ((r1.append r2).ext e))
    | _ => exact p.elim
  | _ => cases ry <;> exact p.elim
theorem md_add (hK : X.K = c.K) (ha : PE X a (tE c ex fa)) (hb : PE X b (tE c ex fb)) : PE X (.BinOp a .Add b pos) (tE c ex (bin fa fb opAdd)) := md_bin op_addA (by rw [hK]; exact s2_add) ha hb
theorem md_sub (ha : PE X a (tE c ex fa)) (hb : PE X b (tE c ex fb)) : PE X (.BinOp a .Sub b pos) (tE c ex (bin fa fb opSub)) := md_bin op_sub (s2_I0 fun _ _ _ _ => .int _) ha hb
theorem md_mul (ha : PE X a (tE c ex fa)) (hb : PE X b (tE c ex fb)) : PE X (.BinOp a .Mult b pos) (tE c ex (bin fa fb opMul)) := md_bin op_mul (s2_I (fun _ _ h => of_decide_eq_true h) fun _ _ _ _ => .int _) ha hb
theorem md_mod (ha : PE X a (tE c ex fa)) (hb : PE X b (tE c ex fb)) : PE X (.BinOp a .Mod b pos) (tE c ex (bin fa fb opMod)) := md_bin op_mod (s2_I (fun _ _ h => of_decide_eq_true h) fun _ _ _ _ => .int _) ha hb
theorem md_fdiv (ha : PE X a (tE c ex fa)) (hb : PE X b (tE c ex fb)) : PE X (.BinOp a .FloorDiv b pos) (tE c ex (bin fa fb opFdiv)) := md_bin op_fdiv (s2_I (fun _ _ h => of_decide_eq_true h) fun _ _ _ _ => .int _) ha hb
theorem md_pow (ha : PE X a (tE c ex fa)) (hb : PE X b (tE c ex fb)) : PE X (.BinOp a .Pow b pos) (tE c ex (bin fa fb opPow)) := md_bin op_powB (s2_I (fun _ _ h => of_decide_eq_true h) fun _ _ _ _ => .int _) ha hb
theorem s1_neg : S1 c ex opNeg (rU fun i => .int (-i)) := by
  intro x d bs H st Q rx rl p
  cases rx with
  | int i => exact ⟨i, rfl, p.now rl _ (.int _)⟩
  | _ => exact p.elim
theorem md_neg (ha : PE X a (tE c ex fa)) : PE X (.UnaryOp .USub a pos) (tE c ex (una fa opNeg)) := md_una un_neg s1_neg ha
end
end Pm
namespace Pm
open PySem PySem.Spec PyProof.Rows L2
section
variable {c : Ct} {ex : Wh} {bs : List Addr} {H : Hp} {st : Sto} {a : Addr} {l : Nat} {α : Type}
theorem post_obj {k' : α → Sto → List Addr → Hp → Prop} {f : O → M α} (q : Post c ex (bnd (obj l) f st) bs H k') (rl : Rel c bs H st) {v : V} (r : RD c bs H v (.loc l)) :
    ∃ a o, v = .ref a ∧ bs[l]? = some a ∧ st[l]? = some o ∧ ROb c bs H a o ∧ Post c ex (f o st) bs H k' := by
  cases r with
  | @loc a n h =>
    unfold Pm.bnd Pm.obj at q
    cases e : st[l]? with
    | none => rw [e] at q; exact q.elim
    | some o =>
      rw [e] at q
      exact ⟨a, o, rfl, h, rfl, rl.obj l a o h e, q⟩
/-- the pairs of a dict, paired -/
theorem rdk_get : ∀ {vks : List (Key × V)} {kvs : List (Key × D)} {k : Key} {d : D}, vks.map (·.1) = kvs.map (·.1) → RDs c bs H (vks.map (·.2)) (kvs.map (·.2)) → getK kvs k = some d → ∃ v, valV vks k = some v ∧ RD c bs H v d
  | [], [], k, d, _, _, h => by cases h
  | [], _ :: _, _, _, e, _, _ => by cases e
  | _ :: _, [], _, _, e, _, _ => by cases e
  | (k1, v1) :: vks, (k2, d2) :: kvs, k, d, e, r, h => by
    simp only [List.map_cons, List.cons.injEq] at e
    obtain ⟨e1, e2⟩ := e
    have e1 : k1 = k2 := e1
    subst e1
    cases r with
    | cons r1 r2 =>
      by_cases hk : k1 = k
      · rw [valV_pos (p := (k1, v1)) hk]
        have e3 : getK ((k1, d2) :: kvs) k = some d2 := by simp [getK, List.find?_cons, hk]
        rw [e3] at h
        cases h
        exact ⟨_, rfl, r1⟩
      · rw [valV_neg (p := (k1, v1)) hk]
        have e3 : getK ((k1, d2) :: kvs) k = getK kvs k := by simp [getK, List.find?_cons, hk]
        rw [e3] at h
        exact rdk_get e2 r2 h
theorem rdk_none : ∀ {vks : List (Key × V)} {kvs : List (Key × D)} {k : Key}, vks.map (·.1) = kvs.map (·.1) → getK kvs k = none → valV vks k = none
  | [], [], _, _, _ => rfl
  | [], _ :: _, _, e, _ => by cases e
  | _ :: _, [], _, e, _ => by cases e
  | (k1, v1) :: vks, (k2, d2) :: kvs, k, e, h => by
    simp only [List.map_cons, List.cons.injEq] at e
    obtain ⟨e1, e2⟩ := e
    have e1 : k1 = k2 := e1
    subst e1
    by_cases hk : k1 = k
    · have e3 : getK ((k1, d2) :: kvs) k = some d2 := by simp [getK, List.find?_cons, hk]
      rw [e3] at h
      cases h
    · rw [valV_neg (p := (k1, v1)) hk]
      have e3 : getK ((k1, d2) :: kvs) k = getK kvs k := by simp [getK, List.find?_cons, hk]
      rw [e3] at h
      exact rdk_none e2 h
theorem any_fst {β : Type} (k : Key) (l : List (Key × β)) : (l.any fun kv => decide (kv.1 = k)) = (l.map (·.1)).any fun x => decide (x = k) := by
  rw [List.any_map]; rfl
theorem map_ite : ∀ {vks : List (Key × V)} {kvs : List (Key × D)} {k : Key} {v : V} {d : D}, vks.map (·.1) = kvs.map (·.1) → RDs c bs H (vks.map (·.2)) (kvs.map (·.2)) → RD c bs H v d →
    ((vks.map fun kv => if kv.1 = k then (kv.1, v) else kv).map (·.1) = (kvs.map fun kv => if kv.1 = k then (kv.1, d) else kv).map (·.1)) ∧ RDs c bs H ((vks.map fun kv => if kv.1 = k then (kv.1, v) else kv).map (·.2)) ((kvs.map fun kv => if kv.1 = k then (kv.1, d) else kv).map (·.2))
  | [], [], _, _, _, _, _, _ => ⟨rfl, .nil⟩
  | [], _ :: _, _, _, _, e, _, _ => by cases e
  | _ :: _, [], _, _, _, e, _, _ => by cases e
  | (k1, v1) :: vks, (k2, d2) :: kvs, k, v, d, e, r, rv => by
    simp only [List.map_cons, List.cons.injEq] at e
    obtain ⟨e1, e2⟩ := e
    have e1 : k1 = k2 := e1
    subst e1
    cases r with
    | cons r1 r2 =>
      obtain ⟨i1, i2⟩ := map_ite (k := k) e2 r2 rv
      by_cases hk : k1 = k
      · subst hk
        simp only [List.map_cons, if_true]
        exact ⟨by rw [i1], .cons rv i2⟩
      · simp only [List.map_cons, if_neg hk]
        exact ⟨by rw [i1], .cons r1 i2⟩
theorem rdk_put {vks : List (Key × V)} {kvs : List (Key × D)} {k : Key} {v : V} {d : D} (e : vks.map (·.1) = kvs.map (·.1)) (r : RDs c bs H (vks.map (·.2)) (kvs.map (·.2))) (rv : RD c bs H v d) :
    (putK vks k v).map (·.1) = (setK kvs k d).map (·.1) ∧ RDs c bs H ((putK vks k v).map (·.2)) ((setK kvs k d).map (·.2)) := by
  unfold putK setK
  have ea : (vks.any fun kv => decide (kv.1 = k)) = (kvs.any fun kv => decide (kv.1 = k)) := by rw [any_fst, any_fst, e]
  rw [ea]
  by_cases h : (kvs.any fun kv => decide (kv.1 = k)) = true
  · rw [if_pos h, if_pos h]
    exact map_ite e r rv
  · rw [if_neg h, if_neg h]
    simp only [List.map_append, List.map_cons, List.map_nil]
    exact ⟨by rw [e], r.append (.cons rv .nil)⟩
end
end Pm
end
section
set_option Elab.async false
set_option linter.all false
set_option maxRecDepth 100000
namespace Pm
open PySem PySem.Spec PyProof.Rows L2

/-! ### truth, and, or, not, if -/
def tru : D → M Bool
  | .non => ret false
  | .bl b => ret b
  | .int i => ret (i != 0)
  | .str y => if y.length ≤ sizeLine then ret ((y.length : Int) != 0) else no
  | .tup xs => ret (!xs.isEmpty)
  | .loc l => bnd (lst l) fun xs => ret (!xs.isEmpty)
  | .scr => no
def asB : D → M Bool
  | .bl b => ret b
  | _ => no
section
variable {X : Cx} {c : Ct} {ex : Wh} {pos : Pos} {a b e : Expr} {fa fb f g : ME} {ta tb t : MT} {bs : List Addr} {H : Hp} {st : Sto} {rest : List Expr}
theorem RDs.isEmpty {vs : List V} {ds : List D} (r : RDs c bs H vs ds) : vs.isEmpty = ds.isEmpty := by cases r <;> rfl
theorem tru_ok' {v : V} {d : D} {k : Bool → Sto → List Addr → Hp → Prop} (r : RD c bs H v d) (rl : Rel c bs H st) (p : Post c ex (tru d st) bs H k) : ∃ q, TruV c.K v H q ∧ k q st bs H := by
  cases r with
  | non => exact ⟨false, rfl, p.now rl⟩
  | bl q => exact ⟨q, rfl, p.now rl⟩
  | int i => exact ⟨_, rfl, p.now rl⟩
  | str y =>
    obtain ⟨h, p⟩ := Post.iff (m := ret _) p
    exact ⟨_, ⟨h, rfl⟩, p.now rl⟩
  | tup s tl r => exact ⟨_, .inr (.inl ⟨_, s, by rw [r.isEmpty]⟩), p.now rl⟩
  | loc h =>
    obtain ⟨a, vs, xs, e, hb, hl, hv, r, p⟩ := post_lst (k := fun _ _ _ _ => True) p rl (RD.loc h)
    cases e
    exact ⟨_, .inl ⟨_, SqL.of hv, by rw [r.isEmpty]⟩, p.now rl⟩
  | scr => exact p.elim
def tstV (f : ME) : MT := fun ρ => bnd (f ρ) tru
def tstB (f : ME) : MT := fun ρ => bnd (f ρ) asB
theorem tT_V {σ : L2.St} {Q : Bool → Hp → Prop} (h : tT c ex (tstV f) σ H Q) : tE c ex f σ H fun x H' => ∃ k, TruV c.K x H' k ∧ Q k H' := by
  obtain ⟨ρ, st, bs, rl, re, p⟩ := h
  exact ⟨ρ, st, bs, rl, re, p.bnd.imp fun d st1 bs1 H1 e1 rl1 p1 v rv => tru_ok' rv rl1 p1⟩
theorem mt_tru (hK : X.K = c.K) (h : PE X a (tE c ex f)) (he : ∀ whole, isTrue a X.env whole = (do let v ← whole; standAt a.pos; holding [v] (truthy v)) := by intro _; rfl) : PT X a (tT c ex (tstV f)) :=
  PT_imp (pt_truth h he) fun σ H Q q => by rw [hK]; exact tT_V q
theorem tT_B {σ : L2.St} {Q : Bool → Hp → Prop} (h : tT c ex (tstB f) σ H Q) : tE c ex f σ H fun x H' => ∃ k, x = .bl k ∧ Q k H' := by
  obtain ⟨ρ, st, bs, rl, re, p⟩ := h
  refine ⟨ρ, st, bs, rl, re, p.bnd.imp fun d st1 bs1 H1 e1 rl1 p1 v rv => ?_⟩
  cases rv with
  | bl k => exact ⟨k, rfl, p1.now rl1⟩
  | _ => exact p1.elim
/-- a test whose value is a bool -/
theorem mt_val (h : PE X a (tE c ex f)) (he : ∀ whole, isTrue a X.env whole = (do let v ← whole; standAt a.pos; holding [v] (truthy v)) := by intro _; rfl) : PT X a (tT c ex (tstB f)) :=
  PT_imp (pt_val h he) fun σ H Q q => tT_B q
def notT (t : MT) : MT := fun ρ => bnd (t ρ) fun k => ret (!k)
def andT (t u : MT) : MT := fun ρ => bnd (t ρ) fun k => if k = true then u ρ else ret false
def orT (t u : MT) : MT := fun ρ => bnd (t ρ) fun k => if k = true then ret true else u ρ
theorem mt_not (h : PT X a (tT c ex t)) : PT X (.UnaryOp .Not a pos) (tT c ex (notT t)) := PT_imp (pt_not h) fun σ H Q q => by
  obtain ⟨ρ, st, bs, rl, re, p⟩ := q
  exact ⟨ρ, st, bs, rl, re, p.bnd.imp fun d st1 bs1 H1 e1 rl1 p1 => p1.now rl1⟩
theorem mw_and1 (h : PT X a (tT c ex t)) : PW X (.BoolOp .And [a] pos) (tT c ex t) := pw_and1 h
theorem mw_or1 (h : PT X a (tT c ex t)) : PW X (.BoolOp .Or [a] pos) (tT c ex t) := pw_or1 h
theorem mw_and (ha : PT X a (tT c ex ta)) (hb : PW X (.BoolOp .And (b :: rest) pos) (tT c ex tb)) : PW X (.BoolOp .And (a :: b :: rest) pos) (tT c ex (andT ta tb)) := PW_imp (pw_and ha hb) fun σ H Q q => by
  obtain ⟨ρ, st, bs, rl, re, p⟩ := q
  refine ⟨ρ, st, bs, rl, re, p.bnd.imp fun k st1 bs1 H1 e1 rl1 p1 => ?_⟩
  cases k with
  | true => exact iteT ⟨ρ, st1, bs1, rl1, re.ext e1, p1⟩
  | false => exact iteF (p1.now rl1)
theorem mw_or (ha : PT X a (tT c ex ta)) (hb : PW X (.BoolOp .Or (b :: rest) pos) (tT c ex tb)) : PW X (.BoolOp .Or (a :: b :: rest) pos) (tT c ex (orT ta tb)) := PW_imp (pw_or ha hb) fun σ H Q q => by
  obtain ⟨ρ, st, bs, rl, re, p⟩ := q
  refine ⟨ρ, st, bs, rl, re, p.bnd.imp fun k st1 bs1 H1 e1 rl1 p1 => ?_⟩
  cases k with
  | true => exact iteT (p1.now rl1)
  | false => exact iteF ⟨ρ, st1, bs1, rl1, re.ext e1, p1⟩
/-- .. as values -/
def andV (f g : ME) : ME := fun ρ => bnd (f ρ) fun x => bnd (tru x) fun k => if k = true then g ρ else ret x
def orV (f g : ME) : ME := fun ρ => bnd (f ρ) fun x => bnd (tru x) fun k => if k = true then ret x else g ρ
def notV (f : ME) : ME := fun ρ => bnd (f ρ) fun x => bnd (tru x) fun k => ret (.bl (!k))
theorem md_one {op} (h : PE X a (tE c ex f)) : PE X (.BoolOp op [a] pos) (tE c ex f) := pe_one h
theorem md_and (hK : X.K = c.K) (ha : PE X a (tE c ex fa)) (hb : PE X (.BoolOp .And (b :: rest) pos) (tE c ex fb)) : PE X (.BoolOp .And (a :: b :: rest) pos) (tE c ex (andV fa fb)) := PE_imp (pe_andT ha hb) fun σ H Q q => by
  obtain ⟨ρ, st, bs, rl, re, p⟩ := q
  refine ⟨ρ, st, bs, rl, re, p.bnd.imp fun d st1 bs1 H1 e1 rl1 p1 v rv => ?_⟩
  obtain ⟨k, hk, p2⟩ := tru_ok' rv rl1 p1.bnd
  rw [hK]
  refine ⟨k, hk, ?_⟩
  cases k with
  | true => exact iteT ⟨ρ, st1, bs1, rl1, re.ext e1, p2⟩
  | false => exact iteF (p2.now rl1 v rv)
theorem md_or (hK : X.K = c.K) (ha : PE X a (tE c ex fa)) (hb : PE X (.BoolOp .Or (b :: rest) pos) (tE c ex fb)) : PE X (.BoolOp .Or (a :: b :: rest) pos) (tE c ex (orV fa fb)) := PE_imp (pe_orT ha hb) fun σ H Q q => by
  obtain ⟨ρ, st, bs, rl, re, p⟩ := q
  refine ⟨ρ, st, bs, rl, re, p.bnd.imp fun d st1 bs1 H1 e1 rl1 p1 v rv => ?_⟩
  obtain ⟨k, hk, p2⟩ := tru_ok' rv rl1 p1.bnd
  rw [hK]
  refine ⟨k, hk, ?_⟩
  cases k with
  | true => exact iteT (p2.now rl1 v rv)
  | false => exact iteF ⟨ρ, st1, bs1, rl1, re.ext e1, p2⟩
theorem md_not (hK : X.K = c.K) (ha : PE X a (tE c ex fa)) : PE X (.UnaryOp .Not a pos) (tE c ex (notV fa)) := PE_imp (pe_notT ha) fun σ H Q q => by
  obtain ⟨ρ, st, bs, rl, re, p⟩ := q
  refine ⟨ρ, st, bs, rl, re, p.bnd.imp fun d st1 bs1 H1 e1 rl1 p1 v rv => ?_⟩
  obtain ⟨k, hk, p2⟩ := tru_ok' rv rl1 p1.bnd
  rw [hK]
  exact ⟨k, hk, p2.now rl1 _ (.bl _)⟩
def ifE (t : MT) (f g : ME) : ME := fun ρ => bnd (t ρ) fun k => if k = true then f ρ else g ρ
theorem md_if {x : Expr} (ht : PT X x (tT c ex t)) (ha : PE X a (tE c ex fa)) (hb : PE X b (tE c ex fb)) : PE X (.IfExp x a b pos) (tE c ex (ifE t fa fb)) := PE_imp (pe_ifExp ht ha hb) fun σ H Q q => by
  obtain ⟨ρ, st, bs, rl, re, p⟩ := q
  refine ⟨ρ, st, bs, rl, re, p.bnd.imp fun k st1 bs1 H1 e1 rl1 p1 => ?_⟩
  cases k with
  | true => exact iteT ⟨ρ, st1, bs1, rl1, re.ext e1, p1⟩
  | false => exact iteF ⟨ρ, st1, bs1, rl1, re.ext e1, p1⟩
end

/-! ### comparisons -/
def scD : D → D → Bool
  | .non, .non => true | .non, .int _ => true | .int _, .non => true | .non, .bl _ => true | .bl _, .non => true | .non, .str _ => true | .str _, .non => true
  | .int _, .int _ => true | .bl _, .bl _ => true | .str _, .str _ => true
  | .int _, .str _ => true | .str _, .int _ => true | .bl _, .str _ => true | .str _, .bl _ => true
  | _, _ => false
def toPys (f : D → Option PyData) : List D → Option (List PyData)
  | [] => some []
  | x :: xs => match f x, toPys f xs with
    | some a, some as => some (a :: as)
    | _, _ => none
def toPy (st : Sto) : Nat → D → Option PyData
  | 0, _ => none
  | n + 1, d => match d with
    | .non => some .none
    | .bl b => some (.bool b)
    | .int i => some (.int i)
    | .str s => some (.str s)
    | .tup xs => (toPys (toPy st n) xs).map .tuple
    | .loc l => match st[l]? with
      | some (.lst xs) => (toPys (toPy st n) xs).map .list
      | _ => none
    | .scr => none
/-- data, to be compared or shown -/
def py (d : D) : M PyData := fun st => match toPy st 60 d with
  | some p => .ok p st
  | none => .stuck
def opEq : D → D → M D := fun d e => if scD d e then ret (.bl (decide (d = e))) else bnd (py d) fun p => bnd (py e) fun q => if SeqAt.shaped p && SeqAt.shaped q then ret (.bl (PyData.eqv p q)) else no
def opNe : D → D → M D := fun d e => if scD d e then ret (.bl (!decide (d = e))) else bnd (py d) fun p => bnd (py e) fun q => if SeqAt.shaped p && SeqAt.shaped q then ret (.bl (!PyData.eqv p q)) else no
section
variable {X : Cx} {c : Ct} {ex : Wh} {pos : Pos} {a b : Expr} {fa fb f g : ME} {bs : List Addr} {H : Hp} {st : Sto}
theorem dpAll_of {f : D → Option PyData} (h : ∀ d v p, f d = some p → RD c bs H v d → Dp c.K H v p) : ∀ (xs : List D) (vs : List V) (ps : List PyData), toPys f xs = some ps → RDs c bs H vs xs → DpAll c.K H vs ps
  | [], _, _, e, r => by
    cases r
    cases e
    exact .nil
  | x :: xs, _, ps, e, r => by
    cases r with
    | cons r1 r2 =>
      unfold toPys at e
      cases e1 : f x with
      | none => rw [e1] at e; cases e
      | some q =>
        cases e2 : toPys f xs with
        | none => rw [e1, e2] at e; cases e
        | some qs =>
          rw [e1, e2] at e
          cases e
          exact .cons (h _ _ _ e1 r1) (dpAll_of h xs _ _ e2 r2)
theorem dp_of (rl : Rel c bs H st) : ∀ (n : Nat) (d : D) (v : V) (p : PyData), toPy st n d = some p → RD c bs H v d → Dp c.K H v p
  | 0, _, _, _, e, _ => by cases e
  | n + 1, d, v, p, e, r => by
    cases r with
    | non => cases e; exact .non
    | bl b => cases e; exact .bl b
    | int i => cases e; exact .int i
    | str s => cases e; exact .str s
    | @tup a vs ds s tl r =>
      have e : (toPys (toPy st n) ds).map PyData.tuple = some p := e
      cases e1 : toPys (toPy st n) ds with
      | none => rw [e1] at e; cases e
      | some ps =>
        rw [e1] at e
        cases e
        exact .tup s (dpAll_of (fun d v p => dp_of rl n d v p) _ _ _ e1 r)
    | @loc a l h =>
      cases e1 : st[l]? with
      | none =>
        unfold toPy at e
        simp only [e1] at e
        cases e
      | some o =>
        unfold toPy at e
        simp only [e1] at e
        cases o with
        | lst xs =>
          obtain ⟨vs, hv, r⟩ := rl.obj l a _ h e1
          have e : (toPys (toPy st n) xs).map PyData.list = some p := e
          cases e2 : toPys (toPy st n) xs with
          | none => rw [e2] at e; cases e
          | some ps =>
            rw [e2] at e
            cases e
            exact .lst (SqL.of hv) (dpAll_of (fun d v p => dp_of rl n d v p) _ _ _ e2 r)
        | dct _ => cases e
        | ins _ _ => cases e
    | scr => cases e
theorem post_py {α : Type} {d : D} {f : PyData → M α} {k : α → Sto → List Addr → Hp → Prop} (q : Post c ex (bnd (py d) f st) bs H k) (rl : Rel c bs H st) {v : V} (r : RD c bs H v d) : ∃ p, toPy st 60 d = some p ∧ Dp c.K H v p ∧ Post c ex (f p st) bs H k := by
  unfold bnd py at q
  cases e : toPy st 60 d with
  | none => rw [e] at q; exact q.elim
  | some p =>
    rw [e] at q
    exact ⟨p, rfl, dp_of rl 60 d v p e r, q⟩
theorem scal_of {v w : V} {d e : D} (r : RD c bs H v d) (r' : RD c bs H w e) (h : scD d e = true) : scal v w = true ∧ decide (v = w) = decide (d = e) := by
  cases r <;> cases r' <;> first | (simp [scD] at h; done) | (refine ⟨rfl, ?_⟩; simp)
def rEqA (K : PySem.W.Frag) : R2 := fun x y H Q => rEq x y H Q ∨ rEqD K x y H Q
def rNeA (K : PySem.W.Frag) : R2 := fun x y H Q => rNe x y H Q ∨ rNeD K x y H Q
theorem s2_eq : S2 c ex opEq (rEqA c.K) := by
  intro x y d e bs H st Q rx ry rl p
  unfold opEq at p
  by_cases h : scD d e = true
  · rw [if_pos h] at p
    obtain ⟨h1, h2⟩ := scal_of rx ry h
    exact .inl ⟨h1, by rw [h2]; exact p.now rl _ (.bl _)⟩
  · rw [if_neg h] at p
    obtain ⟨u, _, du, p⟩ := post_py p rl rx
    obtain ⟨w, _, dw, p⟩ := post_py p rl ry
    obtain ⟨hs, p⟩ := Post.iff (m := ret _) p
    rw [Bool.and_eq_true] at hs
    exact .inr ⟨u, w, du, dw, hs.1, hs.2, p.now rl _ (.bl _)⟩
theorem s2_ne : S2 c ex opNe (rNeA c.K) := by
  intro x y d e bs H st Q rx ry rl p
  unfold opNe at p
  by_cases h : scD d e = true
  · rw [if_pos h] at p
    obtain ⟨h1, h2⟩ := scal_of rx ry h
    exact .inl ⟨h1, by rw [h2]; exact p.now rl _ (.bl _)⟩
  · rw [if_neg h] at p
    obtain ⟨u, _, du, p⟩ := post_py p rl rx
    obtain ⟨w, _, dw, p⟩ := post_py p rl ry
    obtain ⟨hs, p⟩ := Post.iff (m := ret _) p
    rw [Bool.and_eq_true] at hs
    exact .inr ⟨u, w, du, dw, hs.1, hs.2, p.now rl _ (.bl _)⟩
def opLt : D → D → M D := opI0 fun i j => .bl (decide (i < j))
def opLe : D → D → M D := opI0 fun i j => .bl (decide (i ≤ j))
def opGt : D → D → M D := opI0 fun i j => .bl (decide (j < i))
def opGe : D → D → M D := opI0 fun i j => .bl (decide (j ≤ i))
/-- a comparison's rule: its reading, its meaning -/
structure CO (X : Cx) (c : Ct) (ex : Wh) (op : CmpOp) (g : D → D → M D) : Prop where
  ex : ∃ r, OpR X (compareOp op) r ∧ S2 c ex g r
theorem co_eq (hK : X.K = c.K) (hu : X.A.units + 64 < cLine) : CO X c ex .Eq opEq := ⟨_, op_eq.or (op_eqD hu), by rw [hK]; exact s2_eq⟩
theorem co_ne (hK : X.K = c.K) (hu : X.A.units + 64 < cLine) : CO X c ex .NotEq opNe := ⟨_, op_ne.or (op_neD hu), by rw [hK]; exact s2_ne⟩
theorem co_lt : CO X c ex .Lt opLt := ⟨_, op_lt, s2_I0 fun _ _ _ _ => .bl _⟩
theorem co_le : CO X c ex .LtE opLe := ⟨_, op_le, s2_I0 fun _ _ _ _ => .bl _⟩
theorem co_gt : CO X c ex .Gt opGt := ⟨_, op_gt, s2_I0 fun _ _ _ _ => .bl _⟩
theorem co_ge : CO X c ex .GtE opGe := ⟨_, op_ge, s2_I0 fun _ _ _ _ => .bl _⟩
/-- is None -/
def opIs : D → D → M D
  | d, .non => ret (.bl (decide (d = .non)))
  | .bl a, .bl b => ret (.bl (decide (a = b)))
  | _, _ => no
def opIsNot : D → D → M D
  | d, .non => ret (.bl (!decide (d = .non)))
  | .bl a, .bl b => ret (.bl (!decide (a = b)))
  | _, _ => no
theorem non_iff {v : V} {d : D} (r : RD c bs H v d) : decide (v = .non) = decide (d = .non) := by cases r <;> simp
theorem co_is : CO X c ex .Is opIs := ⟨_, op_isN.or op_isBl, by
  intro x y d e bs H st Q rx ry rl p
  cases ry with
  | non =>
    have p : Post c ex (ret (D.bl (decide (d = .non))) st) bs H (fun z _ bs' H' => ∀ v, RD c bs' H' v z → Q v H') := by cases d <;> exact p
    exact .inl ⟨rfl, by rw [non_iff rx]; exact p.now rl _ (.bl _)⟩
  | bl k =>
    cases rx with
    | bl j => exact .inr ⟨j, k, rfl, rfl, p.now rl _ (.bl _)⟩
    | _ => exact p.elim
  | _ => cases rx <;> exact p.elim⟩
theorem co_isnot : CO X c ex .IsNot opIsNot := ⟨_, op_notN.or op_notBl, by
  intro x y d e bs H st Q rx ry rl p
  cases ry with
  | non =>
    have p : Post c ex (ret (D.bl (!decide (d = .non))) st) bs H (fun z _ bs' H' => ∀ v, RD c bs' H' v z → Q v H') := by cases d <;> exact p
    exact .inl ⟨rfl, by rw [non_iff rx]; exact p.now rl _ (.bl _)⟩
  | bl k =>
    cases rx with
    | bl j => exact .inr ⟨j, k, rfl, rfl, p.now rl _ (.bl _)⟩
    | _ => exact p.elim
  | _ => cases rx <;> exact p.elim⟩
theorem md_cmp {op : CmpOp} {g : D → D → M D} (h : CO X c ex op g) (ha : PE X a (tE c ex fa)) (hb : PE X b (tE c ex fb)) (hm : behindInMarks op b = false := by first | rfl | exact nomark _) : PE X (.Compare a [op] [b] pos) (tE c ex (bin fa fb g)) := by
  obtain ⟨r, ho, s⟩ := h.ex
  exact PE_imp (pe_cmpR ho ha hb hm) fun _ _ _ => tE_bin s
theorem mt_cmp {op : CmpOp} {g : D → D → M D} (h : CO X c ex op g) (ha : PE X a (tE c ex fa)) (hb : PE X b (tE c ex fb)) (hm : behindInMarks op b = false := by first | rfl | exact nomark _) : PT X (.Compare a [op] [b] pos) (tT c ex (tstB (bin fa fb g))) := by
  obtain ⟨r, ho, s⟩ := h.ex
  refine PT_imp (pt_cmpR ho ha hb hm) fun σ H Q q => ?_
  have q := tT_B q
  exact tE_bin s q
/-- a < b < c -/
def chn (f g h : ME) (op op' : D → D → M D) : ME := fun ρ => bnd (f ρ) fun x => bnd (g ρ) fun y => bnd (op x y) fun z => bnd (asB z) fun k => if k = true then bnd (h ρ) fun w => op' y w else ret (.bl false)
theorem tE_chn {h : ME} {g1 g2 : D → D → M D} {r r' : R2} (s : S2 c ex g1 r) (s' : S2 c ex g2 r') {σ : L2.St} {Q : VK} (q : tE c ex (chn f g h g1 g2) σ H Q) : tChain r r' (tE c ex f) (tE c ex g) (tE c ex h) σ H Q := by
  obtain ⟨ρ, st, bs, rl, re, p⟩ := q
  refine ⟨ρ, st, bs, rl, re, p.bnd.imp fun d st1 bs1 H1 e1 rl1 p1 v rv => ?_⟩
  refine ⟨ρ, st1, bs1, rl1, re.ext e1, p1.bnd.imp fun d2 st2 bs2 H2 e2 rl2 p2 w rw' => ?_⟩
  refine s _ _ _ _ _ _ _ _ (rv.ext e2) rw' rl2 (p2.bnd.imp fun z st3 bs3 H3 e3 rl3 p3 u ru => ?_)
  cases ru with
  | bl k =>
    have p4 := p3.bnd.now rl3
    refine ⟨k, rfl, ?_⟩
    cases k with
    | true => exact iteT ⟨ρ, st3, bs3, rl3, ((re.ext e1).ext e2).ext e3, p4.bnd.imp fun d5 st5 bs5 H5 e5 rl5 p5 w5 rw5 => s' _ _ _ _ _ _ _ _ ((rw'.ext e3).ext e5) rw5 rl5 p5⟩
    | false => exact iteF (p4.now rl3 _ (.bl _))
  | _ => exact p3.bnd.elim
theorem md_chain {op op' : CmpOp} {e : Expr} {h : ME} {g1 g2 : D → D → M D} (o : CO X c ex op g1) (o' : CO X c ex op' g2) (ha : PE X a (tE c ex f)) (hb : PE X b (tE c ex g)) (hc : PE X e (tE c ex h))
    (hm : lastMarks [op, op'] [b, e] = false := by with_unfolding_all rfl) : PE X (.Compare a [op, op'] [b, e] pos) (tE c ex (chn f g h g1 g2)) := by
  obtain ⟨r, ho, s⟩ := o.ex
  obtain ⟨r', ho', s'⟩ := o'.ex
  exact PE_imp (pe_chain ho ho' ha hb hc hm) fun _ _ _ => tE_chn s s'
theorem mt_chain {op op' : CmpOp} {e : Expr} {h : ME} {g1 g2 : D → D → M D} (o : CO X c ex op g1) (o' : CO X c ex op' g2) (ha : PE X a (tE c ex f)) (hb : PE X b (tE c ex g)) (hc : PE X e (tE c ex h))
    (hm : lastMarks [op, op'] [b, e] = false := by with_unfolding_all rfl) : PT X (.Compare a [op, op'] [b, e] pos) (tT c ex (tstB (chn f g h g1 g2))) := by
  obtain ⟨r, ho, s⟩ := o.ex
  obtain ⟨r', ho', s'⟩ := o'.ex
  refine PT_imp (pt_chain ho ho' ha hb hc hm) fun σ H Q q => ?_
  exact tE_chn s s' (tT_B q)
end
end Pm
end
section
set_option Elab.async false
set_option linter.all false
set_option maxRecDepth 100000
set_option maxHeartbeats 2000000
namespace Pm
open PySem PySem.Spec PyProof.Rows L2

/-! ### sorted(t), t a tuple -/
/-- the heap with a new list of these -/
def heapC (h : Heap) (items : Array Value) : Heap := (h.push { cls := .type "list", data := .seq ([] : List Value).toArray }).update h.objs.size (Obj.mapSeq (· ++ items))
section
variable {prog : Program} {w : World} {A : Around} {E : Value → Shared → Prop} {s : Shared}
theorem collectC {t : Addr} {items : Array Value} {Q : List Value → Shared → Prop} (ht : IsTup s.heap t items) (hz : items.size ≤ sizeLine) (h : Q items.toList { s with heap := heapC s.heap items }) : wpAny (model prog w) A (collect (.ref t)) Q E s := by
  obtain ⟨o, ho, hc, n, hd⟩ := ht
  unfold collect
  refine wpAny_bind (wpAny_runValue (codeAny_builtin F.entry_proto_collect (by
    rw [Around.under_plainId F.plain_proto_collect _]
    (show wpAny _ A.in1 (newList [] >>= fun l => again (.builtin "list.__iadd__" ⟨[l, .ref t], []⟩)) _ _ s; refine wpAny_bind (wpAny_newObj_type ?_); refine wpAny_pure ⟨plainId_quiet F.plain_list_iadd _, codeAny_builtin F.entry_list_iadd ?_⟩)
    rw [Around.under_plainId F.plain_list_iadd _]
    have hS : (s.heap.push { cls := .type "list", data := .seq ([] : List Value).toArray }).get? s.heap.objs.size = some { cls := .type "list", data := .seq #[] 0 } := by exact Heap.get?_push_size _ rfl
    have hU : (heapC s.heap items).get? s.heap.objs.size = _ := Heap.get?_update_self (Obj.mapSeq (· ++ items)) hS rfl
    have last : wpAny (model prog w) A (load s.heap.objs.size >>= fun o => match o.data with
        | Data.seq xs _ => pure xs.toList
        | _ => unsupported "internal:collect") Q E { s with heap := heapC s.heap items } := by
      refine wpAny_bind (wpAny_load hU (wpAny_pure ?_))
      have e : ((#[] : Array Value) ++ items).toList = items.toList := by simp
      exact (show Q ((#[] : Array Value) ++ items).toList _ from by rw [e]; exact h)
    refine wpAny_mono (wpAny_extend_seq (hsz := hz) (A := A) (R := fun r s' => r = .ok (.ret (.ref s.heap.objs.size)) ∧ s' = { s with heap := heapC s.heap items }) (s := { s with heap := s.heap.push { cls := .type "list", data := .seq ([] : List Value).toArray } }) _ t _ 0 (.inr rfl) hS (Heap.get?_push_of_some _ ho) hc hd ⟨rfl, rfl⟩) (fun fin s' z => ?_) (fun e s' z => ?_)
    · match fin, z with
      | .done f, ⟨e, e2⟩ => cases e; subst e2; exact last
      | .again c', ⟨z1, z2⟩ => exact ⟨z1, codeAny_mono z2 fun r s'' hr => by obtain ⟨rfl, rfl⟩ := hr; exact last⟩
    · exact absurd z.1 (by simp))))
theorem sortedC {t : Addr} {vs : List Value} {lt : Value → Value → Bool} {Q : Value → Shared → Prop} (O : SrtO.Swo lt) (ht : IsTup s.heap t vs.toArray) (hz : vs.length ≤ sizeLine)
    (hS : 2 ≤ vs.length → ∀ (g : Heap) (a : Addr), SrtO.SortableO prog w A.in1.in1 { s with heap := g } a vs lt) (h : ∀ out : List Value, SrtO.Srtd lt out → SrtO.Stb lt out vs → Q (.ref (s.heap.objs.size + 1)) { s with heap := PyProof.Rows.sortedAll s.heap vs out.toArray }) :
    wpAny (model prog w) A (call (.builtin "sorted") [.ref t]) Q E s := by
  refine Calls.call_function_entry PyProof.Rows.kind_sorted PyProof.Rows.plain_sorted PyProof.Rows.entry_sorted (PyProof.Rows.args_sorted1 _) (by
    unfold Builtin.«sorted»
    refine wpAny_bind (m := checkCount "sorted" 1 1 _) (wpAny_pure (wpAny_bind (collectC ht (by simpa using hz) (wpAny_bind (wpAny_newList ?_ hz)))))
    have z : (heapC s.heap vs.toArray).objs.size = s.heap.objs.size + 1 := by
      unfold heapC
      rw [Heap.size_update, Heap.size_push]
    have hoL : ((heapC s.heap vs.toArray).push (PyProof.Rows.seqObj "list" vs.toArray 0)).get? (s.heap.objs.size + 1) = some (PyProof.Rows.seqObj "list" vs.toArray 0) := by
      rw [← z]
      exact Heap.get?_push_size _ rfl
    show wpAny _ _ _ _ _ { s with heap := (heapC s.heap vs.toArray).push (PyProof.Rows.seqObj "list" vs.toArray 0) }
    rw [z]
    exact wpAny_bind (wpAny_holding (wpAny_call_entry PyProof.Rows.slot_list_sort ⟨_, hoL, rfl⟩ PyProof.Rows.entry_list_sort (SrtO.list_sort_ord O hoL hz (fun h2 => hS h2 _ _) fun out hs hb => ⟨_, rfl, wpAny_pure ⟨_, rfl, h out hs hb⟩⟩) (PyProof.Rows.args_list_sort _))))
end
/-- ints -/
def rSortedIT (K : PySem.W.Frag) : List V → Hp → VK → Prop := fun vs H Q => ∃ (a : Addr) (ns : List Int), vs = [V.ref a] ∧ SqT K H a (ns.map V.int) ∧
  ∀ (ns' : List Int) (p : Addr), List.Perm ns' ns → List.Pairwise (· ≤ ·) ns' → H p = none → Q (.ref p) (upd H p (.lst (ns'.map V.int)))
theorem cr_sortedIT {X : Cx} : CallR X (.builtin "sorted") (rSortedIT X.K) := by
  intro pins s σ H vs us Q I r h
  obtain ⟨a, ns, rfl, hs, q⟩ := h
  obtain ⟨its, rv, ht, hz⟩ := I.tuple hs
  rw [Vals.ref1 r]
  have hi := rv.ints
  refine sortedC SrtO.swo_int ht (by rw [← rv.length]; exact hz) (fun h2 g a' => SrtO.ints_sortable hi h2) fun out h1 h2 => ?_
  obtain ⟨k1, k2, k3⟩ := SrtO.ints_out hi h1 h2
  obtain ⟨ep, he⟩ := PyProof.Rows.sortedAll_at s.heap its out.toArray
  have hl : ((out.map SrtO.iv).map V.int).length ≤ sizeLine := by
    rw [List.length_map] at hz
    rw [List.length_map, k2.length_eq]
    exact hz
  have J := I.laid (t' := s.toks) (a := s.heap.objs.size + 1) (o := .lst ((out.map SrtO.iv).map V.int)) (fun _ _ => PyProof.Rows.sortedAll_old (out := out.toArray)) (Nat.le_succ _) ⟨hl, out, ep, vals_of_ints k1, he⟩
  exact ⟨.ref _, _, J, rfl, q _ _ k2 k3 (I.hok.fresh (Nat.le_succ _))⟩
end Pm
end
section
set_option Elab.async false
set_option linter.all false
set_option maxRecDepth 100000
namespace Pm
open PySem PySem.Spec PyProof.Rows L2

/-! ### arguments, displays -/
def nilA : MA := fun _ => ret []
def conA (f : ME) (g : MA) : MA := fun ρ => bnd (f ρ) fun x => bnd (g ρ) fun xs => ret (x :: xs)
def tupE (g : MA) : ME := fun ρ => bnd (g ρ) fun xs => if xs.length ≤ sizeLine then ret (.tup xs) else no
def lstE (g : MA) : ME := fun ρ => bnd (g ρ) fun xs => if xs.length ≤ sizeLine then alloc xs else no
section
variable {X : Cx} {c : Ct} {ex : Wh} {pos : Pos} {a b e : Expr} {es : List Expr} {fa fb f : ME} {g : MA} {bs : List Addr} {H : Hp} {st : Sto}
theorem ma_nil : PA X [] (tA c ex nilA) := PA_imp pa_nil fun σ H Q q => by
  obtain ⟨ρ, st, bs, rl, re, p⟩ := q
  exact p.now rl [] .nil
theorem ma_cons (ha : PE X e (tE c ex f)) (hr : PA X es (tA c ex g)) (hs : starEach (e :: es) X.env = (false, eval e X.env) :: starEach es X.env := by rfl) : PA X (e :: es) (tA c ex (conA f g)) := PA_imp (pa_cons ha hr hs) fun σ H Q q => by
  obtain ⟨ρ, st, bs, rl, re, p⟩ := q
  refine ⟨ρ, st, bs, rl, re, p.bnd.imp fun d st1 bs1 H1 e1 rl1 p1 v rv => ?_⟩
  exact ⟨ρ, st1, bs1, rl1, re.ext e1, p1.bnd.imp fun ds st2 bs2 H2 e2 rl2 p2 vs rvs => p2.now rl2 _ (.cons (rv.ext e2) rvs)⟩
theorem md_tup {x1} (h : PA X es (tA c ex g)) : PE X (.Tuple es x1 pos) (tE c ex (tupE g)) := PE_imp (pe_tupF h) fun σ H Q q => by
  obtain ⟨ρ, st, bs, rl, re, p⟩ := q
  refine ⟨ρ, st, bs, rl, re, p.bnd.imp fun ds st1 bs1 H1 e1 rl1 p1 vs rvs => ?_⟩
  obtain ⟨h, p1⟩ := Post.iff (m := ret _) p1
  refine ⟨by rw [rvs.length]; exact h, fun q us hq => ?_⟩
  obtain ⟨e2, rl2⟩ := rl1.fresh hq (frT us vs)
  exact p1.at e2 rl2 _ (.tup sqF dlF (rvs.ext e2))
theorem md_lst (h : PA X es (tA c ex g)) : PE X (.List es pos) (tE c ex (lstE g)) := PE_imp (pe_lst h) fun σ H Q q => by
  obtain ⟨ρ, st, bs, rl, re, p⟩ := q
  refine ⟨ρ, st, bs, rl, re, p.bnd.imp fun ds st1 bs1 H1 e1 rl1 p1 vs rvs => ?_⟩
  obtain ⟨h, p1⟩ := Post.iff (m := alloc _) p1
  refine ⟨by rw [rvs.length]; exact h, fun q hq => ?_⟩
  obtain ⟨k, r⟩ := post_alloc p1 rl1 hq rvs
  exact k _ r

/-! ### calls of built-ins, by values -/
def SC (c : Ct) (ex : Wh) (g : List D → M D) (r : List V → Hp → VK → Prop) : Prop := ∀ vs ds bs H st Q, RDs c bs H vs ds → Rel c bs H st → Post c ex (g ds st) bs H (fun z _ bs' H' => ∀ v, RD c bs' H' v z → Q v H') → r vs H Q
def appA (g : MA) (op : List D → M D) : ME := fun ρ => bnd (g ρ) op
/-- a built-in's rule, its meaning -/
structure CB (X : Cx) (c : Ct) (ex : Wh) (f : Value) (g : List D → M D) : Prop where
  ex : ∃ r, CallR X f r ∧ SC c ex g r
theorem tE_app {op : List D → M D} {r : List V → Hp → VK → Prop} (s : SC c ex op r) {σ : L2.St} {H : Hp} {Q : VK} (h : tE c ex (appA g op) σ H Q) : tCB r (tA c ex g) σ H Q := by
  obtain ⟨ρ, st, bs, rl, re, p⟩ := h
  exact ⟨ρ, st, bs, rl, re, p.bnd.imp fun ds st1 bs1 H1 e1 rl1 p1 vs rvs => s _ _ _ _ _ _ rvs rl1 p1⟩
theorem md_callB {x id : _} {p : Pos} {op : List D → M D} (h : CB X c ex (.builtin id) op) (hg : Gl X x) (hm : X.mg x = none) (hv : bootBuiltins x = some (.builtin id)) (ha : PA X (e :: es) (tA c ex g)) (hn : x ≠ "__name__" := by decide) (hdb : (x == ("__debug__" : Str)) = false := by decide)
    (he : starEach (e :: es) X.env = (false, eval e X.env) :: starEach es X.env := by rfl) (hpl : (backTo pos (starEach es X.env)).any (·.1) = false := by rfl) : PE X (.Call (.Name x p) (e :: es) [] pos) (tE c ex (appA g op)) := by
  obtain ⟨r, hc, s⟩ := h.ex
  exact PE_imp (pe_callB hc hg hm hv ha hn hdb he hpl) fun _ _ _ => tE_app s
theorem md_callTy {x T : _} {p : Pos} {op : List D → M D} (h : CB X c ex (.type T) op) (hg : Gl X x) (hm : X.mg x = none) (hv : bootBuiltins x = some (.type T)) (ha : PA X (e :: es) (tA c ex g)) (hn : x ≠ "__name__" := by decide) (hdb : (x == ("__debug__" : Str)) = false := by decide)
    (he : starEach (e :: es) X.env = (false, eval e X.env) :: starEach es X.env := by rfl) (hpl : (backTo pos (starEach es X.env)).any (·.1) = false := by rfl) : PE X (.Call (.Name x p) (e :: es) [] pos) (tE c ex (appA g op)) := by
  obtain ⟨r, hc, s⟩ := h.ex
  exact PE_imp (pe_callTy hc hg hm hv ha hn hdb he hpl) fun _ _ _ => tE_app s
end

def bLen (ns : List Int) : List D → M D
  | [.str y] => if y.length ≤ sizeLine then ret (.int y.length) else no
  | [.tup xs] => ret (.int xs.length)
  | [.loc l] => bnd (obj l) fun o => match o with
    | .lst xs => ret (.int xs.length)
    | .dct kvs => ret (.int kvs.length)
    | .ins _ _ => no
  | [.scr] => ret (.int ns.length)
  | _ => no
def bAbs : List D → M D
  | [.int i] => ret (.int (if i < 0 then -i else i))
  | _ => no
def bInt : List D → M D
  | [.int i] => ret (.int i)
  | [.bl k] => ret (.int (if k then 1 else 0))
  | _ => no
def bStr : List D → M D
  | [.int i] => if i.natAbs.log2 < 1920 then ret (.str (toString i)) else no
  | _ => no
def bMax : List D → M D
  | [.int i, .int j] => ret (.int (if j > i then j else i))
  | _ => no
def bMin : List D → M D
  | [.int i, .int j] => ret (.int (if j < i then j else i))
  | _ => no
/-- ints alone, bools alone -/
def intsOf : List D → Option (List Int)
  | [] => some []
  | .int i :: xs => (intsOf xs).map (i :: ·)
  | _ :: _ => none
def blsOf : List D → Option (List Bool)
  | [] => some []
  | .bl i :: xs => (blsOf xs).map (i :: ·)
  | _ :: _ => none
def bSum : List D → M D
  | [.loc l] => bnd (lst l) fun xs => match intsOf xs with
    | some ns => ret (.int ns.sum)
    | none => no
  | _ => no
def bAll : List D → M D
  | [.loc l] => bnd (lst l) fun xs => match blsOf xs with
    | some ks => ret (.bl (ks.all id))
    | none => no
  | _ => no
def bAny : List D → M D
  | [.loc l] => bnd (lst l) fun xs => match blsOf xs with
    | some ks => ret (.bl (ks.any id))
    | none => no
  | _ => no
def ins (n : Int) : List Int → List Int
  | [] => [n]
  | m :: r => if n ≤ m then n :: m :: r else m :: ins n r
def isort : List Int → List Int
  | [] => []
  | n :: r => ins n (isort r)
def bSorted : List D → M D
  | [.loc l] => bnd (lst l) fun xs => match intsOf xs with
    | some ns => alloc ((isort ns).map .int)
    | none => no
  | [.tup xs] => match intsOf xs with
    | some ns => alloc ((isort ns).map .int)
    | none => no
  | _ => no
def bTuple : List D → M D
  | [.loc l] => bnd (lst l) fun xs => ret (.tup xs)
  | [.tup xs] => ret (.tup xs)
  | _ => no
def bList (ns : List Int) : List D → M D
  | [.loc l] => bnd (lst l) fun xs => alloc xs
  | [.tup xs] => alloc xs
  | [.scr] => alloc (ns.map .int)
  | _ => no
def bRepr : List D → M D
  | [d] => bnd (py d) fun p => if p.showable = true ∧ p.hasDict = false ∧ p.depth ≤ 60 ∧ p.shown.length ≤ 100000 then ret (.str p.shown) else no
  | _ => no
theorem ins_perm (n : Int) : ∀ r : List Int, (ins n r).Perm (n :: r)
  | [] => .refl _
  | m :: r => by
    unfold ins
    split
    · exact .refl _
    · exact ((ins_perm n r).cons m).trans (.swap n m r)
theorem isort_perm : ∀ r : List Int, (isort r).Perm r
  | [] => .refl _
  | n :: r => (ins_perm n (isort r)).trans ((isort_perm r).cons n)
theorem ins_sorted (n : Int) : ∀ r : List Int, r.Pairwise (· ≤ ·) → (ins n r).Pairwise (· ≤ ·)
  | [], _ => by simp [ins]
  | m :: r, h => by
    unfold ins
    rw [List.pairwise_cons] at h
    split
    · rename_i hn
      rw [List.pairwise_cons, List.pairwise_cons]
      refine ⟨fun x hx => ?_, h⟩
      rcases List.mem_cons.mp hx with rfl | hx
      · exact hn
      · exact Int.le_trans hn (h.1 x hx)
    · rename_i hn
      rw [List.pairwise_cons]
      refine ⟨fun x hx => ?_, ins_sorted n r h.2⟩
      rcases List.mem_cons.mp ((ins_perm n r).mem_iff.mp hx) with rfl | hx
      · omega
      · exact h.1 x hx
theorem isort_sorted : ∀ r : List Int, (isort r).Pairwise (· ≤ ·)
  | [] => .nil
  | n :: r => ins_sorted n _ (isort_sorted r)
theorem intsOf_map : ∀ {xs : List D} {ns : List Int}, intsOf xs = some ns → xs = ns.map D.int
  | [], ns, h => by cases h; rfl
  | .int i :: xs, ns, h => by
    unfold intsOf at h
    cases e : intsOf xs with
    | none => rw [e] at h; cases h
    | some ms =>
      rw [e] at h
      cases h
      rw [intsOf_map e]
      rfl
  | .non :: _, _, h => by cases h
  | .bl _ :: _, _, h => by cases h
  | .str _ :: _, _, h => by cases h
  | .tup _ :: _, _, h => by cases h
  | .loc _ :: _, _, h => by cases h
  | .scr :: _, _, h => by cases h
theorem intsOf_ints (ns : List Int) : intsOf (ns.map D.int) = some ns := by
  induction ns with
  | nil => rfl
  | cons n r ih => simp [intsOf, ih]
theorem blsOf_map : ∀ {xs : List D} {ns : List Bool}, blsOf xs = some ns → xs = ns.map D.bl
  | [], ns, h => by cases h; rfl
  | .bl i :: xs, ns, h => by
    unfold blsOf at h
    cases e : blsOf xs with
    | none => rw [e] at h; cases h
    | some ms =>
      rw [e] at h
      cases h
      rw [blsOf_map e]
      rfl
  | .non :: _, _, h => by cases h
  | .int _ :: _, _, h => by cases h
  | .str _ :: _, _, h => by cases h
  | .tup _ :: _, _, h => by cases h
  | .loc _ :: _, _, h => by cases h
  | .scr :: _, _, h => by cases h
theorem blsOf_bls (ns : List Bool) : blsOf (ns.map D.bl) = some ns := by
  induction ns with
  | nil => rfl
  | cons n r ih => simp [blsOf, ih]
section
variable {X : Cx} {c : Ct} {ex : Wh} {bs : List Addr} {H : Hp} {st : Sto}
theorem RDs.toInts : ∀ {vs : List V} {ns : List Int}, RDs c bs H vs (ns.map D.int) → vs = ns.map V.int
  | _, [], .nil => rfl
  | _, n :: ns, .cons (.int _) t => by rw [RDs.toInts t]; rfl
theorem RDs.toBls : ∀ {vs : List V} {ns : List Bool}, RDs c bs H vs (ns.map D.bl) → vs = ns.map V.bl
  | _, [], .nil => rfl
  | _, n :: ns, .cons (.bl _) t => by rw [RDs.toBls t]; rfl
theorem cb_len (hK : X.K = c.K) : CB X c ex (.builtin "len") (bLen c.ns) := ⟨_, call_len.or call_lenD, by
  intro vs ds bs H st Q r rl p
  cases r with
  | nil => exact p.elim
  | cons r t =>
    cases t with
    | cons _ _ => cases r <;> exact p.elim
    | nil =>
      cases r with
      | str y =>
        obtain ⟨h, p⟩ := Post.iff (m := ret _) p
        exact .inl ⟨_, _, rfl, ⟨h, rfl⟩, p.now rl _ (.int _)⟩
      | tup s tl r => exact .inl ⟨_, _, rfl, .inr ⟨_, by rw [hK]; exact s, rfl⟩, by rw [r.length]; exact p.now rl _ (.int _)⟩
      | loc h =>
        obtain ⟨a, o, e, hb, hl, ro, p⟩ := post_obj p rl (RD.loc h)
        cases e
        cases o with
        | lst xs =>
          obtain ⟨vs, hv, r⟩ := ro
          exact .inl ⟨_, _, rfl, .inl ⟨_, SqL.of hv, rfl⟩, by rw [r.length]; exact Post.now p rl _ (.int _)⟩
        | dct kvs =>
          obtain ⟨vks, hv, e, r⟩ := ro
          have el : vks.length = kvs.length := by
            have := congrArg List.length e
            simpa using this
          exact .inr ⟨_, vks, rfl, hv, by rw [el]; exact Post.now p rl _ (.int _)⟩
        | ins _ _ => exact p.elim
      | scr => exact .inl ⟨_, _, rfl, .inl ⟨_, by rw [hK]; exact rl.scr.sq, rfl⟩, by rw [List.length_map]; exact p.now rl _ (.int _)⟩
      | _ => exact p.elim⟩
theorem cb_abs : CB X c ex (.builtin "abs") bAbs := ⟨_, call_abs, by
  intro vs ds bs H st Q r rl p
  match ds, r, p with
  | [.int i], .cons (.int _) .nil, p => exact ⟨_, rfl, p.now rl _ (.int _)⟩⟩
theorem cb_int : CB X c ex (.type "int") bInt := ⟨_, call_int1, by
  intro vs ds bs H st Q r rl p
  match ds, r, p with
  | [.int i], .cons (.int _) .nil, p => exact .inl ⟨_, rfl, p.now rl _ (.int _)⟩
  | [.bl i], .cons (.bl _) .nil, p => exact .inr ⟨_, rfl, p.now rl _ (.int _)⟩⟩
theorem cb_str : CB X c ex (.type "str") bStr := ⟨_, call_str_int, by
  intro vs ds bs H st Q r rl p
  match ds, r, p with
  | [.int i], .cons (.int _) .nil, p =>
    obtain ⟨h, p⟩ := Post.iff (m := ret _) p
    exact ⟨_, rfl, h, p.now rl _ (.str _)⟩⟩
theorem cb_max (hc : X.calm = true) : CB X c ex (.builtin "max") bMax := ⟨_, call_max2 hc, by
  intro vs ds bs H st Q r rl p
  match ds, r, p with
  | [.int i, .int j], .cons (.int _) (.cons (.int _) .nil), p => exact ⟨_, _, rfl, p.now rl _ (.int _)⟩⟩
theorem cb_min (hc : X.calm = true) : CB X c ex (.builtin "min") bMin := ⟨_, call_min2 hc, by
  intro vs ds bs H st Q r rl p
  match ds, r, p with
  | [.int i, .int j], .cons (.int _) (.cons (.int _) .nil), p => exact ⟨_, _, rfl, p.now rl _ (.int _)⟩⟩
theorem cb_sum (hK : X.K = c.K) (hc : X.calm = true) : CB X c ex (.builtin "sum") bSum := ⟨_, cr_sum hc, by
  intro vs ds bs H st Q r rl p
  match ds, r, p with
  | [.loc l], .cons (.loc h) .nil, p =>
    obtain ⟨a, vs, xs, e, hb, hl, hv, r, p⟩ := post_lst (k := fun _ _ _ _ => True) p rl (RD.loc h)
    cases e
    cases e1 : intsOf xs with
    | none => simp only [e1] at p; exact p.elim
    | some ns =>
      simp only [e1] at p
      rw [intsOf_map e1] at r
      rw [r.toInts] at hv
      exact ⟨_, _, rfl, SqL.of hv, p.now rl _ (.int _)⟩⟩
theorem cb_all (hK : X.K = c.K) (hc : X.calm = true) : CB X c ex (.builtin "all") bAll := ⟨_, cr_all hc, by
  intro vs ds bs H st Q r rl p
  match ds, r, p with
  | [.loc l], .cons (.loc h) .nil, p =>
    obtain ⟨a, vs, xs, e, hb, hl, hv, r, p⟩ := post_lst (k := fun _ _ _ _ => True) p rl (RD.loc h)
    cases e
    cases e1 : blsOf xs with
    | none => simp only [e1] at p; exact p.elim
    | some ns =>
      simp only [e1] at p
      rw [blsOf_map e1] at r
      rw [r.toBls] at hv
      exact ⟨_, _, rfl, SqL.of hv, p.now rl _ (.bl _)⟩⟩
theorem cb_any (hK : X.K = c.K) (hc : X.calm = true) : CB X c ex (.builtin "any") bAny := ⟨_, cr_any hc, by
  intro vs ds bs H st Q r rl p
  match ds, r, p with
  | [.loc l], .cons (.loc h) .nil, p =>
    obtain ⟨a, vs, xs, e, hb, hl, hv, r, p⟩ := post_lst (k := fun _ _ _ _ => True) p rl (RD.loc h)
    cases e
    cases e1 : blsOf xs with
    | none => simp only [e1] at p; exact p.elim
    | some ns =>
      simp only [e1] at p
      rw [blsOf_map e1] at r
      rw [r.toBls] at hv
      exact ⟨_, _, rfl, SqL.of hv, p.now rl _ (.bl _)⟩⟩
theorem cb_sorted (hK : X.K = c.K) : CB X c ex (.builtin "sorted") bSorted := ⟨_, cr_sortedI.or cr_sortedIT, by
  intro vs ds bs H st Q r rl p
  match ds, r, p with
  | [.loc l], .cons (.loc h) .nil, p =>
    obtain ⟨a, vs, xs, e, hb, hl, hv, r, p⟩ := post_lst (k := fun _ _ _ _ => True) p rl (RD.loc h)
    cases e
    cases e1 : intsOf xs with
    | none => simp only [e1] at p; exact p.elim
    | some ns =>
      simp only [e1] at p
      rw [intsOf_map e1] at r
      rw [r.toInts] at hv
      refine .inl ⟨_, _, rfl, SqL.of hv, fun ns' q hp hs hq => ?_⟩
      have e2 : ns' = isort ns := PySem.W.ksm_same (hp.trans (isort_perm ns).symm) hs (isort_sorted ns)
      subst e2
      obtain ⟨k, r⟩ := post_alloc p rl hq (RDs.ints _)
      exact k _ r
  | [.tup xs], .cons (.tup s tl r) .nil, p =>
    cases e1 : intsOf xs with
    | none => simp only [bSorted, e1] at p; exact p.elim
    | some ns =>
      simp only [bSorted, e1] at p
      rw [intsOf_map e1] at r
      rw [r.toInts] at s
      refine .inr ⟨_, _, rfl, by rw [hK]; exact s, fun ns' q hp hs hq => ?_⟩
      have e2 : ns' = isort ns := PySem.W.ksm_same (hp.trans (isort_perm ns).symm) hs (isort_sorted ns)
      subst e2
      obtain ⟨k, r⟩ := post_alloc p rl hq (RDs.ints _)
      exact k _ r⟩
theorem cb_tuple (hK : X.K = c.K) : CB X c ex (.type "tuple") bTuple := ⟨_, call_tupleF, by
  intro vs ds bs H st Q r rl p
  match ds, r, p with
  | [.loc l], .cons (.loc h) .nil, p =>
    obtain ⟨a, vs, xs, e, hb, hl, hv, r, p⟩ := post_lst (k := fun _ _ _ _ => True) p rl (RD.loc h)
    cases e
    refine ⟨_, _, rfl, .inl ⟨SqL.of hv, fun q us hq => ?_⟩⟩
    obtain ⟨e2, rl2⟩ := rl.fresh hq (frT us vs)
    exact p.at e2 rl2 _ (.tup sqF dlF (r.ext e2))
  | [.tup xs], .cons (.tup s tl r) .nil, p => exact ⟨_, _, rfl, .inr ⟨by rw [hK]; exact s, p.now rl _ (.tup s tl r)⟩⟩⟩
theorem cb_list (hK : X.K = c.K) : CB X c ex (.type "list") (bList c.ns) := ⟨_, call_list_of, by
  intro vs ds bs H st Q r rl p
  match ds, r, p with
  | [.loc l], .cons (.loc h) .nil, p =>
    obtain ⟨a, vs, xs, e, hb, hl, hv, r, p⟩ := post_lst (k := fun _ _ _ _ => True) p rl (RD.loc h)
    cases e
    refine ⟨_, _, rfl, .inl (SqL.of hv), fun q hq => ?_⟩
    obtain ⟨k, r⟩ := post_alloc p rl hq r
    exact k _ r
  | [.tup xs], .cons (.tup s tl r) .nil, p =>
    refine ⟨_, _, rfl, .inr (by rw [hK]; exact s), fun q hq => ?_⟩
    obtain ⟨k, r⟩ := post_alloc p rl hq r
    exact k _ r
  | [.scr], .cons .scr .nil, p =>
    refine ⟨_, _, rfl, .inl (by rw [hK]; exact rl.scr.sq), fun q hq => ?_⟩
    obtain ⟨k, r⟩ := post_alloc p rl hq (RDs.ints _)
    exact k _ r⟩
end
end Pm
end
section
set_option Elab.async false
set_option linter.all false
set_option maxRecDepth 100000
namespace Pm
open PySem PySem.Spec PyProof.Rows L2

/-! ### repr of data -/
section
variable {X : Cx} {c : Ct} {ex : Wh} {bs : List Addr} {H : Hp} {st : Sto} {pos : Pos} {a b e : Expr} {es : List Expr} {fa fb f : ME} {g : MA}
def rRepr (K : PySem.W.Frag) : List V → Hp → VK → Prop := fun xs H Q => ∃ v p, xs = [v] ∧ Dp K H v p ∧ p.showable = true ∧ p.hasDict = false ∧ p.depth ≤ 60 ∧ p.shown.length ≤ 100000 ∧ Q (.str p.shown) H
theorem cr_repr (hg : X.A.guards = some []) (hu : X.A.units + 64 < cLine) : CallR X (.builtin "repr") (rRepr X.K) := by
  intro pins s σ H xs us Q I r h
  obtain ⟨v, p, rfl, hd, hs, hn, hdp, hz, q⟩ := h
  obtain ⟨u, rfl, r1⟩ := vals1 r
  have hz' : p.shown.length ≤ sizeLine := Nat.le_trans hz (by rw [sizeLine_eq]; decide)
  have big : ∀ {y : Addr}, u = Value.ref y → wpAny (model X.prog X.w) X.A (call (.builtin "repr") [u]) (EP X pins σ Q) X.xe s := fun {y} e => by
    subst e
    obtain ⟨as, hr⟩ := Dp.reads I p v _ hd r1
    exact repr_of_reads' (h₀ := s.heap) hr hs (fun z => by rw [hn] at z; cases z) hg (by omega) (fun _ _ z => z) (fun h' w tk hk => ⟨.str p.shown, H, I.kept (t' := tk) hk, ⟨w, rfl⟩, q⟩) hz'
  cases hd with
  | non => cases r1; exact PySem.P.repr_of_none ⟨.str _, H, I.tok _, ⟨_, rfl⟩, q⟩
  | bl b => cases r1; exact PySem.P.repr_of_bool ⟨.str _, H, I.tok _, ⟨_, rfl⟩, by cases b <;> exact q⟩
  | int i => obtain ⟨t, rfl⟩ := r1; exact PySem.P.repr_of_int (of_decide_eq_true hs) ⟨.str _, H, I.tok _, ⟨_, rfl⟩, q⟩
  | str x => obtain ⟨t, rfl⟩ := r1; exact PySem.P.repr_of_str (⟨.str _, H, I.tok _, ⟨_, rfl⟩, q⟩) hz'
  | lst _ _ => exact big r1
  | tup _ _ => exact big r1
theorem cb_repr (hK : X.K = c.K) (hg : X.A.guards = some []) (hu : X.A.units + 64 < cLine) : CB X c ex (.builtin "repr") bRepr := ⟨_, cr_repr hg hu, by
  intro vs ds bs H st Q r rl p
  match ds, r, p with
  | [d], .cons r .nil, p =>
    obtain ⟨u, _, hd, p⟩ := post_py p rl r
    obtain ⟨⟨h1, h2, h3, h4⟩, p⟩ := Post.iff (m := ret _) p
    exact ⟨_, u, rfl, by rw [hK]; exact hd, h1, h2, h3, h4, p.now rl _ (.str _)⟩⟩

/-! ### isinstance -/
def isT (t T : String) : Bool := t == T || (t == "bool" && T == "int")
def okT (T : String) : Bool := ["NoneType", "bool", "int", "str", "tuple", "list", "dict"].all fun t => kitB t T == some (isT t T)
def isi (T : String) : D → M D
  | .non => ret (.bl (isT "NoneType" T))
  | .bl _ => ret (.bl (isT "bool" T))
  | .int _ => ret (.bl (isT "int" T))
  | .str _ => ret (.bl (isT "str" T))
  | .tup _ => ret (.bl (isT "tuple" T))
  | .loc l => bnd (obj l) fun o => match o with
    | .lst _ => ret (.bl (isT "list" T))
    | .dct _ => ret (.bl (isT "dict" T))
    | .ins _ _ => no
  | .scr => no
theorem tyT {t T : String} (h : okT T = true) (ht : t ∈ ["NoneType", "bool", "int", "str", "tuple", "list", "dict"]) : PySem.W.kitOne c.K (.type t) (.type T) = some (isT t T) :=
  kit_ty (eq_of_beq (List.all_eq_true.mp h t ht))
theorem isi_ok {T : String} (hT : okT T = true) {v : V} {d : D} {Q : VK} (r : RD c bs H v d) (rl : Rel c bs H st) (p : Post c ex (isi T d st) bs H (fun z _ bs' H' => ∀ v, RD c bs' H' v z → Q v H')) : rIsi c.K [v, .ty T] H Q := by
  have fin : ∀ (t : String) (ht : t ∈ ["NoneType", "bool", "int", "str", "tuple", "list", "dict"]), TyX c.K H v (.type t) → Post c ex (ret (D.bl (isT t T)) st) bs H (fun z _ bs' H' => ∀ v, RD c bs' H' v z → Q v H') → rIsi c.K [v, .ty T] H Q := fun t ht ty p =>
    ⟨v, .ty T, .type t, .type T, isT t T, rfl, .ty T, ty, tyT hT ht, p.now rl _ (.bl _)⟩
  cases r with
  | non => exact fin "NoneType" (by simp) (.base .non) p
  | bl b => exact fin "bool" (by simp) (.base (.bl b)) p
  | int i => exact fin "int" (by simp) (.base (.int i)) p
  | str x => exact fin "str" (by simp) (.base (.str x)) p
  | @tup a vs ds s tl r =>
    refine fin "tuple" (by simp) ?_ p
    rcases s with (s | ⟨o, s⟩) | ⟨o, its, n, hk, hc, _⟩
    · exact .base (.tup s)
    · exact .fTuple s
    · exact .kTuple hk hc
  | loc h =>
    obtain ⟨a, o, e, hb, hl, ro, p⟩ := post_obj p rl (RD.loc h)
    cases e
    cases o with
    | lst xs =>
      obtain ⟨vs, hv, r⟩ := ro
      exact fin "list" (by simp) (.base (.lst hv)) p
    | dct kvs =>
      obtain ⟨vks, hv, e, r⟩ := ro
      exact fin "dict" (by simp) (.base (.dK hv)) p
    | ins _ _ => exact p.elim
  | scr => exact p.elim
theorem md_isi {T x : _} {p1 p2 : Pos} (hK : X.K = c.K) (hT : okT T = true) (hg : Gl X "isinstance") (hm : X.mg "isinstance" = none) (hv : bootBuiltins "isinstance" = some (.builtin "isinstance")) (ha : PE X a (tE c ex f)) (hg2 : Gl X x) (hm2 : X.mg x = none) (hv2 : bootBuiltins x = some (.type T))
    (hn : x ≠ "__name__" := by decide) (hdb : (x == ("__debug__" : Str)) = false := by decide)
    (he : starEach [a, .Name x p2] X.env = (false, eval a X.env) :: starEach [.Name x p2] X.env := by rfl) (he2 : starEach [.Name x p2] X.env = (false, eval (.Name x p2) X.env) :: starEach [] X.env := by rfl) (hpl : (backTo pos (starEach [.Name x p2] X.env)).any (·.1) = false := by rfl) :
    PE X (.Call (.Name "isinstance" p1) [a, .Name x p2] [] pos) (tE c ex (una f (isi T))) :=
  PE_imp (pe_callB call_isi hg hm hv (pa_cons ha (pa_cons (pe_bltn (v := .ty T) hg2 hm2 hv2 rfl hn hdb) pa_nil he2) he) (by decide) (by decide) he hpl) fun σ H Q q => by
    obtain ⟨ρ, st, bs, rl, re, p⟩ := q
    refine ⟨ρ, st, bs, rl, re, p.bnd.imp fun d st1 bs1 H1 e1 rl1 p1 v rv => ?_⟩
    rw [hK]
    exact isi_ok hT rv rl1 p1

/-! ### items, slices -/
def ofO (o : Option D) : M D := match o with
  | some d => ret d
  | none => no
def opIx (ns : List Int) : D → D → M D
  | .tup xs, .int i => ofO (atI xs i)
  | .loc l, y => bnd (obj l) fun o => match o with
    | .lst xs => match y with
      | .int i => ofO (atI xs i)
      | _ => no
    | .dct kvs => ofO ((dkey y).bind (getK kvs))
    | .ins _ _ => no
  | .scr, .int i => ofO (atI (ns.map D.int) i)
  | .str z, .int i => if z.length ≤ sizeLine then ofO ((atI z.cps.toList i).map fun k => .str ⟨#[k]⟩) else no
  | _, _ => no
theorem post_ofO {o : Option D} {k : D → Sto → List Addr → Hp → Prop} (p : Post c ex (ofO o st) bs H k) (rl : Rel c bs H st) : ∃ d, o = some d ∧ k d st bs H := by
  cases o with
  | none => exact p.elim
  | some d => exact ⟨d, rfl, p.now rl⟩
/-- d[y] -/
def rIxD : R2 := fun x y H Q => ∃ a v, x = .ref a ∧ DGet H a y (some v) ∧ Q v H
theorem ix_dict (hu : X.A.units + 1 < cLine) : IxR X rIxD := by
  intro value slice pins s σ H x y v u Q I rx ry h hs
  obtain ⟨a, z, rfl, g, q⟩ := h
  obtain rfl : v = Value.ref a := rx
  have hT := dict_typeIs I g
  unfold subscriptTail
  refine wpAny_bind ?_
  rw [getitemInPython_of_ne hT.not_modules]
  refine wpAny_bind (wpAny_specialOf hT PySem.F.slot_dict_getitem.lookup ?_)
  have fin : wpAny (model X.prog X.w) X.A (subscripted slice false (.ref a) u) (fun r s₃ => wpAny (model X.prog X.w) X.A (letTemporaryGo value (.ref a) r >>= fun _ => pure r) (EP X pins σ Q) X.xe s₃) X.xe s := by
    rw [hs]
    exact wpAny_operating (wpAny_mono (d_getItem (Q := EP X pins σ Q) hu I g ry fun w' s3 I3 rw' => ⟨z, H, I3, rw', q⟩) (fun r s₃ h₃ => wpAny_bind (wpAny_letTemporaryGo (wpAny_pure h₃))) fun _ _ x => x)
  first
    | exact wpAny_pure (wpAny_bind fin)
    | exact wpAny_bind (wpAny_pure (wpAny_bind fin))
    | exact wpAny_bind fin
def rIxA (K : PySem.W.Frag) : R2 := fun x y H Q => rIx K x y H Q ∨ rIxD x y H Q
theorem dkey_v {y : V} {d : D} {k : Key} (r : RD c bs H y d) (e : dkey d = some k) : y = kV k := by
  cases r with
  | int i => cases e; rfl
  | str x => cases e; rfl
  | _ => cases e
theorem s2_ix : S2 c ex (opIx c.ns) (rIxA c.K) := by
  intro x y d e bs H st Q rx ry rl p
  cases rx with
  | @tup a vs xs s tl r =>
    cases ry with
    | int i =>
      obtain ⟨d, e, q⟩ := post_ofO p rl
      obtain ⟨v, h1, h2⟩ := r.atI e
      exact .inl (.inr (.inl ⟨_, _, _, _, rfl, rfl, s, h1, q _ h2⟩))
    | _ => exact p.elim
  | loc h =>
    obtain ⟨a, o, e, hb, hl, ro, p⟩ := post_obj p rl (RD.loc h)
    cases e
    cases o with
    | lst xs =>
      obtain ⟨vs, hv, r⟩ := ro
      cases ry with
      | int i =>
        obtain ⟨d, e, q⟩ := post_ofO p rl
        obtain ⟨v, h1, h2⟩ := r.atI e
        exact .inl (.inl ⟨_, _, _, _, rfl, rfl, SqL.of hv, h1, q _ h2⟩)
      | _ => exact p.elim
    | dct kvs =>
      obtain ⟨vks, hv, ek, r⟩ := ro
      obtain ⟨d, e, q⟩ := post_ofO p rl
      obtain ⟨k, e1, e2⟩ := Option.bind_eq_some_iff.mp e
      obtain ⟨v, h1, h2⟩ := rdk_get ek r e2
      refine .inr ⟨_, v, rfl, ?_, q _ h2⟩
      rw [← h1, dkey_v ry e1]
      exact DGet.k hv
    | ins _ _ => exact p.elim
  | scr =>
    cases ry with
    | int i =>
      obtain ⟨d, e, q⟩ := post_ofO p rl
      obtain ⟨v, h1, h2⟩ := (RDs.ints (c := c) (bs := bs) (H := H) c.ns).atI e
      exact .inl (.inl ⟨_, _, _, _, rfl, rfl, rl.scr.sq, h1, q _ h2⟩)
    | _ => exact p.elim
  | str z =>
    cases ry with
    | int i =>
      obtain ⟨h, p⟩ := Post.iff (m := ofO _) p
      obtain ⟨d, e, q⟩ := post_ofO p rl
      cases e1 : atI z.cps.toList i with
      | none => rw [e1] at e; cases e
      | some k =>
        rw [e1] at e
        cases e
        exact .inl (.inr (.inr ⟨_, _, _, rfl, rfl, h, e1, q _ (.str _)⟩))
    | _ => exact p.elim
  | _ => cases ry <;> exact p.elim
theorem md_ix (hK : X.K = c.K) (hu : X.A.units + 64 < cLine) (ha : PE X a (tE c ex fa)) (hb : PE X b (tE c ex fb)) (hs : PlainIx b := by intro _ _; rfl) : PE X (.Subscript a b pos) (tE c ex (bin fa fb (opIx c.ns))) :=
  PE_imp (pe_ix (ix_seq.or (ix_dict (by omega))) ha hb hs) fun _ _ _ q => tE_bin (by rw [hK]; exact s2_ix) q
/-- the ends of a slice -/
abbrev MO := En → M (Option Int)
def noP : MO := fun _ => ret none
def som (f : ME) : MO := fun ρ => bnd (f ρ) fun x => match x with
  | .int i => ret (some i)
  | _ => no
def tO (c : Ct) (ex : Wh) (f : MO) : TO := fun σ H Q => ∃ ρ st bs, Rel c bs H st ∧ RE c bs H ρ σ ∧ Post c ex (f ρ st) bs H fun o _ _ H' => Q o H'
theorem PO_imp {X : Cx} {e : Option Expr} {t t' : TO} (h : PO X e t) (i : ∀ σ H Q, t' σ H Q → t σ H Q) : PO X e t' := ⟨fun pins s σ H Q I q => h.run pins s σ H Q I (i σ H Q q)⟩
theorem mo_none : PO X none (tO c ex noP) := PO_imp po_none fun σ H Q q => by
  obtain ⟨ρ, st, bs, rl, re, p⟩ := q
  exact p.now rl
theorem mo_some (h : PE X e (tE c ex f)) : PO X (some e) (tO c ex (som f)) := PO_imp (po_some h) fun σ H Q q => by
  obtain ⟨ρ, st, bs, rl, re, p⟩ := q
  refine ⟨ρ, st, bs, rl, re, p.bnd.imp fun d st1 bs1 H1 e1 rl1 p1 v rv => ?_⟩
  cases rv with
  | int i => exact ⟨i, rfl, p1.now rl1⟩
  | _ => exact p1.elim
def cutD {α : Type} (xs : List α) (lo hi : Option Int) : List α := (xs.drop (HT.sIx xs.length 0 lo)).take (HT.sIx xs.length xs.length hi - HT.sIx xs.length 0 lo)
theorem RDs.cut {vs : List V} {xs : List D} (r : RDs c bs H vs xs) (lo hi : Option Int) : RDs c bs H (cutV vs lo hi) (cutD xs lo hi) := by
  unfold cutV cutD
  rw [r.length]
  exact (r.drop _).take _
def opSl (ns : List Int) : D → Option Int → Option Int → M D
  | .tup xs, lo, hi => ret (.tup (cutD xs lo hi))
  | .loc l, lo, hi => bnd (lst l) fun xs => alloc (cutD xs lo hi)
  | .scr, lo, hi => alloc (cutD (ns.map D.int) lo hi)
  | .str z, lo, hi => if z.length ≤ sizeLine then ret (.str (cutS z lo hi)) else no
  | _, _, _ => no
def sli (f : ME) (g h : MO) (op : D → Option Int → Option Int → M D) : ME := fun ρ => bnd (f ρ) fun x => bnd (g ρ) fun lo => bnd (h ρ) fun hi => op x lo hi
def rSlA (K : PySem.W.Frag) : V → Option Int → Option Int → Hp → VK → Prop := fun x lo hi H Q => rSlL K x lo hi H Q ∨ rSlF K x lo hi H Q ∨ rSlS x lo hi H Q
theorem s3_sl {x : V} {d : D} {lo hi : Option Int} {Q : VK} (rx : RD c bs H x d) (rl : Rel c bs H st) (p : Post c ex (opSl c.ns d lo hi st) bs H (fun z _ bs' H' => ∀ v, RD c bs' H' v z → Q v H')) : Pm.rSlA c.K x lo hi H Q := by
  cases rx with
  | @tup a1 vs xs s tl r =>
    refine .inr (.inl ⟨_, vs, rfl, s, fun hw => ?_, fun _ q us hq => ?_⟩)
    · have e : cutD xs lo hi = xs := by
        rw [r.length] at hw
        unfold cutD
        rw [hw.1, hw.2]
        simp
      have p : Post c ex (ret (D.tup (cutD xs lo hi)) st) bs H _ := p
      rw [e] at p
      exact p.now rl _ (.tup s tl r)
    obtain ⟨e, rl'⟩ := rl.fresh hq (frT us (cutV vs lo hi))
    exact p.at e rl' _ (.tup sqF dlF ((r.cut lo hi).ext e))
  | loc h =>
    obtain ⟨a, vs, xs, e, hb, hl, hv, r, p⟩ := post_lst (k := fun _ _ _ _ => True) p rl (RD.loc h)
    cases e
    refine .inl ⟨_, vs, rfl, SqL.of hv, fun q hq => ?_⟩
    obtain ⟨k, r⟩ := post_alloc p rl hq (r.cut lo hi)
    exact k _ r
  | scr =>
    refine .inl ⟨_, _, rfl, rl.scr.sq, fun q hq => ?_⟩
    obtain ⟨k, r⟩ := post_alloc p rl hq ((RDs.ints c.ns).cut lo hi)
    exact k _ r
  | str z =>
    obtain ⟨h, p⟩ := Post.iff (m := ret _) p
    exact .inr (.inr ⟨z, rfl, h, p.now rl _ (.str _)⟩)
  | _ => exact p.elim
theorem md_sl {lo hi : Option Expr} {g h : MO} {p2 : Pos} (hK : X.K = c.K) (ha : PE X a (tE c ex f)) (hl : PO X lo (tO c ex g)) (hh : PO X hi (tO c ex h)) : PE X (.Subscript a (.Slice lo hi none p2) pos) (tE c ex (sli f g h (opSl c.ns))) :=
  PE_imp (pe_slice (sl_list.or (sl_tupF.or sl_str)) ha hl hh) fun σ H Q q => by
    obtain ⟨ρ, st, bs, rl, re, p⟩ := q
    refine ⟨ρ, st, bs, rl, re, p.bnd.imp fun d st1 bs1 H1 e1 rl1 p1 v rv => ?_⟩
    refine ⟨ρ, st1, bs1, rl1, re.ext e1, p1.bnd.imp fun lo st2 bs2 H2 e2 rl2 p2 => ?_⟩
    refine ⟨ρ, st2, bs2, rl2, (re.ext e1).ext e2, p2.bnd.imp fun hi st3 bs3 H3 e3 rl3 p3 => ?_⟩
    rw [hK]
    exact s3_sl ((rv.ext e2).ext e3) rl3 p3

/-! ### list(range(..)) -/
def bRg1 : D → M D
  | .int n => if -(2 ^ 62) ≤ n ∧ n ≤ 2 ^ 24 then alloc ((List.range n.toNat).map fun i => .int (0 + (i : Nat))) else no
  | _ => no
theorem RDs.mapI (f : Nat → Int) : ∀ l : List Nat, RDs c bs H (l.map fun i => V.int (f i)) (l.map fun i => D.int (f i))
  | [] => .nil
  | _ :: l => .cons (.int _) (RDs.mapI f l)
theorem md_listRg {p p' : Pos} (hc : X.calm = true) (hg : Gl X "list") (hm : X.mg "list" = none) (hg' : Gl X "range") (hm' : X.mg "range" = none) (ha : PE X a (tE c ex f))
    (na : starEach [a] X.env = (false, eval a X.env) :: starEach [] X.env := by rfl) (na' : starEach [.Call (.Name "range" p') [a] [] pos] X.env = (false, eval (.Call (.Name "range" p') [a] [] pos) X.env) :: starEach [] X.env := by rfl) {pos2 : Pos} :
    PE X (.Call (.Name "list" p) [.Call (.Name "range" p') [a] [] pos] [] pos2) (tE c ex (una f bRg1)) :=
  PE_imp (pe_listRg hc hg hm (prg_1 hg' hm' ha na) na') fun σ H Q q => by
    obtain ⟨ρ, st, bs, rl, re, p⟩ := q
    refine ⟨ρ, st, bs, rl, re, p.bnd.imp fun d st1 bs1 H1 e1 rl1 p1 v rv => ?_⟩
    cases rv with
    | int n =>
      obtain ⟨⟨h1, h2⟩, p1⟩ := Post.iff (m := alloc _) p1
      refine ⟨n, rfl, ⟨by decide, by decide, h1, by omega, by omega⟩, fun q hq => ?_⟩
      have e : rgV 0 n = (List.range n.toNat).map fun i => V.int (0 + (i : Nat)) := by
        unfold rgV
        rw [Int.sub_zero]
      rw [e]
      obtain ⟨k, r⟩ := post_alloc p1 rl1 hq (RDs.mapI (fun i => 0 + (i : Nat)) _)
      exact k _ r
    | _ => exact p1.elim
end
end Pm
end
section
set_option Elab.async false
set_option linter.all false
set_option maxRecDepth 100000
namespace Pm
open PySem PySem.Spec PyProof.Rows L2

/-! ### patterns of targets -/
inductive Pat where
  | nm (i : Nat) | tp (ps : List Pat)
mutual
def gP (K : PySem.W.Frag) : Pat → TG
  | .nm i => gName i
  | .tp ps => gTup K ps.length (gPs K ps)
def gPs (K : PySem.W.Frag) : List Pat → TGs
  | [] => gNil
  | p :: ps => gCons (gP K p) (gPs K ps)
def slots : Pat → List Nat
  | .nm i => [i]
  | .tp ps => slotss ps
def slotss : List Pat → List Nat
  | [] => []
  | p :: ps => slots p ++ slotss ps
/-- what a pattern binds -/
def bindP : Pat → D → En → Option En
  | .nm i, d, ρ => some (ρ.set i (some d))
  | .tp ps, .tup xs, ρ => bindPs ps xs ρ
  | .tp _, _, _ => none
def bindPs : List Pat → List D → En → Option En
  | [], [], ρ => some ρ
  | p :: ps, x :: xs, ρ => (bindP p x ρ).bind fun ρ' => bindPs ps xs ρ'
  | _, _, _ => none
end
section
variable {X : Cx} {c : Ct} {ex : Wh} {bs : List Addr} {H : Hp} {st : Sto} {pos : Pos} {es : List Expr} {e : Expr}
theorem mg_name {i : Nat} {x : Str} (hN : X.N.Nodup) (hi : X.N[i]? = some x := by rfl) (hx : Loc X.env.scope x := by first | exact Or.inl rfl | exact Or.inr rfl) (hf : X.fn x = true ∨ X.env.scope.names.lookup x = some .local := by first | exact .inl rfl | exact .inr rfl) : PG X (.Name x pos) (gP c.K (.nm i)) := by
  unfold gP
  exact pg_name hN hi hx hf
theorem mg_nil : PGs X [] (gPs c.K []) := by
  unfold gPs
  exact pgs_nil
theorem mg_cons {p : Pat} {ps : List Pat} (h1 : PG X e (gP c.K p)) (h2 : PGs X es (gPs c.K ps)) (hs : (assignEach (e :: es) X.env).map (·.2) = assign e X.env :: (assignEach es X.env).map (·.2) := by rfl) : PGs X (e :: es) (gPs c.K (p :: ps)) := by
  unfold gPs
  exact pgs_cons h1 h2 hs
theorem mg_tup {k : Nat} {ps : List Pat} (hK : X.K = c.K) (hc : X.calm = true) (h : PGs X es (gPs c.K ps)) (hn : (assignEach es X.env).length = ps.length := by rfl) (hst : (assignEach es X.env).findIdx? (·.1) = none := by rfl) : PG X (.Tuple es k pos) (gP c.K (.tp ps)) := by
  unfold gP
  rw [← hK] at h ⊢
  exact pg_tup hc h hn hst
theorem wipe_out_set : ∀ {vs : List Nat} {i : Nat} {v : Option V} {σ : L2.St}, i ∉ vs → wipe (σ.set i v) vs = (wipe σ vs).set i v
  | [], _, _, _, _ => rfl
  | w :: vs, i, v, σ, h => by
    unfold wipe
    rw [wipe_out_set fun z => h (List.mem_cons_of_mem _ z), List.set_comm _ _ fun z => h (by rw [z]; exact List.mem_cons_self)]
theorem wipe_set : ∀ {vs : List Nat} {i : Nat} {v : Option V}, i ∈ vs → ∀ σ : L2.St, wipe (σ.set i v) vs = wipe σ vs
  | [], _, _, h, _ => by cases h
  | w :: vs, i, v, h, σ => by
    unfold wipe
    by_cases hw : i ∈ vs
    · rw [wipe_set hw]
    · have hi : i = w := by
        rcases List.mem_cons.mp h with q | q
        · exact q
        · exact absurd q hw
      subst hi
      rw [wipe_out_set hw, List.set_set]
mutual
theorem bindP_ok : ∀ (p : Pat) (d : D) (v : V) (ρ ρ' : En) (σ : L2.St) (Q : L2.St → Hp → Prop), RD c bs H v d → RE c bs H ρ σ → bindP p d ρ = some ρ' → (∀ σ', RE c bs H ρ' σ' → (∀ vs : List Nat, (∀ i ∈ slots p, i ∈ vs) → wipe σ' vs = wipe σ vs) → Q σ' H) → gP c.K p v σ H Q
  | .nm i, d, v, ρ, ρ', σ, Q, r, re, e, q => by
    unfold bindP at e
    cases e
    unfold gP gName
    refine q _ (re.set r i) fun vs hv => ?_
    exact wipe_set (hv i (by unfold slots; simp)) σ
  | .tp ps, .tup xs, v, ρ, ρ', σ, Q, r0, re, e, q => by
    cases r0 with
    | tup s tl r =>
    unfold bindP at e
    unfold gP gTup
    have hl : xs.length = ps.length := bindPs_len ps xs ρ ρ' e
    refine ⟨_, _, rfl, s, by rw [r.length, hl], bindPs_ok ps xs _ ρ ρ' σ Q r re e fun σ' a b => q σ' a fun vs hv => b vs fun i hi => hv i (by unfold slots; exact hi)⟩
  | .tp _, .non, _, _, _, _, _, _, _, e, _ => by unfold bindP at e; cases e
  | .tp _, .bl _, _, _, _, _, _, _, _, e, _ => by unfold bindP at e; cases e
  | .tp _, .int _, _, _, _, _, _, _, _, e, _ => by unfold bindP at e; cases e
  | .tp _, .str _, _, _, _, _, _, _, _, e, _ => by unfold bindP at e; cases e
  | .tp _, .loc _, _, _, _, _, _, _, _, e, _ => by unfold bindP at e; cases e
  | .tp _, .scr, _, _, _, _, _, _, _, e, _ => by unfold bindP at e; cases e
theorem bindPs_ok : ∀ (ps : List Pat) (xs : List D) (vs : List V) (ρ ρ' : En) (σ : L2.St) (Q : L2.St → Hp → Prop), RDs c bs H vs xs → RE c bs H ρ σ → bindPs ps xs ρ = some ρ' → (∀ σ', RE c bs H ρ' σ' → (∀ ws : List Nat, (∀ i ∈ slotss ps, i ∈ ws) → wipe σ' ws = wipe σ ws) → Q σ' H) → gPs c.K ps vs σ H Q
  | [], [], _, ρ, ρ', σ, Q, .nil, re, e, q => by
    unfold bindPs at e
    cases e
    unfold gPs gNil
    exact ⟨rfl, q σ re fun _ _ => rfl⟩
  | p :: ps, x :: xs, _, ρ, ρ', σ, Q, .cons r t, re, e, q => by
    unfold bindPs at e
    cases e1 : bindP p x ρ with
    | none => rw [e1] at e; cases e
    | some ρ1 =>
      rw [e1] at e
      have e : bindPs ps xs ρ1 = some ρ' := e
      unfold gPs gCons
      refine ⟨_, _, rfl, bindP_ok p x _ ρ ρ1 σ _ r re e1 fun σ1 re1 w1 => bindPs_ok ps xs _ ρ1 ρ' σ1 Q t re1 e fun σ2 re2 w2 => q σ2 re2 fun ws hw => ?_⟩
      rw [w2 ws fun i hi => hw i (by unfold slotss; exact List.mem_append_right _ hi), w1 ws fun i hi => hw i (by unfold slotss; exact List.mem_append_left _ hi)]
  | [], _ :: _, _, _, _, _, _, _, _, e, _ => by unfold bindPs at e; cases e
  | _ :: _, [], _, _, _, _, _, _, _, e, _ => by unfold bindPs at e; cases e
theorem bindPs_len : ∀ (ps : List Pat) (xs : List D) (ρ ρ' : En), bindPs ps xs ρ = some ρ' → xs.length = ps.length
  | [], [], _, _, _ => rfl
  | p :: ps, x :: xs, ρ, ρ', e => by
    unfold bindPs at e
    cases e1 : bindP p x ρ with
    | none => rw [e1] at e; cases e
    | some ρ1 =>
      rw [e1] at e
      simp [bindPs_len ps xs ρ1 ρ' e]
  | [], _ :: _, _, _, e => by unfold bindPs at e; cases e
  | _ :: _, [], _, _, e => by unfold bindPs at e; cases e
end
end

/-! ### statements -/
def nxS : MS := fun ρ => ret (.nx, ρ)
def bkS : MS := fun ρ => ret (.bk, ρ)
def ctS : MS := fun ρ => ret (.ct, ρ)
def seqS (f g : MS) : MS := fun ρ => bnd (f ρ) fun x => match x.1 with
  | .nx => g x.2
  | _ => ret x
def retS (f : ME) : MS := fun ρ => bnd (f ρ) fun d => ret (.rt d, ρ)
def retN : MS := fun ρ => ret (.rt .non, ρ)
def dropS (f : ME) : MS := fun ρ => bnd (f ρ) fun _ => ret (.nx, ρ)
def ifS (t : MT) (f g : MS) : MS := fun ρ => bnd (t ρ) fun k => if k = true then f ρ else g ρ
def ofE (o : Option En) : M En := match o with
  | some ρ => ret ρ
  | none => no
def setS (p : Pat) (f : ME) : MS := fun ρ => bnd (f ρ) fun d => bnd (ofE (bindP p d ρ)) fun ρ' => ret (.nx, ρ')
section
variable {X : Cx} {c : Ct} {ex : Wh} {bs : List Addr} {H : Hp} {st : Sto} {pos : Pos} {es : List Expr} {e : Expr} {f : ME} {s : Stmt} {ss : List Stmt} {m n : MS} {t : MT}
theorem tS_nx {E : Ends} {σ : L2.St} (q : tS c ex nxS E σ H) : E.nx σ H := by
  obtain ⟨ρ, st, bs, rl, re, p⟩ := q
  exact p.now rl σ re
theorem mss_nil : PSs X [] (tS c ex nxS) := PSs_imp pss_nil fun _ _ _ q => tS_nx q
theorem ms_pass : PS X (.Pass pos) (tS c ex nxS) := PS_imp ps_pass fun _ _ _ q => tS_nx q
theorem ms_doc {x j} {pos' : Pos} : PS X (.Expr (.Constant (.str x) j pos) pos') (tS c ex nxS) := PS_imp ps_doc fun _ _ _ q => tS_nx q
theorem ms_break : PS X (.Break pos) (tS c ex bkS) := PS_imp ps_break fun E σ H q => by
  obtain ⟨ρ, st, bs, rl, re, p⟩ := q
  exact p.now rl σ re
theorem ms_continue : PS X (.Continue pos) (tS c ex ctS) := PS_imp ps_continue fun E σ H q => by
  obtain ⟨ρ, st, bs, rl, re, p⟩ := q
  exact p.now rl σ re
theorem mss_one (h : PS X s (tS c ex m)) : PSs X [s] (tS c ex m) := pss_one h
theorem tS_seq {E : Ends} {σ : L2.St} (q : tS c ex (seqS m n) E σ H) : tSeq (tS c ex m) (tS c ex n) E σ H := by
  obtain ⟨ρ, st, bs, rl, re, p⟩ := q
  refine ⟨ρ, st, bs, rl, re, p.bnd.imp fun x st1 bs1 H1 e1 rl1 p1 σ1 re1 => ?_⟩
  obtain ⟨fl, ρ1⟩ := x
  cases fl with
  | nx => exact ⟨ρ1, st1, bs1, rl1, re1, p1⟩
  | bk => exact p1.now rl1 σ1 re1
  | ct => exact p1.now rl1 σ1 re1
  | rt d => exact p1.now rl1 σ1 re1
theorem mss_cons (h1 : PS X s (tS c ex m)) (h2 : PSs X ss (tS c ex n)) : PSs X (s :: ss) (tS c ex (seqS m n)) := PSs_imp (pss_cons h1 h2) fun _ _ _ q => tS_seq q
theorem ms_ret (h : PE X e (tE c ex f)) : PS X (.Return (some e) pos) (tS c ex (retS f)) := PS_imp (ps_ret h) fun E σ H q => by
  obtain ⟨ρ, st, bs, rl, re, p⟩ := q
  exact ⟨ρ, st, bs, rl, re, p.bnd.imp fun d st1 bs1 H1 e1 rl1 p1 v rv => p1.now rl1 σ (re.ext e1) v rv⟩
theorem ms_retN : PS X (.Return none pos) (tS c ex retN) := PS_imp ps_retN fun E σ H q => by
  obtain ⟨ρ, st, bs, rl, re, p⟩ := q
  exact p.now rl σ re .non .non
theorem ms_expr (h : PE X e (tE c ex f)) (hs : swapsWith e none pos.line X.env = pure false := by rfl) : PS X (.Expr e pos) (tS c ex (dropS f)) := PS_imp (ps_expr h hs) fun E σ H q => by
  obtain ⟨ρ, st, bs, rl, re, p⟩ := q
  exact ⟨ρ, st, bs, rl, re, p.bnd.imp fun d st1 bs1 H1 e1 rl1 p1 v rv => p1.now rl1 σ (re.ext e1)⟩
theorem ms_if {x : Expr} {a b : List Stmt} (ht : PT X x (tT c ex t)) (ha : PSs X a (tS c ex m)) (hb : PSs X b (tS c ex n)) : PS X (.If x a b pos) (tS c ex (ifS t m n)) := PS_imp (ps_if ht ha hb) fun E σ H q => by
  obtain ⟨ρ, st, bs, rl, re, p⟩ := q
  refine ⟨ρ, st, bs, rl, re, p.bnd.imp fun k st1 bs1 H1 e1 rl1 p1 => ?_⟩
  cases k with
  | true => exact iteT ⟨ρ, st1, bs1, rl1, re.ext e1, p1⟩
  | false => exact iteF ⟨ρ, st1, bs1, rl1, re.ext e1, p1⟩
theorem tS_set {p : Pat} {E : Ends} {σ : L2.St} (q : tS c ex (setS p f) E σ H) : tAsg (tE c ex f) (gP c.K p) E σ H := by
  obtain ⟨ρ, st, bs, rl, re, p1⟩ := q
  refine ⟨ρ, st, bs, rl, re, p1.bnd.imp fun d st1 bs1 H1 e1 rl1 p2 v rv => ?_⟩
  cases e2 : bindP p d ρ with
  | none => rw [e2] at p2; exact p2.bnd.elim
  | some ρ' =>
    rw [e2] at p2
    exact bindP_ok p d v ρ ρ' σ _ rv (re.ext e1) e2 fun σ' re' _ => Post.now (Post.now p2.bnd rl1) rl1 σ' re'
theorem ms_set {i : Nat} {x : Str} {pos' : Pos} (hN : X.N.Nodup) (h : PE X e (tE c ex f)) (hi : X.N[i]? = some x := by rfl) (hx : Loc X.env.scope x := by first | exact Or.inl rfl | exact Or.inr rfl) (hs : swapsWith e (some (.Name x pos')) pos.line X.env = pure false := by rfl)
    (hf : X.fn x = true ∨ X.env.scope.names.lookup x = some .local := by first | exact .inl rfl | exact .inr rfl) : PS X (.Assign [.Name x pos'] e pos) (tS c ex (setS (.nm i) f)) :=
  PS_imp (ps_set hN hi hx h hs hf) fun E σ H q => by
    have q := tS_set q
    unfold gP at q
    exact q
theorem ms_asg {p : Pat} {tg : Expr} (h : PE X e (tE c ex f)) (hg : PG X tg (gP c.K p)) (hs : swapsWithSole [tg] e pos.line X.env = pure false := by rfl) (hw : swappedStores [tg] e X.env = pure none := by rfl) (h1 : (assignEach [tg] X.env).map (·.2) = [assign tg X.env] := by rfl) :
    PS X (.Assign [tg] e pos) (tS c ex (setS p f)) := PS_imp (ps_asg h hg hs hw h1) fun E σ H q => tS_set q
/-- a, b = x, y -/
def parS (i j : Nat) (g : MA) : MS := fun ρ => bnd (g ρ) fun ds => match ds with
  | [d, e] => ret (.nx, (ρ.set i (some d)).set j (some e))
  | _ => no
theorem ms_par {i j : Nat} {x y : Str} {a b : Expr} {g : MA} {px py pt : Pos} {kt k2 pt2} (hc : X.calm = true) (hN : X.N.Nodup) (hij : i ≠ j) (ha : PA X [a, b] (tA c ex g)) (hi : X.N[i]? = some x := by rfl) (hj : X.N[j]? = some y := by rfl)
    (hx : X.env.scope.names.lookup x = some .local := by rfl) (hy : X.env.scope.names.lookup y = some .local := by rfl) (hw : swappedStores [.Tuple [.Name x px, .Name y py] kt pt] (.Tuple [a, b] k2 pt2) X.env = pure (some [x, y]) := by rfl) (hs : swapsWithSole [.Tuple [.Name x px, .Name y py] kt pt] (.Tuple [a, b] k2 pt2) pos.line X.env = pure false := by rfl) :
    PS X (.Assign [.Tuple [.Name x px, .Name y py] kt pt] (.Tuple [a, b] k2 pt2) pos) (tS c ex (parS i j g)) := PS_imp (ps_par hc hN hi hj hij hx hy ha hw hs) fun E σ H q => by
  obtain ⟨ρ, st, bs, rl, re, p⟩ := q
  refine ⟨ρ, st, bs, rl, re, p.bnd.imp fun ds st1 bs1 H1 e1 rl1 p1 vs rvs => ?_⟩
  match ds, rvs, p1 with
  | [d, e], .cons r1 (.cons r2 .nil), p1 => exact ⟨_, _, rfl, p1.now rl1 _ (((re.ext e1).set r1 i).set r2 j)⟩
/-- xs[i] = v -/
def setI : D → D → D → M Unit
  | .loc l, y, d => bnd (obj l) fun o => match o with
    | .lst xs => match y with
      | .int i => match ixN xs.length i with
        | some j => put l (xs.set j d)
        | none => no
      | _ => no
    | .dct kvs => match dkey y with
      | some k => if kvs.length < sizeLine then putO l (.dct (setK kvs k d)) else no
      | none => no
    | .ins _ _ => no
  | _, _, _ => no
/-- d[y] = v -/
def rSetD : V → V → V → Hp → (Hp → Prop) → Prop := fun o i v H Q => ∃ a H', o = .ref a ∧ DPut H a i v H' ∧ Q H'
theorem set_dict {X : Cx} (hu : X.A.units + 1 < cLine) : PSet X rSetD := by
  intro pins s σ H o i v ov iv u Q I ro ri rv h
  obtain ⟨a, H', rfl, g, q⟩ := h
  obtain rfl : ov = Value.ref a := ro
  exact d_setItem hu I g ri rv fun s' I' => ⟨H', I', q⟩
def rSetA : V → V → V → Hp → (Hp → Prop) → Prop := fun o i v H Q => rSetL o i v H Q ∨ rSetD o i v H Q
theorem set_any {X : Cx} (hu : X.A.units + 1 < cLine) : PSet X rSetA := by
  intro pins s σ H o i v ov iv u Q I ro ri rv h
  rcases h with h | h
  · exact set_list pins s σ H o i v ov iv u Q I ro ri rv h
  · exact set_dict hu pins s σ H o i v ov iv u Q I ro ri rv h
def subS (fv fo fi : ME) : MS := fun ρ => bnd (fv ρ) fun v => bnd (fo ρ) fun o => bnd (fi ρ) fun i => bnd (setI o i v) fun _ => ret (.nx, ρ)
theorem ms_sub {o i : Expr} {fv fo fi : ME} {p2 : Pos} (hu : X.A.units + 64 < cLine) (hv : PE X e (tE c ex fv)) (ho : PE X o (tE c ex fo)) (hi : PE X i (tE c ex fi)) (ha : ∀ v, assign (.Subscript o i p2) X.env v = (do { let ov ← holding [v] (eval o X.env); let iv ← holding [v, ov] (eval i X.env); standAt p2; holding [v, ov, iv] (setItem ov iv v); release [v, ov, iv] [] }) := by intro _; rfl) (hs : swapsWithSole [.Subscript o i p2] e pos.line X.env = pure false := by rfl) (hw : swappedStores [.Subscript o i p2] e X.env = pure none := by rfl)
    (h1 : (assignEach [.Subscript o i p2] X.env).map (·.2) = [assign (.Subscript o i p2) X.env] := by rfl) : PS X (.Assign [.Subscript o i p2] e pos) (tS c ex (subS fv fo fi)) :=
  PS_imp (ps_asg hv (pg_sub ho hi (set_any (by omega)) ha) hs hw h1) fun E σ H q => by
    obtain ⟨ρ, st, bs, rl, re, p⟩ := q
    refine ⟨ρ, st, bs, rl, re, p.bnd.imp fun d st1 bs1 H1 e1 rl1 p1 v rv => ?_⟩
    refine ⟨ρ, st1, bs1, rl1, re.ext e1, p1.bnd.imp fun o st2 bs2 H2 e2 rl2 p2 vo rvo => ?_⟩
    refine ⟨ρ, st2, bs2, rl2, (re.ext e1).ext e2, p2.bnd.imp fun i st3 bs3 H3 e3 rl3 p3 vi rvi => ?_⟩
    have rvo := rvo.ext e3
    have rv := (rv.ext e2).ext e3
    cases rvo with
    | loc h =>
      obtain ⟨a, ob, ee, hb, hl, ro, p4⟩ := post_obj p3.bnd rl3 (RD.loc h)
      cases ee
      cases ob with
      | lst xs =>
        obtain ⟨vs, hv, r⟩ := ro
        cases rvi with
        | int k =>
          cases e5 : ixN xs.length k with
          | none => simp only [e5] at p4; exact p4.elim
          | some j =>
            simp only [e5] at p4
            obtain ⟨e6, rl6⟩ := rl3.put hb hl (r.set rv j)
            have p7 := Post.at (st := st3.set _ _) p4 e6 rl6
            exact .inl ⟨_, _, _, _, rfl, rfl, hv, by rw [r.length]; exact e5, Post.now p7 rl6 σ ((((re.ext e1).ext e2).ext e3).ext e6)⟩
        | _ => exact p4.elim
      | dct kvs =>
        obtain ⟨vks, hv, ek, r⟩ := ro
        cases e5 : dkey i with
        | none => simp only [e5] at p4; exact p4.elim
        | some k =>
          simp only [e5] at p4
          obtain ⟨hz, p5⟩ := Post.iff (m := putO _ _) p4
          obtain ⟨i1, i2⟩ := rdk_put (k := k) ek r rv
          obtain ⟨e6, rl6⟩ := rl3.chg (o := .dK (putK vks k v)) (u0 := .dct (setK kvs k d)) hb fun m => ⟨_, upd_same, i1, i2.mono m⟩
          have p7 := Post.at (st := st3.set _ _) p5 e6 rl6
          have el : vks.length = kvs.length := by
            have := congrArg List.length ek
            simpa using this
          rw [dkey_v rvi e5]
          exact .inr ⟨_, _, rfl, DPut.k hv (by rw [el]; exact hz), Post.now p7 rl6 σ ((((re.ext e1).ext e2).ext e3).ext e6)⟩
      | ins _ _ => exact p4.elim
    | _ => exact p3.bnd.elim
end

/-! ### methods of lists -/
def SM (c : Ct) (ex : Wh) (T : String) (g : D → List D → M D) (r : V → List V → Hp → VK → Prop) : Prop := ∀ x d bs H st, RD c bs H x d → Rel c bs H st → (∀ ds k, Post c ex (g d ds st) bs H k → True) → True
def mAppend : D → List D → M D
  | .loc l, [d] => bnd (lst l) fun xs => if xs.length < sizeLine then bnd (put l (xs ++ [d])) fun _ => ret .non else no
  | _, _ => no
def mPop : D → List D → M D
  | .loc l, [] => bnd (lst l) fun xs => match xs[xs.length - 1]? with
    | some d => bnd (put l xs.dropLast) fun _ => ret d
    | none => no
  | _, _ => no
def mExtend : D → List D → M D
  | .loc l, [.loc m] => bnd (lst l) fun xs => bnd (lst m) fun ys => if xs.length + ys.length ≤ sizeLine then bnd (put l (xs ++ ys)) fun _ => ret .non else no
  | _, _ => no
def isL : D → M Unit
  | .loc l => bnd (lst l) fun _ => ret ()
  | _ => no
def meth (fo : ME) (g : MA) (op : D → List D → M D) : ME := fun ρ => bnd (fo ρ) fun o => bnd (isL o) fun _ => bnd (g ρ) fun ds => op o ds
def meth0 (fo : ME) (op : D → List D → M D) : ME := fun ρ => bnd (fo ρ) fun o => bnd (isL o) fun _ => op o []
section
variable {X : Cx} {c : Ct} {ex : Wh} {bs : List Addr} {H : Hp} {st : Sto} {pos apos : Pos} {o e : Expr} {es : List Expr} {fo : ME} {g : MA}
theorem post_isL {α : Type} {d : D} {f : Unit → M α} {k : α → Sto → List Addr → Hp → Prop} (q : Post c ex (bnd (isL d) f st) bs H k) (rl : Rel c bs H st) {v : V} (r : RD c bs H v d) : (∃ a xs l, v = .ref a ∧ SqL c.K H a xs ∧ d = .loc l) ∧ Post c ex (f () st) bs H k := by
  cases r with
  | @loc a l h =>
    have q1 : Post c ex (bnd (bnd (lst l) fun _ => ret ()) f st) bs H k := q
    unfold bnd lst at q1
    cases e : st[l]? with
    | none => rw [e] at q1; exact q1.elim
    | some o =>
      cases o with
      | lst xs =>
        rw [e] at q1
        obtain ⟨vs, h1, h2⟩ := rl.obj l a _ h e
        exact ⟨⟨a, vs, _, rfl, SqL.of h1, rfl⟩, q1⟩
      | dct _ => rw [e] at q1; exact q1.elim
      | ins _ _ => rw [e] at q1; exact q1.elim
  | _ => exact q.elim
theorem md_append (hK : X.K = c.K) (ho : PE X o (tE c ex fo)) (ha : PA X [e] (tA c ex g)) (hbase : attributeBase o "append" X.env (eval o X.env) = eval o X.env := by rfl)
    (hfew : ((backTo pos (starEach [e] X.env)).all (fun x => !x.1) && (backToKw pos (keywordEach [] X.env)).all (fun x => x.1.isSome) && decide ([e].length + ([] : List Keyword).length + (if ([] : List Keyword).isEmpty then 0 else 1) < 30)) = true := by rfl)
    (hline : (apos.endLine == pos.line) = true := by rfl) (hs : starEach [e] X.env = (false, eval e X.env) :: starEach [] X.env := by rfl) (hplain : (backTo pos (starEach [] X.env)).any (·.1) = false := by rfl) :
    PE X (.Call (.Attribute o "append" apos) [e] [] pos) (tE c ex (meth fo g mAppend)) :=
  PE_imp (pe_bm PySem.F.plainAttrs_list PySem.F.slot_list_append PySem.F.type_list_append mt_append ho ha hbase hfew hline hs hplain) fun σ H Q q => by
    obtain ⟨ρ, st, bs, rl, re, p⟩ := q
    refine ⟨ρ, st, bs, rl, re, p.bnd.imp fun d st1 bs1 H1 e1 rl1 p1 v rv => ?_⟩
    obtain ⟨⟨a, xs, l, rfl, sl, rfl⟩, p1⟩ := post_isL p1 rl1 rv
    refine ⟨.inl ⟨rfl, xs, by rw [hK]; exact sl⟩, ρ, st1, bs1, rl1, re.ext e1, p1.bnd.imp fun ds st2 bs2 H2 e2 rl2 p2 vs rvs => ?_⟩
    have rv := rv.ext e2
    cases rv with
    | loc h =>
      match ds, rvs, p2 with
      | [d], .cons r .nil, p2 =>
        obtain ⟨a, ws, ys, ee, hb, hl, hv, r5, p4⟩ := post_lst (k := fun _ _ _ _ => True) p2 rl2 (RD.loc h)
        cases ee
        obtain ⟨hz, p5⟩ := Post.iff (m := bnd _ _) p4
        obtain ⟨rl6, e6, p6⟩ := post_put (k := fun _ _ _ _ => True) p5 rl2 hb hl (r5.append (.cons r .nil))
        exact ⟨_, _, _, rfl, rfl, hv, by rw [r5.length]; exact hz, p6.now rl6 _ .non⟩
theorem md_extend (hK : X.K = c.K) (ho : PE X o (tE c ex fo)) (ha : PA X [e] (tA c ex g)) (hbase : attributeBase o "extend" X.env (eval o X.env) = eval o X.env := by rfl)
    (hfew : ((backTo pos (starEach [e] X.env)).all (fun x => !x.1) && (backToKw pos (keywordEach [] X.env)).all (fun x => x.1.isSome) && decide ([e].length + ([] : List Keyword).length + (if ([] : List Keyword).isEmpty then 0 else 1) < 30)) = true := by rfl)
    (hline : (apos.endLine == pos.line) = true := by rfl) (hs : starEach [e] X.env = (false, eval e X.env) :: starEach [] X.env := by rfl) (hplain : (backTo pos (starEach [] X.env)).any (·.1) = false := by rfl) :
    PE X (.Call (.Attribute o "extend" apos) [e] [] pos) (tE c ex (meth fo g mExtend)) :=
  PE_imp (pe_bm PySem.F.plainAttrs_list PySem.F.slot_list_extend PySem.F.type_list_extend mt_extend ho ha hbase hfew hline hs hplain) fun σ H Q q => by
    obtain ⟨ρ, st, bs, rl, re, p⟩ := q
    refine ⟨ρ, st, bs, rl, re, p.bnd.imp fun d st1 bs1 H1 e1 rl1 p1 v rv => ?_⟩
    obtain ⟨⟨a, xs, l, rfl, sl, rfl⟩, p1⟩ := post_isL p1 rl1 rv
    refine ⟨.inl ⟨rfl, xs, by rw [hK]; exact sl⟩, ρ, st1, bs1, rl1, re.ext e1, p1.bnd.imp fun ds st2 bs2 H2 e2 rl2 p2 vs rvs => ?_⟩
    have rv := rv.ext e2
    cases rv with
    | loc h =>
      match ds, rvs, p2 with
      | [.loc m], .cons (.loc h') .nil, p2 =>
        obtain ⟨a, ws, ys, ee, hb, hl, hv, r5, p4⟩ := post_lst (k := fun _ _ _ _ => True) p2 rl2 (RD.loc h)
        cases ee
        obtain ⟨a', ws', ys', ee', hb', hl', hv', r5', p4⟩ := post_lst (k := fun _ _ _ _ => True) p4 rl2 (RD.loc h')
        cases ee'
        obtain ⟨hz, p5⟩ := Post.iff (m := bnd _ _) p4
        obtain ⟨rl6, e6, p6⟩ := post_put (k := fun _ _ _ _ => True) p5 rl2 hb hl (r5.append r5')
        exact ⟨_, _, _, _, rfl, rfl, hv, hv', by rw [r5.length, r5'.length]; exact hz, p6.now rl6 _ .non⟩
theorem md_pop (hK : X.K = c.K) (ho : PE X o (tE c ex fo)) (hbase : attributeBase o "pop" X.env (eval o X.env) = eval o X.env := by rfl) (hline : (apos.endLine == pos.line) = true := by rfl) :
    PE X (.Call (.Attribute o "pop" apos) [] [] pos) (tE c ex (meth0 fo mPop)) :=
  PE_imp (pe_bm0 PySem.F.plainAttrs_list PySem.F.slot_list_pop PySem.F.type_list_pop mt_pop ho hbase hline) fun σ H Q q => by
    obtain ⟨ρ, st, bs, rl, re, p⟩ := q
    refine ⟨ρ, st, bs, rl, re, p.bnd.imp fun d st1 bs1 H1 e1 rl1 p1 v rv => ?_⟩
    obtain ⟨⟨a, xs, l, rfl, sl, rfl⟩, p1⟩ := post_isL p1 rl1 rv
    refine ⟨.inl ⟨rfl, xs, by rw [hK]; exact sl⟩, ?_⟩
    cases rv with
    | loc h =>
      obtain ⟨a, ws, ys, ee, hb, hl, hv, r5, p4⟩ := post_lst (k := fun _ _ _ _ => True) p1 rl1 (RD.loc h)
      cases ee
      cases e5 : ys[ys.length - 1]? with
      | none => simp only [e5] at p4; exact p4.elim
      | some d =>
        simp only [e5] at p4
        obtain ⟨y, hy, ry⟩ := r5.get e5
        have r6 : RDs c bs1 H1 ws.dropLast ys.dropLast := by
          rw [List.dropLast_eq_take, List.dropLast_eq_take, r5.length]
          exact r5.take _
        obtain ⟨rl6, e6, p6⟩ := post_put (k := fun _ _ _ _ => True) p4 rl1 hb hl r6
        exact ⟨_, _, _, rfl, rfl, hv, by rw [r5.length]; exact hy, p6.now rl6 _ (ry.ext e6)⟩
end
end Pm
end
section
set_option Elab.async false
set_option linter.all false
set_option maxRecDepth 100000
namespace Pm
open PySem PySem.Spec PyProof.Rows L2

/-! ### what is walked -/
structure Itm where
  xs : List D
  ok : Sto → Bool
abbrev MI := En → M Itm
/-- J walks it, from here on -/
def Wk (c : Ct) (it : Itm) (bs0 : List Addr) (H0 : Hp) (J : It) : Prop :=
  Walk J it.xs.length (fun H => ∃ st bs, Ext bs0 H0 bs H ∧ Rel c bs H st ∧ it.ok st = true)
    (fun i H v H' => ∀ st bs, Ext bs0 H0 bs H → Rel c bs H st → it.ok st = true → Ext bs H bs H' ∧ Rel c bs H' st ∧ ∃ d, it.xs[i]? = some d ∧ RD c bs H' v d)
/-! ### an object that nothing tells of, hidden -/
def hid (H : Hp) (a : Addr) : Hp := fun b => if b = a then none else H b
section
variable {c : Ct} {ex : Wh} {α : Type} {bs bs' : List Addr} {H H' : Hp} {st : Sto} {q : Addr} {vs : List V}
theorem hid_same : hid H q q = none := if_pos rfl
theorem hid_ne {b : Addr} (h : b ≠ q) : hid H q b = H b := if_neg h
theorem hid_none (h : H q = none) : hid H q = H := by
  funext b
  by_cases e : b = q
  · rw [e, hid_same, h]
  · rw [hid_ne e]
theorem hid_pre (h : H q = some (.lst vs)) : Pre c bs H bs (hid H q) := by
  refine ⟨fun _ _ h => h, fun a ws s => ?_, fun a s => ?_⟩
  · rcases s with (s | ⟨o, s⟩) | s
    · exact .inl (.inl (by rw [hid_ne (ne_of s h (by intro z; cases z))]; exact s))
    · exact .inl (.inr ⟨o, by rw [hid_ne (ne_of s h (by intro z; cases z))]; exact s⟩)
    · exact .inr s
  · rcases s with ⟨o, u, h1, h2⟩ | s
    · exact .inl ⟨o, u, by rw [hid_ne (ne_of h1 h (by intro z; cases z))]; exact h1, h2⟩
    · exact .inr s
end
/-- .. also where a list that nothing tells of is hidden -/
def Wks (c : Ct) (it : Itm) (bs0 : List Addr) (H0 : Hp) (J : It) : Prop := Wk c it bs0 H0 J ∧ ∀ q vs, H0 q = some (.lst vs) → q ∉ bs0 → Wk c it bs0 (hid H0 q) J
def tI (c : Ct) (ex : Wh) (f : MI) : TI := fun σ H R => ∃ ρ st bs, Rel c bs H st ∧ RE c bs H ρ σ ∧ Post c ex (f ρ st) bs H fun it _ bs' H' => ∀ J, Wks c it bs' H' J → R J H'
theorem PI_imp {X : Cx} {tg e : Expr} {t t' : TI} (h : PI X tg e t) (i : ∀ σ H R, t' σ H R → t σ H R) : PI X tg e t' := ⟨fun pins s σ H R I q => h.run pins s σ H R I (i σ H R q)⟩

/-! ### for -/
def forL (ok : Sto → Bool) (p : Pat) (body : MS) : List D → MS
  | [], ρ => fun st => if ok st = true then .ok (.nx, ρ) st else .stuck
  | x :: r, ρ => fun st => if ok st = true then
      (bnd (ofE (bindP p x ρ)) fun ρ1 => bnd (body ρ1) fun y => match y.1 with
        | .nx => forL ok p body r y.2
        | .ct => forL ok p body r y.2
        | .bk => ret (.nx, y.2)
        | .rt d => ret (.rt d, y.2)) st
    else .stuck
def forS (it : MI) (p : Pat) (body : MS) : MS := fun ρ => bnd (it ρ) fun I => forL I.ok p body I.xs ρ
section
variable {X : Cx} {c : Ct} {ex : Wh} {pos : Pos} {iter tg : Expr} {bd : List Stmt} {it : MI} {p : Pat} {body : MS}
theorem ms_for (hp : PassesOwn (model X.prog X.w) X.A X.env X.xe) (hc : X.calm = true) (hi : PI X tg iter (tI c ex it)) (hg : PG X tg (gP c.K p)) (hb : PSs X bd (tS c ex body)) (hs : ∀ x, foldedSetIterable iter X.env x = pure x := by intro _; rfl) :
    PS X (.For tg iter bd [] pos) (tS c ex (forS it p body)) := PS_imp (ps_for hp hc hi hg hb hs) fun E σ H q => by
  obtain ⟨ρ, st, bs, rl, re, q⟩ := q
  refine ⟨ρ, st, bs, rl, re, q.bnd.imp fun I st1 bs1 H1 e1 rl1 q1 J wk => ?_⟩
  refine for_it wk.1 (fun i σ H => ∃ ρ st bs, Ext bs1 H1 bs H ∧ Rel c bs H st ∧ RE c bs H ρ σ ∧ Post c ex (forL I.ok p body (I.xs.drop i) ρ st) bs H fun x _ bs' H' => ∀ σ', RE c bs' H' x.2 σ' → Fin c E bs' H' σ' x.1)
    ⟨ρ, st1, bs1, Ext.refl, rl1, re.ext e1, q1⟩ (fun i σ H hi ⟨ρ, st, bs, e, rl, re, q⟩ => ⟨st, bs, e, rl, ?_⟩) (fun i v σ H H' hi ⟨ρ, st, bs, e, rl, re, q⟩ y => ?_) (fun σ H ⟨ρ, st, bs, e, rl, re, q⟩ => ?_)
  · cases e5 : I.xs.drop i with
    | nil =>
      rw [e5] at q
      unfold forL at q
      by_cases h : I.ok st = true
      · exact h
      · rw [if_neg h] at q; exact q.elim
    | cons x r =>
      rw [e5] at q
      unfold forL at q
      by_cases h : I.ok st = true
      · exact h
      · rw [if_neg h] at q; exact q.elim
  · have e5 : I.xs.drop i = I.xs[i] :: I.xs.drop (i + 1) := List.drop_eq_getElem_cons hi
    rw [e5] at q
    unfold forL at q
    by_cases h : I.ok st = true
    · rw [if_pos h] at q
      obtain ⟨e6, rl6, d, hd, rd6⟩ := y st bs e rl h
      rw [List.getElem?_eq_getElem hi] at hd
      cases hd
      cases e8 : bindP p I.xs[i] ρ with
      | none => rw [e8] at q; exact q.bnd.elim
      | some ρ1 =>
        rw [e8] at q
        have q2 : Post c ex (bnd (body ρ1) (fun y => match y.1 with
          | .nx => forL I.ok p body (I.xs.drop (i + 1)) y.2
          | .ct => forL I.ok p body (I.xs.drop (i + 1)) y.2
          | .bk => ret (.nx, y.2)
          | .rt d => ret (.rt d, y.2)) st) bs H fun x _ bs' H' => ∀ σ', RE c bs' H' x.2 σ' → Fin c E bs' H' σ' x.1 := q
        refine bindP_ok p _ v ρ ρ1 σ _ rd6 (re.ext e6) e8 fun σ2 re2 _ => ?_
        refine ⟨ρ1, st, bs, rl6, re2, (q2.bnd.far e6).imp fun y st7 bs7 H7 e9 rl7 q7 σ7 re7 => ?_⟩
        obtain ⟨fl, ρ7⟩ := y
        cases fl with
        | nx => exact ⟨ρ7, st7, bs7, (e.trans e6).trans e9, rl7, re7, q7⟩
        | ct => exact ⟨ρ7, st7, bs7, (e.trans e6).trans e9, rl7, re7, q7⟩
        | bk => exact q7.now rl7 σ7 re7
        | rt d => exact q7.now rl7 σ7 re7
    · rw [if_neg h] at q; exact q.elim
  · rw [List.drop_length] at q
    unfold forL at q
    by_cases h : I.ok st = true
    · rw [if_pos h] at q
      exact Post.of q rl σ re
    · rw [if_neg h] at q; exact q.elim
end

/-! ### what is walked: tuples, lists, ranges -/
section
variable {X : Cx} {c : Ct} {ex : Wh} {pos : Pos} {tg e a b : Expr} {f g : ME} {bs : List Addr} {H : Hp} {st : Sto}
def seqI : D → M Itm
  | .tup xs => ret ⟨xs, fun _ => true⟩
  | .loc l => bnd (lst l) fun xs => ret ⟨xs, fun st => decide (st[l]? = some (.lst xs))⟩
  | _ => no
def iter (f : ME) : MI := fun ρ => bnd (f ρ) seqI
theorem wk_tup {a : Addr} {vs : List V} {xs : List D} (s : SqT c.K H a vs) (r : RDs c bs H vs xs) : Wk c ⟨xs, fun _ => true⟩ bs H (Itt c.K a) := by
  refine ⟨fun i H' hi ⟨st, bs', e, _, _⟩ => ?_, fun H' ⟨st, bs', e, _, _⟩ => ?_, fun i H' v H2 hi ⟨st0, bs0, e0, _, _⟩ y st bs' e rl _ => ?_⟩
  · have hi : i < vs.length := by rw [r.length]; exact hi
    exact ⟨vs, vs[i], e.sqT s, List.getElem?_eq_getElem hi⟩
  · exact ⟨vs, e.sqT s, by rw [r.length]; exact Nat.le_refl _⟩
  · obtain ⟨rfl, y⟩ := y
    obtain ⟨d, hd, rd⟩ := r.getV (y vs (e.sqT s))
    exact ⟨Ext.refl, rl, d, hd, rd.ext e⟩
theorem wk_loc {a : Addr} {l : Nat} {xs : List D} (hb : bs[l]? = some a) : Wk c ⟨xs, fun st => decide (st[l]? = some (.lst xs))⟩ bs H (Itl c.K a) := by
  have at_ : ∀ {H' : Hp} {bs' : List Addr} {st : Sto}, Ext bs H bs' H' → Rel c bs' H' st → decide (st[l]? = some (O.lst xs)) = true → ∃ vs, SqL c.K H' a vs ∧ RDs c bs' H' vs xs := fun {H' bs' st} e rl h => by
    obtain ⟨vs, hv, r⟩ := rl.obj l a _ (e.get hb) (of_decide_eq_true h)
    exact ⟨vs, SqL.of hv, r⟩
  refine ⟨fun i H' hi ⟨st, bs', e, rl, h⟩ => ?_, fun H' ⟨st, bs', e, rl, h⟩ => ?_, fun i H' v H2 hi ⟨st0, bs0, e0, _, _⟩ y st bs' e rl h => ?_⟩
  · obtain ⟨vs, s, r⟩ := at_ e rl h
    have hi : i < vs.length := by rw [r.length]; exact hi
    exact ⟨vs, vs[i], s, List.getElem?_eq_getElem hi⟩
  · obtain ⟨vs, s, r⟩ := at_ e rl h
    exact ⟨vs, s, by rw [r.length]; exact Nat.le_refl _⟩
  · obtain ⟨rfl, y⟩ := y
    obtain ⟨vs, s, r⟩ := at_ e rl h
    obtain ⟨d, hd, rd⟩ := r.getV (y vs s)
    exact ⟨Ext.refl, rl, d, hd, rd⟩
theorem wks_tup {a : Addr} {vs : List V} {xs : List D} (s : SqT c.K H a vs) (r : RDs c bs H vs xs) : Wks c ⟨xs, fun _ => true⟩ bs H (Itt c.K a) := ⟨wk_tup s r, fun _ _ h _ => wk_tup ((hid_pre (c := c) (bs := bs) h).sqT _ _ s) (r.mono (hid_pre h))⟩
theorem wks_loc {a : Addr} {l : Nat} {xs : List D} (hb : bs[l]? = some a) : Wks c ⟨xs, fun st => decide (st[l]? = some (.lst xs))⟩ bs H (Itl c.K a) := ⟨wk_loc hb, fun _ _ _ _ => wk_loc hb⟩
/-- a tuple, a list, a text -/
def rSeqI (K : PySem.W.Frag) (te : TE) : TI := fun σ H R => te σ H fun x H1 => (∃ a, x = .ref a ∧ (∃ xs, SqL K H1 a xs) ∧ R (Itl K a) H1) ∨ (∃ a, x = .ref a ∧ (∃ xs, SqT K H1 a xs) ∧ R (Itt K a) H1) ∨ ∃ z, x = .str z ∧ R (Its z) H1
theorem pi_seq {te : TE} (he : PE X e te) : PI X tg e (rSeqI X.K te) := by
  refine ⟨fun pins s σ H R I q => ?_⟩
  refine thn (he.run pins s σ H _ I q) fun u s1 ⟨x, H1, I1, r1, q1⟩ => ?_
  rcases q1 with ⟨a, rfl, ⟨xs, hs⟩, hr⟩ | ⟨a, rfl, ⟨xs, hs⟩, hr⟩ | ⟨z, rfl, hr⟩
  · cases r1
    obtain ⟨its, rv, p, hz⟩ := I1.list hs
    exact wpAny_pyIter_list p.isList (pi_one (tk := s1.toks) I1 _ (turn_list a _) ⟨_, Heap.get?_push_size _ rfl, rfl, rfl⟩ hr)
  · cases r1
    obtain ⟨its, rv, p, hz⟩ := I1.tuple hs
    exact wpAny_pyIter_tuple (show s1.heap.IsTuple a its.toArray from p) (pi_one (tk := s1.toks) I1 _ (turn_tuple a _) ⟨_, Heap.get?_push_size _ rfl, rfl, rfl⟩ hr)
  · obtain ⟨t, rfl⟩ := r1
    cases ha : z.cps.all (· < 128)
    · exact wpAny_pyIter_wide ha (pi_one (tk := s1.toks) I1 _ (turn_str _ z t "str_iterator" (.inr rfl)) ⟨_, Heap.get?_push_size _ rfl, rfl, rfl⟩ hr)
    · exact wpAny_pyIter_ascii ha (pi_one (tk := s1.toks) I1 _ (turn_str _ z t "str_ascii_iterator" (.inl rfl)) ⟨_, Heap.get?_push_size _ rfl, rfl, rfl⟩ hr)
def signs (z : Str) : List D := z.cps.toList.map fun k => .str ⟨#[k]⟩
def seqA : D → M Itm
  | .tup xs => ret ⟨xs, fun _ => true⟩
  | .loc l => bnd (lst l) fun xs => ret ⟨xs, fun st => decide (st[l]? = some (.lst xs))⟩
  | .str z => ret ⟨signs z, fun _ => true⟩
  | _ => no
def iterA (f : ME) : MI := fun ρ => bnd (f ρ) seqA
theorem wk_str {z : Str} : Wk c ⟨signs z, fun _ => true⟩ bs H (Its z) := by
  have hl : (signs z).length = z.cps.size := by unfold signs; simp
  refine ⟨fun i H' hi _ => ?_, fun H' _ => ?_, fun i H' v H2 hi _ y st bs' e rl _ => ?_⟩
  · show i < z.cps.size
    rw [← hl]; exact hi
  · show z.cps.size ≤ (signs z).length
    rw [hl]; exact Nat.le_refl _
  · obtain ⟨rfl, k, hk, rfl⟩ := y
    exact ⟨Ext.refl, rl, .str ⟨#[k]⟩, by unfold signs; rw [List.getElem?_map, Array.getElem?_toList, hk]; rfl, .str _⟩
theorem mi_seq (hK : X.K = c.K) (h : PE X e (tE c ex f)) : PI X tg e (tI c ex (iterA f)) := PI_imp (pi_seq h) fun σ H R q => by
  obtain ⟨ρ, st, bs, rl, re, p⟩ := q
  refine ⟨ρ, st, bs, rl, re, p.bnd.imp fun d st1 bs1 H1 e1 rl1 p1 v rv => ?_⟩
  rw [hK]
  cases rv with
  | tup s tl r => exact .inr (.inl ⟨_, rfl, ⟨_, s⟩, p1.now rl1 _ (wks_tup s r)⟩)
  | loc h =>
    obtain ⟨a, vs, xs, ee, hb, hl, hv, r, p2⟩ := post_lst (k := fun _ _ _ _ => True) p1 rl1 (RD.loc h)
    cases ee
    exact .inl ⟨_, rfl, ⟨_, SqL.of hv⟩, p2.now rl1 _ (wks_loc hb)⟩
  | str z => exact .inr (.inr ⟨_, rfl, p1.now rl1 _ ⟨wk_str, fun _ _ _ _ => wk_str⟩⟩)
  | _ => exact p1.elim
def rngI (lo hi : Int) : Itm := ⟨(List.range (hi - lo).toNat).map fun i => .int (lo + (i : Nat)), fun _ => true⟩
theorem wk_rng {lo : Int} {n : Nat} : Wk c ⟨(List.range n).map fun i => .int (lo + (i : Nat)), fun _ => true⟩ bs H (Itr lo n) := by
  refine ⟨fun i H' hi _ => ?_, fun H' _ => ?_, fun i H' v H2 hi _ y st bs' e rl _ => ?_⟩
  · show i < n
    simpa using hi
  · show n ≤ _
    simp
  · obtain ⟨rfl, rfl⟩ := y
    have hi : i < n := by simpa using hi
    exact ⟨Ext.refl, rl, .int (lo + i), by simp [hi], .int _⟩
/-- (so that the kernel, asked of a number that it doesn't know, stops at once) -/
@[irreducible] def okR (i : Int) : Bool := decide (i.natAbs.log2 < 62)
theorem okR_of {i : Int} (h : okR i = true) : -(2 ^ 62) ≤ i ∧ i < 2 ^ 62 := by
  unfold okR at h
  have h := of_decide_eq_true h
  rcases Nat.eq_zero_or_pos i.natAbs with z | z
  · omega
  · have := (Nat.log2_lt (by omega)).mp h
    omega
def rng1 (f : ME) : MI := fun ρ => bnd (f ρ) fun d => match d with
  | .int j => if okR j then ret (rngI 0 j) else no
  | _ => no
def rng2 (f g : ME) : MI := fun ρ => bnd (f ρ) fun d => bnd (g ρ) fun d' => match d, d' with
  | .int i, .int j => if okR i && okR j then ret (rngI i j) else no
  | _, _ => no
theorem mi_rng1 {p : Pos} (hg : Gl X "range") (hm : X.mg "range" = none) (ha : PE X a (tE c ex f)) (hs : starEach [a] X.env = (false, eval a X.env) :: starEach [] X.env := by rfl) (hs2 : starEach [a] X.env = [(false, eval a X.env)] := by rfl) : PI X tg (.Call (.Name "range" p) [a] [] pos) (tI c ex (rng1 f)) :=
  PI_imp (pi_range1 hg hm (pa_cons ha pa_nil hs) hs2) fun σ H R q => by
    obtain ⟨ρ, st, bs, rl, re, p⟩ := q
    refine ⟨ρ, st, bs, rl, re, p.bnd.imp fun d st1 bs1 H1 e1 rl1 p1 v rv => ?_⟩
    cases rv with
    | int j =>
      obtain ⟨h, p1⟩ := Post.iff (m := ret _) p1
      have h := okR_of h
      refine ⟨j, rfl, h.1, h.2, p1.now rl1 _ ?_⟩
      have := fun H => wk_rng (c := c) (lo := 0) (n := j.toNat) (bs := bs1) (H := H)
      unfold rngI
      rw [Int.sub_zero]
      exact ⟨this H1, fun _ _ _ _ => this _⟩
    | _ => exact p1.elim
theorem mi_rng2 {p : Pos} (hg : Gl X "range") (hm : X.mg "range" = none) (ha : PE X a (tE c ex f)) (hb : PE X b (tE c ex g)) (hs : starEach [a, b] X.env = (false, eval a X.env) :: starEach [b] X.env := by rfl) (hs2 : starEach [b] X.env = (false, eval b X.env) :: starEach [] X.env := by rfl)
    (hs3 : starEach [a, b] X.env = [(false, eval a X.env), (false, eval b X.env)] := by rfl) (hs4 : starEach [b] X.env = [(false, eval b X.env)] := by rfl) : PI X tg (.Call (.Name "range" p) [a, b] [] pos) (tI c ex (rng2 f g)) :=
  PI_imp (pi_range2 hg hm (pa_cons ha (pa_cons hb pa_nil hs2) hs) hs3 hs4) fun σ H R q => by
    obtain ⟨ρ, st, bs, rl, re, p⟩ := q
    refine ⟨ρ, st, bs, rl, re, p.bnd.imp fun d st1 bs1 H1 e1 rl1 p1 v rv => ?_⟩
    refine ⟨ρ, st1, bs1, rl1, re.ext e1, p1.bnd.imp fun d2 st2 bs2 H2 e2 rl2 p2 v2 rv2 => ?_⟩
    have rv := rv.ext e2
    cases rv with
    | int i =>
      cases rv2 with
      | int j =>
        obtain ⟨h, p2⟩ := Post.iff (m := ret _) p2
        rw [Bool.and_eq_true] at h
        have h1 := okR_of h.1
        have h2 := okR_of h.2
        exact ⟨i, j, rfl, ⟨h1.1, h1.2, h2.1, h2.2⟩, p2.now rl2 _ ⟨wk_rng, fun _ _ _ _ => wk_rng⟩⟩
      | _ => exact p2.elim
    | _ => cases rv2 <;> exact p2.elim
end
end Pm
end
section
set_option Elab.async false
set_option linter.all false
set_option maxRecDepth 100000
namespace Pm
open PySem PySem.Spec PyProof.Rows L2

/-! ### an object that nothing tells of, hidden -/
section
variable {c : Ct} {ex : Wh} {α : Type} {bs bs' : List Addr} {H H' : Hp} {st : Sto} {q : Addr} {vs : List V}
theorem upd_hid {o : HO} (h : H q = some o) : upd (hid H q) q o = H := by
  funext b
  by_cases e : b = q
  · rw [e, upd_same, h]
  · rw [upd_ne e, hid_ne e]
theorem hid_upd {o : HO} : hid (upd H q o) q = hid H q := by
  funext b
  by_cases e : b = q
  · rw [e, hid_same, hid_same]
  · rw [hid_ne e, hid_ne e, upd_ne e]
theorem hid_ext (h : q ∉ bs) : Ext bs (hid H q) bs H := by
  refine ⟨⟨[], by simp⟩, fun b o e _ => ?_, fun b h n => absurd h n⟩
  by_cases z : b = q
  · rw [z, hid_same] at e; cases e
  · rw [hid_ne z] at e; exact e
theorem Rel.hid (rl : Rel c bs H st) (h : H q = some (.lst vs)) (nb : q ∉ bs) : Rel c bs (hid H q) st := by
  refine ⟨rl.len, fun l b o h1 h2 => ?_, rl.nd, ?_⟩
  · have n : b ≠ q := fun z => nb (z ▸ List.mem_of_getElem? h1)
    exact (rl.obj l b o h1 h2).same (hid_pre h) (hid_ne n)
  · rcases rl.scr with ⟨o, e⟩ | e
    · exact .inl ⟨o, by rw [hid_ne (ne_of e h (by intro z; cases z))]; exact e⟩
    · exact .inr e
theorem Ext.hid (e : Ext bs H bs' H') (h : H q = some (.lst vs)) (nb : q ∉ bs) : Ext bs (hid H q) bs' (hid H' q) ∧ H' q = some (.lst vs) ∧ q ∉ bs' := by
  refine ⟨⟨e.pre, fun a o h1 h2 => ?_, fun a h1 h2 => ?_⟩, e.keep q _ h (.inl nb), fun z => ?_⟩
  · by_cases y : a = q
    · rw [y, hid_same] at h1; cases h1
    · rw [hid_ne y] at h1 ⊢
      exact e.keep a o h1 h2
  · by_cases y : a = q
    · rw [y]; exact hid_same
    · rw [hid_ne y]; exact e.fresh a h1 h2
  · have := e.fresh q z nb
    rw [h] at this; cases this
/-- no exception -/
def exF : Wh := fun _ _ _ _ => False
def nox (m : M α) : M α := fun st => match m st with
  | .exc _ _ _ => .stuck
  | r => r
theorem Post.nox {m : M α} {k : α → Sto → List Addr → Hp → Prop} (p : Post c ex (nox m st) bs H k) : Post c exF (m st) bs H k := by
  unfold Pm.nox at p
  cases e : m st with
  | ok a st' => rw [e] at p; exact p
  | exc n d st' => rw [e] at p; exact p.elim
  | stuck => rw [e] at p; exact p
theorem Post.hide {r : Res α} {k : α → Sto → List Addr → Hp → Prop} (p : Post c exF r bs (hid H q) k) (h : H q = some (.lst vs)) (nb : q ∉ bs) : Post c exF r bs H fun a st' bs' H' => k a st' bs' (hid H' q) := by
  cases r with
  | ok a st' =>
    intro b' H' e rl
    obtain ⟨e2, h2, n2⟩ := e.hid h nb
    exact p b' (Pm.hid H' q) e2 (rl.hid h2 n2)
  | exc n d st' =>
    intro b' H' e rl
    obtain ⟨e2, h2, n2⟩ := e.hid h nb
    exact p b' (Pm.hid H' q) e2 (rl.hid h2 n2)
  | stuck => exact p
end

/-! ### [e for x in xs if t] -/
def wipeE (ρ : En) : List Nat → En
  | [] => ρ
  | v :: vs => (wipeE ρ vs).set v none
theorem wipe_RE {c : Ct} {bs : List Addr} {H : Hp} {ρ : En} {σ : L2.St} (r : RE c bs H ρ σ) : ∀ vs : List Nat, RE c bs H (wipeE ρ vs) (wipe σ vs)
  | [] => r
  | v :: vs => by
    have ih := wipe_RE r vs
    unfold wipeE wipe
    refine ⟨by rw [List.length_set, List.length_set, ih.len], fun i d e => ?_⟩
    by_cases hi : v = i
    · subst hi
      by_cases hv : v < (wipeE ρ vs).length
      · rw [List.getElem?_set_self hv] at e; cases e
      · rw [List.getElem?_eq_none (by simpa using hv)] at e; cases e
    · rw [List.getElem?_set_ne hi] at e ⊢
      exact ih.val i d e
def yesT : MT := fun _ => ret true
def lcL (ok : Sto → Bool) (p : Pat) (t : MT) (e : ME) (ρ : En) : List D → List D → M (List D)
  | [], acc => fun st => if ok st = true then .ok acc st else .stuck
  | x :: r, acc => fun st => if ok st = true then
      (bnd (ofE (bindP p x ρ)) fun ρ1 => bnd (nox (t ρ1)) fun k => if k = true then bnd (nox (e ρ1)) fun y => if acc.length < sizeLine then lcL ok p t e ρ r (acc ++ [y]) else no else lcL ok p t e ρ r acc) st
    else .stuck
def lcE (it : MI) (p : Pat) (t : MT) (e : ME) (vs : List Nat) : ME := fun ρ => bnd (it ρ) fun I => bnd (lcL I.ok p t e (wipeE ρ vs) I.xs []) alloc
section
variable {X : Cx} {c : Ct} {ex : Wh} {it : MI} {p : Pat} {t : MT} {e : ME} {vs : List Nat} {H : Hp}
theorem lcL_ok {ok : Sto → Bool} {ρ : En} {xs acc : List D} {st : Sto} {bs : List Addr} {k : List D → Sto → List Addr → Hp → Prop} (q : Post c ex (lcL ok p t e ρ xs acc st) bs H k) : ok st = true := by
  cases xs with
  | nil =>
    unfold lcL at q
    by_cases h : ok st = true
    · exact h
    · rw [if_neg h] at q; exact q.elim
  | cons x r =>
    unfold lcL at q
    by_cases h : ok st = true
    · exact h
    · rw [if_neg h] at q; exact q.elim
theorem wipe_wipe : ∀ (σ : L2.St) (vs : List Nat), wipe (wipe σ vs) vs = wipe σ vs
  | _, [] => rfl
  | σ, v :: vs => by
    show wipe ((wipe σ vs).set v none) (v :: vs) = (wipe σ vs).set v none
    rw [wipe_set List.mem_cons_self]
    show (wipe (wipe σ vs) vs).set v none = _
    rw [wipe_wipe σ vs]
theorem rel_show {bs : List Addr} {st : Sto} {D : Addr} (rl : Rel c bs (hid H D) st) (nb : D ∉ bs) : Rel c bs H st := by
  have e3 := hid_ext (H := H) nb
  refine ⟨rl.len, fun l b o h1 h2 => ?_, rl.nd, e3.scr rl.scr⟩
  have n : b ≠ D := fun z => nb (z ▸ List.mem_of_getElem? h1)
  exact (rl.obj l b o h1 h2).same e3.mov (hid_ne n).symm
theorem tE_lc (hs : ∀ i ∈ slots p, i ∈ vs) {σ : L2.St} {Q : VK} (q : tE c ex (lcE it p t e vs) σ H Q) : tLc (tI c ex it) (gP c.K p) (tT c exF t) (tE c exF e) vs σ H Q := by
  obtain ⟨ρ, st, bs, rl, re, q⟩ := q
  refine ⟨ρ, st, bs, rl, re, q.bnd.imp fun I st1 bs1 H1 e1 rl1 q1 J wk => ?_⟩
  intro D hD
  have reW := wipe_RE (re.ext e1) vs
  refine lc_it wk.1 (fun i H => ∃ st bs acc vacc, Ext bs1 H1 bs (hid H D) ∧ Rel c bs (hid H D) st ∧ D ∉ bs ∧ H D = some (.lst vacc) ∧ RDs c bs (hid H D) vacc acc ∧ Post c ex (lcL I.ok p t e (wipeE ρ vs) (I.xs.drop i) acc st) bs (hid H D) fun a st1 bs1 H1 => Post c ex (alloc a st1) bs1 H1 fun d _ bs' H' => ∀ v, RD c bs' H' v d → Q v H')
    ?_ (fun i H hi ⟨st, bs, acc, vacc, ee, rl, nb, hv, rr, q⟩ => ?_) (fun i v H H' hi ⟨st, bs, acc, vacc, ee, rl, nb, hv, rr, q⟩ y => ?_) (fun H ⟨st, bs, acc, vacc, ee, rl, nb, hv, rr, q⟩ => ?_)
  · have z : hid (upd H1 D (.lst [])) D = H1 := by rw [hid_upd, hid_none hD]
    refine ⟨st1, bs1, [], [], by rw [z]; exact Ext.refl, by rw [z]; exact rl1, fun h => ?_, upd_same, .nil, by rw [z]; exact q1.bnd⟩
    obtain ⟨o, ho, _⟩ := rl1.here h
    rw [hD] at ho; cases ho
  · exact ⟨st, bs, ee.trans (hid_ext nb), rel_show rl nb, lcL_ok q⟩
  · have e3 := hid_ext (H := H) nb
    have rlH : Rel c bs H st := rel_show rl nb
    have hok := lcL_ok q
    obtain ⟨e6, rl6, d, hd, rd6⟩ := y st bs (ee.trans e3) rlH hok
    rw [List.getElem?_eq_getElem hi] at hd
    cases hd
    have e5 : I.xs.drop i = I.xs[i] :: I.xs.drop (i + 1) := List.drop_eq_getElem_cons hi
    rw [e5] at q
    unfold lcL at q
    rw [if_pos hok] at q
    cases e8 : bindP p I.xs[i] (wipeE ρ vs) with
    | none => rw [e8] at q; exact q.bnd.elim
    | some ρ1 =>
      rw [e8] at q
      obtain ⟨e6', hv6, nb6⟩ := e6.hid hv nb
      have q3 := Post.now q.bnd rl
      have q4 := (q3.bnd.far e6').nox
      refine bindP_ok p _ v _ ρ1 (wipe σ vs) _ rd6 (((reW.ext ee).ext e3).ext e6) e8 fun σ2 re2 w2 => ⟨?_, ?_⟩
      · rw [w2 vs hs]
        exact wipe_wipe σ vs
      · refine ⟨ρ1, st, bs, rl6, re2, (q4.hide hv6 nb6).imp fun k st7 bs7 H7 e7 rl7 q7 => ?_⟩
        obtain ⟨e7', hv7, nb7⟩ := e7.hid hv6 nb6
        have ee7 := (ee.trans e6').trans e7'
        have rr7 := (rr.ext e6').ext e7'
        cases k with
        | false => exact iteF ⟨st7, bs7, acc, vacc, ee7, rl7.hid hv7 nb7, nb7, hv7, rr7, q7⟩
        | true =>
          refine iteT ?_
          have q8 := q7.bnd.nox
          refine ⟨ρ1, st7, bs7, rl7, re2.ext e7, (q8.hide hv7 nb7).imp fun y st9 bs9 H9 e9 rl9 q9 v9 rv9 => ?_⟩
          obtain ⟨e9', hv9, nb9⟩ := e9.hid hv7 nb7
          obtain ⟨hz, q10⟩ := Post.iff (m := lcL _ _ _ _ _ _ _) q9
          have rr9 := rr7.ext e9'
          refine ⟨vacc, hv9, by rw [rr9.length]; exact hz, ?_⟩
          have z : hid (upd H9 D (.lst (vacc ++ [v9]))) D = hid H9 D := hid_upd
          refine ⟨st9, bs9, acc ++ [y], vacc ++ [v9], by rw [z]; exact ee7.trans e9', by rw [z]; exact rl9.hid hv9 nb9, nb9, upd_same, by rw [z]; exact rr9.append (.cons (rv9.mono (hid_pre hv9)) .nil), by rw [z]; exact q10⟩
  · rw [List.drop_length] at q
    have hok := lcL_ok q
    unfold lcL at q
    rw [if_pos hok] at q
    have q3 := Post.of q rl
    obtain ⟨k, r⟩ := post_alloc q3 rl hid_same rr
    rw [upd_hid hv] at k r
    exact k _ r
/-- [e for x in xs if t] -/
theorem md_lc {elt tg iter : Expr} {ifs : List Expr} {scope : Scope} {own : List (Str × Nat)} {pos : Pos} (hc : X.calm = true) (hN : X.N.Nodup) (hi : PI X tg iter (tI c ex it)) (ok : BlkOk X.N X.env.scope scope own)
    (hg : ∀ (s : Shared) (H : Hp) (C : Addr) (cl : List (Str × Addr)) (fp : List Addr), PG (X.blk s H scope (compEnvC scope cl C X.env) fp) tg (gP c.K p)) (ht : ∀ (s : Shared) (H : Hp) (C : Addr) (cl : List (Str × Addr)) (fp : List Addr), PTs (X.blk s H scope (compEnvC scope cl C X.env) fp) ifs (tT c exF t))
    (he : ∀ (s : Shared) (H : Hp) (C : Addr) (cl : List (Str × Addr)) (fp : List Addr), PE (X.blk s H scope (compEnvC scope cl C X.env) fp) elt (tE c exF e)) (hs : ∀ x, foldedSetIterable iter X.env x = pure x := by intro _; rfl) (hsl : ∀ i ∈ slots p, i ∈ vs := by decide) (hvs : own.map (·.2) = vs := by rfl) :
    PE X (.ListComp elt [⟨tg, iter, ifs, 0⟩] scope pos) (tE c ex (lcE it p t e vs)) :=
  PE_imp (pe_lc hc hN hi ok hg ht he hs) fun σ H Q q => by rw [hvs]; exact tE_lc hsl q
theorem mts_nil : PTs X [] (tT c ex yesT) := ⟨fun pins s σ H Q I q => by
  obtain ⟨ρ, st, bs, rl, re, p⟩ := q
  exact pts_nil.run pins s σ H Q I (p.now rl)⟩
theorem mts_one {a : Expr} (h : PT X a (tT c ex t)) : PTs X [a] (tT c ex t) := pts_one h
/-- name = [..] -/
theorem ms_setLc {i : Nat} {y : Str} {py : Pos} {elt tg iter : Expr} {ifs : List Expr} {scope : Scope} {own : List (Str × Nat)} {pos spos : Pos} (hc : X.calm = true) (hN : X.N.Nodup) (hi : PI X tg iter (tI c ex it)) (ok : BlkOk X.N X.env.scope scope own)
    (hg : ∀ (s : Shared) (H : Hp) (C : Addr) (cl : List (Str × Addr)) (fp : List Addr), PG (X.blk s H scope (compEnvC scope cl C X.env) fp) tg (gP c.K p)) (ht : ∀ (s : Shared) (H : Hp) (C : Addr) (cl : List (Str × Addr)) (fp : List Addr), PTs (X.blk s H scope (compEnvC scope cl C X.env) fp) ifs (tT c exF t))
    (he : ∀ (s : Shared) (H : Hp) (C : Addr) (cl : List (Str × Addr)) (fp : List Addr), PE (X.blk s H scope (compEnvC scope cl C X.env) fp) elt (tE c exF e))
    (hsw : swapsWith (.ListComp elt [⟨tg, iter, ifs, 0⟩] scope pos) (some (.Name y py)) spos.line X.env = pure true) (hy : X.N[i]? = some y := by rfl) (hyl : X.env.scope.names.lookup y = some .local := by rfl) (hs : ∀ x, foldedSetIterable iter X.env x = pure x := by intro _; rfl) (hsl : ∀ i ∈ slots p, i ∈ vs := by decide) (hvs : own.map (·.2) = vs := by rfl) :
    PS X (.Assign [.Name y py] (.ListComp elt [⟨tg, iter, ifs, 0⟩] scope pos) spos) (tS c ex (setS (.nm i) (lcE it p t e vs))) :=
  PS_imp (ps_setLc hc hN hy hyl hsw hi ok hg ht he hs) fun E σ H q => by
    have q := tS_set q
    unfold gP at q
    rw [hvs]
    exact tE_lc hsl q
end
end Pm
end
section
set_option Elab.async false
set_option linter.all false
set_option maxRecDepth 100000
namespace Pm
open PySem PySem.Spec PyProof.Rows L2

/-! ### defs, where no repr is running -/
structure FnG (P : Program) (w : World) (K : PySem.W.Frag) (mg : Str → Option Value) (base : Heap) (CX : CXT) (k : Nat) (f : Addr) (fd : FuncData) (ps : List Str) (sp : Sp) : Prop where
  ln : ∀ vs H Q E, sp vs H Q E → vs.length = ps.length
  go : ∀ (A : Around) (out : List Env) (s : Shared) (H : Hp) (ar : Args) (us : List Value) (vs : List V) (Q : VK) (E : XK), Room k A → A.guards = some [] → Env0 P w K mg base A out s H → BindsTo s fd ar (ps.zip us) → Vals vs us → sp vs H Q E → codeAny (model P w) A (.call (.ref f) ar) (CR CX out P w H s Q E) s
theorem FnOk.gu {P : Program} {w : World} {K : PySem.W.Frag} {mg : Str → Option Value} {base : Heap} {CX : CXT} {k : Nat} {f : Addr} {fd : FuncData} {ps : List Str} {sp : Sp} (F : FnOk P w K mg base CX k f fd ps sp) : FnG P w K mg base CX k f fd ps sp :=
  ⟨F.len, fun A out s H ar us vs Q E hr _ => F.run A out s H ar us vs Q E hr⟩
theorem FnG.mono {P : Program} {w : World} {K : PySem.W.Frag} {mg : Str → Option Value} {base : Heap} {CX : CXT} {j k : Nat} {f : Addr} {fd : FuncData} {ps : List Str} {sp : Sp} (F : FnG P w K mg base CX j f fd ps sp) (h : j ≤ k) : FnG P w K mg base CX k f fd ps sp :=
  ⟨F.ln, fun A out s H ar us vs Q E hr => F.go A out s H ar us vs Q E (hr.mono h)⟩
section
variable {X : Cx} {CX : CXT} {k : Nat} {f : Addr} {fd : FuncData} {ps : List Str} {sp : Sp} {dvs : List V} {ds : List Value} {E : XK} {x : Str} {p pos : Pos} {e : Expr} {es : List Expr} {t : TA}
theorem gRun {pins : List (Addr × Obj)} {σ : L2.St} {H : Hp} {s : Shared} {Q : VK} {us : List Value} {vs : List V} (F : FnG X.prog X.w X.K X.mg X.base CX k f fd ps sp) (hr : Room k X.A) (hgd : X.A.guards = some []) (hb : Binds X.K fd ps ds) (hd : Vals dvs ds) (hx : Passes CX X E)
    (I : Inv X pins σ H s) (r : Vals vs us) (h : sp (vs ++ dvs) H Q E) : wpAny (model X.prog X.w) X.A (call (.ref f) us) (EP X pins σ Q) X.xe s := by
  have r2 := r.append hd
  have hl : (us ++ ds).length = ps.length := r2.length.symm.trans (F.ln _ _ _ _ h)
  have run := F.go X.A X.stack s H ⟨us, []⟩ (us ++ ds) (vs ++ dvs) Q E hr hgd I.env0 (hb s us I.kIn hl) r2 h
  refine wpAny_call (codeAny_mono run fun r s' hq => ?_)
  match r, hq with
  | .error e, hq => exact hx pins σ H s e s' I hq
  | .ok (.ret u), hq => exact I.after hq
theorem pe_callG (F : FnG X.prog X.w X.K X.mg X.base CX k f fd ps sp) (hr : Room k X.A) (hgd : X.A.guards = some []) (hg : Gl X x) (hm : X.mg x = some (.ref f)) (hk : PySem.W.keepIn X.K (.ref f) = true) (hb : Binds X.K fd ps ds) (hd : Vals dvs ds) (hx : Passes CX X E)
    (ha : PA X (e :: es) t) (hdb : (x == ("__debug__" : Str)) = false := by decide) (he : starEach (e :: es) X.env = (false, eval e X.env) :: starEach es X.env := by rfl) (hpl : (backTo pos (starEach es X.env)).any (·.1) = false := by rfl) :
    PE X (.Call (.Name x p) (e :: es) [] pos) (tCall sp dvs E t) := ⟨fun pins s σ H Q I h =>
  wpAny_Call_Name_kw (ld_glob I hg hm (PySem.W.callWith_K (h₀ := X.base) I.ok.mod.kin hk (thn (ha.run pos pins s σ H _ I h) fun us s1 ⟨vs, H1, I1, r, q⟩ => ⟨I1.kIn, gRun F hr hgd hb hd hx I1 r q⟩) he hpl) hdb)⟩
theorem pe_callG0 (F : FnG X.prog X.w X.K X.mg X.base CX k f fd ps sp) (hr : Room k X.A) (hgd : X.A.guards = some []) (hg : Gl X x) (hm : X.mg x = some (.ref f)) (hk : PySem.W.keepIn X.K (.ref f) = true) (hb : Binds X.K fd ps ds) (hd : Vals dvs ds) (hx : Passes CX X E)
    (hdb : (x == ("__debug__" : Str)) = false := by decide) : PE X (.Call (.Name x p) [] [] pos) (tCall sp dvs E tNil) := ⟨fun pins s σ H Q I h =>
  wpAny_Call_Name_kw (ld_glob I hg hm (PySem.W.callWith_K0 I.kIn hk (gRun (us := []) F hr hgd hb hd hx I .nil h)) hdb)⟩
end

/-! ### a def by its meaning -/
def startE (n : Nat) (ds : List D) : En := ds.map some ++ List.replicate (n - ds.length) none
def runB (n : Nat) (b : MS) : List D → M D := fun ds => bnd (b (startE n ds)) fun x => match x.1 with
  | .nx => ret .non
  | .rt d => ret d
  | _ => no
def spM (c : Ct) (wx : XK → Wh) (n : Nat) (m : List D → M D) : Sp := fun vs H Q E => vs.length = n ∧ ∃ ds st bs, Rel c bs H st ∧ RDs c bs H vs ds ∧ Post c (wx E) (m ds st) bs H fun d _ bs' H' => ∀ v, RD c bs' H' v d → Q v H'
theorem start_RE {c : Ct} {bs : List Addr} {H : Hp} {vs : List V} {ds : List D} (N : List Str) (r : RDs c bs H vs ds) : RE c bs H (startE N.length ds) (L2.start N vs) := by
  unfold startE L2.start
  refine ⟨by simp [r.length], fun i d h => ?_⟩
  by_cases hi : i < ds.length
  · rw [List.getElem?_append_left (by simpa using hi), List.getElem?_map] at h
    cases e : ds[i]? with
    | none => rw [e] at h; cases h
    | some d' =>
      rw [e] at h
      cases h
      obtain ⟨v, h1, h2⟩ := r.get e
      exact ⟨v, by rw [List.getElem?_append_left (by simpa [r.length] using hi), List.getElem?_map, h1]; rfl, h2⟩
  · rw [List.getElem?_append_right (by simpa using hi), List.getElem?_replicate] at h
    split at h <;> cases h
section
variable {P : Program} {w : World} {K : PySem.W.Frag} {mg : Str → Option Value} {base : Heap} {CX : CXT} {k : Nat} {f : Addr} {fd : FuncData} {N ps : List Str} {c : Ct} {wx : XK → Wh} {b : MS} {x qual : Str} {params : Arguments} {body : List Stmt} {scope : Scope} {dvs : List V} {kws : List (Str × V)}
theorem fnG_of {sp : Sp} (F : FunD K x qual params body scope dvs kws f fd) (S : FnScope N ps scope) (hln : ∀ vs H Q E, sp vs H Q E → vs.length = ps.length)
    (hb : ∀ (cdv : Value) (A : Around) (out : List Env) (s : Shared) (H : Hp) (vs : List V) (Q : VK) (E : XK), Room k (A.deeper (envOfC qual scope s.heap.objs.size f cdv)) → A.guards = some [] → sp vs H Q E →
      ∃ t, PSs (cxOf CX P w K mg base N qual scope f cdv A out s H E) body t ∧ t { nx := fun _ H' => Q .non H', rt := Q } (L2.start N vs) H) : FnG P w K mg base CX (k + 1) f fd ps sp := by
  obtain ⟨oc, od, dV, kV, doc, pm, an, cdv, ct, osl, rfl, lk, hcd, _, _⟩ := F.ex
  refine ⟨hln, fun A out s H ar us vs Q E hr hgd e0 hbd r hsp => ?_⟩
  have hl := hln _ _ _ _ hsp
  have kk : ∀ (b : Addr) (o : Obj), base.get? b = some o → s.heap.get? b = some o := fun b o e => (e0.bs b o e).1
  have KX : K.In s.heap := e0.mod.kin.keeps kk
  have lim := e0.mod.nolimit.keeps kk
  refine codeAny_call_function hr.depth (KX _ _ lk) rfl S.co S.gen rfl (PySem.W.codeRec_of KX hcd) (hbd _ _ _ _ ?_)
  refine wpAny_newFunctionEnv_cells S.kind (fun ⟨n, v⟩ hy => ?_) fun env he s1 hx => ?_
  · rcases S.par n (List.of_mem_zip hy).1 with z | z
    · exact .inl z
    · exact .inr ⟨z, PySem.W.cellsFrom_some _ _ _ (.inl z)⟩
  · subst he
    refine ⟨lim.keeps hx.toInCall.keep, codeAny_func ?_⟩
    obtain ⟨t, ht, hq⟩ := hb cdv A out s H vs Q E (hr.deeper _) hgd hsp
    have I : Inv (cxOf CX P w K mg base N qual scope f cdv A out s H E) [] (L2.start N vs) H s1 := inv_start S hr.hd e0 hl r hx
    refine wpAny_mono (ht.run [] s1 (L2.start N vs) H _ I hq) (fun fl s' hs => ?_) fun _ _ z => z
    match fl, hs with
    | .ret u, ⟨v, _, H', J, rv, q⟩ => exact ⟨v, H', J.os, J.bare, J.base, J.hok, rv, q⟩
    | .next, ⟨_, H', J, q⟩ => exact ⟨V.non, H', J.os, J.bare, J.base, J.hok, rfl, q⟩
    | .brk, ⟨_, _, _, q⟩ => exact False.elim q
    | .cont, ⟨_, _, _, q⟩ => exact False.elim q
/-- THE RULE: a def of the text, by its body's meaning -/
theorem fn_m (F : FunD K x qual params body scope dvs kws f fd) (S : FnScope N ps scope) (hb : ∀ (cdv : Value) (A : Around) (out : List Env) (s : Shared) (H : Hp) (E : XK), Room k (A.deeper (envOfC qual scope s.heap.objs.size f cdv)) → A.guards = some [] →
      PSs (cxOf CX P w K mg base N qual scope f cdv A out s H E) body (tS c (wx E) b)) : FnG P w K mg base CX (k + 1) f fd ps (spM c wx ps.length (runB N.length b)) := by
  refine fnG_of F S (fun vs H Q E h => h.1) fun cdv A out s H vs Q E hr hgd h => ⟨_, hb cdv A out s H E hr hgd, ?_⟩
  obtain ⟨_, ds, st, bs, rl, r, p⟩ := h
  refine ⟨startE N.length ds, st, bs, rl, start_RE N r, p.bnd.imp fun y st1 bs1 H1 e1 rl1 p1 σ1 re1 => ?_⟩
  obtain ⟨fl, ρ1⟩ := y
  cases fl with
  | nx => exact p1.now rl1 _ .non
  | rt d => exact fun v rv => p1.now rl1 v rv
  | bk => exact p1.elim
  | ct => exact p1.elim
end
/-- a call of a def -/
def calE (g : MA) (m : List D → M D) : ME := fun ρ => bnd (g ρ) m
section
variable {X : Cx} {CX : CXT} {k n : Nat} {f : Addr} {fd : FuncData} {ps : List Str} {E : XK} {x : Str} {p pos : Pos} {e : Expr} {es : List Expr} {c : Ct} {wx : XK → Wh} {ex : Wh} {g : MA} {m : List D → M D}
theorem RDs.len2 {bs : List Addr} {H : Hp} {vs : List V} {ds : List D} (r : RDs c bs H vs ds) : vs.length = ds.length := r.length
/-- as many as it takes -/
def ofLen (n : Nat) (m : List D → M D) : List D → M D := fun ds => if ds.length = n then m ds else no
theorem md_call (F : FnG X.prog X.w X.K X.mg X.base CX k f fd ps (spM c wx n m)) (hr : Room k X.A) (hgd : X.A.guards = some []) (hg : Gl X x) (hm : X.mg x = some (.ref f)) (hk : PySem.W.keepIn X.K (.ref f) = true) (hb : Binds X.K fd ps []) (hx : Passes CX X E) (hE : wx E = ex)
    (ha : PA X (e :: es) (tA c ex g)) (hdb : (x == ("__debug__" : Str)) = false := by decide) (he : starEach (e :: es) X.env = (false, eval e X.env) :: starEach es X.env := by rfl) (hpl : (backTo pos (starEach es X.env)).any (·.1) = false := by rfl) :
    PE X (.Call (.Name x p) (e :: es) [] pos) (tE c ex (calE g (ofLen n m))) := PE_imp (pe_callG F hr hgd hg hm hk hb .nil hx ha hdb he hpl) fun σ H Q q => by
  obtain ⟨ρ, st, bs, rl, re, q⟩ := q
  refine ⟨ρ, st, bs, rl, re, q.bnd.imp fun ds st1 bs1 H1 e1 rl1 q1 vs rvs => ?_⟩
  obtain ⟨hn, q1⟩ := Post.iff (m := m ds) q1
  subst hE
  rw [List.append_nil]
  exact ⟨by rw [rvs.length]; exact hn, ds, st1, bs1, rl1, rvs, q1⟩
theorem md_call0 (F : FnG X.prog X.w X.K X.mg X.base CX k f fd ps (spM c wx 0 m)) (hr : Room k X.A) (hgd : X.A.guards = some []) (hg : Gl X x) (hm : X.mg x = some (.ref f)) (hk : PySem.W.keepIn X.K (.ref f) = true) (hb : Binds X.K fd ps []) (hx : Passes CX X E) (hE : wx E = ex)
    (hdb : (x == ("__debug__" : Str)) = false := by decide) : PE X (.Call (.Name x p) [] [] pos) (tE c ex (calE nilA m)) := PE_imp (pe_callG0 F hr hgd hg hm hk hb .nil hx hdb) fun σ H Q q => by
  obtain ⟨ρ, st, bs, rl, re, q⟩ := q
  subst hE
  refine q.bnd.now rl |> fun q1 => ?_
  exact ⟨rfl, [], st, bs, rl, .nil, q1⟩
end
/-- what is never reached -/
def nevS : MS := fun _ => no
theorem ms_never {X : Cx} {c : Ct} {ex : Wh} {s : Stmt} : PS X s (tS c ex nevS) := PS_imp ps_never fun E σ H q => by
  obtain ⟨ρ, st, bs, rl, re, p⟩ := q
  exact p.elim
end Pm
end
section
set_option Elab.async false
set_option linter.all false
set_option maxRecDepth 100000
set_option maxHeartbeats 2000000
namespace Pm
open PySem PySem.Spec PyProof.Rows L2

/-! ### the law's end, where the caller has no repr running -/
theorem endG {P : Program} {w : World} {K : PySem.W.Frag} {mg mb : Str → Option Value} {CX : CXT} {k : Nat} {fa a : Addr} {fd : FuncData} {x : Str} {sp : Sp} {s1 : Shared} {vs : List Value} {ns : List Int} (KX : K.In s1.heap) (hns : s1.heap.Ns mainGlobals mg)
    (hb : s1.heap.Ns builtinsNs mb) (hbb : ∀ x : Str, x ≠ "__name__" → mb x = bootBuiltins x) (hlim : s1.heap.NoLimit) (hg : s1.gens = #[]) (ha : s1.heap.get? a = some { cls := .type "list", data := .seq vs.toArray }) (hi : IntsAre vs ns) (hl : ns.length ≤ sizeLine) (hr : Room k callerA)
    (F : ∀ base : Heap, K.In base → base.Ns mainGlobals mg → FnG P w K mg base CX k fa fd [x] sp) (hbind : ∀ (s : Shared) (u : Value), BindsTo s fd ⟨[u], []⟩ [(x, u)]) (hsp : ∀ H : Hp, (∀ o, H a = some o → ∃ ob, o = .frz ob (.lst (ns.map V.int))) → (∀ b, b ≠ a → H b = none) → SqL K H a (ns.map V.int) → ((H a = none) → ∀ H', SqL K H' a (ns.map V.int)) → sp [.ref a] H (fun v _ => v = .bl true) fun _ _ _ => False)
    (hCX : ∀ H e s', CX [] H s1 (fun _ _ _ => False) e s' → False) :
    codeAny (model P w) callerA (.call (.ref fa) ⟨[.ref a], []⟩) (fun r s' => r = .ok (.ret (.bool true)) ∧ OldK s1.heap s'.heap ∧ s'.os = s1.os ∧ AllBare s'.gens) s1 := by
  have rv := vals_ints hi
  have hv := hi.length
  have main : ∀ H : Hp, (∀ o, H a = some o → ∃ ob, o = HO.frz ob (.lst (ns.map V.int))) → (∀ b, b ≠ a → H b = none) → SqL K H a (ns.map V.int) → ((H a = none) → ∀ H', SqL K H' a (ns.map V.int)) → HOk P w H s1.heap → (H a ≠ none → K.lookup a = none) →
      codeAny (model P w) callerA (.call (.ref fa) ⟨[.ref a], []⟩) (fun r s' => r = .ok (.ret (.bool true)) ∧ OldK s1.heap s'.heap ∧ s'.os = s1.os ∧ AllBare s'.gens) s1 := by
    intro H hf hA hS hS2 hok hK
    have only : ∀ {b : Addr} {u : HO}, H b = some u → b = a := fun {b u} e => Classical.byContradiction fun n => by rw [hA b n] at e; cases e
    have dn : ∀ {b : Addr} {o : Obj} {es : Array DictEntry} {ep : Nat}, s1.heap.get? b = some o → o.data = .dict es ep → H b = none := fun {b o es ep} e d => by
      cases q : H b with
      | none => rfl
      | some u =>
        have z := only q
        subst z
        rw [ha] at e; cases e; cases d
    have nsK : ∀ {b : Addr} {m : Str → Option Value}, s1.heap.Ns b m → (hidT s1.heap H).Ns b m := fun {b m} ⟨o, es, ep, e, d, r⟩ => ⟨o, es, ep, hidT_get e (dn e d), d, r⟩
    have hKb : K.In (hidT s1.heap H) := fun b o e => hidT_get (KX b o e) (by
      cases q : H b with
      | none => rfl
      | some u =>
        have z := only q
        subst z
        rw [hK (by rw [q]; simp)] at e; cases e)
    have hM : Mod K mg (hidT s1.heap H) := ⟨hKb, nsK hns, ⟨mb, nsK hb, hbb⟩, let ⟨mc, h1, h2⟩ := hlim; ⟨mc, nsK h1, h2⟩⟩
    have e0 : Env0 P w K mg (hidT s1.heap H) callerA [] s1 H := ⟨rfl, hM, fun b o e => of_hidT e, Nat.le_of_eq (hidT_size _ _), trivial, (fun b hb => by cases hb), hok, .of_eq hg⟩
    have run := (F _ hKb (nsK hns)).go callerA [] s1 H ⟨[.ref a], []⟩ [.ref a] [.ref a] _ _ hr rfl e0 (hbind s1 (.ref a)) (.cons rfl .nil) (hsp H hf hA hS hS2)
    refine codeAny_mono run fun r s' h => ?_
    match r, h with
    | .error e, h => exact (hCX H e s' h).elim
    | .ok (.ret u), ⟨v, H', os, bare, un, hok', r', q⟩ =>
      have q : v = .bl true := q
      subst q
      have r' : u = Value.bool true := r'
      subst r'
      refine ⟨rfl, OldK.of_keep fun b o e => ?_, os, bare⟩
      cases q : H b with
      | none => exact un.keep b o e q (fun z => nomatch z) (by simp)
      | some u =>
        have z := only q
        subst z
        obtain ⟨ob, rfl⟩ := hf u q
        have z2 := un.frzs b ob _ q
        have e1 := (hok b _ q).1
        have e2 := (hok' b _ z2).1
        rw [e] at e1; cases e1
        exact e2
  cases hk : K.lookup a with
  | some o =>
    have e := KX a o hk
    rw [ha] at e
    cases e
    have sq : ∀ H' : Hp, SqL K H' a (ns.map V.int) := fun H' => .inr ⟨_, vs.toArray, _, hk, rfl, rfl, rfl, by rw [List.size_toArray, hv]; exact hl, by simpa using rv⟩
    exact main (fun _ => none) (fun o z => by cases z) (fun _ _ => rfl) (sq _) (fun _ => sq) (fun b u z => by cases z) fun z => absurd rfl z
  | none =>
    have at_ : (fun b => if b = a then some (HO.frz { cls := .type "list", data := .seq vs.toArray } (.lst (ns.map V.int))) else none) a = some (HO.frz { cls := .type "list", data := .seq vs.toArray } (.lst (ns.map V.int))) := if_pos rfl
    refine main (fun b => if b = a then some (HO.frz { cls := .type "list", data := .seq vs.toArray } (.lst (ns.map V.int))) else none) (fun o z => ?_) (fun b n => if_neg n) (.inl (.inr ⟨_, at_⟩)) (fun z => ?_) (fun b u z => ?_) fun _ => hk
    · have z := at_.symm.trans z
      cases z
      exact ⟨_, rfl⟩
    · have z := at_.symm.trans z
      cases z
    · by_cases hb : b = a
      · have z := (if_pos hb).symm.trans z
        cases z
        subst hb
        exact ⟨ha, by rw [List.length_map]; exact hl, vs, _, rv, ha⟩
      · have z := (if_neg hb).symm.trans z
        cases z
/-- a law by its meaning -/
theorem walkG {l : PySem.W.OpenLaw} {n k : Nat} {q : Program} {loose : List Str} {XP : (Str → Option Value) → Heap → Prop} {YP : World → Heap → Prop} {d : DefRec} {CX : World → CXT} {x : Str} {m : List Int → List D → M D} (hn : l.most = some n) (hn2 : n ≤ sizeLine) (hdf : d.params.defaults = []) (hr : Room k callerA)
    (F : ∀ (w : World) (mg : Str → Option Value) (fa : Addr) (h : Heap), YP w h → h.Ns mainGlobals mg → mg d.name = some (.ref fa) → ∃ (K : PySem.W.Frag) (fd : FuncData) (cl : Str → Option Addr), K.In h ∧ (∀ (s : Shared) (u : Value), BindsTo s fd ⟨[u], []⟩ [(x, u)]) ∧
        ∀ (sa : Addr) (ns : List Int) (base : Heap), K.In base → base.Ns mainGlobals mg → FnG l.prog w K mg base (CX w) k fa fd [x] (spM ⟨K, sa, ns, cl⟩ (fun _ => exF) 1 (m ns)))
    (hm : ∀ ns : List Int, ns.length ≤ n → ∃ st, m ns [.scr] [] = .ok (.bl true) st) (hCX : ∀ (w : World) (H : Hp) (s : Shared) (e : Value) (s' : Shared), CX w [] H s (fun _ _ _ => False) e s' → False) : PySem.W.WalkO q loose XP YP l.row.toRowW d [] (fun f vs => PySem.call f vs) := by
  refine Att.attach_call hn hdf fun w s0 s1 mg mb fa o pm cd doc a vs ns G Y ho hd hcd hmg hobj hints hlen hg => ?_
  obtain ⟨K, fd, cl, KX, hb, hF⟩ := F w mg fa _ Y G.T.g hmg
  refine endG KX G.T.g G.T.b G.T.builtins G.T.nolimit hg hobj hints (Nat.le_trans hlen hn2) hr (hF a ns) hb (fun H hf hA hS hS2 => ?_) fun H e s' => hCX w H s1 e s'
  obtain ⟨st, e⟩ := hm ns hlen
  refine ⟨rfl, [.scr], [], [], ⟨rfl, fun l a o h => by simp at h, List.nodup_nil, ?_⟩, .cons .scr .nil, ?_⟩
  · cases q : H a with
    | none => exact .inr (hS2 q)
    | some o =>
      obtain ⟨ob, rfl⟩ := hf o q
      exact .inl ⟨ob, q⟩
  · rw [e]
    intro bs' H' _ _ v r
    cases r
    rfl
end Pm
end
section
set_option Elab.async false
set_option linter.all false
set_option maxRecDepth 100000
namespace Pm
open PySem PySem.Spec PyProof.Rows L2
/-! ### keywords -/
def permL {α : Type} (ix : List Nat) (zs : List α) : List α := ix.filterMap fun i => zs[i]?
theorem permL_vals {vs : List V} {us : List Value} (r : Vals vs us) : ∀ ix : List Nat, Vals (permL ix vs) (permL ix us)
  | [] => .nil
  | i :: ix => by
    unfold permL
    rw [List.filterMap_cons, List.filterMap_cons]
    cases e : vs[i]? with
    | none =>
      rw [Vals.none_of r e]
      exact permL_vals r ix
    | some v =>
      obtain ⟨u, hu, rv⟩ := r.get e
      rw [hu]
      exact .cons rv (permL_vals r ix)
theorem permL_RDs {c : Ct} {bs : List Addr} {H : Hp} {vs : List V} {ds : List D} (r : RDs c bs H vs ds) : ∀ ix : List Nat, RDs c bs H (permL ix vs) (permL ix ds)
  | [] => .nil
  | i :: ix => by
    unfold permL
    rw [List.filterMap_cons, List.filterMap_cons]
    cases e : ds[i]? with
    | none =>
      have e2 : vs[i]? = none := by
        rw [List.getElem?_eq_none_iff] at e ⊢
        rw [r.length]; exact e
      rw [e2]
      exact permL_RDs r ix
    | some d =>
      obtain ⟨v, hv, rv⟩ := r.get e
      rw [hv]
      exact .cons rv (permL_RDs r ix)
/-- how keywords alone bind -/
def KB (K : PySem.W.Frag) (fd : FuncData) (ps ks : List Str) (ix : List Nat) : Prop := ∀ (s : Shared) (ws : List Value), K.In s.heap → ws.length = ks.length → BindsTo s fd ⟨[], ks.zip ws⟩ (ps.zip (permL ix ws))
theorem kb_of {K : PySem.W.Frag} {x qual : Str} {params : Arguments} {body : List Stmt} {scope : Scope} {kws : List (Str × V)} {f : Addr} {fd : FuncData} {ps ks : List Str} {ix : List Nat} (F : FunD K x qual params body scope [] kws f fd)
    (h : ∀ (kV doc pm : Value) (an : Option Addr) (cdv ct : Value) (ws : List Value), ws.length = ks.length → bindArgs (PySem.W.fnOf x qual params body scope .none kV doc pm an cdv ct) ⟨[], ks.zip ws⟩ = pure (ps.zip (permL ix ws))) : KB K fd ps ks ix := by
  obtain ⟨oc, od, dV, kV, doc, pm, an, cdv, ct, osl, rfl, lk, hcd, hD, hK⟩ := F.ex
  rcases hD with ⟨_, rfl⟩ | ⟨e, _⟩
  · exact fun s ws _ hl => .of_eq (h kV doc pm an cdv ct ws hl)
  · exact absurd rfl e
section
variable {X : Cx} {CX : CXT} {k n : Nat} {f : Addr} {fd : FuncData} {ps ks : List Str} {ix : List Nat} {sp : Sp} {E : XK} {x : Str} {p pos kpos : Pos} {e : Expr} {kws : List Keyword} {c : Ct} {wx : XK → Wh} {ex : Wh} {f1 : ME} {g : MA} {m : List D → M D} {nm : Option Str}
theorem mk_nil : PK X [] (tA c ex nilA) := ⟨fun pos pins s σ H Q I q => by
  obtain ⟨ρ, st, bs, rl, re, p⟩ := q
  exact pk_nil.run pos pins s σ H Q I (p.now rl [] .nil)⟩
theorem mk_cons (ha : PE X e (tE c ex f1)) (hr : PK X kws (tA c ex g)) : PK X (⟨nm, e, kpos⟩ :: kws) (tA c ex (conA f1 g)) := ⟨fun pos pins s σ H Q I q => by
  refine (pk_cons ha hr).run pos pins s σ H Q I ?_
  obtain ⟨ρ, st, bs, rl, re, p⟩ := q
  refine ⟨ρ, st, bs, rl, re, p.bnd.imp fun d st1 bs1 H1 e1 rl1 p1 v rv => ?_⟩
  exact ⟨ρ, st1, bs1, rl1, re.ext e1, p1.bnd.imp fun ds st2 bs2 H2 e2 rl2 p2 vs rvs => p2.now rl2 _ (.cons (rv.ext e2) rvs)⟩⟩
def kwE (ix : List Nat) (nk : Nat) (g : MA) (m : List D → M D) : ME := fun ρ => bnd (g ρ) fun zs => if zs.length = nk then m (permL ix zs) else no
theorem md_callK0 (F : FnG X.prog X.w X.K X.mg X.base CX k f fd ps (spM c wx n m)) (hr : Room k X.A) (hgd : X.A.guards = some []) (hg : Gl X x) (hm : X.mg x = some (.ref f)) (hk : PySem.W.keepIn X.K (.ref f) = true) (hb : KB X.K fd ps ks ix) (hx : Passes CX X E) (hE : wx E = ex)
    (hkw : PK X kws (tA c ex g)) (hix : ∀ zs : List D, zs.length = ks.length → (permL ix zs).length = n) (hn : n = ps.length) (hall : (backToKw pos (keywordEach kws X.env)).all (·.1.isSome) = true := by rfl) (hks : (backToKw pos (keywordEach kws X.env)).filterMap (·.1) = ks := by rfl) (hdb : (x == ("__debug__" : Str)) = false := by decide)
    (hpl : (backToKw pos (keywordEach kws X.env)).any (·.1.isNone) = false := by rfl) :
    PE X (.Call (.Name x p) [] kws pos) (tE c ex (kwE ix ks.length g m)) := ⟨fun pins s σ H Q I q => by
  refine wpAny_Call_Name_kw (ld_glob I hg hm ?_ hdb)
  obtain ⟨ρ, st, bs, rl, re, q⟩ := q
  have rd : tA c ex g σ H fun zs H1 => zs.length = ks.length ∧ spM c wx n m (permL ix zs) H1 Q E := by
    refine ⟨ρ, st, bs, rl, re, q.bnd.imp fun ds st1 bs1 H1 e1 rl1 q1 vs rvs => ?_⟩
    obtain ⟨hl, q1⟩ := Post.iff (m := m (permL ix ds)) q1
    have r2 := permL_RDs rvs ix
    subst hE
    exact ⟨by rw [rvs.length]; exact hl, by rw [r2.length]; exact hix ds hl, permL ix ds, st1, bs1, rl1, r2, q1⟩
  refine PySem.W.callWith_KW0 (h₀ := X.base) I.ok.mod.kin hk hall (thn (hkw.run pos pins s σ H _ I rd) fun ws s2 ⟨zs, H2, I2, rz, hz, q2⟩ => ⟨I2.kIn, ?_⟩) (by rw [hpl]; rfl)
  rw [hks]
  have r2 := permL_vals rz ix
  have hw : ws.length = ks.length := by rw [← rz.length]; exact hz
  have run := F.go X.A X.stack s2 H2 ⟨[], ks.zip ws⟩ (permL ix ws) (permL ix zs) Q E hr hgd I2.env0 (hb s2 ws I2.kIn hw) r2 q2
  refine wpAny_call (codeAny_mono run fun r s' hq => ?_)
  match r, hq with
  | .error e, hq => exact hx pins σ H2 s2 e s' I2 hq
  | .ok (.ret u), hq => exact I2.after hq⟩
end
end Pm
end
section
set_option Elab.async false
set_option linter.all false
set_option maxRecDepth 100000
namespace PySem
open AutoSeq1 (wpAny_loadPart')
theorem pm_enumT (l : Addr) (items : Array Value) (n : Nat) (dct : Option Addr) (sl : Array (Option Value)) : Meets (Builtin.«enumerate.__new__» ⟨[.type "enumerate", .ref l], []⟩) (fun _ R s => s.heap.get? l = some { cls := .type "tuple", dict := dct, data := .seq items n, slots := sl } ∧
      R (.ok (.ret (.ref (s.heap.push { cls := .type "tuple_iterator", data := .fields #[.ref l, .int 0 0] }).objs.size))) { s with heap := (s.heap.push { cls := .type "tuple_iterator", data := .fields #[.ref l, .int 0 0] }).push { cls := .type "enumerate", data := .fields #[.none, .bool false, .ref s.heap.objs.size, rawInt 0, .none, .none] } }) := .of_wp fun prog w A R s h => by
  obtain ⟨hp, g, d, tk, os⟩ := s; obtain ⟨hl, h⟩ := h
  have hsub := sub_enumerate
  have hT : Heap.IsTuple (Shared.heap ⟨hp, g, d, tk, os⟩) l items := ⟨_, hl, rfl, n, rfl⟩
  wp_walk using wpAny_loadPart' hl
  refine wpAny_stack_any fun st => wpAny_pure ?_
  split
  · rename_i c _ _ _ _ _
    cases (c == Value.type "enumerate")
    · wp_walk using wpAny_loadPart' hl, wpAny_pyIter_tuple hT
      exact ⟨_, rfl, h⟩
    · wp_walk using wpAny_loadPart' hl, wpAny_pyIter_tuple hT
      exact ⟨_, rfl, h⟩
  · wp_walk using wpAny_loadPart' hl, wpAny_pyIter_tuple hT
    exact ⟨_, rfl, h⟩
end PySem
namespace PySem
section
variable {prog : Program} {w : World} {A : Around} {E : Value → Shared → Prop} {s : Shared}
theorem pm_call_enumT {l : Addr} {items : Array Value} {Q : Value → Shared → Prop} (hL : s.heap.IsTuple l items) (h : ∀ h', IsEnum h' (s.heap.objs.size + 1) s.heap.objs.size 0 .none → h'.IsTupleIter s.heap.objs.size l 0 → (∀ b o, s.heap.get? b = some o → h'.get? b = some o) → Q (.ref (s.heap.objs.size + 1)) { s with heap := h' }) :
    wpAny (model prog w) A (call (.type "enumerate") [.ref l]) Q E s := by
  obtain ⟨⟨c, dct, dt, sl⟩, hl, hc, n, hd⟩ := hL
  have hc : c = .type "tuple" := hc
  have hd : dt = .seq items n := hd
  subst hc hd
  refine callType_new F.called_enumerate (by decide) (F.typeCall_enumerate_1 _) (F.newCall_enumerate_1 _) (fun obj => F.args_object_init_2 obj _) F.entry_enumerate_new (pm_enumT l items n dct sl) ⟨hl, ?_⟩
  have hz : (s.heap.push { cls := .type "tuple_iterator", data := .fields #[.ref l, .int 0 0] }).objs.size = s.heap.objs.size + 1 := Heap.size_push ..
  show _ ∧ _
  rw [hz]
  have he : IsEnum ((s.heap.push { cls := .type "tuple_iterator", data := .fields #[.ref l, .int 0 0] }).push { cls := .type "enumerate", data := .fields #[.none, .bool false, .ref s.heap.objs.size, rawInt 0, .none, .none] }) (s.heap.objs.size + 1) s.heap.objs.size 0 .none := by
    have z := Heap.get?_push_size (s.heap.push { cls := .type "tuple_iterator", data := .fields #[.ref l, .int 0 0] }) (o := { cls := .type "enumerate", data := .fields #[.none, .bool false, .ref s.heap.objs.size, rawInt 0, .none, .none] }) rfl
    rw [hz] at z
    exact z
  exact ⟨⟨_, he, rfl⟩, h _ he ⟨_, Heap.get?_push_of_some _ (Heap.get?_push_size _ rfl), rfl, rfl⟩ fun b o x => Heap.get?_push_of_some _ (Heap.get?_push_of_some _ x)⟩
end
end PySem
namespace Pm
open PySem PySem.Spec PyProof.Rows L2
/-- enumerate(tuple) -/
def ItT (K : PySem.W.Frag) (a : Addr) : It :=
  ⟨fun i H => ∃ xs x, SqT K H a xs ∧ xs[i]? = some x, fun i H v H' => ∃ T x us, v = .ref T ∧ H T = none ∧ H' = upd H T (frT us [.int (i : Nat), x]) ∧ ∀ xs, SqT K H a xs → xs[i]? = some x, fun i H => ∃ xs, SqT K H a xs ∧ xs.length = i⟩
theorem turnT {P : Program} {w : World} {K : PySem.W.Frag} {el : List Expr} {kk : Nat} {tp : Pos} (a e it : Addr) : Turn P w K (.Tuple el kk tp) (ItT K a) [e, it] e fun i h => (∃ old, IsEnum h e it ((i : Nat) : Int) old) ∧ h.IsTupleIter it a i ∧ e ≠ it ∧ a ≠ it ∧ a ≠ e where
  mem := List.mem_cons_self
  obj := fun i h z b hb => by
    obtain ⟨⟨old, he⟩, ⟨o, ho, hc, hd⟩, _⟩ := z
    rcases List.mem_cons.mp hb with rfl | hb
    · exact ⟨_, he, fun v q => nomatch q⟩
    · rw [List.mem_singleton.mp hb]
      exact ⟨o, ho, fun v q => by rw [hd] at q; cases q⟩
  keep := fun i h h' z k => by
    obtain ⟨⟨old, he⟩, hi, r⟩ := z
    exact ⟨⟨old, k e (by simp) _ he⟩, hi.at fun o q => k it (by simp) o q, r⟩
  item := by
    intro X hP hw hK hc i pins s σ H E I hf z hg
    subst hP hw hK
    obtain ⟨⟨old, he⟩, hit, hne, hai, hae⟩ := z
    obtain ⟨xs, x, hq, hx⟩ := hg
    obtain ⟨its, rv, p, hz⟩ := I.tuple hq
    obtain ⟨u, hu, ru⟩ := rv.get hx
    have hel := Heap.lt_size he
    have hil : it < s.heap.objs.size := by
      obtain ⟨_, q, _⟩ := hit
      exact Heap.lt_size q
    have dr : Draws X.prog X.w X.A.in1 it [it, a] its.toArray.size _ _ := Draws.tuple (A := X.A.in1) (I.ok.hd hc) it a hai its.toArray
    have hlt : i < its.toArray.size := by
      rw [List.size_toArray]
      exact (List.getElem?_eq_some_iff.mp hu).1
    refine wpAny_pyNext_enum_itemD dr he ⟨hit, p⟩ hlt hne (by simp [hne, Ne.symm hae]) fun y h1 tk hy ho hst hT hsz hk => ?_
    have ey : y = u := by
      rw [List.getElem?_toArray, hu] at hy
      exact (Option.some.inj hy).symm
    subst ey
    refine ⟨_, rfl, wpAny_letOwnedTupleGo_enum (s := { s with heap := h1, toks := tk + 1 }) ho fun h2 he2 sb => ?_⟩
    have hT2 := (sb.2 _ (Nat.ne_of_gt hel)).trans hT
    have nw : ObjOk X.prog X.w (upd H s.heap.objs.size (frT [.int i tk, y] [.int (i : Nat), x])) h2 s.heap.objs.size (frT [.int i tk, y] [.int (i : Nat), x]) := tupF_ok (by show 2 ≤ sizeLine; decide) (.cons ⟨_, rfl⟩ (.cons ru .nil)) hT2
    have I1 : Inv X pins σ (upd H s.heap.objs.size (frT [.int i tk, y] [.int (i : Nat), x])) { s with heap := h2, toks := tk + 1 } :=
      I.turnedNew (ch := [e, it]) (fun b ob hb q => by
        have n1 : b ≠ e := fun z => hb (by simp [z])
        have n2 : b ≠ it := fun z => hb (by simp [z])
        exact (sb.2 b n1).trans (hk b ob n1 n2 q)) hf (Nat.le_refl _) nw
    refine ⟨.ref s.heap.objs.size, _, I1, rfl, ⟨_, x, _, rfl, I.hok.fresh (Nat.le_refl _), rfl, fun ys hy => by rw [I.tuple_inj hy hq]; exact hx⟩, ⟨⟨y, ?_⟩, hst.1.at fun o q => (sb.2 it (Ne.symm hne)).trans q, hne, hai, hae⟩, fun b hb => ?_⟩
    · rw [show ((i + 1 : Nat) : Int) = (i : Int) + 1 by omega]
      exact he2
    · have hb' : b < s.heap.objs.size := by
        rcases List.mem_cons.mp hb with rfl | hb
        · exact hel
        · rw [List.mem_singleton.mp hb]; exact hil
      rw [upd_ne (Nat.ne_of_lt hb')]
      exact (hf b hb).1
  done := by
    intro X hP hw hK hc i pins s σ H E I hf z hg
    subst hP hw hK
    obtain ⟨⟨old, he⟩, hit, hne, hai, hae⟩ := z
    obtain ⟨xs, hq, hx⟩ := hg
    obtain ⟨its, rv, p, hz⟩ := I.tuple hq
    obtain ⟨f0, f1, f2, f3, f4, f5⟩ := hf it (by simp)
    have dr : Draws X.prog X.w X.A.in1 it [it, a] its.toArray.size _ _ := Draws.tuple (A := X.A.in1) (I.ok.hd hc) it a hai its.toArray
    have en : i = its.toArray.size := by rw [List.size_toArray, ← rv.length]; exact hx.symm
    rw [en] at hit
    exact wpAny_pyNext_enum_endD dr he ⟨hit, p⟩ fun h1 eb => ⟨rfl, I.turned (t' := s.toks) (fun b o hb q => eb b o hb q) f0 f1 f3 f4 f5⟩
  self := fun A i s Q E z h => by
    obtain ⟨⟨_, he⟩, _⟩ := z
    exact wpAny_pyIter_enum he h
def iEnT (K : PySem.W.Frag) (ta : TA) : TI := fun σ H R => ta σ H fun vs H1 => ∃ a xs, vs = [.ref a] ∧ SqT K H1 a xs ∧ R (ItT K a) H1
theorem pi_enT {X : Cx} {e : Expr} {ta : TA} {p pos tp : Pos} {el : List Expr} {kk : Nat} (hg : Gl X "enumerate") (hm : X.mg "enumerate" = none) (ha : PA X [e] ta) (hs : starEach [e] X.env = [(false, eval e X.env)] := by rfl) : PI X (.Tuple el kk tp) (.Call (.Name "enumerate" p) [e] [] pos) (iEnT X.K ta) := by
  refine ⟨fun pins s σ H R I h => ?_⟩
  refine Call_ (ld_blt I hg hm boot_enumerate (PyProof.Rows.callWith_type1 (thn (ha.run pos pins s σ H _ I h) fun us s1 ⟨vs, H1, I1, r1, a, xs, ex, hq, q⟩ => ?_) hs rfl))
  subst ex
  cases r1 with
  | cons r rr =>
    cases rr
    cases r
    obtain ⟨its, rv, p', hz⟩ := I1.tuple hq
    have hlt : a < s1.heap.objs.size := p'.lt
    have n1 : a ≠ s1.heap.objs.size := Nat.ne_of_lt hlt
    have n2 : a ≠ s1.heap.objs.size + 1 := Nat.ne_of_lt (Nat.lt_succ_of_lt hlt)
    have n3 : s1.heap.objs.size + 1 ≠ s1.heap.objs.size := Nat.succ_ne_self _
    refine pm_call_enumT p' fun h1 he hit hk => wpAny_pyIter_enum he ?_
    have I2 : Inv X pins σ H1 { s1 with heap := h1 } := I1.kept (t' := s1.toks) hk
    have t0 : (∃ old, IsEnum h1 (s1.heap.objs.size + 1) s1.heap.objs.size (((0 : Nat) : Nat) : Int) old) ∧ h1.IsTupleIter s1.heap.objs.size a 0 ∧ s1.heap.objs.size + 1 ≠ s1.heap.objs.size ∧ a ≠ s1.heap.objs.size ∧ a ≠ s1.heap.objs.size + 1 := ⟨⟨.none, he⟩, hit, n3, n1, n2⟩
    refine ⟨s1.heap.objs.size + 1, [s1.heap.objs.size + 1, s1.heap.objs.size], _, _, H1, rfl, I2, turnT a (s1.heap.objs.size + 1) s1.heap.objs.size, t0, fun b hb => ?_, q⟩
    have hle : s1.heap.objs.size ≤ b := by
      rcases List.mem_cons.mp hb with rfl | hb
      · exact Nat.le_succ _
      · rw [List.mem_singleton.mp hb]
        exact Nat.le_refl _
    exact I1.fpOk hle (I1.hok.fresh hle)

/-! ### the meaning of enumerate -/
section
variable {X : Cx} {c : Ct} {ex : Wh} {pos tp : Pos} {e : Expr} {f : ME} {bs : List Addr} {H : Hp} {el : List Expr} {kk : Nat}
def enumD (xs : List D) : List D := (List.range xs.length).filterMap fun i => (xs[i]?).map fun x => .tup [.int (i : Nat), x]
theorem enumD_get {xs : List D} {i : Nat} (h : i < xs.length) : (xs.zipIdx.map fun p => D.tup [.int (p.2 : Nat), p.1])[i]? = some (.tup [.int (i : Nat), xs[i]]) := by
  simp [h]
def enuI (f : ME) : MI := fun ρ => bnd (f ρ) fun d => match d with
  | .tup xs => ret ⟨xs.zipIdx.map fun p => .tup [.int (p.2 : Nat), p.1], fun _ => true⟩
  | _ => no
theorem wk_enT {a : Addr} {vs : List V} {xs : List D} (s : SqT c.K H a vs) (r : RDs c bs H vs xs) : Wk c ⟨xs.zipIdx.map fun p => .tup [.int (p.2 : Nat), p.1], fun _ => true⟩ bs H (ItT c.K a) := by
  refine ⟨fun i H' hi ⟨st, bs', e, _, _⟩ => ?_, fun H' ⟨st, bs', e, _, _⟩ => ?_, fun i H' v H2 hi ⟨st0, bs0, e0, _, _⟩ y st bs' e rl _ => ?_⟩
  · have hi : i < vs.length := by rw [r.length]; simpa using hi
    exact ⟨vs, vs[i], e.sqT s, List.getElem?_eq_getElem hi⟩
  · exact ⟨vs, e.sqT s, by rw [r.length]; simp⟩
  · obtain ⟨T, x, us, rfl, hT, rfl, y⟩ := y
    obtain ⟨d, hd, rd⟩ := r.getV (y vs (e.sqT s))
    obtain ⟨e2, rl2⟩ := rl.fresh hT (frT us [.int (i : Nat), x])
    have hi2 : i < xs.length := by simpa using hi
    rw [List.getElem?_eq_getElem hi2] at hd
    cases hd
    exact ⟨e2, rl2, _, enumD_get hi2, .tup sqF dlF (.cons (.int _) (.cons ((rd.ext e).ext e2) .nil))⟩
theorem mi_enu (hK : X.K = c.K) (hg : Gl X "enumerate") (hm : X.mg "enumerate" = none) (ha : PE X e (tE c ex f)) (hs : starEach [e] X.env = (false, eval e X.env) :: starEach [] X.env := by rfl) (hs2 : starEach [e] X.env = [(false, eval e X.env)] := by rfl) {p : Pos} :
    PI X (.Tuple el kk tp) (.Call (.Name "enumerate" p) [e] [] pos) (tI c ex (enuI f)) := PI_imp (pi_enT hg hm (pa_cons ha pa_nil hs) hs2) fun σ H R q => by
  obtain ⟨ρ, st, bs, rl, re, p⟩ := q
  refine ⟨ρ, st, bs, rl, re, p.bnd.imp fun d st1 bs1 H1 e1 rl1 p1 v rv => ?_⟩
  cases rv with
  | tup s tl r => exact ⟨_, _, rfl, by rw [hK]; exact s, by rw [hK]; exact p1.now rl1 _ ⟨wk_enT s r, fun _ _ h _ => wk_enT ((hid_pre (c := c) (bs := bs1) h).sqT _ _ s) (r.mono (hid_pre h))⟩⟩
  | _ => exact p1.elim
end
end Pm
end
section
set_option Elab.async false
set_option linter.all false
set_option maxRecDepth 100000
namespace Pm
open PySem PySem.Spec PyProof.Rows L2
abbrev wF : XK → Wh := fun _ => exF
/-- a def that may be called: its meaning -/
structure Cal (P : Program) (w : World) (K : PySem.W.Frag) (mg : Str → Option Value) (base : Heap) (c : Ct) (x : Str) (n k : Nat) (m : List D → M D) : Prop where
  ex : ∃ f fd ps, FnG P w K mg base (L2.CX P w) k f fd ps (spM c wF n m) ∧ mg x = some (.ref f) ∧ PySem.W.keepIn K (.ref f) = true ∧ Binds K fd ps []
/-- .. by keywords alone -/
structure CalK (P : Program) (w : World) (K : PySem.W.Frag) (mg : Str → Option Value) (base : Heap) (c : Ct) (x : Str) (n k : Nat) (m : List D → M D) (ks : List Str) (ix : List Nat) : Prop where
  ex : ∃ f fd ps, FnG P w K mg base (L2.CX P w) k f fd ps (spM c wF n m) ∧ mg x = some (.ref f) ∧ PySem.W.keepIn K (.ref f) = true ∧ KB K fd ps ks ix ∧ n = ps.length
section
variable {X : Cx} {j k n : Nat} {x : Str} {p pos : Pos} {e : Expr} {es : List Expr} {c : Ct} {g : MA} {m : List D → M D} {kws : List Keyword} {ks : List Str} {ix : List Nat}
theorem md_c (C : Cal X.prog X.w X.K X.mg X.base c x n j m) (hr : Room k X.A) (hj : j ≤ k) (hgd : X.A.guards = some []) (hg : Gl X x) (ha : PA X (e :: es) (tA c exF g)) (hdb : (x == ("__debug__" : Str)) = false := by decide)
    (he : starEach (e :: es) X.env = (false, eval e X.env) :: starEach es X.env := by rfl) (hpl : (backTo pos (starEach es X.env)).any (·.1) = false := by rfl) : PE X (.Call (.Name x p) (e :: es) [] pos) (tE c exF (calE g (ofLen n m))) := by
  obtain ⟨f, fd, ps, F, hm, hk, hb⟩ := C.ex
  exact md_call F (hr.mono hj) hgd hg hm hk hb passL rfl ha hdb he hpl
theorem md_c0 (C : Cal X.prog X.w X.K X.mg X.base c x 0 j m) (hr : Room k X.A) (hj : j ≤ k) (hgd : X.A.guards = some []) (hg : Gl X x) (hdb : (x == ("__debug__" : Str)) = false := by decide) : PE X (.Call (.Name x p) [] [] pos) (tE c exF (calE nilA m)) := by
  obtain ⟨f, fd, ps, F, hm, hk, hb⟩ := C.ex
  exact md_call0 F (hr.mono hj) hgd hg hm hk hb passL rfl hdb
theorem md_ck (C : CalK X.prog X.w X.K X.mg X.base c x n j m ks ix) (hr : Room k X.A) (hj : j ≤ k) (hgd : X.A.guards = some []) (hg : Gl X x) (hkw : PK X kws (tA c exF g)) {nk : Nat} (hix : ∀ zs : List D, zs.length = nk → (permL ix zs).length = n) (hnk : ks.length = nk := by rfl) (hall : (backToKw pos (keywordEach kws X.env)).all (·.1.isSome) = true := by rfl) (hks : (backToKw pos (keywordEach kws X.env)).filterMap (·.1) = ks := by rfl)
    (hdb : (x == ("__debug__" : Str)) = false := by decide) (hpl : (backToKw pos (keywordEach kws X.env)).any (·.1.isNone) = false := by rfl) : PE X (.Call (.Name x p) [] kws pos) (tE c exF (kwE ix nk g m)) := by
  obtain ⟨f, fd, ps, F, hm, hk, hb, hn⟩ := C.ex
  subst hnk
  exact md_callK0 F (hr.mono hj) hgd hg hm hk hb passL rfl hkw hix hn hall hks hdb hpl
theorem md_gint {i : Int} {ex : Wh} (h : ∃ t, X.mg x = some (.int i t)) (hg : Gl X x) (hd : (x == ("__debug__" : Str)) = false := by decide) : PE X (.Name x pos) (tE c ex (kon (.int i))) := by
  obtain ⟨t, h⟩ := h
  exact md_glob (v := .int i) hg h ⟨t, rfl⟩ (fun _ _ => .int i) hd
end
section
variable {P : Program} {w : World} {K : PySem.W.Frag} {mg : Str → Option Value} {base : Heap} {k : Nat} {f : Addr} {fd : FuncData} {N ps ks : List Str} {ix : List Nat} {c : Ct} {b : MS} {x : Str} {st : Stmt}
abbrev FnP (K : PySem.W.Frag) (x : Str) (st : Stmt) (f : Addr) (fd : FuncData) : Prop := FunD K x x (defArgs st) (defBody st) (defScope st) [] [] f fd
theorem cal_of {n : Nat} {m : List D → M D} (F : FnP K x st f fd) (g : mg x = some (.ref f)) (hb : Binds K fd ps []) (G : FnG P w K mg base (L2.CX P w) k f fd ps (spM c wF n m)) : Cal P w K mg base c x n k m := ⟨f, fd, ps, G, g, F.kp, hb⟩
theorem calK_of {n : Nat} {m : List D → M D} (F : FnP K x st f fd) (g : mg x = some (.ref f)) (hb : KB K fd ps ks ix) (G : FnG P w K mg base (L2.CX P w) k f fd ps (spM c wF n m)) (hn : n = ps.length := by rfl) : CalK P w K mg base c x n k m ks ix := ⟨f, fd, ps, G, g, F.kp, hb, hn⟩
theorem pass_own {P : Program} {w : World} {K : PySem.W.Frag} {mg : Str → Option Value} {base : Heap} {N : List Str} {qual : Str} {scope : Scope} {f : Addr} {cd : Value} {A : Around} {out : List Env} {s : Shared} {H : Hp} {E : XK} :
    PassesOwn (model P w) (cxOf (L2.CX P w) P w K mg base N qual scope f cd A out s H E).A (cxOf (L2.CX P w) P w K mg base N qual scope f cd A out s H E).env (cxOf (L2.CX P w) P w K mg base N qual scope f cd A out s H E).xe := passes_of (X := cxOf (L2.CX P w) P w K mg base N qual scope f cd A out s H E) rfl
end
end Pm
end
section
set_option Elab.async false
set_option linter.all false
set_option maxRecDepth 100000
set_option maxHeartbeats 2000000
namespace Pm
open PySem PySem.Spec PyProof.Rows L2

/-! ### *xs in a display, {} -/
def seqD (ns : List Int) : D → M (List D)
  | .tup xs => ret xs
  | .loc l => lst l
  | .scr => ret (ns.map D.int)
  | _ => no
def staA (ns : List Int) (f : ME) (g : MA) : MA := fun ρ => bnd (f ρ) fun x => bnd (seqD ns x) fun xs => bnd (g ρ) fun ys => ret (xs ++ ys)
def dct0 : ME := fun _ => allocO (.dct [])
section
variable {X : Cx} {c : Ct} {ex : Wh} {e : Expr} {es : List Expr} {f : ME} {g : MA} {p pos : Pos}
theorem ma_star (hK : X.K = c.K) (ha : PE X e (tE c ex f)) (hr : PA X es (tA c ex g)) (hs : starEach (.Starred e p :: es) X.env = (true, eval e X.env) :: starEach es X.env := by rfl) : PA X (.Starred e p :: es) (tA c ex (staA c.ns f g)) :=
  PA_imp (StX.pa_star ha hr hs) fun σ H Q q => by
    obtain ⟨ρ, st, bs, rl, re, p⟩ := q
    refine ⟨ρ, st, bs, rl, re, p.bnd.imp fun d st1 bs1 H1 e1 rl1 p1 v rv => ?_⟩
    rw [hK]
    cases rv with
    | @tup a vs ds s tl r =>
      exact ⟨a, vs, rfl, .inl s, ρ, st1, bs1, rl1, re.ext e1, Post.bnd (m := g ρ) p1 |>.imp fun ys st2 bs2 H2 e2 rl2 p2 ws rws => p2.now rl2 _ ((r.ext e2).append rws)⟩
    | loc h =>
      obtain ⟨a, vs, xs, e, hb, hl, hv, r, p2⟩ := post_lst (k := fun _ _ _ _ => True) p1 rl1 (RD.loc h)
      cases e
      exact ⟨_, vs, rfl, .inr (SqL.of hv), ρ, st1, bs1, rl1, re.ext e1, Post.bnd (m := g ρ) p2 |>.imp fun ys st2 bs2 H2 e2 rl2 p3 ws rws => p3.now rl2 _ ((r.ext e2).append rws)⟩
    | scr => exact ⟨_, _, rfl, .inr rl1.scr.sq, ρ, st1, bs1, rl1, re.ext e1, Post.bnd (m := g ρ) p1 |>.imp fun ys st2 bs2 H2 e2 rl2 p2 ws rws => p2.now rl2 _ (((RDs.ints c.ns).ext e2).append rws)⟩
    | _ => exact p1.elim
theorem post_allocO {bs : List Addr} {H : Hp} {st : Sto} {q : Addr} {o : HO} {u : O} {k : D → Sto → List Addr → Hp → Prop} (p : Post c ex (allocO u st) bs H k) (rl : Rel c bs H st) (hp : H q = none) (r : Pre c bs H (bs ++ [q]) (upd H q o) → ROb c (bs ++ [q]) (upd H q o) q u) :
    k (.loc st.length) (st ++ [u]) (bs ++ [q]) (upd H q o) ∧ RD c (bs ++ [q]) (upd H q o) (.ref q) (.loc st.length) := by
  obtain ⟨e, rl'⟩ := rl.laid hp r
  exact ⟨Post.at (st := st ++ [u]) p e rl', .loc (by rw [← rl.len]; simp)⟩
theorem md_dct0 : PE X (.Dict [] [] pos) (tE c ex dct0) := PE_imp pe_dnewK fun σ H Q q => by
  obtain ⟨ρ, st, bs, rl, re, p⟩ := q
  intro q hq
  obtain ⟨k, r⟩ := post_allocO (o := .dK []) p rl hq fun m => ⟨[], upd_same, rfl, .nil⟩
  exact k _ r
end
end Pm
/-! ### xs[::-1] of a tuple -/
namespace Pm
open PySem PySem.Spec PyProof.Rows L2 HT
theorem pick_rev (xs : Array Value) : ((List.range xs.size).filterMap fun (m : Nat) => xs[(((xs.size : Int) - 1) + (m : Int) * (-1)).toNat]?).toArray = xs.toList.reverse.toArray := by
  have e1 : ((List.range xs.size).filterMap fun (m : Nat) => xs[(((xs.size : Int) - 1) + (m : Int) * (-1)).toNat]?) = ((List.range xs.size).map fun k => xs.size - 1 - k).filterMap (xs[·]?) := by
    rw [List.filterMap_map]
    congr 1
    funext m
    show xs[_]? = xs[_]?
    congr 1
    show (((xs.size : Int) - 1) + (m : Int) * (-1)).toNat = xs.size - 1 - m
    omega
  rw [e1, PySem.W.krv_range, List.filterMap_reverse, PySem.W.krv_all]
section
variable {prog : Program} {w : World} {A : Around} {E : Value → Shared → Prop} {s : Shared}
theorem sliceApplied_rev {sl : Addr} {vl vu vs : Value} {n : Nat} {Q : Int × Int × Nat → Shared → Prop} (hs : s.heap.IsSliceOf sl vl vu vs) (pl : IsPart vl none) (pu : IsPart vu none) (ps : IsPart vs (some (-1)))
    (h : Q ((n : Int) - 1, -1, n) s) : wpAny (model prog w) A (Builtin.Slice.sliceApplied (.ref sl) (pure (n : Int))) Q E s := by
  obtain ⟨os, hos, hcs, hds⟩ := id hs
  unfold Builtin.Slice.sliceApplied Builtin.Slice.sliceFields
  refine wpAny_bind (wpAny_bind (wpAny_field hos hds (x := vl) rfl (wpAny_bind (wpAny_field hos hds (x := vu) rfl (wpAny_bind (wpAny_field hos hds (x := vs) rfl (wpAny_pure ?_)))))))
  refine wpAny_bind (slicePart_ ps ?_)
  show wpAny _ _ (if ((-1 : Int) == 0) = true then _ else _) _ _ s
  rw [if_neg (by decide)]
  refine wpAny_bind (slicePart_ pl (wpAny_bind (slicePart_ pu (wpAny_bind (wpAny_pure ?_)))))
  have e1 : Builtin.Slice.sliceAdjust none none (-1) (n : Int) = ((n : Int) - 1, -1) := rfl
  show wpAny _ _ (match Builtin.Slice.sliceAdjust none none (-1) (n : Int) with | (lo, hi) => pure (lo, (-1 : Int), Builtin.Slice.slicePlaces lo hi (-1))) _ _ s
  rw [e1]
  show wpAny _ _ (pure ((n : Int) - 1, (-1 : Int), Builtin.Slice.slicePlaces ((n : Int) - 1) (-1) (-1))) _ _ s
  have e2 : Builtin.Slice.slicePlaces ((n : Int) - 1) (-1) (-1) = n := by
    unfold Builtin.Slice.slicePlaces
    rw [if_neg (by decide)]
    split
    · rw [show (- -1 : Int) = 1 by decide, Int.ediv_one]; omega
    · omega
  rw [e2]
  exact wpAny_pure h
theorem getItem_tuple_rev {t sl : Addr} {items : Array Value} {vl vu vs : Value} {Q : Value → Shared → Prop} (ht : IsTup s.heap t items) (hs : s.heap.IsSliceOf sl vl vu vs) (pl : IsPart vl none) (pu : IsPart vu none) (ps : IsPart vs (some (-1)))
    (h : Q (.ref s.heap.objs.size) { s with heap := s.heap.push { cls := .type "tuple", data := .seq items.toList.reverse.toArray } })
    (hsz : items.size ≤ sizeLine) : wpAny (model prog w) A (getItem (.ref t) (.ref sl)) Q E s := by
  have htake : sizeOk (.seq items.toList.reverse.toArray) := by
    show items.toList.reverse.toArray.size ≤ sizeLine
    rw [List.size_toArray, List.length_reverse, Array.length_toList]
    exact hsz
  have ty : s.TypeIs (.ref sl) "slice" := by
    obtain ⟨os, hos, hcs, _⟩ := hs
    exact ⟨os, hos, hcs⟩
  have hno : ¬ ((((items.size : Int) - 1) == 0 && (-1 : Int) == 1 && items.size == items.size) = true) := fun q => by
    rw [Bool.and_eq_true, Bool.and_eq_true] at q; exact absurd (eq_of_beq q.1.2) (by decide)
  unfold getItem
  (try with_reducible refine wpAny_holding ?_); (first | refine wpAny_bind (wpAny_pure ?_) | skip); refine wpAny_bind (wpAny_sequenceKey ht.typeIs (by decide) (wpAny_bind (wpAny_callSpecial?_slot (name := Str.ofString "__getitem__") ht.typeIs PyProof.Rows.slot_tuple_getitem (wpAny_call_entry PyProof.Rows.slot_tuple_getitem ht.typeIs entry_tuple_getitem ?_ (args_tuple_getitem _ _)))))
  (show wpAny _ _ (Builtin.Tuple.tupleItemsOf (.ref t) >>= _) _ _ s); refine wpAny_bind (tupleItemsOf_ ht (wpAny_bind (wpAny_typeOf ty ?_))); rw [if_pos (by decide)]; refine wpAny_bind (sliceApplied_rev hs pl pu ps ?_)
  (show wpAny _ _ (if (((items.size : Int) - 1) == 0 && (-1 : Int) == 1 && items.size == items.size) = true then _ else _) _ _ s); rw [if_neg hno, pick_rev]
  first | exact wpAny_bind (m := Builtin.Tuple.tupleExact _) (wpAny_newObj_type (wpAny_pure ⟨_, rfl, wpAny_pure h⟩) htake) | exact wpAny_bind (m := Builtin.Tuple.tupleExact _) (wpAny_newObj_type (wpAny_bind (wpAny_pure (wpAny_pure ⟨_, rfl, wpAny_pure h⟩))) htake) | exact wpAny_bind (wpAny_bind (m := Builtin.Tuple.tupleExact _) (wpAny_newObj_type (wpAny_pure (wpAny_pure ⟨_, rfl, wpAny_pure h⟩)) htake)) | exact wpAny_bind (wpAny_bind (m := Builtin.Tuple.tupleExact _) (wpAny_newObj_type (wpAny_pure ⟨_, rfl, wpAny_pure h⟩) htake))
end
/-- a list's, a tuple's -/
def tRevA (K : PySem.W.Frag) (te : TE) : TE := fun σ H Q => te σ H fun x H1 => ∃ a xs, x = .ref a ∧ ((SqL K H1 a xs ∧ ∀ p, H1 p = none → Q (.ref p) (upd H1 p (.lst xs.reverse))) ∨ (SqT K H1 a xs ∧ ∀ p us, H1 p = none → Q (.ref p) (upd H1 p (frT us xs.reverse))))
def opRev (ns : List Int) : D → M D
  | .tup xs => ret (.tup xs.reverse)
  | .loc l => bnd (lst l) fun xs => alloc xs.reverse
  | .scr => alloc (ns.map D.int).reverse
  | _ => no
section
variable {X : Cx} {c : Ct} {ex : Wh} {e : Expr} {te : TE} {f : ME} {k : Nat} {p1 p2 p3 pos : Pos}
theorem pe_revA (he : PE X e te) : PE X (.Subscript e (.Slice none none (some (.UnaryOp .USub (.Constant (.int 1) k p1) p2)) p3) pos) (tRevA X.K te) := by
  refine ⟨fun pins s σ H Q I h => ?_⟩
  refine Subscript_ (thn (he.run pins s σ H _ I h) fun v s1 ⟨x, H1, I1, r1, q1⟩ => ?_)
  obtain ⟨a, xs, ex, q⟩ := q1
  subst ex
  cases r1
  have hst : PO X (some (.UnaryOp .USub (.Constant (.int 1) k p1) p2)) (tPart (tUn (rU fun i => .int (-i)) (tC (.int 1)))) := po_some (pe_un un_neg pe_int)
  refine wpAny_Slice (thn (po_none.run pins s1 σ H1 (fun o H2 => o = none ∧ H2 = H1) I1 ⟨rfl, rfl⟩) fun vl s2 ⟨l, H2, I2, pl, el, e2⟩ => ?_)
  subst el e2
  refine thn (po_none.run pins s2 σ H2 (fun o H3 => o = none ∧ H3 = H2) I2 ⟨rfl, rfl⟩) fun vu s3 ⟨u, H3, I3, pu, eu, e3⟩ => ?_
  subst eu e3
  refine thn (hst.run pins s3 σ H3 (fun o H4 => o = some (-1) ∧ H4 = H3) I3 ⟨1, rfl, -1, rfl, rfl, rfl⟩) fun vs s4 ⟨o, H4, I4, ps, eo, e4⟩ => ?_
  subst eo e4
  have I5 : Inv X pins σ H4 { s4 with heap := s4.heap.push { cls := .type "slice", data := .fields #[vl, vu, vs] } } := I4.kept (t' := s4.toks) fun b ob q => Heap.get?_push_of_some _ q
  show wpAny (model X.prog X.w) X.A (subscriptTail e (.Slice none none (some (.UnaryOp .USub (.Constant (.int 1) k p1) p2)) p3) (.ref a) (.ref s4.heap.objs.size)) (EP X pins σ Q) X.xe { s4 with heap := s4.heap.push { cls := .type "slice", data := .fields #[vl, vu, vs] } }
  rcases q with ⟨hx, q⟩ | ⟨hx, q⟩
  · obtain ⟨its, r, ht, hz⟩ := I5.list hx
    have hlen := r.length
    refine tail_any (ops := [.ref a, .ref s4.heap.objs.size]) ht.isList.typeIs (PySem.slot_list_getitem.lookup) ?_ (by with_unfolding_all rfl)
    refine wpAny_getItem_list_slice ht.isList (Heap.IsSliceOf.new _ vl vu vs) pl pu ps (by decide) ?_ (by rw [List.size_toArray]; omega)
    rw [PySem.W.krv_pick]
    refine ⟨.ref _, _, I5.laid (t' := s4.toks) (o := .lst xs.reverse) (fun b ob q => Heap.get?_push_of_some _ q) (Nat.le_refl _) ?_, rfl, q _ (I5.hok.fresh (Nat.le_refl _))⟩
    exact ⟨by rw [List.length_reverse]; exact hz, _, 0, r.reverse, Heap.get?_push_size _ rfl⟩
  · obtain ⟨its, r, ht, hz⟩ := I5.tuple hx
    have hlen := r.length
    refine tail_any (ops := [.ref a, .ref s4.heap.objs.size]) ht.typeIs (PyProof.Rows.slot_tuple_getitem.lookup) ?_ (by with_unfolding_all rfl)
    refine getItem_tuple_rev ht (Heap.IsSliceOf.new _ vl vu vs) pl pu ps ?_ (by rw [List.size_toArray]; omega)
    exact ⟨.ref _, _, tupN I5 (by rw [List.length_reverse]; exact hz) r.reverse s4.toks, rfl, q _ _ (I5.hok.fresh (Nat.le_refl _))⟩
theorem md_rev (hK : X.K = c.K) (he : PE X e (tE c ex f)) : PE X (.Subscript e (.Slice none none (some (.UnaryOp .USub (.Constant (.int 1) k p1) p2)) p3) pos) (tE c ex (una f (opRev c.ns))) := PE_imp (pe_revA he) fun σ H Q q => by
  obtain ⟨ρ, st, bs, rl, re, p⟩ := q
  refine ⟨ρ, st, bs, rl, re, p.bnd.imp fun d st1 bs1 H1 e1 rl1 p1 v rv => ?_⟩
  rw [hK]
  cases rv with
  | @tup a vs ds s tl r =>
    refine ⟨_, vs, rfl, .inr ⟨s, fun q us hq => ?_⟩⟩
    obtain ⟨e, rl'⟩ := rl1.fresh hq (frT us vs.reverse)
    exact Post.at (st := st1) p1 e rl' _ (.tup sqF dlF (r.reverse.ext e))
  | loc h =>
    obtain ⟨a, vs, xs, e, hb, hl, hv, r, p2⟩ := post_lst (k := fun _ _ _ _ => True) p1 rl1 (RD.loc h)
    cases e
    refine ⟨_, vs, rfl, .inl ⟨SqL.of hv, fun q hq => ?_⟩⟩
    obtain ⟨k, r⟩ := post_alloc p2 rl1 hq r.reverse
    exact k _ r
  | scr =>
    refine ⟨_, _, rfl, .inl ⟨rl1.scr.sq, fun q hq => ?_⟩⟩
    obtain ⟨k, r⟩ := post_alloc p1 rl1 hq (RDs.ints c.ns).reverse
    exact k _ r
  | _ => exact p1.elim
end
/-! ### xs.pop(i) -/
theorem RDs.erase {c : Ct} {bs : List Addr} {H : Hp} : ∀ {vs : List V} {ds : List D} (i : Nat), RDs c bs H vs ds → RDs c bs H (vs.eraseIdx i) (ds.eraseIdx i)
  | _, _, _, .nil => .nil
  | _, _, 0, .cons _ t => t
  | _, _, i + 1, .cons r t => .cons r (RDs.erase i t)
def mPopAt : D → List D → M D
  | .loc l, [.int i] => bnd (lst l) fun xs => if -(2 ^ 63) ≤ i ∧ i < 2 ^ 63 then match ixN xs.length i with
    | some j => match xs[j]? with
      | some d => bnd (put l (xs.eraseIdx j)) fun _ => ret d
      | none => no
    | none => no
    else no
  | _, _ => no
section
variable {X : Cx} {c : Ct} {ex : Wh} {bs : List Addr} {H : Hp} {st : Sto} {pos apos : Pos} {o e : Expr} {fo : ME} {g : MA}
theorem md_popAt (hK : X.K = c.K) (ho : PE X o (tE c ex fo)) (ha : PA X [e] (tA c ex g)) (hbase : attributeBase o "pop" X.env (eval o X.env) = eval o X.env := by rfl)
    (hfew : ((backTo pos (starEach [e] X.env)).all (fun x => !x.1) && (backToKw pos (keywordEach [] X.env)).all (fun x => x.1.isSome) && decide ([e].length + ([] : List Keyword).length + (if ([] : List Keyword).isEmpty then 0 else 1) < 30)) = true := by rfl)
    (hline : (apos.endLine == pos.line) = true := by rfl) (hs : starEach [e] X.env = (false, eval e X.env) :: starEach [] X.env := by rfl) (hplain : (backTo pos (starEach [] X.env)).any (·.1) = false := by rfl) :
    PE X (.Call (.Attribute o "pop" apos) [e] [] pos) (tE c ex (meth fo g mPopAt)) :=
  PE_imp (pe_bm PySem.F.plainAttrs_list PySem.F.slot_list_pop PySem.F.type_list_pop mt_popAt ho ha hbase hfew hline hs hplain) fun σ H Q q => by
    obtain ⟨ρ, st, bs, rl, re, p⟩ := q
    refine ⟨ρ, st, bs, rl, re, p.bnd.imp fun d st1 bs1 H1 e1 rl1 p1 v rv => ?_⟩
    obtain ⟨⟨a, xs, l, rfl, sl, rfl⟩, p1⟩ := post_isL p1 rl1 rv
    refine ⟨.inl ⟨rfl, xs, by rw [hK]; exact sl⟩, ρ, st1, bs1, rl1, re.ext e1, p1.bnd.imp fun ds st2 bs2 H2 e2 rl2 p2 vs rvs => ?_⟩
    have rv := rv.ext e2
    cases rv with
    | loc h =>
      match ds, rvs, p2 with
      | [.int i], .cons (.int _) .nil, p2 =>
        obtain ⟨a, ws, ys, ee, hb, hl, hv, r5, p4⟩ := post_lst (k := fun _ _ _ _ => True) p2 rl2 (RD.loc h)
        cases ee
        obtain ⟨⟨h1, h2⟩, p4⟩ := Post.iff (m := match ixN ys.length i with
          | some j => match ys[j]? with
            | some d => bnd (put _ (ys.eraseIdx j)) fun _ => ret d
            | none => no
          | none => no) p4
        cases e5 : ixN ys.length i with
        | none => simp only [e5] at p4; exact p4.elim
        | some j =>
          simp only [e5] at p4
          cases e6 : ys[j]? with
          | none => simp only [e6] at p4; exact p4.elim
          | some d =>
            simp only [e6] at p4
            obtain ⟨v, hv2, rv2⟩ := r5.get e6
            obtain ⟨rl6, e7, p6⟩ := post_put (k := fun _ _ _ _ => True) p4 rl2 hb hl (r5.erase j)
            exact ⟨_, _, i, j, v, rfl, rfl, hv, h1, h2, by rw [r5.length]; exact (ixN_seq e5).1, hv2, p6.now rl6 _ (rv2.ext e7)⟩
end
end Pm
end
section
set_option Elab.async false
set_option linter.all false
set_option maxRecDepth 100000
set_option maxHeartbeats 2000000
namespace Pm
open PySem PySem.Spec PyProof.Rows L2

/-! ### isinstance(x, (T, U)) -/
def tyD : D → M String
  | .non => ret "NoneType"
  | .bl _ => ret "bool"
  | .int _ => ret "int"
  | .str _ => ret "str"
  | .tup _ => ret "tuple"
  | .loc l => bnd (obj l) fun o => match o with
    | .lst _ => ret "list"
    | .dct _ => ret "dict"
    | .ins _ _ => no
  | .scr => no
def isi2 (T U : String) (d : D) : M D := bnd (tyD d) fun t => ret (.bl (isT t T || isT t U))
section
variable {X : Cx} {c : Ct} {ex : Wh} {bs : List Addr} {H : Hp} {st : Sto} {pos : Pos} {a : Expr} {f : ME}
theorem ty_of {d : D} {t : String} {st' : Sto} (q : tyD d st = .ok t st') (rl : Rel c bs H st) {v : V} (r : RD c bs H v d) :
    t ∈ ["NoneType", "bool", "int", "str", "tuple", "list", "dict"] ∧ TyX c.K H v (.type t) ∧ st' = st := by
  cases r with
  | non => cases q; exact ⟨by simp, .base .non, rfl⟩
  | bl b => cases q; exact ⟨by simp, .base (.bl b), rfl⟩
  | int i => cases q; exact ⟨by simp, .base (.int i), rfl⟩
  | str x => cases q; exact ⟨by simp, .base (.str x), rfl⟩
  | @tup a vs ds s tl r =>
    cases q
    refine ⟨by simp, ?_, rfl⟩
    rcases s with (s | ⟨o, s⟩) | ⟨o, its, n, hk, hc, _⟩
    · exact .base (.tup s)
    · exact .fTuple s
    · exact .kTuple hk hc
  | @loc a l h =>
    have q1 : (bnd (obj l) fun o => match o with
      | .lst _ => ret "list"
      | .dct _ => ret "dict"
      | .ins _ _ => no) st = .ok t st' := q
    unfold bnd obj at q1
    cases e : st[l]? with
    | none => rw [e] at q1; cases q1
    | some o =>
      rw [e] at q1
      have ro := rl.obj l a o h e
      cases o with
      | lst xs =>
        obtain ⟨vs, hv, r⟩ := ro
        cases q1
        exact ⟨by simp, .base (.lst hv), rfl⟩
      | dct kvs =>
        obtain ⟨vks, hv, e, r⟩ := ro
        cases q1
        exact ⟨by simp, .base (.dK hv), rfl⟩
      | ins _ _ => cases q1
  | scr => cases q
theorem md_isi2 {T U x y : _} {p1 p2 p3 p4 : Pos} {kt} (hK : X.K = c.K) (hT : okT T = true) (hU : okT U = true) (hg : Gl X "isinstance") (hm : X.mg "isinstance" = none) (hv : bootBuiltins "isinstance" = some (.builtin "isinstance")) (ha : PE X a (tE c ex f))
    (hg2 : Gl X x) (hm2 : X.mg x = none) (hv2 : bootBuiltins x = some (.type T)) (hg3 : Gl X y) (hm3 : X.mg y = none) (hv3 : bootBuiltins y = some (.type U))
    (hn : x ≠ "__name__" := by decide) (hdb : (x == ("__debug__" : Str)) = false := by decide) (hn3 : y ≠ "__name__" := by decide) (hdb3 : (y == ("__debug__" : Str)) = false := by decide)
    (he : starEach [a, .Tuple [.Name x p2, .Name y p3] kt p4] X.env = (false, eval a X.env) :: starEach [.Tuple [.Name x p2, .Name y p3] kt p4] X.env := by rfl) (he2 : starEach [.Tuple [.Name x p2, .Name y p3] kt p4] X.env = (false, eval (.Tuple [.Name x p2, .Name y p3] kt p4) X.env) :: starEach [] X.env := by rfl)
    (he3 : starEach [.Name x p2, .Name y p3] X.env = (false, eval (.Name x p2) X.env) :: starEach [.Name y p3] X.env := by rfl) (he4 : starEach [.Name y p3] X.env = (false, eval (.Name y p3) X.env) :: starEach [] X.env := by rfl)
    (hpl : (backTo pos (starEach [.Tuple [.Name x p2, .Name y p3] kt p4] X.env)).any (·.1) = false := by rfl) :
    PE X (.Call (.Name "isinstance" p1) [a, .Tuple [.Name x p2, .Name y p3] kt p4] [] pos) (tE c ex (una f (isi2 T U))) :=
  PE_imp (pe_callB call_isiT hg hm hv (pa_cons ha (pa_cons (pe_tup (pa_cons (pe_bltn (v := .ty T) hg2 hm2 hv2 rfl hn hdb) (pa_cons (pe_bltn (v := .ty U) hg3 hm3 hv3 rfl hn3 hdb3) pa_nil he4) he3)) pa_nil he2) he) (by decide) (by decide) he hpl) fun σ H Q q => by
    obtain ⟨ρ, st, bs, rl, re, p⟩ := q
    refine ⟨ρ, st, bs, rl, re, p.bnd.imp fun d st1 bs1 H1 e1 rl1 p1 v rv => ?_⟩
    obtain ⟨t, et, p2⟩ : ∃ t, tyD d st1 = .ok t st1 ∧ Post c ex (ret (D.bl (isT t T || isT t U)) st1) bs1 H1 (fun z _ bs' H' => ∀ v, RD c bs' H' v z → Q v H') := by
      have p1 : Post c ex (bnd (tyD d) (fun t => ret (D.bl (isT t T || isT t U))) st1) bs1 H1 (fun z _ bs' H' => ∀ v, RD c bs' H' v z → Q v H') := p1
      unfold bnd at p1
      cases e : tyD d st1 with
      | ok t st' =>
        obtain ⟨_, _, es⟩ := ty_of e rl1 rv
        subst es
        rw [e] at p1
        exact ⟨t, rfl, p1⟩
      | exc n x st' =>
        exfalso
        cases rv with
        | @loc a l h =>
          have e' : (bnd (obj l) fun o => match o with
            | .lst _ => ret "list"
            | .dct _ => ret "dict"
            | .ins _ _ => no) st1 = .exc n x st' := e
          unfold bnd obj at e'
          cases e2 : st1[l]? with
          | none => rw [e2] at e'; cases e'
          | some o => rw [e2] at e'; cases o <;> cases e'
        | _ => cases e
      | stuck => rw [e] at p1; exact p1.elim
    obtain ⟨ht, ty, _⟩ := ty_of et rl1 rv
    refine ⟨by show 2 ≤ sizeLine; rw [sizeLine_eq]; decide, fun q hq => ?_⟩
    obtain ⟨e2, rl2⟩ := rl1.fresh hq (.tup [.ty T, .ty U])
    have k1 : PySem.W.kitOne c.K (.type t) (.type T) = some (isT t T) := tyT hT ht
    have k2 : PySem.W.kitOne c.K (.type t) (.type U) = some (isT t U) := tyT hU ht
    have ty2 : TyX X.K (upd H1 q (.tup [.ty T, .ty U])) v (.type t) := by
      rw [hK]
      exact (ty_of et rl2 (rv.ext e2)).2.1
    refine ⟨v, q, [.ty T, .ty U], .type t, [.type T, .type U], isT t T || isT t U, rfl, upd_same, .cons (.ty T) (.cons (.ty U) .nil), ty2, ?_, Post.at (st := st1) p2 e2 rl2 _ (.bl _)⟩
    rw [hK]
    refine kitAny_cons k1 (fun z => ?_) (fun z => by rw [z]; rfl)
    rw [z, Bool.false_or]
    exact kitAny_cons k2 (fun z => by rw [z]; exact kitAny_nil) (fun z => z)
end
/-- a def that never comes back: the end of the fuel -/
theorem FnG.nope {P : Program} {w : World} {K : PySem.W.Frag} {mg : Str → Option Value} {base : Heap} {CX : CXT} {k : Nat} {f : Addr} {fd : FuncData} {ps : List Str} {c : Ct} {wx : XK → Wh} {n : Nat} (hn : n = ps.length) : FnG P w K mg base CX k f fd ps (spM c wx n fun _ => no) :=
  ⟨fun vs H Q E h => h.1.trans hn, fun A out s H ar us vs Q E _ _ _ _ _ h => by
    obtain ⟨_, ds, st, bs, _, _, p⟩ := h
    exact p.elim⟩
end Pm
end
section
set_option Elab.async false
set_option linter.all false
set_option maxRecDepth 100000
set_option maxHeartbeats 2000000
namespace Pm
open PySem PySem.Spec PyProof.Rows L2

/-! ### in, not in -/
def flatD : D → Bool
  | .non => true
  | .bl _ => true
  | .int _ => true
  | .str _ => true
  | _ => false
def toV : D → V
  | .bl b => .bl b
  | .int i => .int i
  | .str x => .str x
  | _ => .non
def inD (x : D) (xs : List D) : Bool := xs.any fun y => eqV (toV y) (toV x)
def opInN (neg : Bool) : D → D → M D
  | x, .tup xs => if flatD x = true ∧ xs.all flatD = true then ret (.bl (if neg then !inD x xs else inD x xs)) else no
  | x, .loc l => bnd (obj l) fun o => match o with
    | .lst xs => if flatD x = true ∧ xs.all flatD = true then ret (.bl (if neg then !inD x xs else inD x xs)) else no
    | .dct kvs => match dkey x with
      | some k => ret (.bl (if neg then !(getK kvs k).isSome else (getK kvs k).isSome))
      | none => no
    | .ins _ _ => no
  | .str i, .str j => ret (.bl (if neg then !(!(Builtin.Str.occurrences j i 0 j.length 1).isEmpty) else !(Builtin.Str.occurrences j i 0 j.length 1).isEmpty))
  | _, _ => no
def opIn : D → D → M D := opInN false
def opNotIn : D → D → M D := opInN true
section
variable {X : Cx} {c : Ct} {ex : Wh} {bs : List Addr} {H : Hp} {st : Sto}
theorem flat_v {v : V} {d : D} (r : RD c bs H v d) (h : flatD d = true) : v = toV d ∧ flatV v = true := by
  cases r with
  | non => exact ⟨rfl, rfl⟩
  | bl _ => exact ⟨rfl, rfl⟩
  | int _ => exact ⟨rfl, rfl⟩
  | str _ => exact ⟨rfl, rfl⟩
  | _ => cases h
theorem flat_vs : ∀ {vs : List V} {ds : List D}, RDs c bs H vs ds → ds.all flatD = true → vs = ds.map toV ∧ vs.all flatV = true
  | _, _, .nil, _ => ⟨rfl, rfl⟩
  | _, _, .cons r t, h => by
    rw [List.all_cons, Bool.and_eq_true] at h
    obtain ⟨e1, e2⟩ := flat_v r h.1
    obtain ⟨e3, e4⟩ := flat_vs t h.2
    exact ⟨by rw [List.map_cons, ← e1, ← e3], by rw [List.all_cons, e2, e4]; rfl⟩
theorem in_vs {v : V} {vs : List V} {d : D} {ds : List D} (e : v = toV d) (e2 : vs = ds.map toV) : inV v vs = inD d ds := by
  subst e e2
  unfold inV inD
  rw [List.any_map]
  rfl
def rInD (neg : Bool) : R2 := fun x y H Q => ∃ a o, y = .ref a ∧ DGet H a x o ∧ Q (.bl (if neg then !o.isSome else o.isSome)) H
theorem op_in_dict (hu : X.A.units + 64 < cLine) : OpR X (compareOp .In) (rInD false) := by
  intro pins s σ H x y v u Q I rx ry h
  obtain ⟨a, o, rfl, g, q⟩ := h
  obtain rfl : u = Value.ref a := ry
  exact d_in (by omega) I g rx fun s' I' => ⟨.bl o.isSome, H, I', rfl, q⟩
theorem op_notIn_dict (hu : X.A.units + 64 < cLine) : OpR X (compareOp .NotIn) (rInD true) := by
  intro pins s σ H x y v u Q I rx ry h
  obtain ⟨a, o, rfl, g, q⟩ := h
  obtain rfl : u = Value.ref a := ry
  exact d_notIn (by omega) I g rx fun s' I' => ⟨.bl (!o.isSome), H, I', rfl, q⟩
def rInA (K : PySem.W.Frag) (neg : Bool) : R2 := fun x y H Q => rIn K neg x y H Q ∨ (∃ i j, x = .str i ∧ y = .str j ∧ Q (.bl (if neg then !(!(Builtin.Str.occurrences j i 0 j.length 1).isEmpty) else !(Builtin.Str.occurrences j i 0 j.length 1).isEmpty)) H) ∨ rInD neg x y H Q
theorem s2_in {neg : Bool} : S2 c ex (opInN neg) (rInA c.K neg) := by
  intro x y d e bs H st Q rx ry rl p
  cases ry with
  | @tup a vs xs s tl r =>
    have p : Post c ex ((if flatD d = true ∧ xs.all flatD = true then ret (D.bl (if neg then !inD d xs else inD d xs)) else no) st) bs H (fun z _ bs' H' => ∀ v, RD c bs' H' v z → Q v H') := by cases d <;> exact p
    obtain ⟨⟨h1, h2⟩, p⟩ := Post.iff (m := ret _) p
    obtain ⟨e1, e2⟩ := flat_v rx h1
    obtain ⟨e3, e4⟩ := flat_vs r h2
    exact .inl ⟨_, vs, rfl, .inr s, e2, e4, by rw [in_vs e1 e3]; exact p.now rl _ (.bl _)⟩
  | @loc a l h =>
    have p : Post c ex (bnd (obj l) (fun o => match o with
      | .lst xs => if flatD d = true ∧ xs.all flatD = true then ret (.bl (if neg then !inD d xs else inD d xs)) else no
      | .dct kvs => match dkey d with
        | some k => ret (.bl (if neg then !(getK kvs k).isSome else (getK kvs k).isSome))
        | none => no
      | .ins _ _ => no) st) bs H (fun z _ bs' H' => ∀ v, RD c bs' H' v z → Q v H') := by cases d <;> exact p
    obtain ⟨a', o, ee, hb, hl, ro, p⟩ := post_obj p rl (RD.loc h)
    cases ee
    cases o with
    | lst xs =>
      obtain ⟨vs, hv, r⟩ := ro
      obtain ⟨⟨h1, h2⟩, p⟩ := Post.iff (m := ret _) p
      obtain ⟨e1, e2⟩ := flat_v rx h1
      obtain ⟨e3, e4⟩ := flat_vs r h2
      exact .inl ⟨_, vs, rfl, .inl (SqL.of hv), e2, e4, by rw [in_vs e1 e3]; exact p.now rl _ (.bl _)⟩
    | dct kvs =>
      obtain ⟨vks, hv, ek, r⟩ := ro
      cases e5 : dkey d with
      | none => simp only [e5] at p; exact p.elim
      | some k =>
        simp only [e5] at p
        refine .inr (.inr ⟨_, valV vks k, rfl, by rw [dkey_v rx e5]; exact DGet.k hv, ?_⟩)
        have es : (valV vks k).isSome = (getK kvs k).isSome := by
          cases e6 : getK kvs k with
          | none => rw [rdk_none ek e6]; rfl
          | some z =>
            obtain ⟨v, h1, _⟩ := rdk_get ek r e6
            rw [h1]; rfl
        rw [es]
        exact Post.now p rl _ (.bl _)
    | ins _ _ => exact p.elim
  | str j =>
    cases rx with
    | str i => exact .inr (.inl ⟨i, j, rfl, rfl, p.now rl _ (.bl _)⟩)
    | _ => exact p.elim
  | _ => cases rx <;> exact p.elim
theorem co_in (hK : X.K = c.K) (hu : X.A.units + 64 < cLine) : CO X c ex .In opIn := ⟨_, op_in_seq.or (op_in_str.or (op_in_dict hu)), by rw [hK]; exact s2_in (neg := false)⟩
theorem co_notin (hK : X.K = c.K) (hu : X.A.units + 64 < cLine) : CO X c ex .NotIn opNotIn := ⟨_, op_notIn_seq.or (op_notIn_str.or (op_notIn_dict hu)), by rw [hK]; exact s2_in (neg := true)⟩
end
end Pm
end
section
set_option Elab.async false
set_option linter.all false
set_option maxRecDepth 100000
set_option maxHeartbeats 2000000
namespace Pm
open PySem PySem.Spec PyProof.Rows L2

/-! ### an object that nothing tells of, of any kind -/
section
variable {c : Ct} {ex : Wh} {α : Type} {bs bs' : List Addr} {H H' : Hp} {st : Sto} {q : Addr} {o : HO}
theorem hidO_pre (h : H q = some o) (ni : ¬ Imm o) : Pre c bs H bs (hid H q) := by
  refine ⟨fun _ _ h => h, fun a ws s => ?_, fun a s => ?_⟩
  · rcases s with (s | ⟨o2, s⟩) | s
    · exact .inl (.inl (by rw [hid_ne (ne_of s h (by intro z; subst z; exact ni trivial))]; exact s))
    · exact .inl (.inr ⟨o2, by rw [hid_ne (ne_of s h (by intro z; subst z; exact ni trivial))]; exact s⟩)
    · exact .inr s
  · rcases s with ⟨o2, u, h1, h2⟩ | s
    · exact .inl ⟨o2, u, by rw [hid_ne (ne_of h1 h (by intro z; subst z; exact ni trivial))]; exact h1, h2⟩
    · exact .inr s
theorem relO (rl : Rel c bs H st) (h : H q = some o) (ni : ¬ Imm o) (nb : q ∉ bs) : Rel c bs (hid H q) st := by
  refine ⟨rl.len, fun l b u h1 h2 => ?_, rl.nd, ?_⟩
  · have n : b ≠ q := fun z => nb (z ▸ List.mem_of_getElem? h1)
    exact (rl.obj l b u h1 h2).same (hidO_pre h ni) (hid_ne n)
  · rcases rl.scr with ⟨u, e⟩ | e
    · exact .inl ⟨u, by rw [hid_ne (ne_of e h (by intro z; subst z; exact ni trivial))]; exact e⟩
    · exact .inr e
theorem extO (e : Ext bs H bs' H') (h : H q = some o) (nb : q ∉ bs) : Ext bs (hid H q) bs' (hid H' q) ∧ H' q = some o ∧ q ∉ bs' := by
  refine ⟨⟨e.pre, fun a o h1 h2 => ?_, fun a h1 h2 => ?_⟩, e.keep q _ h (.inl nb), fun z => ?_⟩
  · by_cases y : a = q
    · rw [y, hid_same] at h1; cases h1
    · rw [hid_ne y] at h1 ⊢
      exact e.keep a o h1 h2
  · by_cases y : a = q
    · rw [y]; exact hid_same
    · rw [hid_ne y]; exact e.fresh a h1 h2
  · have := e.fresh q z nb
    rw [h] at this; cases this
theorem hideO {r : Res α} {k : α → Sto → List Addr → Hp → Prop} (p : Post c exF r bs (hid H q) k) (h : H q = some o) (ni : ¬ Imm o) (nb : q ∉ bs) : Post c exF r bs H fun a st' bs' H' => k a st' bs' (hid H' q) := by
  cases r with
  | ok a st' =>
    intro b' H' e rl
    obtain ⟨e2, h2, n2⟩ := extO e h nb
    exact p b' (hid H' q) e2 (relO rl h2 ni n2)
  | exc n d st' =>
    intro b' H' e rl
    obtain ⟨e2, h2, n2⟩ := extO e h nb
    exact p b' (hid H' q) e2 (relO rl h2 ni n2)
  | stuck => exact p
theorem updO_hid : upd (hid H q) q o = upd H q o := by
  funext b
  by_cases e : b = q
  · rw [e, upd_same, upd_same]
  · rw [upd_ne e, upd_ne e, hid_ne e]
end
/-! ### {k: v, ..}, the keys written -/
def dctE (ks : List Key) (g : MA) : ME := fun ρ => bnd (nox (g ρ)) fun ds => if ds.length = ks.length ∧ ks.length ≤ 15 then allocO (.dct ((ks.zip ds).foldl (fun a kv => setK a kv.1 kv.2) [])) else no
structure PPm (X : Cx) (c : Ct) (pos : Pos) (keys : List (Option Expr)) (values : List Expr) (ks : List Key) (g : MA) : Prop where
  ex : ∃ trs, PPs X pos keys values trs ∧ ∀ σ H Q, (tA c exF g σ H fun vs H' => Q ((ks.map kV).zip vs) H') → tPairs trs σ H Q
section
variable {X : Cx} {c : Ct} {ex : Wh} {bs : List Addr} {H : Hp} {st : Sto} {pos p1 : Pos} {keys : List (Option Expr)} {values : List Expr} {ks : List Key} {g : MA} {f : ME} {v : Expr} {n : Nat}
theorem mp_nil : PPm X c pos [] [] [] nilA := ⟨[], pps_nil, fun σ H Q q => by
  obtain ⟨ρ, st, bs, rl, re, p⟩ := q
  exact p.now rl [] .nil⟩
theorem mp_str {x : Str} (hv : PE X v (tE c exF f)) (hr : PPm X c pos keys values ks g) : PPm X c pos (some (.Constant (.str x) n p1) :: keys) (v :: values) (.inr x :: ks) (conA f g) := by
  obtain ⟨trs, h1, h2⟩ := hr.ex
  refine ⟨_, pps_cons pe_str hv h1, fun σ H Q q => ?_⟩
  obtain ⟨ρ, st, bs, rl, re, p⟩ := q
  refine ⟨ρ, st, bs, rl, re, p.bnd.imp fun d st1 bs1 H1 e1 rl1 p1 v rv => ?_⟩
  refine h2 σ H1 _ ⟨ρ, st1, bs1, rl1, re.ext e1, p1.bnd.imp fun ds st2 bs2 H2 e2 rl2 p2 vs rvs => ?_⟩
  exact p2.now rl2 (v :: vs) (.cons (rv.ext e2) rvs)
theorem mp_int {i : Int} (hv : PE X v (tE c exF f)) (hr : PPm X c pos keys values ks g) : PPm X c pos (some (.Constant (.int i) n p1) :: keys) (v :: values) (.inl i :: ks) (conA f g) := by
  obtain ⟨trs, h1, h2⟩ := hr.ex
  refine ⟨_, pps_cons pe_int hv h1, fun σ H Q q => ?_⟩
  obtain ⟨ρ, st, bs, rl, re, p⟩ := q
  refine ⟨ρ, st, bs, rl, re, p.bnd.imp fun d st1 bs1 H1 e1 rl1 p1 v rv => ?_⟩
  refine h2 σ H1 _ ⟨ρ, st1, bs1, rl1, re.ext e1, p1.bnd.imp fun ds st2 bs2 H2 e2 rl2 p2 vs rvs => ?_⟩
  exact p2.now rl2 (v :: vs) (.cons (rv.ext e2) rvs)
theorem rdk_merge : ∀ {ks : List Key} {vs : List V} {ds : List D} {vks : List (Key × V)} {kvs : List (Key × D)}, RDs c bs H vs ds → vks.map (·.1) = kvs.map (·.1) → RDs c bs H (vks.map (·.2)) (kvs.map (·.2)) →
    (((ks.zip vs).foldl (fun a kv => putK a kv.1 kv.2) vks).map (·.1) = ((ks.zip ds).foldl (fun a kv => setK a kv.1 kv.2) kvs).map (·.1)) ∧ RDs c bs H (((ks.zip vs).foldl (fun a kv => putK a kv.1 kv.2) vks).map (·.2)) (((ks.zip ds).foldl (fun a kv => setK a kv.1 kv.2) kvs).map (·.2))
  | [], _, _, _, _, _, e, r => ⟨e, r⟩
  | _ :: _, [], _, _, _, .nil, e, r => ⟨e, r⟩
  | k :: ks, v :: vs, d :: ds, _, _, .cons r1 r2, e, r => by
    obtain ⟨i1, i2⟩ := rdk_put (k := k) e r r1
    exact rdk_merge (ks := ks) r2 i1 i2
theorem zip_kv : ∀ (ks : List Key) (vs : List V), (ks.map kV).zip vs = (ks.zip vs).map fun kv => (kV kv.1, kv.2)
  | [], _ => rfl
  | _ :: _, [] => rfl
  | k :: ks, v :: vs => by simp [zip_kv ks vs]
theorem md_dct (h : PPm X c pos keys values ks g) (hall : keys.all (·.isSome) = true := by rfl) (hl : keys.length = values.length := by rfl) (h0 : keys ≠ [] := by intro z; cases z) (h15 : keys.length ≤ 15 := by decide) : PE X (.Dict keys values pos) (tE c ex (dctE ks g)) := by
  obtain ⟨trs, h1, h2⟩ := h.ex
  refine PE_imp (pe_disp h1 hall hl h0 h15) fun σ H Q q => ?_
  obtain ⟨ρ, st, bs, rl, re, p⟩ := q
  intro a ha
  obtain ⟨e0, rl0⟩ := rl.fresh ha (.dK [])
  have nb : a ∉ bs := fun z => by
    obtain ⟨u, hu, _⟩ := rl.here z
    rw [ha] at hu; cases hu
  refine h2 σ _ _ ⟨ρ, st, bs, rl0, re.ext e0, ?_⟩
  have hh : hid (upd H a (.dK [])) a = H := by
    funext b
    by_cases z : b = a
    · rw [z, hid_same, ha]
    · rw [hid_ne z, upd_ne z]
  have p0 : Post c ex (bnd (nox (g ρ)) (fun ds => if ds.length = ks.length ∧ ks.length ≤ 15 then allocO (.dct ((ks.zip ds).foldl (fun a kv => setK a kv.1 kv.2) [])) else no) st) bs (hid (upd H a (.dK [])) a) _ := hh.symm ▸ p
  have p1 := hideO (o := .dK []) p0.bnd.nox upd_same (fun z => z) nb
  refine p1.imp fun ds st2 bs2 H2 e2 rl2 p2 vs rvs => ?_
  obtain ⟨e3, hk, nb2⟩ := extO e2 upd_same nb
  obtain ⟨⟨hz, hq⟩, p3⟩ := Post.iff (m := allocO _) p2
  have rl3 := relO rl2 hk (fun z => z) nb2
  have rvs3 := rvs.mono (hidO_pre hk fun z => z)
  obtain ⟨i1, i2⟩ := rdk_merge (ks := ks) (vks := []) (kvs := []) rvs3 rfl .nil
  obtain ⟨k, r⟩ := post_allocO (o := .dK ((ks.zip vs).foldl (fun a kv => putK a kv.1 kv.2) [])) p3 rl3 hid_same fun m => ⟨_, upd_same, i1, i2.mono m⟩
  rw [updO_hid] at k
  exact ⟨hk, ks.zip vs, zip_kv ks vs, by rw [List.length_zip]; omega, k _ (updO_hid (H := H2) ▸ r)⟩
end
end Pm
end
section
set_option Elab.async false
set_option linter.all false
set_option maxRecDepth 100000
set_option maxHeartbeats 2000000
namespace Pm
open PySem PySem.Spec PyProof.Rows L2

/-! ### d.get(k), d.get(k, x) -/
def isDc : D → M Unit
  | .loc l => bnd (obj l) fun o => match o with
    | .dct _ => ret ()
    | _ => no
  | _ => no
def getM (o y z : D) : M D := match o with
  | .loc l => bnd (obj l) fun o => match o with
    | .dct kvs => match dkey y with
      | some k => ret ((getK kvs k).getD z)
      | none => no
    | _ => no
  | _ => no
def get1 (fo fk : ME) : ME := fun ρ => bnd (fo ρ) fun o => bnd (isDc o) fun _ => bnd (fk ρ) fun y => getM o y .non
def get2 (fo fk fz : ME) : ME := fun ρ => bnd (fo ρ) fun o => bnd (isDc o) fun _ => bnd (fk ρ) fun y => bnd (fz ρ) fun z => getM o y z
/-! ### methods of texts -/
def isS : D → M Unit
  | .str _ => ret ()
  | _ => no
def met1 (fo fe : ME) (op : D → D → M D) : ME := fun ρ => bnd (fo ρ) fun o => bnd (isS o) fun _ => bnd (fe ρ) fun y => op o y
def met0 (fo : ME) (op : D → M D) : ME := fun ρ => bnd (fo ρ) fun o => bnd (isS o) fun _ => op o
def strsOf : List D → Option (List Str)
  | [] => some []
  | .str i :: xs => (strsOf xs).map (i :: ·)
  | _ :: _ => none
def opJoin : D → D → M D
  | .str a, .loc l => bnd (lst l) fun xs => match strsOf xs with
    | some ys => if (ys.map (·.length)).sum + ys.length * a.length ≤ 16777216 then ret (.str (Txt.join a ys)) else no
    | none => no
  | .str a, .tup xs => match strsOf xs with
    | some ys => if (ys.map (·.length)).sum + ys.length * a.length ≤ 16777216 then ret (.str (Txt.join a ys)) else no
    | none => no
  | _, _ => no
def opSplit : D → D → M D
  | .str a, .str b => if (b.length == 0) = false ∧ a.length + 2 ≤ sizeLine then alloc ((Txt.split a b).map .str) else no
  | _, _ => no
def opWords : D → M D
  | .str a => if a.length + 2 ≤ sizeLine then alloc ((Txt.words a).map .str) else no
  | _ => no
def opStarts : D → D → M D
  | .str a, .str b => ret (.bl (Txt.startswith a b))
  | _, _ => no
section
variable {X : Cx} {c : Ct} {ex : Wh} {bs : List Addr} {H : Hp} {st : Sto} {pos apos : Pos} {o e e2 : Expr} {fo fe fz : ME} {α : Type}
theorem post_isDc {d : D} {f : Unit → M α} {k : α → Sto → List Addr → Hp → Prop} (q : Post c ex (bnd (isDc d) f st) bs H k) (rl : Rel c bs H st) {v : V} (r : RD c bs H v d) : ∃ a l, v = .ref a ∧ d = .loc l ∧ IsD H a ∧ Post c ex (f () st) bs H k := by
  cases r with
  | @loc a l h =>
    have q1 : Post c ex (bnd (bnd (obj l) fun o => match o with
      | .dct _ => ret ()
      | _ => no) f st) bs H k := q
    unfold bnd obj at q1
    cases e : st[l]? with
    | none => rw [e] at q1; exact q1.elim
    | some o =>
      rw [e] at q1
      have ro := rl.obj l a o h e
      cases o with
      | lst _ => exact q1.elim
      | ins _ _ => exact q1.elim
      | dct kvs =>
        obtain ⟨vks, hv, ek, r⟩ := ro
        exact ⟨a, l, rfl, rfl, .inl ⟨vks, .inl hv⟩, q1⟩
  | _ => exact q.elim
theorem get_ok {l : Nat} {a : Addr} {y z : V} {dy dz : D} {Q : VK} (p : Post c ex (getM (.loc l) dy dz st) bs H (fun z _ bs' H' => ∀ v, RD c bs' H' v z → Q v H')) (rl : Rel c bs H st) (r : RD c bs H (.ref a) (.loc l)) (ry : RD c bs H y dy) (rz : RD c bs H z dz) :
    ∃ o, DGet H a y o ∧ Q (o.getD z) H := by
  obtain ⟨a', o, ee, hb, hl, ro, p⟩ := post_obj p rl r
  cases ee
  cases o with
  | lst _ => exact p.elim
  | ins _ _ => exact p.elim
  | dct kvs =>
    obtain ⟨vks, hv, ek, rv⟩ := ro
    cases e5 : dkey dy with
    | none => simp only [e5] at p; exact p.elim
    | some k =>
      simp only [e5] at p
      refine ⟨valV vks k, by rw [dkey_v ry e5]; exact DGet.k hv, ?_⟩
      cases e6 : getK kvs k with
      | none =>
        rw [rdk_none ek e6]
        rw [e6] at p
        exact Post.now p rl _ rz
      | some d =>
        obtain ⟨v, h1, h2⟩ := rdk_get ek rv e6
        rw [h1]
        rw [e6] at p
        exact Post.now p rl _ h2
theorem md_get1 (hu : X.A.units + 64 < cLine) (ho : PE X o (tE c ex fo)) (he : PE X e (tE c ex fe)) (m : M1 X o "get" apos e pos := by exact ⟨rfl, rfl, rfl, rfl⟩) : PE X (.Call (.Attribute o "get" apos) [e] [] pos) (tE c ex (get1 fo fe)) :=
  PE_imp (pe_dget1 (by omega) ho he m) fun σ H Q q => by
    obtain ⟨ρ, st, bs, rl, re, p⟩ := q
    refine ⟨ρ, st, bs, rl, re, p.bnd.imp fun d st1 bs1 H1 e1 rl1 p1 v rv => ?_⟩
    obtain ⟨a, l, rfl, rfl, isd, p2⟩ := post_isDc p1 rl1 rv
    exact ⟨a, rfl, isd, ρ, st1, bs1, rl1, re.ext e1, p2.bnd.imp fun y st2 bs2 H2 e2 rl2 p3 vy ry => get_ok p3 rl2 (rv.ext e2) ry .non⟩
theorem md_get2 (hu : X.A.units + 64 < cLine) (ho : PE X o (tE c ex fo)) (he : PE X e (tE c ex fe)) (hz : PE X e2 (tE c ex fz)) (m : M2 X o "get" apos e e2 pos := by exact ⟨rfl, rfl, rfl, rfl⟩) : PE X (.Call (.Attribute o "get" apos) [e, e2] [] pos) (tE c ex (get2 fo fe fz)) :=
  PE_imp (pe_dget2 (by omega) ho he hz m) fun σ H Q q => by
    obtain ⟨ρ, st, bs, rl, re, p⟩ := q
    refine ⟨ρ, st, bs, rl, re, p.bnd.imp fun d st1 bs1 H1 e1 rl1 p1 v rv => ?_⟩
    obtain ⟨a, l, rfl, rfl, isd, p2⟩ := post_isDc p1 rl1 rv
    refine ⟨a, rfl, isd, ρ, st1, bs1, rl1, re.ext e1, p2.bnd.imp fun y st2 bs2 H2 e2 rl2 p3 vy ry => ?_⟩
    exact ⟨ρ, st2, bs2, rl2, (re.ext e1).ext e2, p3.bnd.imp fun z st3 bs3 H3 e3 rl3 p4 vz rz => get_ok p4 rl3 ((rv.ext e2).ext e3) (ry.ext e3) rz⟩
theorem strsOf_map : ∀ {xs : List D} {ys : List Str}, strsOf xs = some ys → xs = ys.map D.str
  | [], ys, h => by cases h; rfl
  | .str i :: xs, ys, h => by
    unfold strsOf at h
    cases e : strsOf xs with
    | none => rw [e] at h; cases h
    | some ms =>
      rw [e] at h
      cases h
      rw [strsOf_map e]
      rfl
  | .non :: _, _, h => by cases h
  | .int _ :: _, _, h => by cases h
  | .bl _ :: _, _, h => by cases h
  | .tup _ :: _, _, h => by cases h
  | .loc _ :: _, _, h => by cases h
  | .scr :: _, _, h => by cases h
theorem RDs.toStrs : ∀ {vs : List V} {ys : List Str}, RDs c bs H vs (ys.map D.str) → vs = ys.map V.str
  | _, [], .nil => rfl
  | _, n :: ns, .cons (.str _) t => by rw [RDs.toStrs t]; rfl
theorem RDs.strs : ∀ (ys : List Str), RDs c bs H (ys.map V.str) (ys.map D.str)
  | [] => .nil
  | y :: ys => .cons (.str y) (RDs.strs ys)
theorem tM1_of {op : D → D → M D} {r : V → List V → Hp → VK → Prop} (hop : ∀ (a : Str) (y : V) (d : D) bs H st Q, RD c bs H y d → Rel c bs H st → Post c ex (op (.str a) d st) bs H (fun z _ bs' H' => ∀ v, RD c bs' H' v z → Q v H') → r (.str a) [y] H Q) {σ : L2.St} {Q : VK} (q : tE c ex (met1 fo fe op) σ H Q) : tM1 r (tE c ex fo) (tE c ex fe) σ H Q := by
  obtain ⟨ρ, st, bs, rl, re, p⟩ := q
  refine ⟨ρ, st, bs, rl, re, p.bnd.imp fun d st1 bs1 H1 e1 rl1 p1 v rv => ?_⟩
  cases rv with
  | str a => exact ⟨⟨a, rfl⟩, ρ, st1, bs1, rl1, re.ext e1, Post.bnd (m := fe ρ) p1 |>.imp fun y st2 bs2 H2 e2 rl2 p3 vy ry => hop _ _ _ _ _ _ _ ry rl2 p3⟩
  | _ => exact p1.elim
theorem md_join (hK : X.K = c.K) (ho : PE X o (tE c ex fo)) (he : PE X e (tE c ex fe)) (hs : starEach [e] X.env = [(false, eval e X.env)] := by rfl) (hbase : attributeBase o "join" X.env (eval o X.env) = eval o X.env := by rfl) (hline : (apos.endLine == pos.line) = true := by rfl) : PE X (.Call (.Attribute o "join" apos) [e] [] pos) (tE c ex (met1 fo fe opJoin)) :=
  PE_imp (pe_join ho he hs hbase hline) fun σ H Q q => tM1_of (fun a y d bs H st Q ry rl p => by
    cases ry with
    | loc h =>
      obtain ⟨p', vs, xs, e, hb, hl, hv, r, p⟩ := post_lst (k := fun _ _ _ _ => True) p rl (RD.loc h)
      cases e
      cases e1 : strsOf xs with
      | none => simp only [e1] at p; exact p.elim
      | some ys =>
        simp only [e1] at p
        obtain ⟨hz, p⟩ := Post.iff (m := ret _) p
        rw [strsOf_map e1] at r
        rw [r.toStrs] at hv
        exact ⟨a, _, ys, rfl, rfl, .inl (SqL.of hv), hz, Post.now p rl _ (.str _)⟩
    | @tup t vs xs s tl r =>
      cases e1 : strsOf xs with
      | none => simp only [opJoin, e1] at p; exact p.elim
      | some ys =>
        simp only [opJoin, e1] at p
        obtain ⟨hz, p⟩ := Post.iff (m := ret _) p
        rw [strsOf_map e1] at r
        rw [r.toStrs] at s
        exact ⟨a, _, ys, rfl, rfl, .inr (by rw [hK]; exact s), hz, Post.now p rl _ (.str _)⟩
    | _ => exact p.elim) q
theorem md_split (ho : PE X o (tE c ex fo)) (he : PE X e (tE c ex fe)) (hs : starEach [e] X.env = [(false, eval e X.env)] := by rfl) (hbase : attributeBase o "split" X.env (eval o X.env) = eval o X.env := by rfl) (hline : (apos.endLine == pos.line) = true := by rfl) : PE X (.Call (.Attribute o "split" apos) [e] [] pos) (tE c ex (met1 fo fe opSplit)) :=
  PE_imp (pe_split ho he hs hbase hline) fun σ H Q q => tM1_of (fun a y d bs H st Q ry rl p => by
    cases ry with
    | str b =>
      obtain ⟨⟨h1, h2⟩, p⟩ := Post.iff (m := alloc _) p
      refine ⟨a, b, rfl, rfl, h1, h2, fun q hq => ?_⟩
      obtain ⟨k, r⟩ := post_alloc p rl hq (RDs.strs _)
      exact k _ r
    | _ => exact p.elim) q
theorem md_starts (ho : PE X o (tE c ex fo)) (he : PE X e (tE c ex fe)) (hs : starEach [e] X.env = [(false, eval e X.env)] := by rfl) (hbase : attributeBase o "startswith" X.env (eval o X.env) = eval o X.env := by rfl) (hline : (apos.endLine == pos.line) = true := by rfl) : PE X (.Call (.Attribute o "startswith" apos) [e] [] pos) (tE c ex (met1 fo fe opStarts)) :=
  PE_imp (pe_m1 F.slot_str_startswith F.type_str_startswith mt_startswith ho he hs hbase hline) fun σ H Q q => tM1_of (fun a y d bs H st Q ry rl p => by
    cases ry with
    | str b => exact ⟨a, b, rfl, rfl, Post.now p rl _ (.bl _)⟩
    | _ => exact p.elim) q
theorem md_words (ho : PE X o (tE c ex fo)) (hbase : attributeBase o "split" X.env (eval o X.env) = eval o X.env := by rfl) (hline : (apos.endLine == pos.line) = true := by rfl) : PE X (.Call (.Attribute o "split" apos) [] [] pos) (tE c ex (met0 fo opWords)) :=
  PE_imp (pe_words ho hbase hline) fun σ H Q q => by
    obtain ⟨ρ, st, bs, rl, re, p⟩ := q
    refine ⟨ρ, st, bs, rl, re, p.bnd.imp fun d st1 bs1 H1 e1 rl1 p1 v rv => ?_⟩
    cases rv with
    | str a =>
      have p1 : Post c ex ((if a.length + 2 ≤ sizeLine then alloc ((Txt.words a).map .str) else no) st1) bs1 H1 (fun z _ bs' H' => ∀ v, RD c bs' H' v z → Q v H') := p1
      obtain ⟨h2, p⟩ := Post.iff (m := alloc _) p1
      refine ⟨⟨a, rfl⟩, a, rfl, rfl, h2, fun q hq => ?_⟩
      obtain ⟨k, r⟩ := post_alloc p rl1 hq (RDs.strs _)
      exact k _ r
    | _ => exact p1.elim
end
end Pm
end
section
set_option Elab.async false
set_option linter.all false
set_option maxRecDepth 100000
set_option maxHeartbeats 2000000
namespace Pm
open PySem PySem.Spec PyProof.Rows L2 RT

/-! ### reversed(xs), walked -/
def revI : D → M Itm
  | .tup xs => ret ⟨xs.reverse, fun _ => true⟩
  | .loc l => bnd (lst l) fun xs => ret ⟨xs.reverse, fun st => decide (st[l]? = some (.lst xs))⟩
  | _ => no
def revA (f : ME) : MI := fun ρ => bnd (f ρ) revI
section
variable {X : Cx} {c : Ct} {ex : Wh} {p pos : Pos} {tg e : Expr} {f : ME} {bs : List Addr} {H : Hp} {st : Sto}
theorem rev_at {α : Type} {xs : List α} {i : Nat} (h : i < xs.length) : xs.reverse[i]? = xs[xs.length - 1 - i]? := List.getElem?_reverse h
theorem wk_revT {a : Addr} {vs : List V} {xs : List D} (s : SqT c.K H a vs) (r : RDs c bs H vs xs) : Wk c ⟨xs.reverse, fun _ => true⟩ bs H (ItvT c.K a vs.length) := by
  refine ⟨fun i H' hi ⟨st, bs', e, _, _⟩ => ?_, fun H' _ => ?_, fun i H' v H2 hi _ y st bs' e rl _ => ?_⟩
  · have hi : i < vs.length := by rw [r.length]; simpa using hi
    exact ⟨hi, vs, vs[vs.length - 1 - i]'(by omega), e.sqT s, List.getElem?_eq_getElem (by omega)⟩
  · show vs.length ≤ xs.reverse.length
    rw [List.length_reverse, r.length]; exact Nat.le_refl _
  · have hi' : i < xs.length := by simpa using hi
    obtain ⟨rfl, y⟩ := y
    obtain ⟨d, hd, rd⟩ := r.getV (y vs (e.sqT s))
    exact ⟨Ext.refl, rl, d, by show xs.reverse[i]? = _; rw [rev_at hi', ← r.length]; exact hd, rd.ext e⟩
theorem wk_revL {a : Addr} {l : Nat} {xs : List D} (hb : bs[l]? = some a) : Wk c ⟨xs.reverse, fun st => decide (st[l]? = some (.lst xs))⟩ bs H (Itv c.K a xs.length) := by
  have at_ : ∀ {H' : Hp} {bs' : List Addr} {st : Sto}, Ext bs H bs' H' → Rel c bs' H' st → decide (st[l]? = some (O.lst xs)) = true → ∃ vs, SqL c.K H' a vs ∧ RDs c bs' H' vs xs := fun {H' bs' st} e rl h => by
    obtain ⟨vs, hv, r⟩ := rl.obj l a _ (e.get hb) (of_decide_eq_true h)
    exact ⟨vs, SqL.of hv, r⟩
  refine ⟨fun i H' hi ⟨st, bs', e, rl, h⟩ => ?_, fun H' _ => ?_, fun i H' v H2 hi _ y st bs' e rl h => ?_⟩
  · obtain ⟨vs, s, r⟩ := at_ e rl h
    have hi : i < xs.length := by simpa using hi
    have hl := r.length
    exact ⟨hi, vs, vs[xs.length - 1 - i]'(by omega), s, List.getElem?_eq_getElem (by omega)⟩
  · show xs.length ≤ xs.reverse.length
    rw [List.length_reverse]; exact Nat.le_refl _
  · have hi' : i < xs.length := by simpa using hi
    obtain ⟨rfl, y⟩ := y
    obtain ⟨vs, s, r⟩ := at_ e rl h
    obtain ⟨d, hd, rd⟩ := r.getV (y vs s)
    exact ⟨Ext.refl, rl, d, by show xs.reverse[i]? = _; rw [rev_at hi']; exact hd, rd⟩
theorem mi_rev (hK : X.K = c.K) (hg : Gl X "reversed") (hm : X.mg "reversed" = none) (h : PE X e (tE c ex f)) (hs : starEach [e] X.env = (false, eval e X.env) :: starEach [] X.env := by rfl) : PI X tg (.Call (.Name "reversed" p) [e] [] pos) (tI c ex (revA f)) :=
  PI_imp (pi_revA hg hm h hs) fun σ H R q => by
    obtain ⟨ρ, st, bs, rl, re, p⟩ := q
    refine ⟨ρ, st, bs, rl, re, p.bnd.imp fun d st1 bs1 H1 e1 rl1 p1 v rv => ?_⟩
    rw [hK]
    cases rv with
    | tup s tl r => exact ⟨_, _, rfl, .inr ⟨s, p1.now rl1 _ ⟨wk_revT s r, fun _ _ h _ => wk_revT ((hid_pre (c := c) (bs := bs1) h).sqT _ _ s) (r.mono (hid_pre h))⟩⟩⟩
    | loc h =>
      obtain ⟨a, vs, xs, ee, hb, hl, hv, r, p2⟩ := post_lst (k := fun _ _ _ _ => True) p1 rl1 (RD.loc h)
      cases ee
      exact ⟨_, vs, rfl, .inl ⟨SqL.of hv, by rw [r.length]; exact p2.now rl1 _ ⟨wk_revL hb, fun _ _ _ _ => wk_revL hb⟩⟩⟩
    | _ => exact p1.elim
end
end Pm
end
section
set_option Elab.async false
set_option linter.all false
set_option maxRecDepth 100000
set_option maxHeartbeats 4000000
namespace Pm
open PySem PySem.Spec PyProof.Rows L2
/-! ### enumerate(xs, start=k) -/
/-- an iterator, counted from m on -/
theorem drawsFrom {prog : Program} {w : World} {A : Around} {it : Addr} {fp : List Addr} {n : Nat} {P : Nat → Value → Prop} {S : Nat → Heap → Prop} (G : Draws prog w A it fp n P S) (m : Nat) :
    Draws prog w A it fp (n + m) (fun i v => P (i - m) v) (fun i h => m ≤ i ∧ S (i - m) h) where
  live := fun i h z => G.live _ _ z.2
  frame := fun i h h' z k => ⟨z.1, G.frame _ _ _ z.2 k⟩
  item := fun i s Q E hi z hQ => G.item (i - m) s Q E (by omega) z.2 fun x h' tk px s' sb => hQ x h' tk px ⟨by omega, by rw [show i + 1 - m = i - m + 1 by omega]; exact s'⟩ sb
  done := fun s Q E z hE => G.done s Q E (by rw [Nat.add_sub_cancel] at z; exact z.2) hE
/-- a list's or a tuple's items, as they stand at each turn, numbered from m on -/
def SqB (b : Bool) (K : PySem.W.Frag) (H : Hp) (a : Addr) (xs : List V) : Prop := if b then SqT K H a xs else SqL K H a xs
def ItS (b : Bool) (K : PySem.W.Frag) (m : Nat) (a : Addr) : It :=
  ⟨fun i H => ∃ (xs : List V) (x : V), SqB b K H a xs ∧ xs[i]? = some x, fun i H v H' => ∃ T x us, v = .ref T ∧ H T = none ∧ H' = upd H T (frT us [.int (i + m : Nat), x]) ∧ ∀ xs, SqB b K H a xs → xs[i]? = some x,
    fun i H => ∃ xs : List V, SqB b K H a xs ∧ xs.length = i⟩
def IterB (b : Bool) (h : Heap) (it a : Addr) (i : Nat) : Prop := if b then h.IsTupleIter it a i else h.IsListIter it a i
def HoldsB (b : Bool) (h : Heap) (a : Addr) (items : Array Value) : Prop := if b then h.IsTuple a items else h.IsList a items
section
variable {prog : Program} {w : World} {A : Around} {h h' : Heap} {it a : Addr} {i : Nat} {items : Array Value} {b : Bool}
theorem IterB.at' (z : IterB b h it a i) (k : ∀ o, h.get? it = some o → h'.get? it = some o) : IterB b h' it a i := by
  cases b with
  | true => exact (show h.IsTupleIter it a i from z).at k
  | false => exact (show h.IsListIter it a i from z).at k
theorem IterB.ob (z : IterB b h it a i) : ∃ o vs, h.get? it = some o ∧ o.data = .fields vs := by
  cases b with
  | true => obtain ⟨o, e, _, d⟩ := (show h.IsTupleIter it a i from z); exact ⟨o, _, e, d⟩
  | false => obtain ⟨o, e, _, d⟩ := (show h.IsListIter it a i from z); exact ⟨o, _, e, d⟩
theorem drawsB (hh : A.handled = none) (hne : a ≠ it) : Draws prog w A it [it, a] items.size (fun i v => items[i]? = some v) (fun i h => IterB b h it a i ∧ HoldsB b h a items) := by
  cases b with
  | true => exact Draws.tuple hh it a hne items
  | false => exact Draws.list hh it a hne items
end
theorem sqB_at {X : Cx} {pins : List (Addr × Obj)} {σ : L2.St} {H : Hp} {s : Shared} {b : Bool} {a : Addr} {xs : List V} (I : Inv X pins σ H s) (q : SqB b X.K H a xs) : ∃ its, Vals xs its ∧ HoldsB b s.heap a its.toArray ∧ a < s.heap.objs.size := by
  cases b with
  | true =>
    obtain ⟨its, r, p, _⟩ := I.tuple q
    obtain ⟨o, e, _⟩ := id p
    exact ⟨its, r, p, Heap.lt_size e⟩
  | false =>
    obtain ⟨its, r, p, _⟩ := I.list q
    exact ⟨its, r, p.isList, p.lt⟩
theorem sqB_inj {X : Cx} {pins : List (Addr × Obj)} {σ : L2.St} {H : Hp} {s : Shared} {b : Bool} {a : Addr} {xs ys : List V} (I : Inv X pins σ H s) (q : SqB b X.K H a xs) (q2 : SqB b X.K H a ys) : xs = ys := by
  cases b with
  | true => exact I.tuple_inj q q2
  | false => exact I.list_inj q q2
theorem turn_enS {P : Program} {w : World} {K : PySem.W.Frag} {elts : List Expr} {kk : Nat} {tpos : Pos} (b : Bool) (m : Nat) (a e it : Addr) (hit : e ≠ it) (hea : e ≠ a) (hai : a ≠ it) :
    Turn P w K (.Tuple elts kk tpos) (ItS b K m a) [e, it] e (fun i h => (∃ old, IsEnum h e it ((i + m : Nat) : Int) old) ∧ IterB b h it a i) where
  mem := List.mem_cons_self
  obj := fun i h z c hc => by
    obtain ⟨⟨old, he⟩, hi⟩ := z
    rcases List.mem_cons.mp hc with rfl | hc
    · exact ⟨_, he, fun v q => by cases q⟩
    · rw [List.mem_singleton.mp hc]
      obtain ⟨o, vs, e1, e2⟩ := hi.ob
      exact ⟨o, e1, fun v q => by rw [e2] at q; cases q⟩
  keep := fun i h h' z k => ⟨let ⟨old, he⟩ := z.1; ⟨old, k e List.mem_cons_self _ he⟩, z.2.at' fun o q => k it (List.mem_cons_of_mem _ List.mem_cons_self) o q⟩
  item := by
    intro X hP hw hK hc i pins s σ H E I hf z hg
    subst hP hw hK
    obtain ⟨⟨old, he⟩, hi⟩ := z
    obtain ⟨xs, x, hq, hx⟩ := hg
    obtain ⟨its, rv, hl, ha⟩ := sqB_at I hq
    obtain ⟨u, hu, ru⟩ := rv.get hx
    have hlt : i < its.toArray.size := by rw [List.size_toArray]; exact (List.getElem?_eq_some_iff.mp hu).1
    have hes : e < s.heap.objs.size := Heap.lt_size he
    have his : it < s.heap.objs.size := let ⟨_, _, q, _⟩ := hi.ob; Heap.lt_size q
    have G := drawsFrom (drawsB (prog := X.prog) (w := X.w) (A := X.A.in1) (b := b) (items := its.toArray) (show X.A.in1.handled = none from I.ok.hd hc) hai) m
    refine wpAny_pyNext_enum_itemD (i := i + m) G he ⟨Nat.le_add_left _ _, by rw [Nat.add_sub_cancel]; exact ⟨hi, hl⟩⟩ (by omega) hit (by simp [hit, hea]) fun y h1 tk hy ho hs hT hsz hk => ?_
    rw [Nat.add_sub_cancel] at hy
    have ey : y = u := by
      rw [List.getElem?_toArray, hu] at hy
      exact (Option.some.inj hy).symm
    subst ey
    refine ⟨_, rfl, wpAny_letOwnedTupleGo_enum (s := { s with heap := h1, toks := tk + 1 }) ho fun h2 he' sb => ?_⟩
    have hT2 := (sb.2 _ (Nat.ne_of_gt hes)).trans hT
    have new : ObjOk X.prog X.w (upd H s.heap.objs.size (frT [.int (i + m : Nat) tk, y] [.int (i + m : Nat), x])) h2 s.heap.objs.size (frT [.int (i + m : Nat) tk, y] [.int (i + m : Nat), x]) :=
      tupF_ok (by show 2 ≤ sizeLine; rw [sizeLine_eq]; decide) (.cons ⟨_, rfl⟩ (.cons ru .nil)) hT2
    have keep2 : ∀ c o, c ∉ [e, it] → s.heap.get? c = some o → h2.get? c = some o := fun c o hb q => (sb.2 c (fun y => hb (by simp [y]))).trans (hk c o (fun y => hb (by simp [y])) (fun y => hb (by simp [y])) q)
    have I1 : Inv X pins σ (upd H s.heap.objs.size (frT [.int (i + m : Nat) tk, y] [.int (i + m : Nat), x])) { s with heap := h2, toks := tk + 1 } := I.turnedNew (ch := [e, it]) (fun c o hb q => keep2 c o hb q) hf (Nat.le_refl _) new
    refine ⟨.ref s.heap.objs.size, _, I1, rfl, ⟨_, x, _, rfl, I.hok.fresh (Nat.le_refl _), rfl, fun ys hy => by rw [sqB_inj I hy hq]; exact hx⟩, ⟨⟨y, ?_⟩, ?_⟩, fun c hc => ?_⟩
    · have e1 : ((i + 1 + m : Nat) : Int) = ((i + m : Nat) : Int) + 1 := by omega
      rw [e1]
      exact he'
    · have := hs.2.1
      rw [show i + m + 1 - m = i + 1 by omega] at this
      exact this.at' fun o q => (sb.2 it (Ne.symm hit)).trans q
    · have : c < s.heap.objs.size := by
        rcases List.mem_cons.mp hc with rfl | hc
        · exact hes
        · rw [List.mem_singleton.mp hc]; exact his
      rw [upd_ne (Nat.ne_of_lt this)]
      exact (hf c hc).1
  done := by
    intro X hP hw hK hc i pins s σ H E I hf z hg
    subst hP hw hK
    obtain ⟨⟨old, he⟩, hi⟩ := z
    obtain ⟨xs, hq, hx⟩ := hg
    obtain ⟨its, rv, hl, ha⟩ := sqB_at I hq
    have hsz := rv.length
    obtain ⟨f0, f1, f2, f3, f4, f5⟩ := hf it (List.mem_cons_of_mem _ List.mem_cons_self)
    have hle : i = its.toArray.size := by rw [List.size_toArray]; omega
    have G := drawsB (prog := X.prog) (w := X.w) (A := X.A.in1) (b := b) (items := its.toArray) (show X.A.in1.handled = none from I.ok.hd hc) hai
    exact wpAny_pyNext_enum_endD G he ⟨by rw [← hle]; exact hi, hl⟩ fun h1 eb => ⟨rfl, I.turned (t' := s.toks) (fun c o hb q => eb c o hb q) f0 f1 f3 f4 f5⟩
  self := fun A i s Q E z h => let ⟨⟨_, he⟩, _⟩ := z; wpAny_pyIter_enum he h
theorem callTypeK {M : Model} {A : Around} {E : Value → Shared → Prop} {s : Shared} {pos : Pos} {T : String} {args : List (Bool × Sem Value)} {kws : List (Option Str × Sem Value)} {Q : Value → Shared → Prop} (h1 : args.any (·.1) = false) (h2 : kws.any (·.1.isNone) = false)
    (h : wpAny M A (evalArgs (.type T) true args kws) (fun a s1 => wpAny M A (call (.type T) a.pos a.kw) Q E s1) E s) : wpAny M A (callWith pos (.type T) [] args kws) Q E s := by
  unfold callWith
  refine wpAny_bind (wpAny_holding (wpAny_mono h (fun a s1 z => wpAny_bind (wpAny_standAt ?_)) fun _ _ z => z))
  simp only [h1, h2, Bool.or_false]
  exact wpAny_bind (wpAny_pure (wpAny_bind (wpAny_mono z (fun r s2 y => wpAny_bind (wpAny_holding (wpAny_point (wpAny_pure y)))) fun _ _ y => y)))
def iEnS (K : PySem.W.Frag) (m : Nat) (ta : TA) : TI := fun σ H R => ta σ H fun vs H1 => ∃ a b xs, vs = [.ref a] ∧ SqB b K H1 a xs ∧ R (ItS b K m a) H1
def beginsO (b : Bool) (a : Addr) : Obj := { cls := .type (if b then "tuple_iterator" else "list_iterator"), data := .fields #[.ref a, .int 0 0] }
theorem beginsB (b : Bool) (a : Addr) (items : Array Value) : Begins (.ref a) (beginsO b a) fun h => HoldsB b h a items := by
  cases b with
  | true => exact begins_tuple a items
  | false => exact begins_list a items
theorem iterB_of {b : Bool} {h : Heap} {it a : Addr} (e : h.get? it = some (beginsO b a)) : IterB b h it a 0 := by
  cases b with
  | true => exact ⟨_, e, rfl, rfl⟩
  | false => exact ⟨_, e, rfl, rfl⟩
theorem pi_enS {X : Cx} {e : Expr} {ta : TA} {p pos tpos kp cp : Pos} {j : Nat} {elts : List Expr} {kk m : Nat} (hg : Gl X "enumerate") (hm : X.mg "enumerate" = none) (hm2 : m < 1000) (he : PA X [e] ta)
    (hb : backTo pos (starEach [e] X.env) = (false, eval e X.env) :: backTo pos (starEach [] X.env) := by rfl) (hpl : (backTo pos (starEach [e] X.env)).any (·.1) = false := by rfl)
    (hall : (backToKw pos (keywordEach [⟨some "start", .Constant (.int (m : Int)) j cp, kp⟩] X.env)).all (·.1.isSome) = true := by rfl) (hnone : (backToKw pos (keywordEach [⟨some "start", .Constant (.int (m : Int)) j cp, kp⟩] X.env)).any (·.1.isNone) = false := by rfl)
    (hks : (backToKw pos (keywordEach [⟨some "start", .Constant (.int (m : Int)) j cp, kp⟩] X.env)).filterMap (·.1) = [Str.ofString "start"] := by rfl) :
    PI X (.Tuple elts kk tpos) (.Call (.Name "enumerate" p) [e] [⟨some "start", .Constant (.int (m : Int)) j cp, kp⟩] pos) (iEnS X.K m ta) := by
  refine ⟨fun pins s σ H R I h => ?_⟩
  refine wpAny_Call_Name_kw (ld_blt I hg hm boot_enumerate ?_)
  refine callTypeK hpl hnone ?_
  rw [hb]
  refine evalArgs_kwB hall ?_
  rw [← hb]
  refine thn (he.run pos pins s σ H _ I h) fun us s1 ⟨vs, H1, I1, r1, a, b, xs, ev, hq, hR⟩ => ?_
  subst ev
  obtain ⟨u, rfl, ru⟩ := vals1 r1
  cases ru
  refine thn ((pk_cons pe_int pk_nil).run pos pins s1 σ H1 (fun zs H2 => zs = [.int (m : Int)] ∧ H2 = H1) I1 ⟨rfl, rfl⟩) fun ws s2 ⟨zs, H2, I2, r2, ez, eH⟩ => ?_
  subst ez eH
  obtain ⟨w0, rfl, t, rfl⟩ := vals1 r2
  rw [hks]
  obtain ⟨its, rv, hh, ha⟩ := sqB_at I2 hq
  refine enum_begins_start (beginsB b a its.toArray) hh (by omega) (by omega) fun h' he' hi hsz hk => wpAny_pyIter_enum he' ?_
  have I3 : Inv X pins σ H2 { s2 with heap := h' } := I2.kept (t' := s2.toks) hk
  refine ⟨s2.heap.objs.size + 1, [s2.heap.objs.size + 1, s2.heap.objs.size], _, _, H2, rfl, I3, turn_enS b m a (s2.heap.objs.size + 1) s2.heap.objs.size (Nat.succ_ne_self _) (Nat.ne_of_gt (Nat.lt_succ_of_lt ha)) (Nat.ne_of_lt ha), ⟨⟨.none, by rw [Nat.zero_add]; exact he'⟩, iterB_of hi⟩, fun c hc => ?_, hR⟩
  have hle : s2.heap.objs.size ≤ c := by
    rcases List.mem_cons.mp hc with rfl | hc
    · exact Nat.le_succ _
    · rw [List.mem_singleton.mp hc]; exact Nat.le_refl _
  exact I2.fpOk hle (I2.hok.fresh hle)
/-- enumerate(xs) -/
theorem call_enumB {prog : Program} {w : World} {A : Around} {E : Value → Shared → Prop} {s : Shared} {b : Bool} {a : Addr} {items : Array Value} {Q : Value → Shared → Prop} (hh : HoldsB b s.heap a items)
    (h : ∀ h', IsEnum h' (s.heap.objs.size + 1) s.heap.objs.size 0 .none → IterB b h' s.heap.objs.size a 0 → (∀ c o, s.heap.get? c = some o → h'.get? c = some o) → Q (.ref (s.heap.objs.size + 1)) { s with heap := h' }) : wpAny (model prog w) A (call (.type "enumerate") [.ref a]) Q E s := by
  cases b with
  | false => exact call_enumerate_list hh fun h' h1 h2 h3 h4 => h h' h1 h2 h4
  | true => exact pm_call_enumT hh fun h' h1 h2 h3 => h h' h1 h2 h3
def iEn0 (K : PySem.W.Frag) (ta : TA) : TI := fun σ H R => ta σ H fun vs H1 => ∃ a b xs, vs = [.ref a] ∧ SqB b K H1 a xs ∧ R (ItS b K 0 a) H1
theorem pi_en0 {X : Cx} {e : Expr} {ta : TA} {p pos tpos : Pos} {elts : List Expr} {kk : Nat} (hg : Gl X "enumerate") (hm : X.mg "enumerate" = none) (he : PA X [e] ta) (hs : starEach [e] X.env = [(false, eval e X.env)] := by rfl) :
    PI X (.Tuple elts kk tpos) (.Call (.Name "enumerate" p) [e] [] pos) (iEn0 X.K ta) := by
  refine ⟨fun pins s σ H R I h => Call_ (ld_blt I hg hm boot_enumerate (PyProof.Rows.callWith_type1 (thn (he.run pos pins s σ H _ I h) fun us s1 ⟨vs, H1, I1, r1, a, b, xs, ev, hq, hR⟩ => ?_) hs rfl))⟩
  subst ev
  obtain ⟨u, rfl, ru⟩ := vals1 r1
  cases ru
  obtain ⟨its, rv, hh, ha⟩ := sqB_at I1 hq
  refine call_enumB hh fun h' he' hi hk => wpAny_pyIter_enum he' ?_
  refine ⟨s1.heap.objs.size + 1, [s1.heap.objs.size + 1, s1.heap.objs.size], _, _, H1, rfl, I1.kept (t' := s1.toks) hk, turn_enS b 0 a (s1.heap.objs.size + 1) s1.heap.objs.size (Nat.succ_ne_self _) (Nat.ne_of_gt (Nat.lt_succ_of_lt ha)) (Nat.ne_of_lt ha), ⟨⟨.none, he'⟩, hi⟩, fun c hc => ?_, hR⟩
  have hle : s1.heap.objs.size ≤ c := by
    rcases List.mem_cons.mp hc with rfl | hc
    · exact Nat.le_succ _
    · rw [List.mem_singleton.mp hc]; exact Nat.le_refl _
  exact I1.fpOk hle (I1.hok.fresh hle)
end Pm
end
section
set_option Elab.async false
set_option linter.all false
set_option maxRecDepth 100000
set_option maxHeartbeats 2000000
namespace Pm
open PySem PySem.Spec PyProof.Rows L2
/-! ### zip of two tuples, of two lists, of a tuple and a list -/
def zipL (xs ys : List D) : List D := (xs.zip ys).map fun p => .tup [p.1, p.2]
theorem zipL_get {xs ys : List D} {i : Nat} {x y : D} (hx : xs[i]? = some x) (hy : ys[i]? = some y) : (zipL xs ys)[i]? = some (.tup [x, y]) := by
  unfold zipL
  have h : (xs.zip ys)[i]? = some (x, y) := List.getElem?_zip_eq_some.mpr ⟨hx, hy⟩
  rw [List.getElem?_map, h]
  rfl
theorem zipL_len {xs ys : List D} : (zipL xs ys).length = min xs.length ys.length := by
  unfold zipL
  rw [List.length_map, List.length_zip]
def zipD : D → D → M Itm
  | .tup xs, .tup ys => ret ⟨zipL xs ys, fun _ => true⟩
  | .loc l, .loc m => bnd (lst l) fun xs => bnd (lst m) fun ys => ret ⟨zipL xs ys, fun st => decide (st[l]? = some (.lst xs)) && decide (st[m]? = some (.lst ys))⟩
  | .tup xs, .loc m => bnd (lst m) fun ys => ret ⟨zipL xs ys, fun st => decide (st[m]? = some (.lst ys))⟩
  | .loc l, .tup ys => bnd (lst l) fun xs => ret ⟨zipL xs ys, fun st => decide (st[l]? = some (.lst xs)) && true⟩
  | _, _ => no
def zipI (f g : ME) : MI := fun ρ => bnd (f ρ) fun d => bnd (g ρ) fun e => zipD d e
/-- the two as they stand at each turn, the items in new pairs -/
def ItZ (b1 b2 : Bool) (K : PySem.W.Frag) (a b : Addr) : It :=
  ⟨fun i H => ∃ (xs ys : List V) (x y : V), SqB b1 K H a xs ∧ SqB b2 K H b ys ∧ xs[i]? = some x ∧ ys[i]? = some y,
    fun i H v H' => ∃ T x y us, v = .ref T ∧ H T = none ∧ H' = upd H T (frT us [x, y]) ∧ (∀ xs, SqB b1 K H a xs → xs[i]? = some x) ∧ ∀ ys, SqB b2 K H b ys → ys[i]? = some y,
    fun i H => ∃ xs ys : List V, SqB b1 K H a xs ∧ SqB b2 K H b ys ∧ i ≤ xs.length ∧ i ≤ ys.length ∧ (i = xs.length ∨ i = ys.length)⟩
theorem turn_Z {P : Program} {w : World} {K : PySem.W.Frag} {elts : List Expr} {kk : Nat} {tpos : Pos} (b1 b2 : Bool) {a b z TI TO i1 i2 : Addr} (S : ZipSep2 z TI TO i1 i2 [i1, a] [i2, b]) (ha : a ≠ i1) (hb : b ≠ i2) :
    Turn P w K (.Tuple elts kk tpos) (ItZ b1 b2 K a b) [z, TI, TO, i1, i2] z (fun i h => IsZip h z TI TO .none ∧ IsTupOf2 h TI (.ref i1) (.ref i2) ∧ (∃ x y, IsTupOf2 h TO x y) ∧ IterB b1 h i1 a i ∧ IterB b2 h i2 b i) where
  mem := by simp
  obj := fun i h st c hc => by
    obtain ⟨hz, hTI, ⟨x, y, hTO⟩, h1, h2⟩ := st
    obtain ⟨o1, v1, e1, d1⟩ := h1.ob
    obtain ⟨o2, v2, e2, d2⟩ := h2.ob
    have e' : c = z ∨ c = TI ∨ c = TO ∨ c = i1 ∨ c = i2 := by simpa using hc
    rcases e' with q | q | q | q | q
    · rw [q]; exact ⟨_, hz, fun v q => nomatch q⟩
    · rw [q]; exact ⟨_, hTI, fun v q => nomatch q⟩
    · rw [q]; exact ⟨_, hTO, fun v q => nomatch q⟩
    · rw [q]; exact ⟨o1, e1, fun v q => by rw [d1] at q; cases q⟩
    · rw [q]; exact ⟨o2, e2, fun v q => by rw [d2] at q; cases q⟩
  keep := fun i h h' st k => by
    obtain ⟨hz, hTI, ⟨x, y, hTO⟩, h1, h2⟩ := st
    exact ⟨k z (by simp) _ hz, k TI (by simp) _ hTI, ⟨x, y, k TO (by simp) _ hTO⟩, h1.at' fun o q => k i1 (by simp) o q, h2.at' fun o q => k i2 (by simp) o q⟩
  item := by
    intro X hP hw hK hc i pins s σ H E I hf st hg
    subst hP hw hK
    obtain ⟨hz, hTI, ⟨x0, y0, hTO⟩, h1, h2⟩ := st
    obtain ⟨xs, ys, x, y, hqx, hqy, hx, hy⟩ := hg
    obtain ⟨its, rv, p, _⟩ := sqB_at I hqx
    obtain ⟨its2, rv2, p2, _⟩ := sqB_at I hqy
    obtain ⟨u, hu, ru⟩ := rv.get hx
    obtain ⟨u2, hu2, ru2⟩ := rv2.get hy
    have hzl : z < s.heap.objs.size := Heap.lt_size hz
    have l1 : i < its.toArray.size := by rw [List.size_toArray]; exact (List.getElem?_eq_some_iff.mp hu).1
    have l2 : i < its2.toArray.size := by rw [List.size_toArray]; exact (List.getElem?_eq_some_iff.mp hu2).1
    have hh : X.A.in1.handled = none := I.ok.hd hc
    refine wpAny_pyNext_zipD2_item S (drawsB hh ha) (drawsB hh hb) hz hTI hTO ⟨h1, p⟩ ⟨h2, p2⟩ l1 l2 fun w1 w2 h' tk e1 e2 z' TO' n1 n2 hT hsz hk => ?_
    have q1 : w1 = u := by
      rw [List.getElem?_toArray, hu] at e1
      exact (Option.some.inj e1).symm
    have q2 : w2 = u2 := by
      rw [List.getElem?_toArray, hu2] at e2
      exact (Option.some.inj e2).symm
    subst q1 q2
    refine ⟨_, rfl, wpAny_letOwnedTupleGo_zip (s := { s with heap := h', toks := tk }) z' fun h'' z'' sb => ?_⟩
    have hT2 : h''.get? s.heap.objs.size = some (tupO [w1, w2]) := (sb.2 _ (Nat.ne_of_gt hzl)).trans hT
    have new : ObjOk X.prog X.w (upd H s.heap.objs.size (frT [w1, w2] [x, y])) h'' s.heap.objs.size (frT [w1, w2] [x, y]) :=
      tupF_ok (by show 2 ≤ sizeLine; rw [sizeLine_eq]; decide) (.cons ru (.cons ru2 .nil)) hT2
    have I1 : Inv X pins σ (upd H s.heap.objs.size (frT [w1, w2] [x, y])) { s with heap := h'', toks := tk } :=
      I.turnedNew (t' := tk) (ch := [z, TI, TO, i1, i2]) (fun c o hb q => (sb.2 c (fun q' => hb (by simp [q']))).trans (hk c o (fun q' => hb (by simp [q'])) (fun q' => hb (by simp [q'])) (fun q' => hb (by simp [q'])) (fun q' => hb (by simp [q'])) q)) hf (Nat.le_refl _) new
    refine ⟨.ref s.heap.objs.size, _, I1, rfl, ⟨_, x, y, _, rfl, I.hok.fresh (Nat.le_refl _), rfl, fun l hl => by rw [sqB_inj I hl hqx]; exact hx, fun l hl => by rw [sqB_inj I hl hqy]; exact hy⟩, ⟨z'', ?_, ⟨w1, w2, ?_⟩, ?_, ?_⟩, fun c hcm => ?_⟩
    · exact (sb.2 _ S.TIz).trans (hk _ _ S.TIz S.TITO S.TIi1 S.TIi2 hTI)
    · exact (sb.2 _ S.TOz).trans TO'
    · exact n1.1.at' fun o q => (sb.2 _ S.zi1.symm).trans q
    · exact n2.1.at' fun o q => (sb.2 _ S.zi2.symm).trans q
    · have hlt : c < s.heap.objs.size := by
        have e' : c = z ∨ c = TI ∨ c = TO ∨ c = i1 ∨ c = i2 := by simpa using hcm
        rcases e' with q | q | q | q | q
        · rw [q]; exact hzl
        · rw [q]; exact Heap.lt_size hTI
        · rw [q]; exact Heap.lt_size hTO
        · rw [q]; obtain ⟨_, _, e1, _⟩ := h1.ob; exact Heap.lt_size e1
        · rw [q]; obtain ⟨_, _, e2, _⟩ := h2.ob; exact Heap.lt_size e2
      rw [upd_ne (Nat.ne_of_lt hlt)]
      exact (hf c hcm).1
  done := by
    intro X hP hw hK hc i pins s σ H E I hf st hg
    subst hP hw hK
    obtain ⟨hz, hTI, ⟨x0, y0, hTO⟩, h1, h2⟩ := st
    obtain ⟨xs, ys, hqx, hqy, g1, g2, hend⟩ := hg
    obtain ⟨its, rv, p, _⟩ := sqB_at I hqx
    obtain ⟨its2, rv2, p2, _⟩ := sqB_at I hqy
    have l1 := rv.length
    have l2 := rv2.length
    have hh : X.A.in1.handled = none := I.ok.hd hc
    exact wpAny_pyNext_zipD2_end S (drawsB hh ha) (drawsB hh hb) hz hTI hTO ⟨h1, p⟩ ⟨h2, p2⟩ (by rw [List.size_toArray]; omega) (by rw [List.size_toArray]; omega) (by rw [List.size_toArray, List.size_toArray]; omega) fun h' tk hk =>
      ⟨rfl, I.turnedL (t' := tk) (ch := [z, TI, TO, i1, i2]) (fun c o hb q => hk c o (fun q' => hb (by simp [q'])) (fun q' => hb (by simp [q'])) (fun q' => hb (by simp [q'])) (fun q' => hb (by simp [q'])) q) hf⟩
  self := fun A i s Q E st h => wpAny_pyIter_zip st.1 h
def iZ (K : PySem.W.Frag) (ta : TA) : TI := fun σ H R => ta σ H fun vs H1 => ∃ a b b1 b2 xs ys, vs = [.ref a, .ref b] ∧ SqB b1 K H1 a xs ∧ SqB b2 K H1 b ys ∧ R (ItZ b1 b2 K a b) H1
theorem pi_Z {X : Cx} {e e2 : Expr} {ta : TA} {p pos tpos : Pos} {elts : List Expr} {kk : Nat} (hg : Gl X "zip") (hm : X.mg "zip" = none) (ha : PA X [e, e2] ta)
    (hs : starEach [e, e2] X.env = (false, eval e X.env) :: starEach [e2] X.env := by rfl) (hpl : (backTo pos (starEach [e2] X.env)).any (·.1) = false := by rfl) :
    PI X (.Tuple elts kk tpos) (.Call (.Name "zip" p) [e, e2] [] pos) (iZ X.K ta) := by
  refine ⟨fun pins s σ H R I h => ?_⟩
  refine Call_ (ld_blt I hg hm PyProof.Rows.boot_zip (PyProof.Rows.callWith_type1 (thn (ha.run pos pins s σ H _ I h) fun us s1 ⟨vs, H1, I1, r1, q1⟩ => ?_) hs hpl))
  obtain ⟨a, b, b1, b2, xs, ys, ex, hqx, hqy, q⟩ := q1
  subst ex
  cases r1 with
  | cons r rr =>
    cases rr with
    | cons r' rr =>
      cases rr
      cases r
      cases r'
      obtain ⟨its, rv, p1, la⟩ := sqB_at I1 hqx
      obtain ⟨its2, rv2, p2, lb⟩ := sqB_at I1 hqy
      have fresh5 : ∀ c, c ∈ [s1.heap.objs.size + 4, s1.heap.objs.size + 2, s1.heap.objs.size + 3, s1.heap.objs.size, s1.heap.objs.size + 1] → FpOk X pins H1 c := fun c hcm => by
        have e' : c = s1.heap.objs.size + 4 ∨ c = s1.heap.objs.size + 2 ∨ c = s1.heap.objs.size + 3 ∨ c = s1.heap.objs.size ∨ c = s1.heap.objs.size + 1 := by simpa using hcm
        have hle : s1.heap.objs.size ≤ c := by
          rcases e' with z | z | z | z | z
          · rw [z]; exact Nat.le_add_right _ _
          · rw [z]; exact Nat.le_add_right _ _
          · rw [z]; exact Nat.le_add_right _ _
          · rw [z]; exact Nat.le_refl _
          · rw [z]; exact Nat.le_add_right _ _
        exact I1.fpOk hle (I1.hok.fresh hle)
      refine zip_begins2 (beginsB b1 a its.toArray) (beginsB b2 b its2.toArray) p1 p2 fun h' hz hTI hTO h1 h2 hsz hk => wpAny_pyIter_zip hz ?_
      have I2 : Inv X pins σ H1 { s1 with heap := h' } := I1.kept (t' := s1.toks) hk
      have S : ZipSep2 (s1.heap.objs.size + 4) (s1.heap.objs.size + 2) (s1.heap.objs.size + 3) s1.heap.objs.size (s1.heap.objs.size + 1) [s1.heap.objs.size, a] [s1.heap.objs.size + 1, b] :=
        zip_sep2 (fun c hc => by rw [List.mem_singleton.mp hc]; exact la) (fun c hc => by rw [List.mem_singleton.mp hc]; exact lb)
      have nb : b ≠ s1.heap.objs.size + 1 := Nat.ne_of_lt (Nat.lt_succ_of_lt lb)
      exact ⟨s1.heap.objs.size + 4, [s1.heap.objs.size + 4, s1.heap.objs.size + 2, s1.heap.objs.size + 3, s1.heap.objs.size, s1.heap.objs.size + 1], _, _, H1, rfl, I2, turn_Z b1 b2 S (Nat.ne_of_lt la) nb, ⟨hz, hTI, ⟨_, _, hTO⟩, iterB_of h1, iterB_of h2⟩, fresh5, q⟩
section
variable {X : Cx} {c : Ct} {ex : Wh} {pos tp : Pos} {e e2 : Expr} {f g : ME} {bs : List Addr} {H : Hp} {el : List Expr} {kk : Nat}
/-- what the object there is, as a sequence -/
def AtB (c : Ct) (b : Bool) (a : Addr) (xs : List D) (ok : Sto → Bool) (bs : List Addr) (H : Hp) : Prop := ∀ (st : Sto) (bs' : List Addr) (H' : Hp), Ext bs H bs' H' → Rel c bs' H' st → ok st = true → ∃ vs, SqB b c.K H' a vs ∧ RDs c bs' H' vs xs
theorem wk_Z {a b : Addr} {b1 b2 : Bool} {xs ys : List D} {ok1 ok2 : Sto → Bool} (h1 : AtB c b1 a xs ok1 bs H) (h2 : AtB c b2 b ys ok2 bs H) : Wk c ⟨zipL xs ys, fun st => ok1 st && ok2 st⟩ bs H (ItZ b1 b2 c.K a b) := by
  have at_ : ∀ {H' : Hp} {bs' : List Addr} {st : Sto}, Ext bs H bs' H' → Rel c bs' H' st → (ok1 st && ok2 st) = true → ∃ vs ws, SqB b1 c.K H' a vs ∧ RDs c bs' H' vs xs ∧ SqB b2 c.K H' b ws ∧ RDs c bs' H' ws ys := fun {H' bs' st} e rl h => by
    rw [Bool.and_eq_true] at h
    obtain ⟨vs, s, r⟩ := h1 st bs' H' e rl h.1
    obtain ⟨ws, s', r'⟩ := h2 st bs' H' e rl h.2
    exact ⟨vs, ws, s, r, s', r'⟩
  refine ⟨fun i H' hi ⟨st, bs', e, rl, h⟩ => ?_, fun H' ⟨st, bs', e, rl, h⟩ => ?_, fun i H' v H2 hi ⟨st0, bs0, e0, _, _⟩ y st bs' e rl h => ?_⟩
  · obtain ⟨vs, ws, s, r, s', r'⟩ := at_ e rl h
    have hi : i < min xs.length ys.length := by rw [← zipL_len]; exact hi
    have h1 : i < vs.length := by rw [r.length]; omega
    have h2 : i < ws.length := by rw [r'.length]; omega
    exact ⟨vs, ws, vs[i], ws[i], s, s', List.getElem?_eq_getElem h1, List.getElem?_eq_getElem h2⟩
  · obtain ⟨vs, ws, s, r, s', r'⟩ := at_ e rl h
    refine ⟨vs, ws, s, s', ?_⟩
    show (zipL xs ys).length ≤ vs.length ∧ (zipL xs ys).length ≤ ws.length ∧ ((zipL xs ys).length = vs.length ∨ (zipL xs ys).length = ws.length)
    rw [zipL_len, r.length, r'.length]
    omega
  · obtain ⟨T, x, y, us, rfl, hT, rfl, k1, k2⟩ := y
    obtain ⟨vs, ws, s, r, s', r'⟩ := at_ e rl h
    obtain ⟨d, hd, rd⟩ := r.getV (k1 vs s)
    obtain ⟨d', hd', rd'⟩ := r'.getV (k2 ws s')
    obtain ⟨e2, rl2⟩ := rl.fresh hT (frT us [x, y])
    exact ⟨e2, rl2, _, zipL_get hd hd', .tup sqF dlF (.cons (rd.ext e2) (.cons (rd'.ext e2) .nil))⟩
theorem atB_tup {a : Addr} {vs : List V} {xs : List D} (s : SqT c.K H a vs) (r : RDs c bs H vs xs) : AtB c true a xs (fun _ => true) bs H := fun st bs' H' e rl _ => ⟨vs, e.sqT s, r.ext e⟩
theorem atB_lst {a : Addr} {l : Nat} {xs : List D} (hb : bs[l]? = some a) : AtB c false a xs (fun st => decide (st[l]? = some (.lst xs))) bs H := fun st bs' H' e rl h => by
  obtain ⟨vs, hv, r⟩ := rl.obj l a _ (e.get hb) (of_decide_eq_true h)
  exact ⟨vs, SqL.of hv, r⟩
theorem mi_zip (hK : X.K = c.K) (hg : Gl X "zip") (hm : X.mg "zip" = none) (ha : PE X e (tE c ex f)) (hb : PE X e2 (tE c ex g)) (hs0 : starEach [e2] X.env = (false, eval e2 X.env) :: starEach [] X.env := by rfl)
    (hs : starEach [e, e2] X.env = (false, eval e X.env) :: starEach [e2] X.env := by rfl) (hpl : (backTo pos (starEach [e2] X.env)).any (·.1) = false := by rfl) {p : Pos} :
    PI X (.Tuple el kk tp) (.Call (.Name "zip" p) [e, e2] [] pos) (tI c ex (zipI f g)) := PI_imp (pi_Z hg hm (pa_cons ha (pa_cons hb pa_nil hs0) hs) hs hpl) fun σ H R q => by
  obtain ⟨ρ, st, bs, rl, re, p⟩ := q
  refine ⟨ρ, st, bs, rl, re, p.bnd.imp fun d st1 bs1 H1 e1 rl1 p1 v rv => ?_⟩
  refine ⟨ρ, st1, bs1, rl1, re.ext e1, p1.bnd.imp fun d2 st2 bs2 H2 e2 rl2 p2 v2 rv2 => ?_⟩
  have rv := rv.ext e2
  rw [hK]
  cases rv with
  | tup s tl r =>
    cases rv2 with
    | tup s' tl' r' => exact ⟨_, _, true, true, _, _, rfl, s, s', p2.now rl2 _ ⟨wk_Z (atB_tup s r) (atB_tup s' r'), fun _ _ h _ => wk_Z (atB_tup ((hid_pre (c := c) (bs := bs2) h).sqT _ _ s) (r.mono (hid_pre h))) (atB_tup ((hid_pre (c := c) (bs := bs2) h).sqT _ _ s') (r'.mono (hid_pre h)))⟩⟩
    | loc h' =>
      obtain ⟨a2, ws, ys, ee, hb', hl', hv', r', p4⟩ := post_lst (k := fun _ _ _ _ => True) p2 rl2 (RD.loc h')
      cases ee
      exact ⟨_, _, true, false, _, _, rfl, s, SqL.of hv', p4.now rl2 _ ⟨wk_Z (ok1 := fun _ => true) (atB_tup s r) (atB_lst hb'), fun _ _ h _ => wk_Z (ok1 := fun _ => true) (atB_tup ((hid_pre (c := c) (bs := bs2) h).sqT _ _ s) (r.mono (hid_pre h))) (atB_lst hb')⟩⟩
    | _ => exact p2.elim
  | loc h =>
    cases rv2 with
    | loc h' =>
      obtain ⟨a1, vs, xs, ee, hb, hl, hv, r, p3⟩ := post_lst (k := fun _ _ _ _ => True) p2 rl2 (RD.loc h)
      cases ee
      obtain ⟨a2, ws, ys, ee, hb', hl', hv', r', p4⟩ := post_lst (k := fun _ _ _ _ => True) p3 rl2 (RD.loc h')
      cases ee
      exact ⟨_, _, false, false, _, _, rfl, SqL.of hv, SqL.of hv', p4.now rl2 _ ⟨wk_Z (atB_lst hb) (atB_lst hb'), fun _ _ _ _ => wk_Z (atB_lst hb) (atB_lst hb')⟩⟩
    | tup s' tl' r' =>
      obtain ⟨a1, vs, xs, ee, hb, hl, hv, r, p3⟩ := post_lst (k := fun _ _ _ _ => True) p2 rl2 (RD.loc h)
      cases ee
      exact ⟨_, _, false, true, _, _, rfl, SqL.of hv, s', p3.now rl2 _ ⟨wk_Z (ok2 := fun _ => true) (atB_lst hb) (atB_tup s' r'), fun _ _ h _ => wk_Z (ok2 := fun _ => true) (atB_lst hb) (atB_tup ((hid_pre (c := c) (bs := bs2) h).sqT _ _ s') (r'.mono (hid_pre h)))⟩⟩
    | _ => exact p2.elim
  | _ => cases rv2 <;> exact p2.elim
end
end Pm
end
section
set_option Elab.async false
set_option linter.all false
set_option maxRecDepth 100000
set_option maxHeartbeats 2000000
namespace Pm
open PySem PySem.Spec PyProof.Rows L2
/-! ### constants of the modules -/
mutual
def cB (K : PySem.W.Frag) : D → Value → Bool
  | .non, .none => true
  | .bl b, .bool b' => b == b'
  | .int i, .int j _ => decide (i = j)
  | .str s, .str t _ => decide (s = t)
  | .tup ds, .ref a => match K.lookup a with
    | some ⟨.type c, od, .seq its _, _⟩ => od.isNone && (decide (c = "tuple") && (decide (its.size ≤ sizeLine) && cBs K ds its.toList))
    | _ => false
  | _, _ => false
def cBs (K : PySem.W.Frag) : List D → List Value → Bool
  | [], [] => true
  | d :: ds, u :: us => cB K d u && cBs K ds us
  | _, _ => false
end
mutual
theorem cB_ok {K : PySem.W.Frag} : ∀ {d : D} {u : Value}, cB K d u = true → ∃ v, RelV v u ∧ ∀ (c : Ct) bs H, c.K = K → RD c bs H v d
  | .non, u, h => by
    cases u with
    | none => exact ⟨.non, rfl, fun _ _ _ _ => .non⟩
    | _ => simp [cB] at h
  | .bl b, u, h => by
    cases u with
    | bool b' =>
      have e : b = b' := by simpa [cB] using h
      subst e
      exact ⟨.bl b, rfl, fun _ _ _ _ => .bl b⟩
    | _ => simp [cB] at h
  | .int i, u, h => by
    cases u with
    | int j t =>
      have e : i = j := by simpa [cB] using h
      subst e
      exact ⟨.int i, ⟨_, rfl⟩, fun _ _ _ _ => .int i⟩
    | _ => simp [cB] at h
  | .str s, u, h => by
    cases u with
    | str j t =>
      have e : s = j := by simpa [cB] using h
      subst e
      exact ⟨.str s, ⟨_, rfl⟩, fun _ _ _ _ => .str s⟩
    | _ => simp [cB] at h
  | .tup ds, u, h => by
    cases u with
    | ref a =>
      rw [cB] at h
      cases q : K.lookup a with
      | none => rw [q] at h; cases h
      | some o =>
        obtain ⟨oc, od, dt, osl⟩ := o
        rw [q] at h
        cases oc with
        | type c =>
          cases dt with
          | seq its n =>
            have h : (od.isNone && (decide (c = "tuple") && (decide (its.size ≤ sizeLine) && cBs K ds its.toList))) = true := h
            rw [Bool.and_eq_true, Bool.and_eq_true, Bool.and_eq_true] at h
            obtain ⟨h0, h1, h2, h3⟩ := h
            have hd : od = none := by cases od with
              | none => rfl
              | some _ => cases h0
            obtain ⟨vs, rv, r⟩ := cBs_ok h3
            exact ⟨.ref a, rfl, fun c bs H hK => .tup (.inr ⟨_, its, n, by rw [hK]; exact q, congrArg Value.type (of_decide_eq_true h1), rfl, of_decide_eq_true h2, rv⟩) (.inr ⟨_, by rw [hK]; exact q, hd⟩) (r c bs H hK)⟩
          | _ => cases h
        | _ => cases dt <;> cases h
    | _ => simp [cB] at h
  | .loc _, u, h => by cases u <;> simp [cB] at h
  | .scr, u, h => by cases u <;> simp [cB] at h
theorem cBs_ok {K : PySem.W.Frag} : ∀ {ds : List D} {us : List Value}, cBs K ds us = true → ∃ vs, Vals vs us ∧ ∀ (c : Ct) bs H, c.K = K → RDs c bs H vs ds
  | [], [], _ => ⟨[], .nil, fun _ _ _ _ => .nil⟩
  | d :: ds, u :: us, h => by
    rw [cBs, Bool.and_eq_true] at h
    obtain ⟨v, r1, r2⟩ := cB_ok h.1
    obtain ⟨vs, r3, r4⟩ := cBs_ok h.2
    exact ⟨v :: vs, .cons r1 r3, fun c bs H hK => .cons (r2 c bs H hK) (r4 c bs H hK)⟩
  | [], _ :: _, h => by simp [cBs] at h
  | _ :: _, [], h => by simp [cBs] at h
end
def kB (l : List (Str × D)) (K : PySem.W.Frag) : Bool := l.all fun p => match PySem.W.nsIn K mainGlobals p.1 with
  | some (some u) => cB K p.2 u
  | _ => false
def KD (K : PySem.W.Frag) (mg : Str → Option Value) (x : Str) (d : D) : Prop := ∃ u v, mg x = some u ∧ RelV v u ∧ ∀ (c : Ct) bs H, c.K = K → RD c bs H v d
theorem kB_ok {l : List (Str × D)} {K : PySem.W.Frag} {h : Heap} {mg : Str → Option Value} (X : K.In h) (G : h.Ns mainGlobals mg) (hk : kB l K = true) (i : Nat) {x : Str} {d : D} (hi : l[i]? = some (x, d) := by rfl) : KD K mg x d := by
  have h1 := List.all_eq_true.mp hk (x, d) (List.mem_of_getElem? hi)
  cases q : PySem.W.nsIn K mainGlobals x with
  | none => simp only [q] at h1; cases h1
  | some o =>
    cases o with
    | none => simp only [q] at h1; cases h1
    | some u =>
      simp only [q] at h1
      obtain ⟨v, r1, r2⟩ := cB_ok h1
      exact ⟨u, v, PySem.W.mg_of X G q, r1, r2⟩
section
variable {X : Cx} {c : Ct} {ex : Wh} {pos : Pos} {e : Expr} {f : ME}
theorem md_con {x : Str} {d : D} {K : PySem.W.Frag} {mg : Str → Option Value} (h : KD K mg x d) (hK : c.K = K) (hg : Gl X x) (hm : X.mg = mg) (hd : (x == ("__debug__" : Str)) = false := by decide) : PE X (.Name x pos) (tE c ex (kon d)) := by
  obtain ⟨u, v, h1, h2, h3⟩ := h
  exact md_glob hg (by rw [hm]; exact h1) h2 (fun bs H => h3 c bs H hK) hd
/-! ### tuple(range(n)) -/
def tTupRgF (te : L2.St → Hp → (Int → Int → Hp → Prop) → Prop) : TE := fun σ H Q => te σ H fun a b H1 => RgOk a b ∧ ∀ q us, H1 q = none → Q (.ref q) (upd H1 q (frT us (rgV a b)))
theorem pe_tupRgF {te : L2.St → Hp → (Int → Int → Hp → Prop) → Prop} {p : Pos} (hc : X.calm = true) (hg : Gl X "tuple") (hm : X.mg "tuple" = none) (he : PRg X e te) (na : starEach [e] X.env = (false, eval e X.env) :: starEach [] X.env := by rfl) : PE X (.Call (.Name "tuple" p) [e] [] pos) (tTupRgF te) := by
  refine ⟨fun pins s σ H Q I h => ?_⟩
  refine Call_ (ld_blt I hg hm boot_tuple (PyProof.Rows.callWith_type1 (PyProof.Rows.args_cons (thn (he pins s σ H _ I h) fun x s1 ⟨r, a, b, t, u, v, H1, ex, hr, I1, ok, q⟩ => PyProof.Rows.args_nil ?_) na) na rfl))
  subst ex
  obtain ⟨b1, b2, b3, b4, b5⟩ := ok
  refine call_tuple_range (n := (b - a).toNat) (I1.ok.hd hc) hr (small_one b1 b2 b3 b4) (rangeSize_nat a b) b5 fun h' tk acc hk hi => ?_
  have I2 : Inv X pins σ H1 { s1 with heap := h', toks := tk } := I1.kept hk
  have e : acc = acc.toList.toArray := by rw [Array.toArray_toList]
  rw [e]
  exact ⟨.ref h'.objs.size, _, tupN I2 (by rw [rgV_length, sizeLine_eq]; omega) (vals_rg hi) tk, rfl, q _ _ (I2.hok.fresh (Nat.le_refl _))⟩
def bRgT : D → M D
  | .int n => if -(2 ^ 62) ≤ n ∧ n ≤ 2 ^ 24 then ret (.tup ((List.range n.toNat).map fun i => .int (0 + (i : Nat)))) else no
  | _ => no
theorem md_tupRg {a : Expr} {p p' : Pos} (hc : X.calm = true) (hg : Gl X "tuple") (hm : X.mg "tuple" = none) (hg' : Gl X "range") (hm' : X.mg "range" = none) (ha : PE X a (tE c ex f))
    (na : starEach [a] X.env = (false, eval a X.env) :: starEach [] X.env := by rfl) (na' : starEach [.Call (.Name "range" p') [a] [] pos] X.env = (false, eval (.Call (.Name "range" p') [a] [] pos) X.env) :: starEach [] X.env := by rfl) {pos2 : Pos} :
    PE X (.Call (.Name "tuple" p) [.Call (.Name "range" p') [a] [] pos] [] pos2) (tE c ex (una f bRgT)) :=
  PE_imp (pe_tupRgF hc hg hm (prg_1 hg' hm' ha na) na') fun σ H Q q => by
    obtain ⟨ρ, st, bs, rl, re, p⟩ := q
    refine ⟨ρ, st, bs, rl, re, p.bnd.imp fun d st1 bs1 H1 e1 rl1 p1 v rv => ?_⟩
    cases rv with
    | int n =>
      obtain ⟨⟨h1, h2⟩, p1⟩ := Post.iff (m := ret _) p1
      refine ⟨n, rfl, ⟨by decide, by decide, h1, by omega, by omega⟩, fun q us hq => ?_⟩
      have e : rgV 0 n = (List.range n.toNat).map fun i => V.int (0 + (i : Nat)) := by
        unfold rgV
        rw [Int.sub_zero]
      rw [e]
      obtain ⟨e2, rl2⟩ := rl1.fresh hq (frT us ((List.range n.toNat).map fun i => V.int (0 + (i : Nat))))
      exact p1.at e2 rl2 _ (.tup sqF dlF (RDs.mapI (fun i => 0 + (i : Nat)) _))
    | _ => exact p1.elim
end
end Pm
end
section
set_option Elab.async false
set_option linter.all false
set_option maxRecDepth 100000
set_option maxHeartbeats 2000000
namespace Pm
open PySem PySem.Spec PyProof.Rows L2
/-! ### rows: tuples of ints and texts, by their order -/
abbrev Row := List Key
def kI : Key → Int ⊕ List Nat
  | .inl i => .inl i
  | .inr s => .inr s.cps.toList
theorem kI_inj : ∀ {a b : Key}, kI a = kI b → a = b
  | .inl i, .inl j, h => by cases h; rfl
  | .inr s, .inr t, h => by
    have h : s.cps.toList = t.cps.toList := Sum.inr.inj h
    obtain ⟨s⟩ := s
    obtain ⟨t⟩ := t
    have h : s = t := Array.toList_inj.mp h
    rw [h]
  | .inl _, .inr _, h => by cases h
  | .inr _, .inl _, h => by cases h
theorem kIs_inj : ∀ {a b : Row}, a.map kI = b.map kI → a = b
  | [], [], _ => rfl
  | [], _ :: _, h => by cases h
  | _ :: _, [], h => by cases h
  | x :: a, y :: b, h => by
    obtain ⟨h1, h2⟩ := List.cons.inj h
    rw [kI_inj h1, kIs_inj h2]
def ltR (a b : Row) : Bool := lexLt itemOrd (a.map kI) (b.map kI)
theorem ltR_irr (a : Row) : ltR a a = false := lex_irrefl (O := itemOrd) _
theorem ltR_asym {a b : Row} (h : ltR a b = true) : ltR b a = false := by
  cases e : ltR b a with
  | false => rfl
  | true => exact absurd (lex_trans (O := itemOrd) _ _ _ h e) (by rw [lex_irrefl]; decide)
theorem ltR_tr {x y z : Row} (h1 : ltR y x = false) (h2 : ltR z y = false) : ltR z x = false := by
  cases e : ltR z x with
  | false => rfl
  | true =>
    rcases lex_negTrans (O := itemOrd) _ (y.map kI) _ e with q | q
    · exact absurd (h2.symm.trans q) (by decide)
    · exact absurd (h1.symm.trans q) (by decide)
theorem ltR_anti {a b : Row} (h1 : ltR a b = false) (h2 : ltR b a = false) : a = b := kIs_inj (lex_total (O := itemOrd) _ _ h1 h2)
theorem swo_R {α : Type} (k : α → Row) : SrtO.Swo fun x y => ltR (k x) (k y) := ⟨fun _ _ h => ltR_asym h, fun _ _ _ h1 h2 => ltR_tr h1 h2⟩
def insR (x : Row) : List Row → List Row
  | [] => [x]
  | y :: r => if ltR y x = true then y :: insR x r else x :: y :: r
def sortR : List Row → List Row
  | [] => []
  | x :: r => insR x (sortR r)
theorem insR_perm (x : Row) : ∀ r : List Row, (insR x r).Perm (x :: r)
  | [] => .refl _
  | y :: r => by
    unfold insR
    split
    · exact ((insR_perm x r).cons y).trans (.swap x y r)
    · exact .refl _
theorem sortR_perm : ∀ r : List Row, (sortR r).Perm r
  | [] => .refl _
  | n :: r => (insR_perm n (sortR r)).trans ((sortR_perm r).cons n)
theorem insR_sorted (x : Row) : ∀ r : List Row, r.Pairwise (fun a b => ltR b a = false) → (insR x r).Pairwise (fun a b => ltR b a = false)
  | [], _ => by simp [insR]
  | y :: r, h => by
    unfold insR
    rw [List.pairwise_cons] at h
    split
    · rename_i hn
      rw [List.pairwise_cons]
      refine ⟨fun z hz => ?_, insR_sorted x r h.2⟩
      rcases List.mem_cons.mp ((insR_perm x r).mem_iff.mp hz) with rfl | hz
      · exact ltR_asym hn
      · exact h.1 z hz
    · rename_i hn
      have hn : ltR y x = false := by simpa using hn
      rw [List.pairwise_cons, List.pairwise_cons]
      refine ⟨fun z hz => ?_, h⟩
      rcases List.mem_cons.mp hz with rfl | hz
      · exact hn
      · exact ltR_tr hn (h.1 z hz)
theorem sortR_sorted : ∀ r : List Row, (sortR r).Pairwise (fun a b => ltR b a = false)
  | [] => .nil
  | n :: r => insR_sorted n _ (sortR_sorted r)
theorem sortR_uniq {l m : List Row} (h : l.Perm m) (hs : l.Pairwise (fun a b => ltR b a = false)) : l = sortR m :=
  List.Perm.eq_of_pairwise (le := fun a b => ltR b a = false) (fun a b _ _ h1 h2 => ltR_anti h2 h1) hs (sortR_sorted m) (h.trans (sortR_perm m).symm)
/-- what a tuple of the heap tells -/
def vKey : Value → Option Key
  | .int n _ => some (.inl n)
  | .str x _ => some (.inr x)
  | _ => none
def rowAt (h : Heap) : Value → Row
  | .ref a => match h.get? a with
    | some o => match o.data with
      | .seq xs _ => xs.toList.filterMap vKey
      | _ => []
    | none => []
  | _ => []
theorem vKey_vals : ∀ {row : Row} {us : List Value}, Vals (row.map kV) us → us.filterMap vKey = row
  | [], _, .nil => rfl
  | .inl i :: row, _, .cons r rr => by
    obtain ⟨t, rfl⟩ := r
    simp [vKey, vKey_vals rr]
  | .inr i :: row, _, .cons r rr => by
    obtain ⟨t, rfl⟩ := r
    simp [vKey, vKey_vals rr]
def okRow (sh : Nat → Bool) : Nat → Row → Bool
  | _, [] => true
  | i, .inl _ :: r => !sh i && okRow sh (i + 1) r
  | i, .inr _ :: r => sh i && okRow sh (i + 1) r
theorem items_row {sh : Nat → Bool} : ∀ {row : Row} {us : List Value} {i : Nat}, Vals (row.map kV) us → okRow sh i row = true → tupItems sh i us = some (row.map kI)
  | [], _, _, .nil, _ => rfl
  | .inl n :: row, _, i, .cons r rr, h => by
    obtain ⟨t, rfl⟩ := r
    rw [okRow, Bool.and_eq_true] at h
    have h1 : sh i = false := by simpa using h.1
    simp [tupItems, h1, items_row rr h.2, kI]
  | .inr n :: row, _, i, .cons r rr, h => by
    obtain ⟨t, rfl⟩ := r
    rw [okRow, Bool.and_eq_true] at h
    simp [tupItems, h.1, items_row rr h.2, kI]
def IsRow (h : Heap) (v : Value) (row : Row) : Prop := ∃ a o xs n, v = .ref a ∧ h.get? a = some o ∧ o.cls = .type "tuple" ∧ o.data = .seq xs n ∧ Vals (row.map kV) xs.toList
theorem IsRow.at {h : Heap} {v : Value} {row : Row} (r : IsRow h v row) : rowAt h v = row := by
  obtain ⟨a, o, xs, n, rfl, ho, hc, hd, rv⟩ := r
  unfold rowAt
  simp only [ho, hd]
  exact vKey_vals rv
theorem IsRow.keeps {h h' : Heap} {v : Value} {row : Row} (r : IsRow h v row) (k : ∀ b o, h.get? b = some o → o.cls = .type "tuple" → h'.get? b = some o) : IsRow h' v row := by
  obtain ⟨a, o, xs, n, rfl, ho, hc, hd, rv⟩ := r
  exact ⟨a, o, xs, n, rfl, k a o ho hc, hc, hd, rv⟩
section
variable {prog : Program} {w : World} {A : Around} {E : Value → Shared → Prop} {s : Shared}
theorem row_tupOf {sh : Nat → Bool} : ∀ {vs : List Value} {k : Value → Row}, (∀ v ∈ vs, IsRow s.heap v (k v) ∧ okRow sh 0 (k v) = true ∧ k v ≠ []) → ∃ fs, TupsOf s.heap sh vs fs ∧ fs.length = vs.length
  | [], _, _ => ⟨[], .nil, rfl⟩
  | v :: vs, k, h => by
    obtain ⟨fs, h1, h2⟩ := row_tupOf (vs := vs) fun u hu => h u (List.mem_cons_of_mem _ hu)
    obtain ⟨⟨a, o, xs, n, rfl, ho, hc, hd, rv⟩, ho2, hn⟩ := h v List.mem_cons_self
    cases e : k (.ref a) with
    | nil => exact absurd e hn
    | cons x r =>
      rw [e] at rv ho2
      cases ex : xs.toList with
      | nil => rw [ex] at rv; cases rv
      | cons u us =>
        rw [ex] at rv
        cases rv with
        | cons ru rr =>
          have hx0 : xs[0]? = some u := by rw [← Array.getElem?_toList, ex]; rfl
          refine ⟨u :: fs, .cons ⟨a, o, xs, n, rfl, ho, hc, hd, hx0, fun z => ?_, fun z => ?_⟩ h1, by simp [h2]⟩
          · cases x with
            | inl i => obtain ⟨t, rfl⟩ := ru; exact ⟨_, _, rfl⟩
            | inr i =>
              rw [okRow, Bool.and_eq_true] at ho2
              rw [ho2.1] at z; cases z
          · cases x with
            | inr i => obtain ⟨t, rfl⟩ := ru; exact ⟨_, _, rfl⟩
            | inl i =>
              rw [okRow, Bool.and_eq_true] at ho2
              have h3 : sh 0 = false := by simpa using ho2.1
              rw [h3] at z; cases z
theorem rows_cmp {sh : Nat → Bool} {vs : List Value} {k : Value → Row} (hp : ∀ v ∈ vs, IsRow s.heap v (k v) ∧ okRow sh 0 (k v) = true ∧ k v ≠ []) : SrtO.Cmp prog w A s (tuples' true) (fun p => p.1 ∈ vs) (SrtO.lt2 fun v u => ltR (k v) (k u)) := by
  intro p q hm hm'
  obtain ⟨⟨a, o, xs, n, e, ho, hc, hd, rv⟩, h1, _⟩ := hp _ hm
  obtain ⟨⟨a', o', xs', n', e', ho', hc', hd', rv'⟩, h1', _⟩ := hp _ hm'
  refine tup_ltAt (shape := sh) true A _ p.1 q.1 ((k p.1).map kI) ((k q.1).map kI) ?_ ?_ ⟨rfl, rfl⟩
  · show tupKey s.heap sh p.1 = _
    rw [e] at rv h1 ⊢
    unfold tupKey
    simp only [ho, hd]
    exact items_row rv h1
  · show tupKey s.heap sh q.1 = _
    rw [e'] at rv' h1' ⊢
    unfold tupKey
    simp only [ho', hd']
    exact items_row rv' h1'
theorem rows_sortable {sh : Nat → Bool} {a : Addr} {vs : List Value} {k : Value → Row} (h0 : 0 < vs.length) (hp : ∀ v ∈ vs, IsRow s.heap v (k v) ∧ okRow sh 0 (k v) = true ∧ k v ≠ []) (ha : ∀ o, s.heap.get? a = some o → o.cls ≠ .type "tuple") : SrtO.SortableO prog w A s a vs fun v u => ltR (k v) (k u) := by
  intro h' keep
  have hp' : ∀ v ∈ vs, IsRow h' v (k v) ∧ okRow sh 0 (k v) = true ∧ k v ≠ [] := fun v hm => ⟨(hp v hm).1.keeps fun b o e c => keep b o (fun z => by subst z; exact ha o e c) e, (hp v hm).2⟩
  obtain ⟨fs, h1, h2⟩ := row_tupOf (s := { s with heap := h' }) hp'
  exact ⟨tuples' true, fun Q E hq => tup_kind (s := { s with heap := h' }) (by omega) h1 hq, rows_cmp hp'⟩
end
/-! ### sorted of a tuple, any order -/
theorem sortedCk {prog : Program} {w : World} {A : Around} {E : Value → Shared → Prop} {s : Shared} {t : Addr} {vs : List Value} {lt : Value → Value → Bool} {Q : Value → Shared → Prop} (O : SrtO.Swo lt) (ht : IsTup s.heap t vs.toArray) (hz : vs.length ≤ sizeLine)
    (hS : 2 ≤ vs.length → ∀ (h₁ : Heap) (a : Addr), h₁.get? a = some (PyProof.Rows.seqObj "list" vs.toArray 0) → (∀ b o, s.heap.get? b = some o → b ≠ a ∧ h₁.get? b = some o) → SrtO.SortableO prog w A.in1.in1 { s with heap := h₁ } a vs lt)
    (h : ∀ out : List Value, SrtO.Srtd lt out → SrtO.Stb lt out vs → Q (.ref (s.heap.objs.size + 1)) { s with heap := PyProof.Rows.sortedAll s.heap vs out.toArray }) :
    wpAny (model prog w) A (call (.builtin "sorted") [.ref t]) Q E s := by
  refine Calls.call_function_entry PyProof.Rows.kind_sorted PyProof.Rows.plain_sorted PyProof.Rows.entry_sorted (PyProof.Rows.args_sorted1 _) (by
    unfold Builtin.«sorted»
    refine wpAny_bind (m := checkCount "sorted" 1 1 _) (wpAny_pure (wpAny_bind (collectC ht (by simpa using hz) (wpAny_bind (wpAny_newList ?_ hz)))))
    have z : (heapC s.heap vs.toArray).objs.size = s.heap.objs.size + 1 := by
      unfold heapC
      rw [Heap.size_update, Heap.size_push]
    have hoL : ((heapC s.heap vs.toArray).push (PyProof.Rows.seqObj "list" vs.toArray 0)).get? (s.heap.objs.size + 1) = some (PyProof.Rows.seqObj "list" vs.toArray 0) := by
      rw [← z]
      exact Heap.get?_push_size _ rfl
    have keep : ∀ b o, s.heap.get? b = some o → b ≠ s.heap.objs.size + 1 ∧ ((heapC s.heap vs.toArray).push (PyProof.Rows.seqObj "list" vs.toArray 0)).get? b = some o := fun b o q => by
      have hlt : b < s.heap.objs.size := Heap.lt_size q
      refine ⟨Nat.ne_of_lt (Nat.lt_succ_of_lt hlt), Heap.get?_push_of_some _ ?_⟩
      unfold heapC
      rw [Heap.get?_update_ne _ _ _ _ (Nat.ne_of_lt hlt)]
      exact Heap.get?_push_of_some _ q
    show wpAny _ _ _ _ _ { s with heap := (heapC s.heap vs.toArray).push (PyProof.Rows.seqObj "list" vs.toArray 0) }
    rw [z]
    exact wpAny_bind (wpAny_holding (wpAny_call_entry PyProof.Rows.slot_list_sort ⟨_, hoL, rfl⟩ PyProof.Rows.entry_list_sort (SrtO.list_sort_ord O hoL hz (fun h2 => hS h2 _ _ hoL keep) fun out hs hb => ⟨_, rfl, wpAny_pure ⟨_, rfl, h out hs hb⟩⟩) (PyProof.Rows.args_list_sort _))))
/-! ### sorted of rows -/
inductive Rws (K : PySem.W.Frag) (H : Hp) : List V → List Row → Prop
  | nil : Rws K H [] []
  | cons {t : Addr} {r : Row} {vs : List V} {rs : List Row} : SqT K H t (r.map kV) → DL K H t → Rws K H vs rs → Rws K H (.ref t :: vs) (r :: rs)
def rRows (K : PySem.W.Frag) : List V → Hp → VK → Prop := fun vs H Q => ∃ (a : Addr) (xs : List V) (rows : List Row) (sh : Nat → Bool), vs = [V.ref a] ∧ (SqL K H a xs ∨ SqT K H a xs) ∧ Rws K H xs rows ∧ (∀ r ∈ rows, okRow sh 0 r = true ∧ r ≠ []) ∧
  ∀ (ys : List V) (p : Addr), Rws K H ys (sortR rows) → H p = none → Q (.ref p) (upd H p (.lst ys))
theorem Rws.vals {X : Cx} {pins : List (Addr × Obj)} {σ : L2.St} {H : Hp} {s : Shared} (I : Inv X pins σ H s) : ∀ {xs : List V} {rows : List Row} {its : List Value}, Rws X.K H xs rows → Vals xs its → its.map (rowAt s.heap) = rows ∧ ∀ v ∈ its, IsRow s.heap v (rowAt s.heap v) ∧ ∃ t, v = .ref t ∧ SqT X.K H t ((rowAt s.heap v).map kV) ∧ DL X.K H t
  | _, _, _, .nil, .nil => ⟨rfl, fun _ h => by cases h⟩
  | _, _, _, (.cons (t := t) (r := r) st dl rr), .cons rv rvs => by
    obtain ⟨h1, h2⟩ := Rws.vals I rr rvs
    cases (show _ = Value.ref t from rv)
    obtain ⟨its, rv2, ⟨o, ho, hc, n, hd⟩, _⟩ := I.tuple st
    have row : IsRow s.heap (.ref t) r := ⟨t, o, its.toArray, n, rfl, ho, hc, hd, by simpa using rv2⟩
    have e := row.at
    refine ⟨by rw [List.map_cons, e, h1], fun v hv => ?_⟩
    rcases List.mem_cons.mp hv with rfl | hv
    · rw [e]; exact ⟨row, t, rfl, st, dl⟩
    · exact h2 v hv
def vOf : Value → V
  | .ref a => .ref a
  | _ => .non
theorem rws_out {X : Cx} {H : Hp} {k : Value → Row} : ∀ {out : List Value}, (∀ v ∈ out, ∃ t, v = .ref t ∧ SqT X.K H t ((k v).map kV) ∧ DL X.K H t) → Vals (out.map vOf) out ∧ Rws X.K H (out.map vOf) (out.map k)
  | [], _ => ⟨.nil, .nil⟩
  | v :: out, h => by
    obtain ⟨h1, h2⟩ := rws_out (out := out) fun u hu => h u (List.mem_cons_of_mem _ hu)
    obtain ⟨t, rfl, st, dl⟩ := h v List.mem_cons_self
    exact ⟨.cons rfl h1, .cons st dl h2⟩
theorem cr_rows {X : Cx} : CallR X (.builtin "sorted") (rRows X.K) := by
  intro pins s σ H vs us Q I r h
  obtain ⟨a, xs, rows, sh, rfl, hs, hr, hok, q⟩ := h
  rw [Vals.ref1 r]
  have fin : ∀ (its : List Value), Vals xs its → xs.length ≤ sizeLine → ∀ out : List Value, SrtO.Srtd (fun v u => ltR (rowAt s.heap v) (rowAt s.heap u)) out → SrtO.Stb (fun v u => ltR (rowAt s.heap v) (rowAt s.heap u)) out its →
      EP X pins σ Q (.ref (s.heap.objs.size + 1)) { s with heap := PyProof.Rows.sortedAll s.heap its out.toArray } := fun its rv hz out h1 h2 => by
    obtain ⟨e1, e2⟩ := hr.vals I rv
    obtain ⟨k1, k2⟩ := rws_out (X := X) (H := H) (k := rowAt s.heap) (out := out) fun v hv => (e2 v (h2.perm.mem_iff.mp hv)).2
    have e3 : out.map (rowAt s.heap) = sortR rows := by
      refine sortR_uniq ?_ (List.pairwise_map.mpr h1)
      rw [← e1]
      exact h2.perm.map _
    rw [e3] at k2
    obtain ⟨ep, he⟩ := PyProof.Rows.sortedAll_at s.heap its out.toArray
    have hl : (out.map vOf).length ≤ sizeLine := by
      rw [List.length_map, h2.perm.length_eq, ← rv.length]
      exact hz
    have J := I.laid (t' := s.toks) (a := s.heap.objs.size + 1) (o := .lst (out.map vOf)) (fun _ _ => PyProof.Rows.sortedAll_old (out := out.toArray)) (Nat.le_succ _) ⟨hl, out, ep, k1, he⟩
    exact ⟨.ref _, _, J, rfl, q _ _ k2 (I.hok.fresh (Nat.le_succ _))⟩
  have rowsOk : ∀ (its : List Value), Vals xs its → ∀ v ∈ its, IsRow s.heap v (rowAt s.heap v) ∧ okRow sh 0 (rowAt s.heap v) = true ∧ rowAt s.heap v ≠ [] := fun its rv v hv => by
    obtain ⟨e1, e2⟩ := hr.vals I rv
    exact ⟨(e2 v hv).1, hok _ (by rw [← e1]; exact List.mem_map_of_mem hv)⟩
  rcases hs with hs | hs
  · obtain ⟨its, rv, p, hz⟩ := I.list hs
    refine SrtO.sorted_ord (swo_R (rowAt s.heap)) p.isList (by rw [← rv.length]; exact hz) (fun h2 h₁ a' ha kk => ?_) (fin its rv hz)
    refine rows_sortable (sh := sh) (s := { s with heap := h₁ }) (by omega) (fun v hm => ⟨((rowsOk its rv v hm).1).keeps fun b o e _ => (kk b o e).2, (rowsOk its rv v hm).2⟩) fun o e => ?_
    have e' : some o = some (PyProof.Rows.seqObj "list" its.toArray 0) := e.symm.trans ha
    cases e'
    intro c
    exact absurd (Value.type.inj c) (by decide)
  · obtain ⟨its, rv, p, hz⟩ := I.tuple hs
    refine sortedCk (swo_R (rowAt s.heap)) p (by rw [← rv.length]; exact hz) (fun h2 h₁ a' ha kk => ?_) (fin its rv hz)
    refine rows_sortable (sh := sh) (s := { s with heap := h₁ }) (by omega) (fun v hm => ⟨((rowsOk its rv v hm).1).keeps fun b o e _ => (kk b o e).2, (rowsOk its rv v hm).2⟩) fun o e => ?_
    have e' : some o = some (PyProof.Rows.seqObj "list" its.toArray 0) := e.symm.trans ha
    cases e'
    intro c
    exact absurd (Value.type.inj c) (by decide)
end Pm
end
section
set_option Elab.async false
set_option linter.all false
set_option maxRecDepth 100000
set_option maxHeartbeats 2000000
namespace Pm
open PySem PySem.Spec PyProof.Rows L2
/-! ### texts, sorted -/
def ltS (a b : Str) : Bool := decide (a.cps.toList < b.cps.toList)
theorem ltS_asym {a b : Str} (h : ltS a b = true) : ltS b a = false := by
  unfold ltS at *
  simp only [decide_eq_true_eq, decide_eq_false_iff_not] at *
  exact fun z => List.lt_irrefl _ (List.lt_trans h z)
theorem ltS_tr {x y z : Str} (h1 : ltS y x = false) (h2 : ltS z y = false) : ltS z x = false := by
  unfold ltS at *
  simp only [decide_eq_false_iff_not] at *
  exact fun q => h1 (List.lt_of_le_of_lt (List.not_lt.mp h2) q)
theorem ltS_anti {a b : Str} (h1 : ltS a b = false) (h2 : ltS b a = false) : a = b := by
  unfold ltS at *
  simp only [decide_eq_false_iff_not] at *
  have e : a.cps.toList = b.cps.toList := List.le_antisymm (List.not_lt.mp h2) (List.not_lt.mp h1)
  obtain ⟨a⟩ := a
  obtain ⟨b⟩ := b
  have e : a = b := Array.toList_inj.mp e
  rw [e]
def insS (x : Str) : List Str → List Str
  | [] => [x]
  | y :: r => if ltS y x = true then y :: insS x r else x :: y :: r
def sortS : List Str → List Str
  | [] => []
  | x :: r => insS x (sortS r)
theorem insS_perm (x : Str) : ∀ r : List Str, (insS x r).Perm (x :: r)
  | [] => .refl _
  | y :: r => by
    unfold insS
    split
    · exact ((insS_perm x r).cons y).trans (.swap x y r)
    · exact .refl _
theorem sortS_perm : ∀ r : List Str, (sortS r).Perm r
  | [] => .refl _
  | n :: r => (insS_perm n (sortS r)).trans ((sortS_perm r).cons n)
theorem insS_sorted (x : Str) : ∀ r : List Str, r.Pairwise (fun a b => ltS b a = false) → (insS x r).Pairwise (fun a b => ltS b a = false)
  | [], _ => by simp [insS]
  | y :: r, h => by
    unfold insS
    rw [List.pairwise_cons] at h
    split
    · rename_i hn
      rw [List.pairwise_cons]
      refine ⟨fun z hz => ?_, insS_sorted x r h.2⟩
      rcases List.mem_cons.mp ((insS_perm x r).mem_iff.mp hz) with rfl | hz
      · exact ltS_asym hn
      · exact h.1 z hz
    · rename_i hn
      have hn : ltS y x = false := by simpa using hn
      rw [List.pairwise_cons, List.pairwise_cons]
      refine ⟨fun z hz => ?_, h⟩
      rcases List.mem_cons.mp hz with rfl | hz
      · exact hn
      · exact ltS_tr hn (h.1 z hz)
theorem sortS_sorted : ∀ r : List Str, (sortS r).Pairwise (fun a b => ltS b a = false)
  | [] => .nil
  | n :: r => insS_sorted n _ (sortS_sorted r)
theorem rising_pair : ∀ (p : Str) (l : List Str), risingS p l = true → (p :: l).Pairwise (fun a b => ltS b a = false)
  | p, [], _ => by simp
  | p, x :: r, h => by
    have h : (!ltCps x.cps.toList p.cps.toList && risingS x r) = true := h
    rw [Bool.and_eq_true] at h
    have ih := rising_pair x r h.2
    have h1 : ltS x p = false := by
      have := h.1
      rw [ltCps_eq] at this
      simpa [ltS] using this
    rw [List.pairwise_cons]
    refine ⟨fun z hz => ?_, ih⟩
    rcases List.mem_cons.mp hz with rfl | hz
    · exact h1
    · exact ltS_tr h1 ((List.pairwise_cons.mp ih).1 z hz)
theorem sorted_pair : ∀ {l : List Str}, sortedS l = true → l.Pairwise (fun a b => ltS b a = false)
  | [], _ => .nil
  | x :: r, h => rising_pair x r h
theorem sortS_uniq {l m : List Str} (h : l.Perm m) (hs : l.Pairwise (fun a b => ltS b a = false)) : l = sortS m :=
  List.Perm.eq_of_pairwise (le := fun a b => ltS b a = false) (fun a b _ _ h1 h2 => ltS_anti h2 h1) hs (sortS_sorted m) (h.trans (sortS_perm m).symm)
/-! ### sorted: ints, texts, rows -/
def keysOf : List D → Option Row
  | [] => some []
  | x :: xs => (dkey x).bind fun k => (keysOf xs).map (k :: ·)
def rowsOf : List D → Option (List Row)
  | [] => some []
  | .tup ks :: xs => (keysOf ks).bind fun r => (rowsOf xs).map (r :: ·)
  | _ :: _ => none
def kD : Key → D
  | .inl i => .int i
  | .inr s => .str s
def rowD (r : Row) : D := .tup (r.map kD)
theorem strsOf_strs (ss : List Str) : strsOf (ss.map D.str) = some ss := by
  induction ss with
  | nil => rfl
  | cons n r ih => simp [strsOf, ih]
theorem dkey_kD {x : D} {k : Key} (h : dkey x = some k) : x = kD k := by
  cases x <;> simp [dkey] at h <;> subst h <;> rfl
theorem keysOf_map : ∀ {xs : List D} {r : Row}, keysOf xs = some r → xs = r.map kD
  | [], r, h => by cases h; rfl
  | x :: xs, r, h => by
    unfold keysOf at h
    cases e1 : dkey x with
    | none => rw [e1] at h; cases h
    | some k =>
      cases e2 : keysOf xs with
      | none => rw [e1, e2] at h; cases h
      | some r' =>
        rw [e1, e2] at h
        cases h
        rw [dkey_kD e1, keysOf_map e2]
        rfl
theorem keysOf_kD : ∀ r : Row, keysOf (r.map kD) = some r
  | [] => rfl
  | .inl i :: r => by simp [keysOf, kD, dkey, keysOf_kD r]
  | .inr i :: r => by simp [keysOf, kD, dkey, keysOf_kD r]
theorem rowsOf_map : ∀ {xs : List D} {rs : List Row}, rowsOf xs = some rs → xs = rs.map rowD
  | [], ns, h => by cases h; rfl
  | .tup ks :: xs, ns, h => by
    unfold rowsOf at h
    cases e1 : keysOf ks with
    | none => rw [e1] at h; cases h
    | some k =>
      cases e : rowsOf xs with
      | none => rw [e1, e] at h; cases h
      | some ms =>
        rw [e1, e] at h
        cases h
        rw [rowsOf_map e, keysOf_map e1]
        rfl
  | .non :: _, _, h => by cases h
  | .bl _ :: _, _, h => by cases h
  | .int _ :: _, _, h => by cases h
  | .str _ :: _, _, h => by cases h
  | .loc _ :: _, _, h => by cases h
  | .scr :: _, _, h => by cases h
theorem rowsOf_rows (rs : List Row) : rowsOf (rs.map rowD) = some rs := by
  induction rs with
  | nil => rfl
  | cons n r ih => simp [rowsOf, rowD, keysOf_kD, ih]
def shOf : List Row → Nat → Bool
  | [], _ => false
  | r :: _, i => match r[i]? with
    | some (.inr _) => true
    | _ => false
def okRows (rs : List Row) : Bool := rs.all fun r => okRow (shOf rs) 0 r && !r.isEmpty
def srtX (xs : List D) : M D := match intsOf xs with
  | some ns => alloc ((isort ns).map .int)
  | none => match strsOf xs with
    | some ss => if ss.length < 64 then alloc ((sortS ss).map .str) else no
    | none => match rowsOf xs with
      | some rs => if okRows rs = true then alloc ((sortR rs).map rowD) else no
      | none => no
def srtT (xs : List D) : M D := match intsOf xs with
  | some ns => alloc ((isort ns).map .int)
  | none => match rowsOf xs with
    | some rs => if okRows rs = true then alloc ((sortR rs).map rowD) else no
    | none => no
def bSortX : List D → M D
  | [.loc l] => bnd (lst l) srtX
  | [.tup xs] => srtT xs
  | _ => no
section
variable {X : Cx} {c : Ct} {ex : Wh} {bs : List Addr} {H : Hp} {st : Sto}
theorem RDs.toKeys : ∀ {vs : List V} {r : Row}, RDs c bs H vs (r.map kD) → vs = r.map kV
  | _, [], .nil => rfl
  | _, .inl n :: ns, .cons (.int _) t => by rw [RDs.toKeys t]; rfl
  | _, .inr n :: ns, .cons (.str _) t => by rw [RDs.toKeys t]; rfl
theorem RDs.keys : ∀ (r : Row), RDs c bs H (r.map kV) (r.map kD)
  | [] => .nil
  | .inl n :: ns => .cons (.int n) (RDs.keys ns)
  | .inr n :: ns => .cons (.str n) (RDs.keys ns)
theorem RDs.toRws (hK : X.K = c.K) : ∀ {vs : List V} {rs : List Row}, RDs c bs H vs (rs.map rowD) → Rws X.K H vs rs
  | _, [], .nil => .nil
  | _, r :: rs, .cons (.tup s tl rr) t => .cons (by rw [hK, ← rr.toKeys]; exact s) (by rw [hK]; exact tl) (RDs.toRws hK t)
theorem RDs.ofRws (hK : X.K = c.K) : ∀ {vs : List V} {rs : List Row}, Rws X.K H vs rs → RDs c bs H vs (rs.map rowD)
  | _, [], .nil => .nil
  | _, r :: rs, .cons s tl t => .cons (.tup (by rw [← hK]; exact s) (by rw [← hK]; exact tl) (RDs.keys r)) (RDs.ofRws hK t)
theorem okRows_all {rs : List Row} (h : okRows rs = true) : ∀ r ∈ rs, okRow (shOf rs) 0 r = true ∧ r ≠ [] := fun r hr => by
  have := List.all_eq_true.mp h r hr
  rw [Bool.and_eq_true] at this
  refine ⟨this.1, fun e => ?_⟩
  rw [e] at this
  simp at this
theorem cb_sortX (hK : X.K = c.K) : CB X c ex (.builtin "sorted") bSortX := ⟨_, cr_sortedI.or (cr_sortedIT.or (cr_sortedS.or cr_rows)), by
  intro vs ds bs H st Q r rl p
  have rowsD : ∀ {a : Addr} {ws : List V} {xs : List D} {rs : List Row}, rowsOf xs = some rs → RDs c bs H ws xs → (SqL X.K H a ws ∨ SqT X.K H a ws) → Post c ex ((if okRows rs = true then alloc ((sortR rs).map rowD) else no) st) bs H (fun z _ bs' H' => ∀ v, RD c bs' H' v z → Q v H') → rRows X.K [.ref a] H Q := fun {a ws xs rs} e1 r s p => by
    obtain ⟨hk, p⟩ := Post.iff (m := alloc _) p
    rw [rowsOf_map e1] at r
    refine ⟨a, ws, rs, shOf rs, rfl, s, r.toRws hK, okRows_all hk, fun ys q hr hq => ?_⟩
    obtain ⟨k, r⟩ := post_alloc p rl hq (RDs.ofRws hK hr)
    exact k _ r
  match ds, r, p with
  | [.loc l], .cons (.loc h) .nil, p =>
    obtain ⟨a, vs, xs, e, hb, hl, hv, r, p⟩ := post_lst (k := fun _ _ _ _ => True) p rl (RD.loc h)
    cases e
    unfold srtX at p
    cases e1 : intsOf xs with
    | some ns =>
      simp only [e1] at p
      rw [intsOf_map e1] at r
      rw [r.toInts] at hv
      refine .inl ⟨_, _, rfl, SqL.of hv, fun ns' q hp hs hq => ?_⟩
      have e2 : ns' = isort ns := PySem.W.ksm_same (hp.trans (isort_perm ns).symm) hs (isort_sorted ns)
      subst e2
      obtain ⟨k, r⟩ := post_alloc p rl hq (RDs.ints _)
      exact k _ r
    | none =>
      simp only [e1] at p
      cases e2 : strsOf xs with
      | some ss =>
        simp only [e2] at p
        obtain ⟨hk, p⟩ := Post.iff (m := alloc _) p
        rw [strsOf_map e2] at r
        rw [r.toStrs] at hv
        refine .inr (.inr (.inl ⟨_, _, rfl, SqL.of hv, hk, fun ns' q hp hs hq => ?_⟩))
        have e2 : ns' = sortS ss := sortS_uniq hp (sorted_pair hs)
        subst e2
        obtain ⟨k, r⟩ := post_alloc p rl hq (RDs.strs _)
        exact k _ r
      | none =>
        simp only [e2] at p
        cases e3 : rowsOf xs with
        | none => simp only [e3] at p; exact p.elim
        | some rs =>
          simp only [e3] at p
          exact .inr (.inr (.inr (rowsD e3 r (.inl (SqL.of hv)) p)))
  | [.tup xs], .cons (.tup s tl r) .nil, p =>
    unfold bSortX srtT at p
    cases e1 : intsOf xs with
    | some ns =>
      simp only [e1] at p
      rw [intsOf_map e1] at r
      rw [r.toInts] at s
      refine .inr (.inl ⟨_, _, rfl, by rw [hK]; exact s, fun ns' q hp hs hq => ?_⟩)
      have e2 : ns' = isort ns := PySem.W.ksm_same (hp.trans (isort_perm ns).symm) hs (isort_sorted ns)
      subst e2
      obtain ⟨k, r⟩ := post_alloc p rl hq (RDs.ints _)
      exact k _ r
    | none =>
      simp only [e1] at p
      cases e3 : rowsOf xs with
      | none => simp only [e3] at p; exact p.elim
      | some rs =>
        simp only [e3] at p
        exact .inr (.inr (.inr (rowsD e3 r (.inr (by rw [hK]; exact s)) p)))⟩
end
end Pm
end
section
set_option Elab.async false
set_option linter.all false
set_option maxRecDepth 100000
set_option maxHeartbeats 2000000
namespace Pm
open PySem PySem.Spec PyProof.Rows L2
/-! ### < of ints, of texts -/
def opLtX : D → D → M D
  | .int i, .int j => ret (.bl (decide (i < j)))
  | .str a, .str b => ret (.bl (ltS a b))
  | _, _ => no
section
variable {X : Cx} {c : Ct} {ex : Wh}
theorem co_ltX : CO X c ex .Lt opLtX := ⟨_, op_lt.or op_lt_str, by
  intro x y d e bs H st Q rx ry rl p
  cases rx with
  | int i =>
    cases ry with
    | int j => exact .inl ⟨i, j, rfl, rfl, p.now rl _ (.bl _)⟩
    | _ => exact p.elim
  | str i =>
    cases ry with
    | str j => exact .inr ⟨i, j, rfl, rfl, p.now rl _ (.bl _)⟩
    | _ => exact p.elim
  | _ => cases ry <;> exact p.elim⟩
end
@[simp] theorem opLtX_int {a b : Int} : opLtX (.int a) (.int b) = ret (.bl (decide (a < b))) := rfl
@[simp] theorem opLtX_str {a b : Str} : opLtX (.str a) (.str b) = ret (.bl (ltS a b)) := rfl
end Pm
end
section
set_option Elab.async false
set_option linter.all false
set_option maxRecDepth 100000
set_option maxHeartbeats 2000000
namespace Pm
open PySem PySem.Spec PyProof.Rows L2
/-! ### a loop by what holds ahead of each turn, any body -/
theorem loop_it {J : It} {n : Nat} {G : Hp → Prop} {Y : Nat → Hp → V → Hp → Prop} (w : Walk J n G Y) {B : V → Hp → (Hp → Prop) → Prop} {Hs : Hp} {Qd : Hp → Prop} (Pv : Nat → Hp → Prop) (h0 : Pv 0 Hs) (hG : ∀ i H, i ≤ n → Pv i H → G H)
    (hs : ∀ i x H H', i < n → Pv i H → Y i H x H' → B x H' (Pv (i + 1))) (hd : ∀ H, Pv n H → Qd H) :
    ∃ W : Nat → Nat → Hp → Prop, (∃ m, W 0 m Hs) ∧ ∀ i m H, W i m H → (J.stop i H ∧ Qd H) ∨ (J.go i H ∧ ∃ Nx : Hp → Prop, (∀ H', Nx H' → ∃ m', m' < m ∧ W (i + 1) m' H') ∧ ∀ x H', J.yld i H x H' → B x H' Nx) := by
  refine ⟨fun i m H => i + m = n ∧ Pv i H, ⟨n, Nat.zero_add n, h0⟩, fun i m H hw => ?_⟩
  obtain ⟨hm, hp⟩ := hw
  have g := hG i H (by omega) hp
  cases m with
  | zero =>
    have : i = n := by omega
    subst this
    exact .inl ⟨w.stops H g, hd H hp⟩
  | succ m => exact .inr ⟨w.goes i H (by omega) g, Pv (i + 1), fun H' p' => ⟨m, Nat.lt_succ_self m, by omega, p'⟩, fun x H' y => hs i x H H' (by omega) hp (w.yields i H x H' (by omega) g y)⟩
theorem RE.mono {c : Ct} {bs bs1 : List Addr} {H H1 : Hp} {ρ : En} {σ : L2.St} (r : RE c bs H ρ σ) (m : Pre c bs H bs1 H1) : RE c bs1 H1 ρ σ := ⟨r.len, fun i d h => let ⟨v, a, b⟩ := r.val i d h; ⟨v, a, b.mono m⟩⟩
/-! ### [e for x in xs if t for y in ys if u] -/
def lcL2 (ok : Sto → Bool) (p : Pat) (t : MT) (it1 : MI) (p1 : Pat) (t1 : MT) (e : ME) (vs1 : List Nat) (ρ : En) : List D → List D → M (List D)
  | [], acc => fun st => if ok st = true then .ok acc st else .stuck
  | x :: r, acc => fun st => if ok st = true then
      (bnd (ofE (bindP p x ρ)) fun ρ1 => bnd (nox (t ρ1)) fun k => if k = true then bnd (nox (it1 ρ1)) fun J => bnd (lcL J.ok p1 t1 e (wipeE ρ1 vs1) J.xs acc) fun acc' => lcL2 ok p t it1 p1 t1 e vs1 ρ r acc' else lcL2 ok p t it1 p1 t1 e vs1 ρ r acc) st
    else .stuck
def lcE2 (it : MI) (p : Pat) (t : MT) (it1 : MI) (p1 : Pat) (t1 : MT) (e : ME) (vs vs1 : List Nat) : ME := fun ρ => bnd (it ρ) fun I => bnd (lcL2 I.ok p t it1 p1 t1 e vs1 (wipeE ρ vs) I.xs []) alloc
section
variable {X : Cx} {c : Ct} {ex : Wh} {it it1 : MI} {p p1 : Pat} {t t1 : MT} {e : ME} {vs vs1 : List Nat} {H : Hp}
theorem lcL2_ok {ok : Sto → Bool} {ρ : En} {xs acc : List D} {st : Sto} {bs : List Addr} {k : List D → Sto → List Addr → Hp → Prop} (q : Post c ex (lcL2 ok p t it1 p1 t1 e vs1 ρ xs acc st) bs H k) : ok st = true := by
  cases xs with
  | nil =>
    unfold lcL2 at q
    by_cases h : ok st = true
    · exact h
    · rw [if_neg h] at q; exact q.elim
  | cons x r =>
    unfold lcL2 at q
    by_cases h : ok st = true
    · exact h
    · rw [if_neg h] at q; exact q.elim
theorem tE_lc2 (hs : ∀ i ∈ slots p, i ∈ vs) (hs1 : ∀ i ∈ slots p1, i ∈ vs1) {σ : L2.St} {Q : VK} (q : tE c ex (lcE2 it p t it1 p1 t1 e vs vs1) σ H Q) : tLc2 (tI c ex it) (gP c.K p) (tT c exF t) (tI c exF it1) (gP c.K p1) (tT c exF t1) (tE c exF e) vs vs1 σ H Q := by
  obtain ⟨ρ, st, bs, rl, re, q⟩ := q
  refine ⟨ρ, st, bs, rl, re, q.bnd.imp fun I st1 bs1 H1 e1 rl1 q1 J wk => ?_⟩
  intro D hD
  have reW := wipe_RE (re.ext e1) vs
  refine loop_it wk.1 (fun i H => ∃ st bs acc vacc, Ext bs1 H1 bs (hid H D) ∧ Rel c bs (hid H D) st ∧ D ∉ bs ∧ H D = some (.lst vacc) ∧ RDs c bs (hid H D) vacc acc ∧ Post c ex (lcL2 I.ok p t it1 p1 t1 e vs1 (wipeE ρ vs) (I.xs.drop i) acc st) bs (hid H D) fun a st1 bs1 H1 => Post c ex (alloc a st1) bs1 H1 fun d _ bs' H' => ∀ v, RD c bs' H' v d → Q v H')
    ?_ (fun i H hi ⟨st, bs, acc, vacc, ee, rl, nb, hv, rr, q⟩ => ?_) (fun i v H H' hi ⟨st, bs, acc, vacc, ee, rl, nb, hv, rr, q⟩ y => ?_) (fun H ⟨st, bs, acc, vacc, ee, rl, nb, hv, rr, q⟩ => ?_)
  · have z : hid (upd H1 D (.lst [])) D = H1 := by rw [hid_upd, hid_none hD]
    refine ⟨st1, bs1, [], [], by rw [z]; exact Ext.refl, by rw [z]; exact rl1, fun h => ?_, upd_same, .nil, by rw [z]; exact q1.bnd⟩
    obtain ⟨o, ho, _⟩ := rl1.here h
    rw [hD] at ho; cases ho
  · exact ⟨st, bs, ee.trans (hid_ext nb), rel_show rl nb, lcL2_ok q⟩
  · have e3 := hid_ext (H := H) nb
    have rlH : Rel c bs H st := rel_show rl nb
    have hok := lcL2_ok q
    obtain ⟨e6, rl6, d, hd, rd6⟩ := y st bs (ee.trans e3) rlH hok
    rw [List.getElem?_eq_getElem hi] at hd
    cases hd
    have e5 : I.xs.drop i = I.xs[i] :: I.xs.drop (i + 1) := List.drop_eq_getElem_cons hi
    rw [e5] at q
    unfold lcL2 at q
    rw [if_pos hok] at q
    cases e8 : bindP p I.xs[i] (wipeE ρ vs) with
    | none => rw [e8] at q; exact q.bnd.elim
    | some ρ1 =>
      rw [e8] at q
      obtain ⟨e6', hv6, nb6⟩ := e6.hid hv nb
      have q3 := Post.now q.bnd rl
      have q4 := (q3.bnd.far e6').nox
      refine bindP_ok p _ v _ ρ1 (wipe σ vs) _ rd6 (((reW.ext ee).ext e3).ext e6) e8 fun σ2 re2 w2 => ⟨?_, ?_⟩
      · rw [w2 vs hs]
        exact wipe_wipe σ vs
      · refine ⟨ρ1, st, bs, rl6, re2, (q4.hide hv6 nb6).imp fun k st7 bs7 H7 e7 rl7 q7 => ?_⟩
        obtain ⟨e7', hv7, nb7⟩ := e7.hid hv6 nb6
        have ee7 := (ee.trans e6').trans e7'
        have rr7 := (rr.ext e6').ext e7'
        cases k with
        | false => exact iteF ⟨st7, bs7, acc, vacc, ee7, rl7.hid hv7 nb7, nb7, hv7, rr7, q7⟩
        | true =>
          refine iteT ?_
          have q8 := q7.bnd.nox
          refine ⟨ρ1, st7, bs7, rl7, re2.ext e7, (q8.hide hv7 nb7).imp fun J1 st9 bs9 H9 e9 rl9 q9 J1' wk1 => ?_⟩
          obtain ⟨e9', hv9, nb9⟩ := e9.hid hv7 nb7
          have wkh := wk1.2 D vacc hv9 nb9
          have reW1 : RE c bs9 (hid H9 D) (wipeE ρ1 vs1) (wipe σ2 vs1) := (wipe_RE ((re2.ext e7).ext e9) vs1).mono (hid_pre hv9)
          refine loop_it wkh (fun j H => ∃ st bs acc vacc, Ext bs9 (hid H9 D) bs (hid H D) ∧ Rel c bs (hid H D) st ∧ D ∉ bs ∧ H D = some (.lst vacc) ∧ RDs c bs (hid H D) vacc acc ∧ Post c ex (lcL J1.ok p1 t1 e (wipeE ρ1 vs1) (J1.xs.drop j) acc st) bs (hid H D) fun a st1 bs1 H1 => Post c ex (lcL2 I.ok p t it1 p1 t1 e vs1 (wipeE ρ vs) (I.xs.drop (i + 1)) a st1) bs1 H1 fun a st1 bs1 H1 => Post c ex (alloc a st1) bs1 H1 fun d _ bs' H' => ∀ v, RD c bs' H' v d → Q v H')
            ⟨st9, bs9, acc, vacc, Ext.refl, rl9.hid hv9 nb9, nb9, hv9, rr7.ext e9', q9.bnd⟩ (fun j H hj ⟨st, bs, acc, vacc, ee, rl, nb, hv, rr, q⟩ => ⟨st, bs, ee.trans (hid_ext nb), rel_show rl nb, lcL_ok q⟩) (fun j v H H' hj ⟨st, bs, acc, vacc, ee, rl, nb, hv, rr, q⟩ y => ?_) (fun H ⟨st, bs, acc, vacc, ee, rl, nb, hv, rr, q⟩ => ?_)
          · have e3 := hid_ext (H := H) nb
            have rlH : Rel c bs H st := rel_show rl nb
            have hok := lcL_ok q
            obtain ⟨e6, rl6, d, hd, rd6⟩ := y st bs (ee.trans e3) rlH hok
            rw [List.getElem?_eq_getElem hj] at hd
            cases hd
            have e5 : J1.xs.drop j = J1.xs[j] :: J1.xs.drop (j + 1) := List.drop_eq_getElem_cons hj
            rw [e5] at q
            unfold lcL at q
            rw [if_pos hok] at q
            cases e8 : bindP p1 J1.xs[j] (wipeE ρ1 vs1) with
            | none => rw [e8] at q; exact q.bnd.elim
            | some ρ2 =>
              rw [e8] at q
              obtain ⟨e6', hv6, nb6⟩ := e6.hid hv nb
              have q3 := Post.now q.bnd rl
              have q4 := (q3.bnd.far e6').nox
              refine bindP_ok p1 _ v _ ρ2 (wipe σ2 vs1) _ rd6 (((reW1.ext ee).ext e3).ext e6) e8 fun σ3 re3 w3 => ⟨?_, ?_⟩
              · rw [w3 vs1 hs1]
                exact wipe_wipe σ2 vs1
              · refine ⟨ρ2, st, bs, rl6, re3, (q4.hide hv6 nb6).imp fun k st7 bs7 H7 e7 rl7 q7 => ?_⟩
                obtain ⟨e7', hv7, nb7⟩ := e7.hid hv6 nb6
                have ee7 := (ee.trans e6').trans e7'
                have rr7 := (rr.ext e6').ext e7'
                cases k with
                | false => exact iteF ⟨st7, bs7, acc, vacc, ee7, rl7.hid hv7 nb7, nb7, hv7, rr7, q7⟩
                | true =>
                  refine iteT ?_
                  have q8 := q7.bnd.nox
                  refine ⟨ρ2, st7, bs7, rl7, re3.ext e7, (q8.hide hv7 nb7).imp fun y st9 bs9 H9 e9 rl9 q9 v9 rv9 => ?_⟩
                  obtain ⟨e9', hv9, nb9⟩ := e9.hid hv7 nb7
                  obtain ⟨hz, q10⟩ := Post.iff (m := lcL _ _ _ _ _ _ _) q9
                  have rr9 := rr7.ext e9'
                  refine ⟨vacc, hv9, by rw [rr9.length]; exact hz, ?_⟩
                  have z : hid (upd H9 D (.lst (vacc ++ [v9]))) D = hid H9 D := hid_upd
                  exact ⟨st9, bs9, acc ++ [y], vacc ++ [v9], by rw [z]; exact ee7.trans e9', by rw [z]; exact rl9.hid hv9 nb9, nb9, upd_same, by rw [z]; exact rr9.append (.cons (rv9.mono (hid_pre hv9)) .nil), by rw [z]; exact q10⟩
          · rw [List.drop_length] at q
            have hok := lcL_ok q
            unfold lcL at q
            rw [if_pos hok] at q
            exact ⟨st, bs, acc, vacc, (ee7.trans e9').trans ee, rl, nb, hv, rr, Post.of q rl⟩
  · rw [List.drop_length] at q
    have hok := lcL2_ok q
    unfold lcL2 at q
    rw [if_pos hok] at q
    have q3 := Post.of q rl
    obtain ⟨k, r⟩ := post_alloc q3 rl hid_same rr
    rw [upd_hid hv] at k r
    exact k _ r
theorem md_lc2 {elt tg iter tg1 iter1 : Expr} {ifs ifs1 : List Expr} {scope : Scope} {own : List (Str × Nat)} {pos : Pos} (hc : X.calm = true) (hN : X.N.Nodup) (hi : PI X tg iter (tI c ex it)) (ok : BlkOk X.N X.env.scope scope own)
    (hg : ∀ (s : Shared) (H : Hp) (C : Addr) (cl : List (Str × Addr)) (fp : List Addr), PG (X.blk s H scope (compEnvC scope cl C X.env) fp) tg (gP c.K p)) (ht : ∀ (s : Shared) (H : Hp) (C : Addr) (cl : List (Str × Addr)) (fp : List Addr), PTs (X.blk s H scope (compEnvC scope cl C X.env) fp) ifs (tT c exF t))
    (hi1 : ∀ (s : Shared) (H : Hp) (C : Addr) (cl : List (Str × Addr)) (fp : List Addr), PI (X.blk s H scope (compEnvC scope cl C X.env) fp) tg1 iter1 (tI c exF it1))
    (hg1 : ∀ (s : Shared) (H : Hp) (C : Addr) (cl : List (Str × Addr)) (fp : List Addr), PG (X.blk s H scope (compEnvC scope cl C X.env) fp) tg1 (gP c.K p1)) (ht1 : ∀ (s : Shared) (H : Hp) (C : Addr) (cl : List (Str × Addr)) (fp : List Addr), PTs (X.blk s H scope (compEnvC scope cl C X.env) fp) ifs1 (tT c exF t1))
    (he : ∀ (s : Shared) (H : Hp) (C : Addr) (cl : List (Str × Addr)) (fp : List Addr), PE (X.blk s H scope (compEnvC scope cl C X.env) fp) elt (tE c exF e)) (hs : ∀ x, foldedSetIterable iter X.env x = pure x := by intro _; rfl) (hs1 : ∀ env x, foldedSetIterable iter1 env x = pure x := by intro _ _; rfl) (hsl : ∀ i ∈ slots p, i ∈ vs := by decide) (hsl1 : ∀ i ∈ slots p1, i ∈ vs1 := by decide) (hvs : own.map (·.2) = vs := by rfl) (hv1 : ∀ i ∈ vs1, i ∈ vs := by decide) :
    PE X (.ListComp elt [⟨tg, iter, ifs, 0⟩, ⟨tg1, iter1, ifs1, 0⟩] scope pos) (tE c ex (lcE2 it p t it1 p1 t1 e vs vs1)) :=
  PE_imp (pe_lc2 (vs1 := vs1) hc hN hi ok (by rw [hvs]; exact hv1) hg ht hi1 hg1 ht1 he hs hs1) fun σ H Q q => by rw [hvs]; exact tE_lc2 hsl hsl1 q
theorem ms_setLc2 {i : Nat} {y : Str} {py : Pos} {elt tg iter tg1 iter1 : Expr} {ifs ifs1 : List Expr} {scope : Scope} {own : List (Str × Nat)} {pos spos : Pos} (hc : X.calm = true) (hN : X.N.Nodup) (hi : PI X tg iter (tI c ex it)) (ok : BlkOk X.N X.env.scope scope own)
    (hg : ∀ (s : Shared) (H : Hp) (C : Addr) (cl : List (Str × Addr)) (fp : List Addr), PG (X.blk s H scope (compEnvC scope cl C X.env) fp) tg (gP c.K p)) (ht : ∀ (s : Shared) (H : Hp) (C : Addr) (cl : List (Str × Addr)) (fp : List Addr), PTs (X.blk s H scope (compEnvC scope cl C X.env) fp) ifs (tT c exF t))
    (hi1 : ∀ (s : Shared) (H : Hp) (C : Addr) (cl : List (Str × Addr)) (fp : List Addr), PI (X.blk s H scope (compEnvC scope cl C X.env) fp) tg1 iter1 (tI c exF it1))
    (hg1 : ∀ (s : Shared) (H : Hp) (C : Addr) (cl : List (Str × Addr)) (fp : List Addr), PG (X.blk s H scope (compEnvC scope cl C X.env) fp) tg1 (gP c.K p1)) (ht1 : ∀ (s : Shared) (H : Hp) (C : Addr) (cl : List (Str × Addr)) (fp : List Addr), PTs (X.blk s H scope (compEnvC scope cl C X.env) fp) ifs1 (tT c exF t1))
    (he : ∀ (s : Shared) (H : Hp) (C : Addr) (cl : List (Str × Addr)) (fp : List Addr), PE (X.blk s H scope (compEnvC scope cl C X.env) fp) elt (tE c exF e))
    (hsw : swapsWith (.ListComp elt [⟨tg, iter, ifs, 0⟩, ⟨tg1, iter1, ifs1, 0⟩] scope pos) (some (.Name y py)) spos.line X.env = pure true) (hy : X.N[i]? = some y := by rfl) (hyl : X.env.scope.names.lookup y = some .local := by rfl) (hs : ∀ x, foldedSetIterable iter X.env x = pure x := by intro _; rfl) (hs1 : ∀ env x, foldedSetIterable iter1 env x = pure x := by intro _ _; rfl) (hsl : ∀ i ∈ slots p, i ∈ vs := by decide) (hsl1 : ∀ i ∈ slots p1, i ∈ vs1 := by decide) (hvs : own.map (·.2) = vs := by rfl) (hv1 : ∀ i ∈ vs1, i ∈ vs := by decide) :
    PS X (.Assign [.Name y py] (.ListComp elt [⟨tg, iter, ifs, 0⟩, ⟨tg1, iter1, ifs1, 0⟩] scope pos) spos) (tS c ex (setS (.nm i) (lcE2 it p t it1 p1 t1 e vs vs1))) :=
  PS_imp (ps_setLc2 (vs1 := vs1) hc hN hy hyl hsw hi ok (by rw [hvs]; exact hv1) hg ht hi1 hg1 ht1 he hs hs1) fun E σ H q => by
    have q := tS_set q
    unfold gP at q
    rw [hvs]
    exact tE_lc2 hsl hsl1 q
end
end Pm
end
section
set_option Elab.async false
set_option linter.all false
set_option maxRecDepth 100000
set_option maxHeartbeats 4000000
namespace Pm
open PySem PySem.Spec PyProof.Rows L2
/-! ### sorted(set(a list of ints)) -/
section
variable {P : Program} {w : World} {A : Around} {E : Value → Shared → Prop} {s : Shared}
/-- a set of a list of ints: its members, in the order that the set keeps -/
theorem set_of_list {l : Addr} {items : Array Value} {ns : List Int} {Q : Value → Shared → Prop} (hh : A.handled = none) (hl : s.heap.IsList l items) (hit : IntsAre items.toList ns) (hb : ns.length + 1 < scanBound)
    (h : ∀ (h' : Heap) (tk c : Nat), SetR w h' s.heap.objs.size (fun j => decide (j ∈ ns)) c → c ≤ ns.length → (∀ b o, s.heap.get? b = some o → h'.get? b = some o) → Q (.ref s.heap.objs.size) { s with heap := h', toks := tk }) :
    wpAny (model P w) A (call (.type "set") [.ref l]) Q E s := by
  have hisz : items.size = ns.length := by rw [← Array.length_toList]; exact hit.length
  obtain ⟨c, tl, hmro⟩ := F.called_set.mro
  have hmade := F.called_set.made
  have hsub := F.called_set.sub
  have h1 := F.called_set.notType
  have h2 := F.called_set.canCreate
  have hct := F.typeCall_set_1 (.ref l)
  generalize hso : ({ cls := .type "set", dict := none, data := .set #[] 0 (.fresh 0 0 (!w.params.followText "set-order")) } : Obj) = so
  refine wpAny_call (codeAny_of_tree ?_)
  show wpAny _ _ (callAny (.type "set") _) _ _ _
  refine wpAny_pure ⟨Code.quiet_builtin _ (by decide +kernel), codeAny_builtin F.entry_type_call ?_⟩
  rw [Around.under_plain (weight_type_call_type "set" [.ref l] []) rfl]
  repeat (any_goals (first | assumption | wp_step))
  refine codeAny_mono (code_set_led1 (.ref l) (E := E) (Q₁ := fun obj s₁ => obj = .ref s.heap.objs.size ∧ s₁ = { s with heap := s.heap.push so }) ⟨rfl, by rw [hso]⟩) fun r s₁ hr => ?_
  match r, hr with
  | .error e, hr => exact hr
  | .ok (.ret obj), hr =>
    obtain ⟨rfl, rfl⟩ := hr
    have ocl : so.cls = .type "set" := by rw [← hso]
    have hS : (s.heap.push so).get? s.heap.objs.size = some so := Heap.get?_push_size _ (by rw [← hso]; rfl)
    have hT : Shared.TypeIs { s with heap := s.heap.push so } (.ref s.heap.objs.size) "set" := ⟨_, hS, ocl⟩
    have hli := F.called_set.init.lookup
    have hbi := F.called_set.init.bind (.ref s.heap.objs.size)
    repeat (any_goals (first | assumption | wp_step))
    refine codeAny_mono (codeAny_call_builtin (R := wants (fun r s₂ => r = .none ∧ ∃ h' tk c, s₂ = { s with heap := h', toks := tk } ∧ SetR w h' s.heap.objs.size (fun j => decide (j ∈ ns)) c ∧ c ≤ ns.length ∧ (∀ b o, s.heap.get? b = some o → h'.get? b = some o)) E)
      F.called_set.init.plain F.entry_set_init (check_set_init_1 hT ?_)) fun r₂ s₂ hr₂ => ?_
    · have hl1 : (s.heap.push so).IsList l items := by
        obtain ⟨o, e, c, n, d⟩ := hl
        exact ⟨o, Heap.get?_push_of_some _ e, c, n, d⟩
      have hls : l < s.heap.objs.size := by
        obtain ⟨o, e, _⟩ := hl
        exact Heap.lt_size e
      have z : (s.heap.push so).objs.size = s.heap.objs.size + 1 := Heap.size_push ..
      obtain ⟨⟨ocls, odict, odata, oslots⟩, hol, hcl, nl, hdl⟩ := id hl1
      simp only at hcl hdl
      subst hcl hdl
      have k1 := F.sub_list_set
      have k2 := F.sub_list_frozenset
      have k3 : (Value.type "list" == Value.type "dict") = false := by decide
      subst hso
      unfold Builtin.«set.__init__» noKeywords Builtin.Frozenset.updateFrom
      generalize hPI : pyIter = PI
      wp_walk
      subst hPI
      refine wpAny_pyIter_list hl1 ?_
      refine wpAny_bind (wpAny_runValue ?_)
      refine set_update_ints (ns := ns) ((Walks.list (show A.in1.in1.in1.handled = none by simp [hh]) _ l (by rw [z]; exact Nat.ne_of_lt (Nat.lt_succ_of_lt hls)) items).toS) s.heap.objs.size (by rw [z]; simp only [List.mem_cons, List.not_mem_nil, or_false, not_or]; exact ⟨Nat.ne_of_lt (Nat.lt_succ_self _), Nat.ne_of_gt hls⟩) hisz hb (fun i v hv => ?_) (items.size - 0) 0 _ (by omega) (Nat.zero_le _)
        ⟨⟨_, Heap.get?_push_size _ rfl, rfl, rfl⟩, hl1.push _⟩ ⟨0, Nat.le_refl 0, setR_new_at (Heap.get?_push_of_some _ hS)⟩ fun s' c' hm hc' hS' => ?_
      · have hi : i < ns.length := by rw [← hisz]; exact (Array.getElem?_eq_some_iff.mp hv).1
        obtain ⟨t, e⟩ := IntsAre.int_at hit i v (by rw [Array.getElem?_toList]; exact hv)
        refine ⟨ns[i], t, List.getElem?_eq_getElem hi, ?_⟩
        rw [e, List.getD_eq_getElem?_getD, List.getElem?_eq_getElem hi] <;> rfl
      · obtain ⟨h', g', d', tk', os'⟩ := s'
        cases (show g' = s.gens from hm.gens)
        cases (show d' = s.drawn from hm.drawn)
        cases (show os' = s.os from hm.os)
        show wpAny _ _ _ _ _ _
        refine wpAny_pure ?_
        show wpAny _ _ (PySem.ret Value.none) _ _ _
        refine wpAny_pure ⟨rfl, h', tk', c', rfl, hS', by rw [← hisz]; exact hc', fun b o e => ?_⟩
        have hb0 : b < s.heap.objs.size := Heap.lt_size e
        exact hm.heap b o (by rw [z]; simp only [List.mem_cons, List.not_mem_nil, or_false, not_or]; exact ⟨Nat.ne_of_lt hb0, Nat.ne_of_lt (Nat.lt_succ_of_lt hb0)⟩) (Heap.get?_push_of_some _ (Heap.get?_push_of_some _ e))
    · match r₂, hr₂ with
      | .error e, hr₂ => exact hr₂
      | .ok (.ret r), hr₂ =>
        obtain ⟨rfl, h', tk, c, rfl, hS', hc', hk'⟩ := hr₂
        repeat (any_goals (first | assumption | wp_step))
        exact h _ _ _ hS' hc' hk'
end
end Pm
end
section
set_option Elab.async false
set_option linter.all false
set_option maxRecDepth 100000
set_option maxHeartbeats 4000000
namespace Pm
open PySem PySem.Spec PyProof.Rows L2
/-! ### sorted(set(xs)), fewer than 63 ints -/
def uniq : List Int → List Int
  | [] => []
  | n :: r => if n ∈ r then uniq r else n :: uniq r
theorem mem_uniq {k : Int} : ∀ {l : List Int}, k ∈ uniq l ↔ k ∈ l
  | [] => Iff.rfl
  | n :: r => by
    unfold uniq
    split
    · rename_i h
      rw [mem_uniq, List.mem_cons]
      exact ⟨.inr, fun z => z.elim (fun e => e ▸ h) id⟩
    · rw [List.mem_cons, List.mem_cons, mem_uniq]
theorem nodup_uniq : ∀ l : List Int, (uniq l).Nodup
  | [] => List.nodup_nil
  | n :: r => by
    unfold uniq
    split
    · exact nodup_uniq r
    · rename_i h
      exact List.nodup_cons.mpr ⟨fun z => h (mem_uniq.mp z), nodup_uniq r⟩
def dedS (ns : List Int) : List Int := isort (uniq ns)
theorem dedS_uniq {ns ns' : List Int} (hs : ns'.Pairwise (· < ·)) (hm : ∀ k, k ∈ ns' ↔ k ∈ ns) : ns' = dedS ns := by
  have h1 : ns'.Nodup := hs.imp fun h => by omega
  refine PySem.W.ksm_same (List.Perm.trans ?_ (isort_perm _).symm) (hs.imp fun h => by omega) (isort_sorted _)
  exact (List.perm_ext_iff_of_nodup h1 (nodup_uniq ns)).mpr fun k => by rw [hm, mem_uniq]
def tSortSet (K : PySem.W.Frag) (ta : TE) : TE := fun σ H Q => ta σ H fun x H1 => ∃ (l : Addr) (ns : List Int), x = .ref l ∧ SqL K H1 l (ns.map V.int) ∧ ns.length < 63 ∧
  ∀ (ns' : List Int) (p : Addr), ns'.Pairwise (· < ·) → (∀ k, k ∈ ns' ↔ k ∈ ns) → H1 p = none → Q (.ref p) (upd H1 p (.lst (ns'.map V.int)))
theorem pe_sortSet {X : Cx} {a : Expr} {ta : TE} {p p2 q pos : Pos} (hc : X.calm = true) (hg : Gl X "sorted") (hm : X.mg "sorted" = none) (hg2 : Gl X "set") (hm2 : X.mg "set" = none) (ha : PE X a ta)
    (na : starEach [a] X.env = (false, eval a X.env) :: starEach [] X.env := by rfl) : PE X (.Call (.Name "sorted" p) [.Call (.Name "set" p2) [a] [] q] [] pos) (tSortSet X.K ta) := by
  refine ⟨fun pins s σ H Q I h => ?_⟩
  refine Call_ (ld_blt I hg hm boot_sorted ?_)
  refine PyProof.Rows.callWith_builtin1 (PyProof.Rows.args_cons ?_ rfl) rfl rfl
  refine Call_ (ld_blt I hg2 hm2 boot_set ?_)
  refine PyProof.Rows.callWith_type1 (PyProof.Rows.args_cons (thn (ha.run pins s σ H _ I h) fun v s1 ⟨x, H1, I1, r1, q1⟩ => PyProof.Rows.args_nil ?_) na) na rfl
  obtain ⟨l, ns, rfl, hq, hl, q1⟩ := q1
  cases r1
  obtain ⟨its, r, pl, hz⟩ := I1.list hq
  refine set_of_list (ns := ns) (I1.ok.hd hc) pl.isList (by simpa using r.ints) (by unfold scanBound; omega) fun h' tk c R hcn hk => ?_
  refine PyProof.Rows.args_nil ?_
  refine sorted_set (s := { s1 with heap := h', toks := tk }) R (I1.ok.hd hc) (by omega) fun s' p out c ns' k g o hp he hi hs hmm hlen => ?_
  have kall : ∀ b u, s1.heap.get? b = some u → s'.heap.get? b = some u := fun b u e => k b u (hk b u e)
  have hp1 : s1.heap.objs.size ≤ p := Nat.le_trans (Nat.le_of_lt R.lt) hp
  have hz' : (ns'.map V.int).length ≤ sizeLine := by rw [List.length_map, hlen, sizeLine_eq]; omega
  have hn : H1 p = none := I1.hok.fresh hp1
  have J : Inv X pins σ (upd H1 p (.lst (ns'.map V.int))) s' :=
    I1.call' (ch := []) o (Un.laid kall hp1 hn) (I1.hok.laid kall hp1 ⟨hz', out.toList, c, vals_of_ints hi, he⟩) (by rw [g]; exact I1.bare) (fun _ z => nomatch z)
  exact ⟨.ref p, _, J, rfl, q1 ns' p hs (fun j => by rw [hmm j, decide_eq_true_eq]) hn⟩
def oSortSet : D → M D
  | .loc l => bnd (lst l) fun xs => match intsOf xs with
    | some ns => if ns.length < 63 then alloc ((dedS ns).map .int) else no
    | none => no
  | _ => no
theorem md_sortSet {X : Cx} {c : Ct} {ex : Wh} {a : Expr} {f : ME} {p p2 q pos : Pos} (hK : X.K = c.K) (hc : X.calm = true) (hg : Gl X "sorted") (hm : X.mg "sorted" = none) (hg2 : Gl X "set") (hm2 : X.mg "set" = none) (ha : PE X a (tE c ex f))
    (na : starEach [a] X.env = (false, eval a X.env) :: starEach [] X.env := by rfl) : PE X (.Call (.Name "sorted" p) [.Call (.Name "set" p2) [a] [] q] [] pos) (tE c ex (una f oSortSet)) :=
  PE_imp (pe_sortSet hc hg hm hg2 hm2 ha na) fun σ H Q q => by
    obtain ⟨ρ, st, bs, rl, re, p⟩ := q
    refine ⟨ρ, st, bs, rl, re, p.bnd.imp fun d st1 bs1 H1 e1 rl1 p1 v rv => ?_⟩
    rw [hK]
    cases rv with
    | loc h =>
      obtain ⟨a, vs, xs, e, hb, hl, hv, r, p2⟩ := post_lst (k := fun _ _ _ _ => True) p1 rl1 (RD.loc h)
      cases e
      cases e1 : intsOf xs with
      | some ns =>
        simp only [e1] at p2
        obtain ⟨hk, p2⟩ := Post.iff (m := alloc _) p2
        rw [intsOf_map e1] at r
        rw [r.toInts] at hv
        refine ⟨_, _, rfl, SqL.of hv, hk, fun ns' q hs hm hq => ?_⟩
        have e2 : ns' = dedS ns := dedS_uniq hs hm
        subst e2
        obtain ⟨k, r⟩ := post_alloc p2 rl1 hq (RDs.ints _)
        exact k _ r
      | none =>
        simp only [e1] at p2
        exact p2.elim
    | _ => exact p1.elim
end Pm
end
section
set_option Elab.async false
set_option linter.all false
set_option maxRecDepth 100000
set_option maxHeartbeats 4000000
namespace Pm
open PySem PySem.Spec PyProof.Rows L2
/-! ### comprehensions of any number of fors: a clause by what its turn holds inside -/
def turnB (tg iter : Expr) (ifs : List Expr) (e : Expr) (k : Nat) (it acc : Value) (env : Env) (inner : Sem PySem.Fin → Sem PySem.Fin) : Sem PySem.Fin := do
  standAt iter.pos
  match ← pyNext it with
  | none => pure (.done .next)
  | some v =>
    letOwnedTupleGo tg it v
    assign tg env v
    let mut ok := true
    for c in ifs do
      if ok then ok ← isTrue c env (eval c env)
    if ok then inner (again (.compLoop e k it acc env)) else again (.compLoop e k it acc env)
def inC (iter e : Expr) (k : Nat) (acc : Value) (env : Env) (nxt : Sem PySem.Fin) : Sem PySem.Fin := do
  let x ← eval iter env
  standAt iter.pos
  let x ← foldedSetIterable iter env x
  let _ ← runOwn (.compStart e k (← holding [x] (pyIter x)) acc env) env
  nxt
def inA0 (elt : Expr) (acc : Value) (env : Env) : Sem Unit := do
  let _ ← call (.builtin "list.append") [acc, ← eval elt env]
def inA (elt : Expr) (acc : Value) (env : Env) (nxt : Sem PySem.Fin) : Sem PySem.Fin := do
  inA0 elt acc env
  nxt
/-- what the inside of a turn does -/
def InOk (P : Program) (w : World) (A : Around) (inner : Sem PySem.Fin → Sem PySem.Fin) (IN : (Shared → Prop) → Shared → Prop) : Prop :=
  ∀ (Q : Shared → Prop) (nxt : Sem PySem.Fin) (Q1 : PySem.Fin → Shared → Prop) (E : Value → Shared → Prop) (s : Shared), IN Q s → (∀ s', Q s' → wpAny (model P w) A nxt Q1 E s') → wpAny (model P w) A (inner nxt) Q1 E s
abbrev e3 (elt t0 i0 : Expr) (ifs0 : List Expr) (t1 i1 : Expr) (ifs1 : List Expr) (t2 i2 : Expr) (ifs2 : List Expr) (scope : Scope) (pos : Pos) : Expr := .ListComp elt [⟨t0, i0, ifs0, 0⟩, ⟨t1, i1, ifs1, 0⟩, ⟨t2, i2, ifs2, 0⟩] scope pos
section
variable {elt t0 i0 t1 i1 t2 i2 : Expr} {ifs0 ifs1 ifs2 : List Expr} {scope : Scope} {pos : Pos} {it acc : Value} {env : Env}
theorem turn3_0 : compTurn (e3 elt t0 i0 ifs0 t1 i1 ifs1 t2 i2 ifs2 scope pos) 0 it acc env = turnB t0 i0 ifs0 (e3 elt t0 i0 ifs0 t1 i1 ifs1 t2 i2 ifs2 scope pos) 0 it acc env (inC i1 (e3 elt t0 i0 ifs0 t1 i1 ifs1 t2 i2 ifs2 scope pos) 1 acc env) := by rfl
theorem turn3_1 : compTurn (e3 elt t0 i0 ifs0 t1 i1 ifs1 t2 i2 ifs2 scope pos) 1 it acc env = turnB t1 i1 ifs1 (e3 elt t0 i0 ifs0 t1 i1 ifs1 t2 i2 ifs2 scope pos) 1 it acc env (inC i2 (e3 elt t0 i0 ifs0 t1 i1 ifs1 t2 i2 ifs2 scope pos) 2 acc env) := by rfl
theorem turn3_2 : compTurn (e3 elt t0 i0 ifs0 t1 i1 ifs1 t2 i2 ifs2 scope pos) 2 it acc env = turnB t2 i2 ifs2 (e3 elt t0 i0 ifs0 t1 i1 ifs1 t2 i2 ifs2 scope pos) 2 it acc env (inA elt acc env) := by rfl
end
section
variable {prog : Program} {w : World} {A : Around} {R : Result → Shared → Prop} {s : Shared} {tg iter elt : Expr} {ifs : List Expr} {gens : List Comprehension} {scope : Scope} {pos : Pos} {k : Nat} {it acc : Value} {env : Env} {inner : Sem PySem.Fin → Sem PySem.Fin} {IN : (Shared → Prop) → Shared → Prop}
theorem loopB (hT : compTurn (.ListComp elt gens scope pos) k it acc env = turnB tg iter ifs (.ListComp elt gens scope pos) k it acc env inner) (hin : InOk prog w A inner IN) (I : Nat → Shared → Prop)
    (turn : ∀ n s, I n s → wpAny (model prog w) A (pyNext it) (fun r s₁ => match r with
      | none => R (.ok .next) s₁
      | some v => wpAny (model prog w) A (letOwnedTupleGo tg it v) (fun _ s₁' => wpAny (model prog w) A (assign tg env v) (fun _ s₂ =>
          wpAny (model prog w) A (forIn ifs true fun c r => if r = true then do let ok ← isTrue c env (eval c env); pure (ForInStep.yield ok) else pure (ForInStep.yield r)) (fun ok s₃ =>
            if ok = true then IN (fun s₄ => ∃ m, m < n ∧ I m s₄) s₃ else ∃ m, m < n ∧ I m s₃) (fun _ _ => False) s₂) (fun _ _ => False) s₁') (fun _ _ => False) s₁) (fun _ _ => False) s)
    (n : Nat) (h : I n s) : codeAny (model prog w) A (.compLoop (.ListComp elt gens scope pos) k it acc env) R s := by
  refine codeAny_loop rfl I (fun n s hI => ?_) n h
  show wpAny _ A ((compTurn (.ListComp elt gens scope pos) k it acc env).onRaise (fun x => do noteFrame x env; theTreesLotGoes x)) _ _ s
  refine wpAny_noted ?_
  rw [hT]
  unfold turnB
  refine wpAny_bind (wpAny_standAt (wpAny_bind (thnF (turn n s hI) fun r s₁ h₁ => ?_)))
  cases r with
  | none => exact wpAny_pure h₁
  | some v =>
    refine wpAny_bind (thnF h₁ fun _ s₁' h₁' => ?_)
    refine wpAny_bind (thnF h₁' fun _ s₂ h₂ => wpAny_bind (thnF h₂ fun ok s₃ h₃ => ?_))
    cases ok with
    | false => exact wpAny_pure ⟨rfl, h₃⟩
    | true => exact hin _ _ _ _ _ h₃ fun s₄ h₄ => wpAny_pure ⟨rfl, h₄⟩
theorem startB (hcl : (clausesOf (.ListComp elt gens scope pos))[k]? = some ⟨tg, iter, ifs, 0⟩) (h0 : codeAny (model prog w) A (.compLoop (.ListComp elt gens scope pos) k it acc env) R s)
    (h : wpAny (model prog w) A (pyIter it) (fun it' s' => codeAny (model prog w) A (.compLoop (.ListComp elt gens scope pos) k it' acc env) R s') (fun _ _ => False) s) :
    codeAny (model prog w) A (.compStart (.ListComp elt gens scope pos) k it acc env) R s := by
  refine codeAny_of_tree ?_
  show wpAny _ _ ((compStart (.ListComp elt gens scope pos) k it acc env).onRaise (fun x => do noteFrame x env; standAt theWindowsPlace)) _ _ s
  refine wpAny_notedAt ?_
  unfold compStart
  rw [hcl]
  show wpAny _ _ (ask >>= _) _ _ s
  refine wpAny_bind (wpAny_askSetting (wpAny_ite ?_))
  split
  · first
      | exact wpAny_bind (wpAny_pure (wpAny_pure (And.intro rfl h0)))
      | exact wpAny_pure (And.intro rfl h0)
  · refine wpAny_bind (wpAny_rule ?_)
    show wpAny _ _ (standAt iter.pos >>= _) _ _ s
    exact wpAny_bind (wpAny_standAt (wpAny_bind (thnF h fun it' s' h' => wpAny_pure (And.intro rfl h'))))
theorem inC_ok (hs : ∀ x, foldedSetIterable iter env x = pure x) : InOk prog w A (inC iter (.ListComp elt gens scope pos) k acc env) fun Q s => wpAny (model prog w) A (eval iter env) (fun x s₄ => wpAny (model prog w) A (pyIter x) (fun it1 s₅ => codeAny (model prog w) A (.compStart (.ListComp elt gens scope pos) k it1 acc env) (fun r s' => match r with
      | .ok _ => Q s'
      | .error _ => False) s₅) (fun _ _ => False) s₄) (fun _ _ => False) s := fun Q nxt Q1 E s h hn => by
  unfold inC
  refine wpAny_bind (thnF h fun x s₄ h₄ => ?_)
  refine wpAny_bind (wpAny_standAt (wpAny_bind (wpAny_of_eq (hs x) (wpAny_bind (wpAny_holding (thnF h₄ fun it1 s₅ h₅ => ?_))))))
  refine wpAny_bind (wpAny_runOwn ?_)
  rw [Around.mark_none]
  refine codeAny_mono h₅ fun r s' hr => ?_
  cases r with
  | ok f =>
    first
      | exact hn _ hr
      | exact wpAny_pure (hn _ hr)
  | error e => exact hr.elim
theorem inA_ok : InOk prog w A (inA elt acc env) fun Q s => wpAny (model prog w) A (eval elt env) (fun x s₄ => wpAny (model prog w) A (call (.builtin "list.append") [acc, x]) (fun _ s₅ => Q s₅) (fun _ _ => False) s₄) (fun _ _ => False) s := fun Q nxt Q1 E s h hn => by
  unfold inA inA0
  refine wpAny_bind (wpAny_bind (thnF h fun x s₄ h₄ => wpAny_bind (thnF h₄ fun _ s₅ h₅ => ?_)))
  first
    | exact hn _ h₅
    | exact wpAny_pure (hn _ h₅)
end
end Pm
end
section
set_option Elab.async false
set_option linter.all false
set_option maxRecDepth 100000
set_option maxHeartbeats 4000000
namespace Pm
open PySem PySem.Spec PyProof.Rows L2
abbrev TB := L2.St → Hp → (Hp → Prop) → Prop
/-- the inside of a turn, by slots and heap -/
def InS (Y : Cx) (inner : Sem PySem.Fin → Sem PySem.Fin) (vs : List Nat) (tb : TB) : Prop := ∃ IN, InOk Y.prog Y.w Y.A inner IN ∧ (∀ Q Q' s, (∀ s, Q s → Q' s) → IN Q s → IN Q' s) ∧ ∀ (pins : List (Addr × Obj)) (s : Shared) (σ : L2.St) (H : Hp) (N : Hp → Prop), Inv Y pins σ H s → tb σ H N →
  IN (fun s' => ∃ σ' H', Inv Y pins σ' H' s' ∧ σ.length = σ'.length ∧ (∀ (j : Nat) v, (wipe σ vs)[j]? = some (some v) → σ'[j]? = some (some v)) ∧ N H') s
/-- the list gets one more -/
def tAp (te : TE) (D : Addr) : TB := fun σ H N => te σ H fun y H7 => ∃ acc, H7 D = some (.lst acc) ∧ acc.length < sizeLine ∧ N (upd H7 D (.lst (acc ++ [y])))
/-- a whole walk within a turn -/
def tCl (wi : TI) (g : TG) (tt : TT) (vs : List Nat) (tb : TB) : TB := fun σ H N => wi σ H fun J1 H4 => ∃ W1 : Nat → Nat → Hp → Prop, (∃ m, W1 0 m H4) ∧ ∀ j k H, W1 j k H →
  (J1.stop j H ∧ N H) ∨ (J1.go j H ∧ ∃ N1 : Hp → Prop, (∀ H', N1 H' → ∃ k', k' < k ∧ W1 (j + 1) k' H') ∧ ∀ x H', J1.yld j H x H' → g x (wipe σ vs) H' fun σ3 H5 => wipe σ3 vs = wipe σ vs ∧ tt σ3 H5 fun b H6 => if b = true then tb σ3 H6 N1 else N1 H6)
theorem wpF {Y : Cx} (hx : Y.xe = fun _ _ => False) {α : Type} {t : Sem α} {Q : α → Shared → Prop} {s : Shared} (h : wpAny (model Y.prog Y.w) Y.A t Q Y.xe s) : wpAny (model Y.prog Y.w) Y.A t Q (fun _ _ => False) s := wpAny_mono h (fun _ _ q => q) fun _ _ z => by rw [hx] at z; exact z
theorem inS_ap {Y : Cx} (hx : Y.xe = fun _ _ => False) {elt : Expr} {te : TE} {D : Addr} (pe : PE Y elt te) : InS Y (inA elt (.ref D) Y.env) [] (tAp te D) := by
  refine ⟨_, inA_ok, fun Q Q' s h q => thnF q fun x s4 q => thnF q fun _ s5 q => h _ q, fun pins s σ H N I q => ?_⟩
  refine thnF (wpF hx (pe.run _ s σ H _ I q)) fun z s1 ⟨yv, H1, I1, r1, acc, hD, hz, nx⟩ => ?_
  exact app_ok (X := Y) I1 hD hz r1 fun s2 I2 => ⟨σ, _, I2, rfl, fun j v e => e, nx⟩
theorem inS_clause {Y : Cx} (hc : Y.calm = true) (hx : Y.xe = fun _ _ => False) {elt tg iter : Expr} {ifs : List Expr} {gens : List Comprehension} {scope : Scope} {pos : Pos} {k : Nat} {D : Addr} {inner : Sem PySem.Fin → Sem PySem.Fin} {wi : TI} {g : TG} {tt : TT} {tb : TB} {vs vs' : List Nat}
    (pi : PI Y tg iter wi) (pg : PG Y tg g) (pt : PTs Y ifs tt) (hT : ∀ it, compTurn (.ListComp elt gens scope pos) k it (.ref D) Y.env = turnB tg iter ifs (.ListComp elt gens scope pos) k it (.ref D) Y.env inner)
    (hcl : (clausesOf (.ListComp elt gens scope pos))[k]? = some ⟨tg, iter, ifs, 0⟩) (hs : ∀ x, foldedSetIterable iter Y.env x = pure x) (hin : InS Y inner vs' tb) (hsub : ∀ i ∈ vs', i ∈ vs) :
    InS Y (inC iter (.ListComp elt gens scope pos) k (.ref D) Y.env) vs (tCl wi g tt vs tb) := by
  obtain ⟨IN, hIN, hmono, hrun⟩ := hin
  refine ⟨_, inC_ok hs, fun Q Q' s h q => thnF q fun x s4 q => thnF q fun _ s5 q => codeAny_mono q fun r s6 q => by
    cases r with
    | ok f => exact h _ q
    | error e => exact q, fun pins s σ H N I q => ?_⟩
  refine thnF (wpF hx (pi.run _ s σ H _ I q)) fun xv s1 h1 => thnF (wpF hx h1) fun itv s2 h2 => ?_
  obtain ⟨it, fp, tn, J, H2, e, I2, T, st2, f2, W, ⟨m0, w0⟩, turn⟩ := h2
  subst e
  have stat : ∀ {H' : Hp}, (∀ b ∈ fp, H' b = none) → ∀ b ∈ fp, FpOk Y pins H' b := fun hn b hb => ⟨hn b hb, (f2 b hb).2⟩
  have loop : codeAny (model Y.prog Y.w) Y.A (.compLoop (.ListComp elt gens scope pos) k (.ref it) (.ref D) Y.env)
      (fun r s' => match r with
        | .ok _ => ∃ σ' H', Inv Y pins σ' H' s' ∧ σ.length = σ'.length ∧ (∀ (j : Nat) v, (wipe σ vs)[j]? = some (some v) → σ'[j]? = some (some v)) ∧ N H'
        | .error _ => False) s2 := by
    refine loopB (hT _) hIN (fun n s' => ∃ j H', Inv Y pins (wipe σ vs) H' s' ∧ tn j s'.heap ∧ (∀ b ∈ fp, H' b = none) ∧ W j n H') ?_ m0 ⟨0, H2, I2.weak (wipe_length _ _) (fun j v e => (wipe_some e).1), st2, fun b hb => (f2 b hb).1, w0⟩
    rintro n s3 ⟨j, H3, I3, st3, n3, w3⟩
    rcases turn j n H3 w3 with ⟨stop, nx⟩ | ⟨go, N1, hN1, step⟩
    · refine thnF (T.done Y rfl rfl rfl hc j _ s3 (wipe σ vs) H3 (fun _ _ => False) I3 (stat n3) st3 stop) fun r s4 ⟨hr, I4⟩ => ?_
      subst hr
      exact ⟨_, _, I4, (wipe_length σ vs).symm, fun j v e => e, nx⟩
    · refine thnF (T.item Y rfl rfl rfl hc j _ s3 (wipe σ vs) H3 (fun _ _ => False) I3 (stat n3) st3 go) fun r s4 ⟨u, hr, h4⟩ => ?_
      subst hr
      refine thnF h4 fun _ s5 ⟨x, H5, I5, r5, y5, st5, n5⟩ => ?_
      have I5' := I5.pinned (stat n5) (T.obj _ _ st5)
      refine thnF (wpF hx (pg.run _ s5 (wipe σ vs) H5 x u _ I5' r5 (step x H5 y5))) fun _ s6 ⟨σ6, H6, I6, hw6, q6⟩ => ?_
      refine thnF (wpF hx (pt.run _ s6 σ6 H6 _ I6 q6)) fun b s7 ⟨H7, I7, q7⟩ => ?_
      have fin : ∀ {σ9 : L2.St} {s' : Shared} {H' : Hp}, Inv Y (pins ++ pinsAt fp s5.heap) σ9 H' s' → (wipe σ vs).length = σ9.length → (∀ (j : Nat) v, (wipe σ vs)[j]? = some (some v) → σ9[j]? = some (some v)) → N1 H' →
          ∃ m, m < n ∧ ∃ j H', Inv Y pins (wipe σ vs) H' s' ∧ tn j s'.heap ∧ (∀ b ∈ fp, H' b = none) ∧ W j m H' := fun {σ9 s' H'} I' hl hk nx => by
        obtain ⟨m', hm, w'⟩ := hN1 H' nx
        have pin' : ∀ b ∈ fp, ∀ o, s5.heap.get? b = some o → s'.heap.get? b = some o ∧ H' b = none := fun b hb o e =>
          let z := I'.pin (b, o) (List.mem_append_right _ (List.mem_append_right _ (mem_pinsAt hb e)))
          ⟨z.1, z.2.1⟩
        refine ⟨m', hm, j + 1, H', I'.unpinned.weak hl hk, T.keep _ _ _ st5 fun b hb o e => (pin' b hb o e).1, fun b hb => ?_, w'⟩
        obtain ⟨o, e, _⟩ := T.obj _ _ st5 b hb
        exact (pin' b hb o e).2
      have hl6 : (wipe σ vs).length = σ6.length := by rw [← hw6, wipe_length]
      cases b with
      | false =>
        simp only [Bool.false_eq_true, if_false] at q7 ⊢
        exact fin I7 hl6 (fun j v e => by rw [← hw6] at e; exact (wipe_some e).1) q7
      | true =>
        simp only [if_true] at q7 ⊢
        have z := hrun _ s7 σ6 H7 N1 I7 q7
        refine hmono _ _ _ (fun s8 ⟨σ8, H8, I8, hl8, hk8, nx⟩ => ?_) z
        refine fin I8 (hl6.trans hl8) (fun j v e => hk8 j v ?_) nx
        rw [← hw6] at e
        obtain ⟨e1, e2⟩ := wipe_some e
        rw [wipe_out fun z => e2 (hsub j z)]
        exact e1
  exact startB hcl loop (T.self Y.A 0 _ _ _ st2 loop)
end Pm
end
section
set_option Elab.async false
set_option linter.all false
set_option maxRecDepth 100000
set_option maxHeartbeats 4000000
namespace Pm
open PySem PySem.Spec PyProof.Rows L2
/-! ### the outermost for, whatever its turn holds inside -/
def tLcI (wi : TI) (g : TG) (tt : TT) (vs : List Nat) (tb : Addr → TB) : TE := fun σ H Q => wi σ H fun J H1 => ∀ D, H1 D = none → ∃ W : Nat → Nat → Hp → Prop, (∃ m, W 0 m (upd H1 D (.lst []))) ∧ ∀ i m H, W i m H →
  (J.stop i H ∧ Q (.ref D) H) ∨ (J.go i H ∧ ∃ Nx : Hp → Prop, (∀ H', Nx H' → ∃ m', m' < m ∧ W (i + 1) m' H') ∧ ∀ x H', J.yld i H x H' → g x (wipe σ vs) H' fun σ2 H2 => wipe σ2 vs = wipe σ vs ∧ tt σ2 H2 fun b H3 => if b = true then tb D σ2 H3 Nx else Nx H3)
section
variable {X : Cx}
theorem pe_lcI {elt tg iter : Expr} {ifs : List Expr} {more : List Comprehension} {scope : Scope} {own : List (Str × Nat)} {vs' : List Nat} {pos : Pos} {wi : TI} {g : TG} {tt : TT} {tb : Addr → TB} {inner : Value → Env → Sem PySem.Fin → Sem PySem.Fin}
    (hc : X.calm = true) (hN : X.N.Nodup) (hi : PI X tg iter wi) (ok : BlkOk X.N X.env.scope scope own)
    (hg : ∀ (s : Shared) (H : Hp) (C : Addr) (cl : List (Str × Addr)) (fp : List Addr), PG (X.blk s H scope (compEnvC scope cl C X.env) fp) tg g) (ht : ∀ (s : Shared) (H : Hp) (C : Addr) (cl : List (Str × Addr)) (fp : List Addr), PTs (X.blk s H scope (compEnvC scope cl C X.env) fp) ifs tt)
    (hT : ∀ it acc env, compTurn (.ListComp elt (⟨tg, iter, ifs, 0⟩ :: more) scope pos) 0 it acc env = turnB tg iter ifs (.ListComp elt (⟨tg, iter, ifs, 0⟩ :: more) scope pos) 0 it acc env (inner acc env))
    (hin : ∀ (D : Addr) (s : Shared) (H : Hp) (C : Addr) (cl : List (Str × Addr)) (fp : List Addr), InS (X.blk s H scope (compEnvC scope cl C X.env) fp) (inner (.ref D) (compEnvC scope cl C X.env)) vs' (tb D)) (hsub : ∀ i ∈ vs', i ∈ own.map (·.2))
    (hs : ∀ x, foldedSetIterable iter X.env x = pure x) : PE X (.ListComp elt (⟨tg, iter, ifs, 0⟩ :: more) scope pos) (tLcI wi g tt (own.map (·.2)) tb) := by
  refine ⟨fun pins s σ H Q I h => ?_⟩
  rw [eval_ListComp]
  have hfree : ∀ y ∈ scope.names, y.2 = .free → ∃ c, X.env.cells.lookup y.1 = some c := fun y hy e => (ok.free y hy e).elim (fun k => I.ok.has _ (.inl k)) fun k => I.ok.has _ (.inr k)
  refine wpAny_comprehension_free (use := none) rfl hs (closure_ok hfree) ok.kind (fun y hy e => by rw [ok.uniq y hy, e]) (thn (hi.run pins s σ H _ I h) fun xv s1 hx => thn hx fun itv s2 h2 => ?_)
  obtain ⟨it, fp, tn, J, H2, e, I2, T, st2, f2, q⟩ := h2
  subst e
  refine wpAny_newObj_type (newEnv_comp ?_) (by show 0 ≤ sizeLine; decide)
  generalize hD : s2.heap.objs.size = D
  obtain ⟨W, ⟨m0, w0⟩, turn⟩ := q D (I2.hok.fresh (Nat.le_of_eq hD))
  generalize hs3 : ({ s2 with heap := s2.heap.push { cls := .type "list", data := .seq ([] : List Value).toArray } } : Shared) = s3
  have h3 : s3.heap = s2.heap.push { cls := .type "list", data := .seq ([] : List Value).toArray } := by rw [← hs3]
  have I3 : Inv X pins σ (upd H2 D (.lst [])) s3 := by
    rw [← hs3]
    refine I2.laid (t' := s2.toks) (fun b o e => Heap.get?_push_of_some _ e) (Nat.le_of_eq hD) ⟨Nat.zero_le _, [], 0, .nil, ?_⟩
    rw [← hD]
    exact Heap.get?_push_size _ rfl
  have f3 : ∀ b ∈ fp, FpOk X pins (upd H2 D (.lst [])) b ∧ b < s3.heap.objs.size := fun b hb => by
    obtain ⟨o, e, _⟩ := T.obj _ _ st2 b hb
    have hlt := Heap.lt_size e
    refine ⟨⟨?_, (f2 b hb).2⟩, by rw [h3, Heap.size_push]; exact Nat.lt_succ_of_lt hlt⟩
    rw [upd_ne (by rw [← hD]; exact Nat.ne_of_lt hlt)]
    exact (f2 b hb).1
  have st3 : tn 0 s3.heap := T.keep _ _ _ st2 fun b _ o e => by rw [h3]; exact Heap.get?_push_of_some _ e
  have I4 := block_start I3 ok hN f3
  have pg := hg s3 (upd H2 D (.lst [])) s3.heap.objs.size (cellsFrom (s3.heap.objs.size + 1) scope.names (cloFrom X.env.cells scope.names [])) fp
  have pt := ht s3 (upd H2 D (.lst [])) s3.heap.objs.size (cellsFrom (s3.heap.objs.size + 1) scope.names (cloFrom X.env.cells scope.names [])) fp
  have pin := hin D s3 (upd H2 D (.lst [])) s3.heap.objs.size (cellsFrom (s3.heap.objs.size + 1) scope.names (cloFrom X.env.cells scope.names [])) fp
  have nfp : ∀ b ∈ fp, (upd H2 D (.lst [])) b = none := fun b hb => (f3 b hb).1.1
  show codeAny _ _ (.compStart (.ListComp elt (⟨tg, iter, ifs, 0⟩ :: more) scope pos) 0 (.ref it) (.ref D) (compEnvC scope (cellsFrom (s3.heap.objs.size + 1) scope.names (cloFrom X.env.cells scope.names [])) s3.heap.objs.size X.env)) (compPost (model X.prog X.w) X.A X.xe none _ (.ref D) s3.heap.objs.size) { s3 with heap := pushCells (s3.heap.push { cls := .type "dict", data := .dict #[] }) scope.names }
  generalize hce : compEnvC scope (cellsFrom (s3.heap.objs.size + 1) scope.names (cloFrom X.env.cells scope.names [])) s3.heap.objs.size X.env = ce at I4 pg pt pin ⊢
  have cL : ce.locals = s3.heap.objs.size := by subst hce; rfl
  generalize hH3 : upd H2 D (.lst []) = H3 at I3 I4 pg pt pin w0 nfp f3
  generalize hs4 : ({ s3 with heap := pushCells (s3.heap.push { cls := .type "dict", data := .dict #[] }) scope.names } : Shared) = s4 at I4 ⊢
  have st4 : tn 0 s4.heap := T.keep _ _ _ st3 fun b _ o e => by rw [← hs4]; exact pushCells_keeps _ _ _ _ (Heap.get?_push_of_some _ e)
  have stat : ∀ {σ' : L2.St} {H' : Hp} {s' : Shared}, Inv (X.blk s3 H3 scope ce fp) [] σ' H' s' → (∀ b ∈ fp, H' b = none) → ∀ b ∈ fp, FpOk (X.blk s3 H3 scope ce fp) [] H' b := fun {σ' H' s'} I' hn b hb =>
    ⟨hn b hb, (I'.ok.exf b hb).1, I'.ok.exfs b hb, .inl hb, fun x c e => (I'.ok.exf b hb).2 x c e, fun p hp => absurd (show p ∈ ([] : List (Addr × Obj)) ++ [] from hp) (by simp)⟩
  obtain ⟨IN, hIN, hmono, hrun⟩ := pin
  have loop : codeAny (model X.prog X.w) X.A (.compLoop (.ListComp elt (⟨tg, iter, ifs, 0⟩ :: more) scope pos) 0 (.ref it) (.ref D) ce) (compPost (model X.prog X.w) X.A X.xe none (EP X pins σ Q) (.ref D) s3.heap.objs.size) s4 := by
    refine loopB (hT _ _ _) hIN (fun n s' => ∃ i H', Inv (X.blk s3 H3 scope ce fp) [] (wipe σ (own.map (·.2))) H' s' ∧ tn i s'.heap ∧ (∀ b ∈ fp, H' b = none) ∧ W i n H') ?_ m0 ⟨0, H3, I4, st4, nfp, w0⟩
    rintro n s5 ⟨i, H5, I5, st5, n5, w5⟩
    rcases turn i n H5 w5 with ⟨stop, qq⟩ | ⟨go, Nx, hNx, step⟩
    · refine thnF (T.done (X.blk s3 H3 scope ce fp) rfl rfl rfl hc i [] s5 _ H5 (fun _ _ => False) I5 (stat I5 n5) st5 stop) fun r s6 ⟨hr, I6⟩ => ?_
      subst hr
      have I7 : Inv X pins σ H5 s6 := I3.call' (ch := fp) I6.os I6.base I6.hok I6.bare fun b hb => ⟨(f3 b hb).1.2.2.2.1, (f3 b hb).1.2.1, (f3 b hb).1.2.2.2.2.1, (f3 b hb).1.2.2.2.2.2⟩
      have nC : H5 s3.heap.objs.size = none := by
        have z : H5 ce.locals = none := I6.free
        rw [cL] at z
        exact z
      obtain ⟨m, hn, _⟩ := I6.loc
      have hn : s6.heap.Ns ce.locals m := hn
      rw [cL] at hn
      obtain ⟨f0, f1, f2, f3, f4, f5⟩ := I3.fpOk (Nat.le_refl _) nC
      exact ⟨m, hn, fun h'' sb => ⟨.ref D, H5, I7.turned (t' := s6.toks) (fun b o hb e => (sb.2 b hb).trans e) f0 f1 f3 f4 f5, rfl, qq⟩⟩
    · refine thnF (T.item (X.blk s3 H3 scope ce fp) rfl rfl rfl hc i [] s5 _ H5 (fun _ _ => False) I5 (stat I5 n5) st5 go) fun r s6 ⟨u, hr, h6⟩ => ?_
      subst hr
      refine thnF h6 fun _ s7 ⟨x, H7, I7, r7, y7, st7, n7⟩ => ?_
      have I7' := I7.pinned (stat I7 n7) (T.obj _ _ st7)
      refine thnF (pg.run _ s7 _ H7 x u _ I7' r7 (step x H7 y7)) fun _ s8 ⟨σ8, H8, I8, hw8, q8⟩ => ?_
      refine thnF (pt.run _ s8 σ8 H8 _ I8 q8) fun b s9 ⟨H9, I9, q9⟩ => ?_
      have fin : ∀ {σ9 : L2.St} {s' : Shared} {H' : Hp}, Inv (X.blk s3 H3 scope ce fp) ([] ++ pinsAt fp s7.heap) σ9 H' s' → (wipe σ (own.map (·.2))).length = σ9.length → (∀ (j : Nat) v, (wipe σ (own.map (·.2)))[j]? = some (some v) → σ9[j]? = some (some v)) → Nx H' →
          ∃ m, m < n ∧ ∃ i H', Inv (X.blk s3 H3 scope ce fp) [] (wipe σ (own.map (·.2))) H' s' ∧ tn i s'.heap ∧ (∀ b ∈ fp, H' b = none) ∧ W i m H' := fun {σ9 s' H'} I' hl hk nx => by
        obtain ⟨m', hm, w'⟩ := hNx H' nx
        have pin' : ∀ b ∈ fp, ∀ o, s7.heap.get? b = some o → s'.heap.get? b = some o ∧ H' b = none := fun b hb o e =>
          let z := I'.pin (b, o) (List.mem_append_right _ (List.mem_append_right _ (mem_pinsAt hb e)))
          ⟨z.1, z.2.1⟩
        refine ⟨m', hm, i + 1, H', (I'.unpinned (pins := [])).weak hl hk, T.keep _ _ _ st7 fun b hb o e => (pin' b hb o e).1, fun b hb => ?_, w'⟩
        obtain ⟨o, e, _⟩ := T.obj _ _ st7 b hb
        exact (pin' b hb o e).2
      have hl8 : (wipe σ (own.map (·.2))).length = σ8.length := by rw [← hw8, wipe_length]
      cases b with
      | false =>
        simp only [Bool.false_eq_true, if_false] at q9 ⊢
        exact fin I9 hl8 (fun j v e => by rw [← hw8] at e; exact (wipe_some e).1) q9
      | true =>
        simp only [if_true] at q9 ⊢
        refine hmono _ _ _ (fun s10 ⟨σ10, H10, I10, hl10, hk10, nx⟩ => ?_) (hrun _ s9 σ8 H9 Nx I9 q9)
        refine fin I10 (hl8.trans hl10) (fun j v e => hk10 j v ?_) nx
        rw [← hw8] at e
        obtain ⟨e1, e2⟩ := wipe_some e
        rw [wipe_out fun z => e2 (hsub j z)]
        exact e1
  exact startB rfl loop (T.self X.A 0 _ _ _ st4 loop)
end
end Pm
end
section
set_option Elab.async false
set_option linter.all false
set_option maxRecDepth 100000
set_option maxHeartbeats 2000000
namespace Pm
open PySem PySem.Spec PyProof.Rows L2
/-! ### comprehensions of any number of fors, in data: what one turn adds to the list -/
abbrev MB := En → List D → M (List D)
def mAp (e : ME) : MB := fun ρ acc => bnd (nox (e ρ)) fun y => if acc.length < sizeLine then ret (acc ++ [y]) else no
def walkL (ok : Sto → Bool) (p : Pat) (t : MT) (mb : MB) (ρ : En) : List D → List D → M (List D)
  | [], acc => fun st => if ok st = true then .ok acc st else .stuck
  | x :: r, acc => fun st => if ok st = true then
      (bnd (ofE (bindP p x ρ)) fun ρ1 => bnd (nox (t ρ1)) fun k => if k = true then bnd (mb ρ1 acc) fun a => walkL ok p t mb ρ r a else walkL ok p t mb ρ r acc) st
    else .stuck
def mCl (it : MI) (p : Pat) (t : MT) (mb : MB) (vs : List Nat) : MB := fun ρ acc => bnd (nox (it ρ)) fun J => walkL J.ok p t mb (wipeE ρ vs) J.xs acc
def lcEI (it : MI) (p : Pat) (t : MT) (mb : MB) (vs : List Nat) : ME := fun ρ => bnd (it ρ) fun I => bnd (walkL I.ok p t mb (wipeE ρ vs) I.xs []) alloc
section
variable {X : Cx} {c : Ct} {ex : Wh} {it : MI} {p : Pat} {t : MT} {e : ME} {mb : MB} {vs : List Nat} {H : Hp}
theorem walkL_ok {ok : Sto → Bool} {ρ : En} {xs acc : List D} {st : Sto} {bs : List Addr} {k : List D → Sto → List Addr → Hp → Prop} (q : Post c ex (walkL ok p t mb ρ xs acc st) bs H k) : ok st = true := by
  cases xs with
  | nil =>
    unfold walkL at q
    by_cases h : ok st = true
    · exact h
    · rw [if_neg h] at q; exact q.elim
  | cons x r =>
    unfold walkL at q
    by_cases h : ok st = true
    · exact h
    · rw [if_neg h] at q; exact q.elim
/-- what a turn adds is what its inside does -/
def MBok (c : Ct) (ex : Wh) (mb : MB) (tb : Addr → TB) : Prop := ∀ (D : Addr) (ρ : En) (σ : L2.St) (acc : List Pm.D) (vacc : List V) (st : Sto) (bs : List Addr) (H : Hp) (N : Hp → Prop) (K : List Pm.D → Sto → List Addr → Hp → Prop),
  Rel c bs H st → RE c bs H ρ σ → H D = some (.lst vacc) → D ∉ bs → RDs c bs (hid H D) vacc acc → Post c ex (mb ρ acc st) bs (hid H D) K →
  (∀ H' st' bs' acc' vacc', Ext bs (hid H D) bs' (hid H' D) → Rel c bs' (hid H' D) st' → D ∉ bs' → H' D = some (.lst vacc') → RDs c bs' (hid H' D) vacc' acc' → K acc' st' bs' (hid H' D) → N H') → tb D σ H N
theorem mb_ap : MBok c ex (mAp e) (tAp (tE c exF e)) := fun D ρ σ acc vacc st bs H N K rl re hv nb rr q hN => by
  have q8 := Post.bnd q
  have q8 := q8.nox
  refine ⟨ρ, st, bs, rl, re, (q8.hide hv nb).imp fun y st9 bs9 H9 e9 rl9 q9 v9 rv9 => ?_⟩
  obtain ⟨e9', hv9, nb9⟩ := e9.hid hv nb
  obtain ⟨hz, q10⟩ := Post.iff (m := ret _) q9
  have rr9 := rr.ext e9'
  refine ⟨vacc, hv9, by rw [rr9.length]; exact hz, ?_⟩
  have z : hid (upd H9 D (.lst (vacc ++ [v9]))) D = hid H9 D := hid_upd
  exact hN _ st9 bs9 (acc ++ [y]) (vacc ++ [v9]) (by rw [z]; exact e9') (by rw [z]; exact rl9.hid hv9 nb9) nb9 upd_same (by rw [z]; exact rr9.append (.cons (rv9.mono (hid_pre hv9)) .nil)) (by rw [z]; exact Post.of q10 (rl9.hid hv9 nb9))
end
end Pm
end
section
set_option Elab.async false
set_option linter.all false
set_option maxRecDepth 100000
set_option maxHeartbeats 2000000
namespace Pm
open PySem PySem.Spec PyProof.Rows L2
section
variable {X : Cx} {c : Ct} {ex : Wh} {it : MI} {p : Pat} {t : MT} {e : ME} {mb : MB} {vs : List Nat} {H : Hp} {tb : Addr → TB}
theorem walk_all (hmb : MBok c ex mb tb) (hs : ∀ i ∈ slots p, i ∈ vs) {I : Itm} {J : It} {bs1 : List Addr} {H1 : Hp} {ρ : En} {σ : L2.St} (wk : Wk c I bs1 H1 J) (reW : RE c bs1 H1 (wipeE ρ vs) (wipe σ vs)) {A : Addr} {Hs : Hp} {Qd : Hp → Prop} {K : List Pm.D → Sto → List Addr → Hp → Prop}
    {st0 : Sto} {bs0 : List Addr} {acc0 : List Pm.D} {vacc0 : List V} (ee0 : Ext bs1 H1 bs0 (hid Hs A)) (rl0 : Rel c bs0 (hid Hs A) st0) (nb0 : A ∉ bs0) (hv0 : Hs A = some (.lst vacc0)) (rr0 : RDs c bs0 (hid Hs A) vacc0 acc0) (q0 : Post c ex (walkL I.ok p t mb (wipeE ρ vs) I.xs acc0 st0) bs0 (hid Hs A) K)
    (hd : ∀ H st bs acc vacc, Ext bs1 H1 bs (hid H A) → Rel c bs (hid H A) st → A ∉ bs → H A = some (.lst vacc) → RDs c bs (hid H A) vacc acc → K acc st bs (hid H A) → Qd H) :
    ∃ W : Nat → Nat → Hp → Prop, (∃ m, W 0 m Hs) ∧ ∀ i m H, W i m H → (J.stop i H ∧ Qd H) ∨ (J.go i H ∧ ∃ N1 : Hp → Prop, (∀ H', N1 H' → ∃ m', m' < m ∧ W (i + 1) m' H') ∧
      ∀ x H', J.yld i H x H' → gP c.K p x (wipe σ vs) H' fun σ2 H2 => wipe σ2 vs = wipe σ vs ∧ tT c exF t σ2 H2 fun b H3 => if b = true then tb A σ2 H3 N1 else N1 H3) := by
  refine loop_it wk (fun i H => ∃ st bs acc vacc, Ext bs1 H1 bs (hid H A) ∧ Rel c bs (hid H A) st ∧ A ∉ bs ∧ H A = some (.lst vacc) ∧ RDs c bs (hid H A) vacc acc ∧ Post c ex (walkL I.ok p t mb (wipeE ρ vs) (I.xs.drop i) acc st) bs (hid H A) K)
    ⟨st0, bs0, acc0, vacc0, ee0, rl0, nb0, hv0, rr0, q0⟩ (fun i H hi ⟨st, bs, acc, vacc, ee, rl, nb, hv, rr, q⟩ => ⟨st, bs, ee.trans (hid_ext nb), rel_show rl nb, walkL_ok q⟩) (fun i v H H' hi ⟨st, bs, acc, vacc, ee, rl, nb, hv, rr, q⟩ y => ?_) (fun H ⟨st, bs, acc, vacc, ee, rl, nb, hv, rr, q⟩ => ?_)
  · have e3 := hid_ext (H := H) nb
    have rlH : Rel c bs H st := rel_show rl nb
    have hok := walkL_ok q
    obtain ⟨e6, rl6, d, hd, rd6⟩ := y st bs (ee.trans e3) rlH hok
    rw [List.getElem?_eq_getElem hi] at hd
    cases hd
    have e5 : I.xs.drop i = I.xs[i] :: I.xs.drop (i + 1) := List.drop_eq_getElem_cons hi
    rw [e5] at q
    unfold walkL at q
    rw [if_pos hok] at q
    cases e8 : bindP p I.xs[i] (wipeE ρ vs) with
    | none => rw [e8] at q; exact q.bnd.elim
    | some ρ1 =>
      rw [e8] at q
      obtain ⟨e6', hv6, nb6⟩ := e6.hid hv nb
      have q3 := Post.now q.bnd rl
      have q4 := (q3.bnd.far e6').nox
      refine bindP_ok p _ v _ ρ1 (wipe σ vs) _ rd6 (((reW.ext ee).ext e3).ext e6) e8 fun σ2 re2 w2 => ⟨?_, ?_⟩
      · rw [w2 vs hs]
        exact wipe_wipe σ vs
      · refine ⟨ρ1, st, bs, rl6, re2, (q4.hide hv6 nb6).imp fun k st7 bs7 H7 e7 rl7 q7 => ?_⟩
        obtain ⟨e7', hv7, nb7⟩ := e7.hid hv6 nb6
        have ee7 := (ee.trans e6').trans e7'
        have rr7 := (rr.ext e6').ext e7'
        cases k with
        | false => exact iteF ⟨st7, bs7, acc, vacc, ee7, rl7.hid hv7 nb7, nb7, hv7, rr7, q7⟩
        | true =>
          refine iteT ?_
          have q8 := Post.bnd q7
          exact hmb A ρ1 σ2 acc vacc st7 bs7 H7 _ _ rl7 (re2.ext e7) hv7 nb7 rr7 q8 fun H'' st'' bs'' acc'' vacc'' e'' rl'' nb'' hv'' rr'' k'' => ⟨st'', bs'', acc'', vacc'', ee7.trans e'', rl'', nb'', hv'', rr'', k''⟩
  · rw [List.drop_length] at q
    have hok := walkL_ok q
    unfold walkL at q
    rw [if_pos hok] at q
    exact hd H st bs acc vacc ee rl nb hv rr (Post.of q rl)
theorem mb_cl (hmb : MBok c ex mb tb) (hs : ∀ i ∈ slots p, i ∈ vs) : MBok c ex (mCl it p t mb vs) fun A => tCl (tI c exF it) (gP c.K p) (tT c exF t) vs (tb A) := fun A ρ σ acc vacc st bs H N K rl re hv nb rr q hN => by
  have q8 := (Post.bnd q).nox
  refine ⟨ρ, st, bs, rl, re, (q8.hide hv nb).imp fun I st9 bs9 H9 e9 rl9 q9 J wk => ?_⟩
  obtain ⟨e9', hv9, nb9⟩ := e9.hid hv nb
  have wkh := wk.2 A vacc hv9 nb9
  have reW : RE c bs9 (hid H9 A) (wipeE ρ vs) (wipe σ vs) := (wipe_RE (re.ext e9) vs).mono (hid_pre hv9)
  exact walk_all hmb hs wkh reW Ext.refl (rl9.hid hv9 nb9) nb9 hv9 (rr.ext e9') q9 fun H' st' bs' acc' vacc' e' rl' nb' hv' rr' k' => hN H' st' bs' acc' vacc' (e9'.trans e') rl' nb' hv' rr' k'
theorem tE_lcI (hmb : MBok c ex mb tb) (hs : ∀ i ∈ slots p, i ∈ vs) {σ : L2.St} {Q : VK} (q : tE c ex (lcEI it p t mb vs) σ H Q) : tLcI (tI c ex it) (gP c.K p) (tT c exF t) vs tb σ H Q := by
  obtain ⟨ρ, st, bs, rl, re, q⟩ := q
  refine ⟨ρ, st, bs, rl, re, q.bnd.imp fun I st1 bs1 H1 e1 rl1 q1 J wk => ?_⟩
  intro A hA
  have reW := wipe_RE (re.ext e1) vs
  have z : hid (upd H1 A (.lst [])) A = H1 := by rw [hid_upd, hid_none hA]
  have nb : A ∉ bs1 := fun h => by
    obtain ⟨o, ho, _⟩ := rl1.here h
    rw [hA] at ho; cases ho
  refine walk_all hmb hs wk.1 reW (by rw [z]; exact Ext.refl) (by rw [z]; exact rl1) nb upd_same .nil (by rw [z]; exact q1.bnd) fun H' st' bs' acc' vacc' e' rl' nb' hv' rr' k' => ?_
  obtain ⟨k, r⟩ := post_alloc k' rl' hid_same rr'
  rw [upd_hid hv'] at k r
  exact k _ r
end
end Pm
end
section
set_option Elab.async false
set_option linter.all false
set_option maxRecDepth 100000
set_option maxHeartbeats 2000000
namespace Pm
open PySem PySem.Spec PyProof.Rows L2
section
variable {X : Cx} {c : Ct} {ex : Wh} {it it1 it2 : MI} {p p1 p2 : Pat} {t tt1 tt2 : MT} {e : ME} {vs vs1 vs2 : List Nat}
/-- [e for x in xs if t for y in ys if u for z in zs if v] -/
theorem md_lc3 {elt tg iter tg1 iter1 tg2 iter2 : Expr} {ifs ifs1 ifs2 : List Expr} {scope : Scope} {own : List (Str × Nat)} {pos : Pos} (hc : X.calm = true) (hN : X.N.Nodup) (hi : PI X tg iter (tI c ex it)) (ok : BlkOk X.N X.env.scope scope own)
    (hg : ∀ (s : Shared) (H : Hp) (C : Addr) (cl : List (Str × Addr)) (fp : List Addr), PG (X.blk s H scope (compEnvC scope cl C X.env) fp) tg (gP c.K p)) (ht : ∀ (s : Shared) (H : Hp) (C : Addr) (cl : List (Str × Addr)) (fp : List Addr), PTs (X.blk s H scope (compEnvC scope cl C X.env) fp) ifs (tT c exF t))
    (hi1 : ∀ (s : Shared) (H : Hp) (C : Addr) (cl : List (Str × Addr)) (fp : List Addr), PI (X.blk s H scope (compEnvC scope cl C X.env) fp) tg1 iter1 (tI c exF it1))
    (hg1 : ∀ (s : Shared) (H : Hp) (C : Addr) (cl : List (Str × Addr)) (fp : List Addr), PG (X.blk s H scope (compEnvC scope cl C X.env) fp) tg1 (gP c.K p1)) (ht1 : ∀ (s : Shared) (H : Hp) (C : Addr) (cl : List (Str × Addr)) (fp : List Addr), PTs (X.blk s H scope (compEnvC scope cl C X.env) fp) ifs1 (tT c exF tt1))
    (hi2 : ∀ (s : Shared) (H : Hp) (C : Addr) (cl : List (Str × Addr)) (fp : List Addr), PI (X.blk s H scope (compEnvC scope cl C X.env) fp) tg2 iter2 (tI c exF it2))
    (hg2 : ∀ (s : Shared) (H : Hp) (C : Addr) (cl : List (Str × Addr)) (fp : List Addr), PG (X.blk s H scope (compEnvC scope cl C X.env) fp) tg2 (gP c.K p2)) (ht2 : ∀ (s : Shared) (H : Hp) (C : Addr) (cl : List (Str × Addr)) (fp : List Addr), PTs (X.blk s H scope (compEnvC scope cl C X.env) fp) ifs2 (tT c exF tt2))
    (he : ∀ (s : Shared) (H : Hp) (C : Addr) (cl : List (Str × Addr)) (fp : List Addr), PE (X.blk s H scope (compEnvC scope cl C X.env) fp) elt (tE c exF e)) (hs : ∀ x, foldedSetIterable iter X.env x = pure x := by intro _; rfl) (hs1 : ∀ env x, foldedSetIterable iter1 env x = pure x := by intro _ _; rfl) (hs2 : ∀ env x, foldedSetIterable iter2 env x = pure x := by intro _ _; rfl)
    (hsl : ∀ i ∈ slots p, i ∈ vs := by decide) (hsl1 : ∀ i ∈ slots p1, i ∈ vs1 := by decide) (hsl2 : ∀ i ∈ slots p2, i ∈ vs2 := by decide) (hvs : own.map (·.2) = vs := by rfl) (hv1 : ∀ i ∈ vs1, i ∈ vs := by decide) (hv2 : ∀ i ∈ vs2, i ∈ vs1 := by decide) :
    PE X (.ListComp elt [⟨tg, iter, ifs, 0⟩, ⟨tg1, iter1, ifs1, 0⟩, ⟨tg2, iter2, ifs2, 0⟩] scope pos) (tE c ex (lcEI it p t (mCl it1 p1 tt1 (mCl it2 p2 tt2 (mAp e) vs2) vs1) vs)) :=
  PE_imp (pe_lcI (inner := fun acc env => inC iter1 (e3 elt tg iter ifs tg1 iter1 ifs1 tg2 iter2 ifs2 scope pos) 1 acc env) (vs' := vs1) hc hN hi ok hg ht (fun it acc env => turn3_0)
    (fun A s H C cl fp => inS_clause (Y := X.blk s H scope (compEnvC scope cl C X.env) fp) hc rfl (hi1 s H C cl fp) (hg1 s H C cl fp) (ht1 s H C cl fp) (fun it => turn3_1) rfl (hs1 _)
      (inS_clause (Y := X.blk s H scope (compEnvC scope cl C X.env) fp) hc rfl (hi2 s H C cl fp) (hg2 s H C cl fp) (ht2 s H C cl fp) (fun it => turn3_2) rfl (hs2 _) (inS_ap (Y := X.blk s H scope (compEnvC scope cl C X.env) fp) rfl (he s H C cl fp)) (fun i h => by cases h)) hv2)
    (by rw [hvs]; exact hv1) hs) fun σ H Q q => by rw [hvs]; exact tE_lcI (mb_cl (mb_cl mb_ap hsl2) hsl1) hsl q
end
end Pm
end
section
set_option Elab.async false
set_option linter.all false
set_option maxRecDepth 100000
set_option maxHeartbeats 2000000
namespace Pm
open PySem PySem.Spec PyProof.Rows L2
/-! ### xs.extend of a list, of a tuple -/
theorem ext_tup (l : Addr) (items : Array Value) (n : Nat) (b : Addr) (items2 : Array Value) (n2 : Nat) (dd : Option Addr) (sl : Array (Option Value)) (hs0 : ¬(!items.isEmpty && Builtin.List.listTooLong (items.size + items2.size)) = true) (hs1 : items.size ≤ sizeLine) (hs2 : items.size + items2.size ≤ sizeLine + 1) :
    Meets (Builtin.«list.extend» ⟨[.ref l, .ref b], []⟩) (fun _ R s => s.heap.get? l = some { cls := .type "list", dict := none, data := .seq items n, slots := #[] } ∧ s.heap.get? b = some { cls := .type "tuple", dict := dd, data := .seq items2 n2, slots := sl } ∧ R (.ok (.ret Value.none)) { s with heap := s.heap.update l (Obj.mapSeq fun x => x ++ items2), toks := s.toks }) :=
  .of_wp fun prog w A R s h => by
    obtain ⟨hp, g, d, tk, os⟩ := s
    obtain ⟨hl, hb, h⟩ := h
    have f1 := PySem.AutoSeq1.idx_int; have f2 := PySem.AutoSeq1.sub_tuple_tuple; have f3 := PySem.AutoSeq1.sub_list_list; have f4 := PySem.AutoSeq1.sub_tuple_list; have f5 := PySem.AutoSeq1.sub_list_tuple
    have hz' : (items ++ items2).size ≤ sizeLine + 1 := by rw [Array.size_append]; exact hs2
    wp_walk using (wpAny_updateSeq hl rfl (hz := hs1) (_hz' := hz')), PySem.AutoSeq1.wpAny_loadPart' hl, PySem.AutoSeq1.wpAny_loadPart' hb
    exact ⟨_, rfl, h⟩
def rExtT (K : PySem.W.Frag) : V → List V → Hp → VK → Prop := fun x vs H Q => ∃ l b xs zs, x = .ref l ∧ vs = [.ref b] ∧ H l = some (.lst xs) ∧ SqT K H b zs ∧ xs.length + zs.length ≤ sizeLine ∧ Q .non (upd H l (.lst (xs ++ zs)))
theorem mt_extT {X : Cx} : MtM X "list.extend" (rExtT X.K) := by
  intro pins s σ H x vs v us Q I rx rv h
  obtain ⟨l, b, xs, zs, rfl, rfl, hH, hB, hz, q⟩ := h
  cases rx
  obtain ⟨u, rfl, ru⟩ := rv.one
  cases ru
  obtain ⟨z, its, n, r, hl, e⟩ := I.lstM hH
  obtain ⟨its2, r2, ⟨o2, ho2, hc2, n2, hd2⟩, hl2⟩ := I.tuple hB
  have hsz : its.toArray.size + its2.toArray.size ≤ sizeLine := by rw [List.size_toArray, List.size_toArray, ← r.length, ← r2.length]; omega
  obtain ⟨ocl, odd, oda, osl⟩ := o2
  simp only at hc2 hd2
  subst hc2 hd2
  have hlong : ¬ (!its.toArray.isEmpty && Builtin.List.listTooLong (its.toArray.size + its2.toArray.size)) = true := by
    rw [notLongL hsz, Bool.and_false]
    exact Bool.false_ne_true
  refine call_meets F.slot_list_extend ⟨_, e, rfl⟩ F.entry_list_extend (F.args_list_extend_2 _ _)
    (ext_tup l its.toArray n b its2.toArray n2 odd osl hlong (by omega) (by omega)) ⟨e, ho2, ?_⟩
  refine ⟨.non, _, I.lset (its' := its ++ its2) hH e (by simp) (r.append r2) ?_, rfl, q⟩
  rw [List.length_append]
  omega
theorem mt_extX {X : Cx} : MtM X "list.extend" (fun x vs H Q => rExtend x vs H Q ∨ rExtT X.K x vs H Q) := by
  intro pins s σ H x vs v us Q I rx rv h
  rcases h with h | h
  · exact mt_extend pins s σ H x vs v us Q I rx rv h
  · exact mt_extT pins s σ H x vs v us Q I rx rv h
def mExtX : D → List D → M D
  | .loc l, [.loc m] => bnd (lst l) fun xs => bnd (lst m) fun ys => if xs.length + ys.length ≤ sizeLine then bnd (put l (xs ++ ys)) fun _ => ret .non else no
  | .loc l, [.tup ys] => bnd (lst l) fun xs => if xs.length + ys.length ≤ sizeLine then bnd (put l (xs ++ ys)) fun _ => ret .non else no
  | _, _ => no
theorem md_extX {X : Cx} {c : Ct} {ex : Wh} {pos apos : Pos} {o e : Expr} {fo : ME} {g : MA} (hK : X.K = c.K) (ho : PE X o (tE c ex fo)) (ha : PA X [e] (tA c ex g)) (hbase : attributeBase o "extend" X.env (eval o X.env) = eval o X.env := by rfl)
    (hfew : ((backTo pos (starEach [e] X.env)).all (fun x => !x.1) && (backToKw pos (keywordEach [] X.env)).all (fun x => x.1.isSome) && decide ([e].length + ([] : List Keyword).length + (if ([] : List Keyword).isEmpty then 0 else 1) < 30)) = true := by rfl)
    (hline : (apos.endLine == pos.line) = true := by rfl) (hs : starEach [e] X.env = (false, eval e X.env) :: starEach [] X.env := by rfl) (hplain : (backTo pos (starEach [] X.env)).any (·.1) = false := by rfl) :
    PE X (.Call (.Attribute o "extend" apos) [e] [] pos) (tE c ex (meth fo g mExtX)) :=
  PE_imp (pe_bm PySem.F.plainAttrs_list PySem.F.slot_list_extend PySem.F.type_list_extend mt_extX ho ha hbase hfew hline hs hplain) fun σ H Q q => by
    obtain ⟨ρ, st, bs, rl, re, p⟩ := q
    refine ⟨ρ, st, bs, rl, re, p.bnd.imp fun d st1 bs1 H1 e1 rl1 p1 v rv => ?_⟩
    obtain ⟨⟨a, xs, l, rfl, sl, rfl⟩, p1⟩ := post_isL p1 rl1 rv
    refine ⟨.inl ⟨rfl, xs, by rw [hK]; exact sl⟩, ρ, st1, bs1, rl1, re.ext e1, p1.bnd.imp fun ds st2 bs2 H2 e2 rl2 p2 vs rvs => ?_⟩
    have rv := rv.ext e2
    cases rv with
    | loc h =>
      match ds, rvs, p2 with
      | [.loc m], .cons (.loc h') .nil, p2 =>
        obtain ⟨a, ws, ys, ee, hb, hl, hv, r5, p4⟩ := post_lst (k := fun _ _ _ _ => True) p2 rl2 (RD.loc h)
        cases ee
        obtain ⟨a', ws', ys', ee', hb', hl', hv', r5', p4⟩ := post_lst (k := fun _ _ _ _ => True) p4 rl2 (RD.loc h')
        cases ee'
        obtain ⟨hz, p5⟩ := Post.iff (m := bnd _ _) p4
        obtain ⟨rl6, e6, p6⟩ := post_put (k := fun _ _ _ _ => True) p5 rl2 hb hl (r5.append r5')
        exact .inl ⟨_, _, _, _, rfl, rfl, hv, hv', by rw [r5.length, r5'.length]; exact hz, p6.now rl6 _ .non⟩
      | [.tup zs], .cons (.tup s tl5 r5') .nil, p2 =>
        obtain ⟨a, ws, ys, ee, hb, hl, hv, r5, p4⟩ := post_lst (k := fun _ _ _ _ => True) p2 rl2 (RD.loc h)
        cases ee
        obtain ⟨hz, p5⟩ := Post.iff (m := bnd _ _) p4
        obtain ⟨rl6, e6, p6⟩ := post_put (k := fun _ _ _ _ => True) p5 rl2 hb hl (r5.append r5')
        exact .inr ⟨_, _, _, _, rfl, rfl, hv, by rw [hK]; exact s, by rw [r5.length, r5'.length]; exact hz, p6.now rl6 _ .non⟩
end Pm
end
section
set_option Elab.async false
set_option linter.all false
set_option maxRecDepth 100000
set_option maxHeartbeats 4000000
namespace Pm
open PySem PySem.Spec PyProof.Rows L2
/-! ### len(set(xs)), xs a list of ints -/
theorem setR_size {w : World} {h : Heap} {a : Addr} {ns : List Int} {n : Nat} (R : SetR w h a (fun j => decide (j ∈ ns)) n) : n = (uniq ns).length := by
  obtain ⟨o, es, ep, t, ho, hex, hd, g, nd, hm, hb, hf, hn, hr, hl⟩ := R
  have p : (es.toList.map keyOf).Perm (uniq ns) := (List.perm_ext_iff_of_nodup nd (nodup_uniq ns)).mpr fun k => by
    rw [← hm k, mem_uniq, decide_eq_true_eq]
  rw [← p.length_eq, List.length_map, Array.length_toList, hn]
def tLenSetU (K : PySem.W.Frag) (ta : TE) : TE := fun σ H Q => ta σ H fun x H1 => ∃ (l : Addr) (ns : List Int), x = .ref l ∧ SqL K H1 l (ns.map V.int) ∧ ns.length ≤ 4000 ∧ Q (.int ((uniq ns).length : Nat)) H1
theorem pe_lenSetU {X : Cx} {a : Expr} {ta : TE} {p p2 q pos : Pos} (hc : X.calm = true) (hg : Gl X "len") (hm : X.mg "len" = none) (hg2 : Gl X "set") (hm2 : X.mg "set" = none) (ha : PE X a ta)
    (na : starEach [a] X.env = (false, eval a X.env) :: starEach [] X.env := by rfl) : PE X (.Call (.Name "len" p) [.Call (.Name "set" p2) [a] [] q] [] pos) (tLenSetU X.K ta) := by
  refine ⟨fun pins s σ H Q I h => ?_⟩
  refine Call_ (ld_blt I hg hm boot_len ?_)
  refine PyProof.Rows.callWith_builtin1 (PyProof.Rows.args_cons ?_ rfl) rfl rfl
  refine Call_ (ld_blt I hg2 hm2 boot_set ?_)
  refine PyProof.Rows.callWith_type1 (PyProof.Rows.args_cons (thn (ha.run pins s σ H _ I h) fun v s1 ⟨x, H1, I1, r1, q1⟩ => PyProof.Rows.args_nil ?_) na) na rfl
  obtain ⟨l, ns, rfl, hq, hl, q1⟩ := q1
  cases r1
  obtain ⟨its, r, pl, hz⟩ := I1.list hq
  refine set_of_list (ns := ns) (I1.ok.hd hc) pl.isList (by simpa using r.ints) (by unfold scanBound; omega) fun h' tk c R hcn hk => ?_
  refine PyProof.Rows.args_nil ?_
  have e := setR_size R
  obtain ⟨o, es, ep, t, ho, hex, hd, g, nd, hmm, hb, hf, hn, hr, hll⟩ := R
  have I2 : Inv X pins σ H1 { s1 with heap := h', toks := tk } := I1.kept fun b o e => hk b o e
  exact call_len_set (s := { s1 with heap := h', toks := tk }) ho hex hd hf (by omega) ⟨.int es.size, H1, I2.tok _, ⟨_, rfl⟩, by rw [hn, e]; exact q1⟩
def oLenSet : D → M D
  | .loc l => bnd (lst l) fun xs => match intsOf xs with
    | some ns => if ns.length ≤ 4000 then ret (.int ((uniq ns).length : Nat)) else no
    | none => no
  | _ => no
theorem md_lenSet {X : Cx} {c : Ct} {ex : Wh} {a : Expr} {f : ME} {p p2 q pos : Pos} (hK : X.K = c.K) (hc : X.calm = true) (hg : Gl X "len") (hm : X.mg "len" = none) (hg2 : Gl X "set") (hm2 : X.mg "set" = none) (ha : PE X a (tE c ex f))
    (na : starEach [a] X.env = (false, eval a X.env) :: starEach [] X.env := by rfl) : PE X (.Call (.Name "len" p) [.Call (.Name "set" p2) [a] [] q] [] pos) (tE c ex (una f oLenSet)) :=
  PE_imp (pe_lenSetU hc hg hm hg2 hm2 ha na) fun σ H Q q => by
    obtain ⟨ρ, st, bs, rl, re, p⟩ := q
    refine ⟨ρ, st, bs, rl, re, p.bnd.imp fun d st1 bs1 H1 e1 rl1 p1 v rv => ?_⟩
    rw [hK]
    cases rv with
    | loc h =>
      obtain ⟨a, vs, xs, e, hb, hl, hv, r, p2⟩ := post_lst (k := fun _ _ _ _ => True) p1 rl1 (RD.loc h)
      cases e
      cases e1 : intsOf xs with
      | some ns =>
        simp only [e1] at p2
        obtain ⟨hk, p2⟩ := Post.iff (m := ret _) p2
        rw [intsOf_map e1] at r
        rw [r.toInts] at hv
        exact ⟨_, _, rfl, SqL.of hv, hk, p2.now rl1 _ (.int _)⟩
      | none =>
        simp only [e1] at p2
        exact p2.elim
    | _ => exact p1.elim
end Pm
end
section
set_option Elab.async false
set_option linter.all false
set_option maxRecDepth 100000
set_option maxHeartbeats 4000000
namespace Pm
open PySem PySem.Spec PyProof.Rows L2
/-! ### instances of the program's own classes: attributes -/
def getF (xs : List Str) (f : Str) : D → M D
  | .loc l => bnd (obj l) fun o => match o with
    | .ins x fs => if x ∈ xs then ofO (fs.lookup f) else no
    | _ => no
  | _ => no
def fldE (g : ME) (xs : List Str) (f : Str) : ME := una g (getF xs f)
def putD (f : Str) (d : D) : List (Str × D) → List (Str × D)
  | [] => [(f, d)]
  | (g, x) :: r => if g = f then (g, d) :: r else (g, x) :: putD f d r
def setF (xs : List Str) (f : Str) (o d : D) : M Unit := match o with
  | .loc l => bnd (obj l) fun o => match o with
    | .ins x fs => if x ∈ xs ∧ fs.length < 1000 then putO l (.ins x (putD f d fs)) else no
    | _ => no
  | _ => no
def fldS (fo fv : ME) (xs : List Str) (f : Str) : MS := fun ρ => bnd (fv ρ) fun v => bnd (fo ρ) fun o => bnd (setF xs f o v) fun _ => ret (.nx, ρ)
/-- a class as it is used: no class of it has these names -/
def ClsF (c : Ct) (x f : Str) : Prop := ∃ C, c.cl x = some C ∧ Cls c.K C ∧ NoAttr c.K C f
section
variable {c : Ct} {ex : Wh} {bs : List Addr} {H : Hp} {st : Sto} {α : Type}
theorem rds_lookup {f : Str} : ∀ {vfs : List (Str × V)} {fs : List (Str × D)} {d : D}, vfs.map (·.1) = fs.map (·.1) → RDs c bs H (vfs.map (·.2)) (fs.map (·.2)) → fs.lookup f = some d → ∃ v, vfs.lookup f = some v ∧ RD c bs H v d
  | [], [], _, _, _, e => nomatch (show (none : Option D) = some _ from e)
  | [], _ :: _, _, e, _, _ => by simp at e
  | _ :: _, [], _, e, _, _ => by simp at e
  | (g, v) :: vfs, (g', d') :: fs, d, e, .cons r t, h => by
    simp at e
    obtain ⟨rfl, e⟩ := e
    cases q : (f == g) with
    | true =>
      rw [List.lookup_cons, q] at h ⊢
      cases h
      exact ⟨v, rfl, r⟩
    | false =>
      rw [List.lookup_cons, q] at h ⊢
      exact rds_lookup e t h
theorem rds_lookup_none {f : Str} : ∀ {vfs : List (Str × V)} {fs : List (Str × D)}, vfs.map (·.1) = fs.map (·.1) → fs.lookup f = none → vfs.lookup f = none
  | [], [], _, _ => rfl
  | [], _ :: _, e, _ => by simp at e
  | _ :: _, [], e, _ => by simp at e
  | (g, v) :: vfs, (g', d') :: fs, e, h => by
    simp at e
    obtain ⟨rfl, e⟩ := e
    cases q : (f == g) with
    | true =>
      rw [List.lookup_cons, q] at h
      cases h
    | false =>
      rw [List.lookup_cons, q] at h ⊢
      exact rds_lookup_none e h
theorem rds_putD {f : Str} {v : V} {d : D} (rv : RD c bs H v d) : ∀ {vfs : List (Str × V)} {fs : List (Str × D)}, vfs.map (·.1) = fs.map (·.1) → RDs c bs H (vfs.map (·.2)) (fs.map (·.2)) → (putF f v vfs).map (·.1) = (putD f d fs).map (·.1) ∧ RDs c bs H ((putF f v vfs).map (·.2)) ((putD f d fs).map (·.2))
  | [], [], _, _ => ⟨rfl, .cons rv .nil⟩
  | [], _ :: _, e, _ => by simp at e
  | _ :: _, [], e, _ => by simp at e
  | (g, x) :: vfs, (g', d') :: fs, e, .cons r t => by
    simp at e
    obtain ⟨rfl, e⟩ := e
    unfold putF putD
    by_cases q : g = f
    · rw [if_pos q, if_pos q]
      exact ⟨by simp [e], .cons rv t⟩
    · rw [if_neg q, if_neg q]
      obtain ⟨i1, i2⟩ := rds_putD rv e t
      exact ⟨by simp [i1], .cons r i2⟩
theorem rds_flen {vfs : List (Str × V)} {fs : List (Str × D)} (e : vfs.map (·.1) = fs.map (·.1)) : vfs.length = fs.length := by
  have := congrArg List.length e
  simpa using this
end
section
variable {X : Cx} {c : Ct} {ex : Wh} {pos apos : Pos} {a e : Expr} {g fo fv : ME} {xs : List Str} {f : Str}
theorem md_fld (hK : X.K = c.K) (hF : ∀ x ∈ xs, ClsF c x f) (ha : PE X a (tE c ex g)) (hb : attributeBase a f X.env (eval a X.env) = eval a X.env := by rfl) : PE X (.Attribute a f pos) (tE c ex (fldE g xs f)) :=
  PE_imp (pe_fld ha hb) fun σ H Q q => by
    obtain ⟨ρ, st, bs, rl, re, p⟩ := q
    refine ⟨ρ, st, bs, rl, re, p.bnd.imp fun d st1 bs1 H1 e1 rl1 p1 v rv => ?_⟩
    cases rv with
    | loc h =>
      obtain ⟨a, o, e, hb, hl, ro, p1⟩ := post_obj p1 rl1 (RD.loc h)
      cases e
      cases o with
      | ins x fs =>
        obtain ⟨hx, p1⟩ := Post.iff (m := ofO _) p1
        obtain ⟨C, dx, vfs, hc, hv, ek, r⟩ := ro
        obtain ⟨C', hc', cl, na⟩ := hF x hx
        rw [hc] at hc'
        cases hc'
        obtain ⟨d, e, q⟩ := post_ofO p1 rl1
        obtain ⟨v, h1, h2⟩ := rds_lookup ek r e
        rw [hK]
        exact ⟨_, C, dx, vfs, v, rfl, hv, cl, na, h1, q _ h2⟩
      | lst _ => exact p1.elim
      | dct _ => exact p1.elim
    | _ => exact p1.elim
theorem ms_fld (hK : X.K = c.K) (hF : ∀ x ∈ xs, ClsF c x f) (ha : PE X a (tE c ex fo)) (hv : PE X e (tE c ex fv)) (hs : swapsWith e (some (.Attribute a f apos)) pos.line X.env = pure false := by rfl) : PS X (.Assign [.Attribute a f apos] e pos) (tS c ex (fldS fo fv xs f)) :=
  PS_imp (ps_fld ha hv hs) fun E σ H q => by
    obtain ⟨ρ, st, bs, rl, re, p⟩ := q
    refine ⟨ρ, st, bs, rl, re, p.bnd.imp fun d st1 bs1 H1 e1 rl1 p1 v rv => ?_⟩
    refine ⟨ρ, st1, bs1, rl1, re.ext e1, p1.bnd.imp fun o st2 bs2 H2 e2 rl2 p2 vo rvo => ?_⟩
    cases rvo with
    | loc h =>
      obtain ⟨a, ob, ee, hb, hl, ro, p3⟩ := post_obj p2.bnd rl2 (RD.loc h)
      cases ee
      cases ob with
      | ins x fs =>
        obtain ⟨⟨hx, hlen⟩, p3⟩ := Post.iff (m := putO _ _) p3
        obtain ⟨C, dx, vfs, hc, hv, ek, r⟩ := ro
        obtain ⟨C', hc', cl, na⟩ := hF x hx
        rw [hc] at hc'
        cases hc'
        have rv := rv.ext e2
        obtain ⟨i1, i2⟩ := rds_putD (f := f) rv ek r
        obtain ⟨e6, rl6⟩ := rl2.chg (o := .ins C dx (putF f v vfs)) (u0 := .ins x (putD f d fs)) hb fun m => ⟨C, dx, _, hc, upd_same, i1, i2.mono m⟩
        have p7 := Post.at (st := st2.set _ _) p3 e6 rl6
        rw [hK]
        exact ⟨_, C, dx, vfs, rfl, hv, cl, na, by rw [rds_flen ek]; exact hlen, Post.now p7 rl6 σ (((re.ext e1).ext e2).ext e6)⟩
      | lst _ => exact p3.elim
      | dct _ => exact p3.elim
    | _ => exact p2.bnd.elim
end
end Pm
end
section
set_option Elab.async false
set_option linter.all false
set_option maxRecDepth 100000
set_option maxHeartbeats 4000000
namespace Pm
open PySem PySem.Spec PyProof.Rows L2
/-! ### instances made, their methods -/
theorem under_make_guards {A : Around} {C : Addr} {us : List Value} {kw : List (Str × Value)} (h : A.guards = some []) : (A.under (.builtin "type.__call__" ⟨.ref C :: us, kw⟩)).guards = some [] := by
  first | exact h | simp [Around.under, Code.weight, Code.isCreation, Code.isGuard, Code.isCaller, Code.frames, Code.isFrame, guardIds, h]
section
variable {X : Cx} {CX : CXT} {k : Nat} {f C : Addr} {fd : FuncData} {ps : List Str} {sp : Sp} {dvs : List V} {ds : List Value} {E : XK} {x m : Str} {p pos apos : Pos} {e o : Expr} {es : List Expr} {ta : TE} {t : TA}
theorem run_makeG {pins : List (Addr × Obj)} {σ : L2.St} {H : Hp} {s : Shared} {Q : VK} {us : List Value} {vs : List V} (M : Mk X.K C f) (F : FnG X.prog X.w X.K X.mg X.base CX k f fd ps sp) (hr : Room (k + 1) X.A) (hgd : X.A.guards = some []) (hb : Binds X.K fd ps ds) (hd : Vals dvs ds)
    (hx : Passes CX X E) (I : Inv X pins σ H s) (r : Vals vs us)
    (h : ∀ x dx, H x = none → H dx = none → dx ≠ x → sp (.ref x :: (vs ++ dvs)) (upd (upd H dx (.own x)) x (.ins C dx [])) (fun v H2 => v = .non ∧ Q (.ref x) H2) E) :
    wpAny (model X.prog X.w) X.A (call (.ref C) us) (EP X pins σ Q) X.xe s := by
  have hq := h (s.heap.objs.size + 1) s.heap.objs.size (I.hok.fresh (Nat.le_succ _)) (I.hok.fresh (Nat.le_refl _)) (Nat.ne_of_lt (Nat.lt_succ_self _))
  have I2 := Inv.made (C := C) I
  have r2 : Vals (V.ref (s.heap.objs.size + 1) :: (vs ++ dvs)) (Value.ref (s.heap.objs.size + 1) :: (us ++ ds)) := .cons rfl (r.append hd)
  have hl : (Value.ref (s.heap.objs.size + 1) :: us ++ ds).length = ps.length := by
    have e := r2.length
    rw [F.ln _ _ _ _ hq] at e
    exact e.symm
  refine wpAny_call (make_map (f := f) I.kIn M.makes M.init (beq_iff_eq.mp M.fn) (codeAny_mono (F.go _ X.stack _ _ ⟨Value.ref (s.heap.objs.size + 1) :: us, []⟩ (Value.ref (s.heap.objs.size + 1) :: (us ++ ds)) _ _ E (hr.make C us []) (under_make_guards hgd)
    (I2.env0.make C us []) (hb _ (Value.ref (s.heap.objs.size + 1) :: us) I2.kIn hl) r2 hq) fun r s' hq' => ?_))
  cases r with
  | error e => exact hx pins σ _ _ e s' I2 hq'
  | ok fl =>
    cases fl with
    | ret u =>
      obtain ⟨v, H', I3, rv, ev, q3⟩ := I2.after hq'
      subst ev
      exact ⟨rv, ⟨V.ref (s.heap.objs.size + 1), H', I3, rfl, q3⟩⟩
    | next => exact False.elim hq'
    | brk => exact False.elim hq'
    | cont => exact False.elim hq'
theorem pe_makeG (M : Mk X.K C f) (F : FnG X.prog X.w X.K X.mg X.base CX k f fd ps sp) (hr : Room (k + 1) X.A) (hgd : X.A.guards = some []) (hg : Gl X x) (hm : X.mg x = some (.ref C)) (hb : Binds X.K fd ps ds) (hd : Vals dvs ds) (hx : Passes CX X E)
    (ha : PA X (e :: es) t) (hdb : (x == ("__debug__" : Str)) = false := by decide) (he : starEach (e :: es) X.env = (false, eval e X.env) :: starEach es X.env := by rfl) (hpl : (backTo pos (starEach es X.env)).any (·.1) = false := by rfl) :
    PE X (.Call (.Name x p) (e :: es) [] pos) (tMake C sp dvs E t) := by
  refine ⟨fun pins s σ H Q I h => ?_⟩
  refine wpAny_Call_Name_kw (ld_glob I hg hm ?_ hdb)
  refine PySem.W.callWith_K (h₀ := X.base) I.ok.mod.kin M.kp (thn (ha.run pos pins s σ H _ I h) fun us s1 ⟨vs, H1, I1, r, q⟩ => ⟨I1.kIn, ?_⟩) he hpl
  exact run_makeG M F hr hgd hb hd hx I1 r q
theorem pe_makeG0 (M : Mk X.K C f) (F : FnG X.prog X.w X.K X.mg X.base CX k f fd ps sp) (hr : Room (k + 1) X.A) (hgd : X.A.guards = some []) (hg : Gl X x) (hm : X.mg x = some (.ref C)) (hb : Binds X.K fd ps ds) (hd : Vals dvs ds) (hx : Passes CX X E)
    (hdb : (x == ("__debug__" : Str)) = false := by decide) : PE X (.Call (.Name x p) [] [] pos) (tMake C sp dvs E tNil) := by
  refine ⟨fun pins s σ H Q I h => ?_⟩
  refine wpAny_Call_Name_kw (ld_glob I hg hm ?_ hdb)
  exact PySem.W.callWith_K0 I.kIn M.kp (run_makeG (us := []) M F hr hgd hb hd hx I .nil h)
/-- o.m(..), the method by the instance's class -/
def tMethD (X : Cx) (CX : CXT) (k : Nat) (m : Str) (E : XK) (ta : TE) (t : TA) : TE := fun σ H Q => ta σ H fun x H1 => ∃ a C dx fs f fd ps sp, x = .ref a ∧ H1 a = some (.ins C dx fs) ∧ Cls X.K C ∧ Meth X.K C m f ∧ fs.lookup m = none ∧
  FnG X.prog X.w X.K X.mg X.base CX k f fd ps sp ∧ Binds X.K fd ps [] ∧ t σ H1 fun vs H2 => sp (x :: vs) H2 Q E
theorem pe_methD {pl : Sem Bool} (he : PE X o ta) (hr : Room k X.A) (hgd : X.A.guards = some []) (hx : Passes CX X E) (ha : PA X (e :: es) t)
    (hst : starEach (e :: es) X.env = (false, eval e X.env) :: starEach es X.env := by rfl) (hpl : (backTo pos (starEach es X.env)).any (·.1) = false := by rfl)
    (ht : eval (.Call (.Attribute o m apos) (e :: es) [] pos) X.env = (do
      let ov ← eval o X.env
      standAt apos.atName
      let (f, first) ← holding [ov] (getMethod ov m pl)
      callWith pos f first (backTo pos (starEach (e :: es) X.env)) (backToKw pos (keywordEach [] X.env))) := by rfl) :
    PE X (.Call (.Attribute o m apos) (e :: es) [] pos) (tMethD X CX k m E ta t) := by
  refine ⟨fun pins s σ H Q I h => ?_⟩
  refine PySem.W.methodCall_KW (pl := pl) (thn (he.run pins s σ H _ I h) fun u s1 ⟨x, H1, I1, rx, a, C, dx, fs, f, fd, ps, sp, ex, ea, cl, hm, l, F, hb, q⟩ => ?_) ht
  subst ex
  obtain rfl : u = Value.ref a := rx
  refine getmeth_ok I1 ea cl hm l ?_
  refine PySem.W.callWith_K (first := [.ref a]) (h₀ := X.base) I.ok.mod.kin hm.kp (thn (ha.run pos pins s1 σ H1 _ I1 q) fun us s2 ⟨vs, H2, I2, r, q2⟩ => ⟨I2.kIn, ?_⟩) hst hpl
  exact gRun (us := .ref a :: us) (vs := .ref a :: vs) (ds := []) (dvs := []) F hr hgd hb .nil hx I2 (.cons rfl r) (by rw [List.append_nil]; exact q2)
theorem pe_methD0 {pl : Sem Bool} (he : PE X o ta) (hr : Room k X.A) (hgd : X.A.guards = some []) (hx : Passes CX X E)
    (ht : eval (.Call (.Attribute o m apos) [] [] pos) X.env = (do
      let ov ← eval o X.env
      standAt apos.atName
      let (f, first) ← holding [ov] (getMethod ov m pl)
      callWith pos f first (backTo pos (starEach [] X.env)) (backToKw pos (keywordEach [] X.env))) := by rfl) :
    PE X (.Call (.Attribute o m apos) [] [] pos) (tMethD X CX k m E ta tNil) := by
  refine ⟨fun pins s σ H Q I h => ?_⟩
  refine PySem.W.methodCall_KW (pl := pl) (thn (he.run pins s σ H _ I h) fun u s1 ⟨x, H1, I1, rx, a, C, dx, fs, f, fd, ps, sp, ex, ea, cl, hm, l, F, hb, q⟩ => ?_) ht
  subst ex
  obtain rfl : u = Value.ref a := rx
  refine getmeth_ok I1 ea cl hm l ?_
  exact PySem.W.callWith_K0 (first := [.ref a]) I1.kIn hm.kp (gRun (us := [.ref a]) (vs := [.ref a]) (ds := []) (dvs := []) F hr hgd hb .nil hx I1 (.cons rfl .nil) (by rw [List.append_nil]; exact q))
end
/-! ### by their meanings -/
/-- a class that may be made: its __init__'s meaning -/
structure CalN (P : Program) (w : World) (K : PySem.W.Frag) (mg : Str → Option Value) (base : Heap) (c : Ct) (x : Str) (n k : Nat) (m : List D → M D) : Prop where
  ex : ∃ C f fd ps, c.cl x = some C ∧ mg x = some (.ref C) ∧ Mk K C f ∧ FnG P w K mg base (L2.CX P w) k f fd ps (spM c wF n m) ∧ Binds K fd ps []
/-- a method of a class -/
structure CalM (P : Program) (w : World) (K : PySem.W.Frag) (mg : Str → Option Value) (base : Heap) (c : Ct) (x m : Str) (n k : Nat) (mm : List D → M D) : Prop where
  ex : ∃ C f fd ps, c.cl x = some C ∧ Cls K C ∧ Meth K C m f ∧ FnG P w K mg base (L2.CX P w) k f fd ps (spM c wF n mm) ∧ Binds K fd ps []
def newO (x : Str) (n : Nat) (m : List D → M D) (ds : List D) : M D := if ds.length + 1 = n then bnd (allocO (.ins x [])) fun d => bnd (m (d :: ds)) fun r => match r with
  | .non => ret d
  | _ => no else no
def makE (x : Str) (n : Nat) (g : MA) (m : List D → M D) : ME := fun ρ => bnd (g ρ) (newO x n m)
def pickM (alts : List (Str × (List D → M D))) (m : Str) : D → M (List D → M D)
  | .loc l => bnd (obj l) fun o => match o with
    | .ins x fs => if fs.lookup m = none then match alts.lookup x with
      | some mm => ret mm
      | none => no else no
    | _ => no
  | _ => no
def metE (fo : ME) (g : MA) (m : Str) (n : Nat) (alts : List (Str × (List D → M D))) : ME := fun ρ => bnd (fo ρ) fun o => bnd (pickM alts m o) fun mm => bnd (g ρ) fun ds => if ds.length + 1 = n then mm (o :: ds) else no
section
variable {c : Ct} {ex : Wh} {bs : List Addr} {H : Hp} {st : Sto}
/-- a new instance -/
theorem Rel.made (rl : Rel c bs H st) {x : Str} {C p dx : Addr} (hc : c.cl x = some C) (h1 : H p = none) (h2 : H dx = none) (hn : dx ≠ p) :
    Ext bs H (bs ++ [p]) (upd (upd H dx (.own p)) p (.ins C dx [])) ∧ Rel c (bs ++ [p]) (upd (upd H dx (.own p)) p (.ins C dx [])) (st ++ [.ins x []]) ∧ RD c (bs ++ [p]) (upd (upd H dx (.own p)) p (.ins C dx [])) (.ref p) (.loc st.length) := by
  obtain ⟨e1, rl1⟩ := rl.fresh h2 (.own p)
  obtain ⟨e2, rl2⟩ := rl1.laid (p := p) (o := .ins C dx []) (u0 := .ins x []) (by rw [upd_ne (Ne.symm hn)]; exact h1) fun m => ⟨C, dx, [], hc, upd_same, rfl, .nil⟩
  exact ⟨e1.trans e2, rl2, .loc (by rw [← rl.len]; simp)⟩
theorem newO_ok {x : Str} {n : Nat} {m : List D → M D} {ds : List D} {vs : List V} {C : Addr} {Q : VK} {E : XK} (hc : c.cl x = some C) (rl : Rel c bs H st) (rvs : RDs c bs H vs ds) (p : Post c exF (newO x n m ds st) bs H fun z _ bs' H' => ∀ v, RD c bs' H' v z → Q v H') (p1 dx : Addr) (h1 : H p1 = none) (h2 : H dx = none) (hn : dx ≠ p1) :
    spM c wF n m (.ref p1 :: (vs ++ [])) (upd (upd H dx (.own p1)) p1 (.ins C dx [])) (fun v H2 => v = .non ∧ Q (.ref p1) H2) E := by
  obtain ⟨hl, q⟩ := Post.iff (m := bnd (allocO (.ins x [])) _) p
  obtain ⟨e3, rl3, r3⟩ := rl.made hc h1 h2 hn
  have q2 := Post.at (st := st ++ [.ins x []]) q.bnd e3 rl3
  refine ⟨by simp [rvs.length]; exact hl, .loc st.length :: ds, _, _, rl3, .cons r3 (by rw [List.append_nil]; exact rvs.ext e3), q2.bnd.imp fun d st4 bs4 H4 e4 rl4 q4 v rv => ?_⟩
  cases d with
  | non =>
    cases rv
    exact ⟨rfl, q4.now rl4 _ (r3.ext e4)⟩
  | _ => exact q4.elim
end
section
variable {X : Cx} {j k n : Nat} {x m : Str} {p pos apos : Pos} {e o : Expr} {es : List Expr} {c : Ct} {g : MA} {fo : ME} {mm : List D → M D} {alts : List (Str × (List D → M D))}
theorem md_new (C : CalN X.prog X.w X.K X.mg X.base c x n j mm) (hr : Room k X.A) (hj : j + 1 ≤ k) (hgd : X.A.guards = some []) (hg : Gl X x) (ha : PA X (e :: es) (tA c exF g)) (hdb : (x == ("__debug__" : Str)) = false := by decide)
    (he : starEach (e :: es) X.env = (false, eval e X.env) :: starEach es X.env := by rfl) (hpl : (backTo pos (starEach es X.env)).any (·.1) = false := by rfl) : PE X (.Call (.Name x p) (e :: es) [] pos) (tE c exF (makE x n g mm)) := by
  obtain ⟨C, f, fd, ps, hc, hm, M, F, hb⟩ := C.ex
  refine PE_imp (pe_makeG (dvs := []) M F (hr.mono hj) hgd hg hm hb .nil passL ha hdb he hpl) fun σ H Q q => ?_
  obtain ⟨ρ, st, bs, rl, re, q⟩ := q
  exact ⟨ρ, st, bs, rl, re, q.bnd.imp fun ds st1 bs1 H1 e1 rl1 q1 vs rvs p1 dx h1 h2 hn => newO_ok hc rl1 rvs q1 p1 dx h1 h2 hn⟩
theorem md_new0 (C : CalN X.prog X.w X.K X.mg X.base c x n j mm) (hr : Room k X.A) (hj : j + 1 ≤ k) (hgd : X.A.guards = some []) (hg : Gl X x) (hdb : (x == ("__debug__" : Str)) = false := by decide) : PE X (.Call (.Name x p) [] [] pos) (tE c exF (makE x n nilA mm)) := by
  obtain ⟨C, f, fd, ps, hc, hm, M, F, hb⟩ := C.ex
  refine PE_imp (pe_makeG0 (dvs := []) M F (hr.mono hj) hgd hg hm hb .nil passL hdb) fun σ H Q q => ?_
  obtain ⟨ρ, st, bs, rl, re, q⟩ := q
  exact fun p1 dx h1 h2 hn => newO_ok (vs := []) hc rl .nil (q.bnd.now rl) p1 dx h1 h2 hn
theorem pick_ok {ex : Wh} {bs : List Addr} {H : Hp} {st : Sto} {d : D} {f : (List D → M D) → M D} {kk : D → Sto → List Addr → Hp → Prop} (hA : ∀ x mm, alts.lookup x = some mm → CalM X.prog X.w X.K X.mg X.base c x m n j mm) (q : Post c ex (bnd (pickM alts m d) f st) bs H kk) (rl : Rel c bs H st) {v : V} (r : RD c bs H v d) :
    ∃ a C dx vfs g fd ps mm, v = .ref a ∧ H a = some (.ins C dx vfs) ∧ Cls X.K C ∧ Meth X.K C m g ∧ vfs.lookup m = none ∧ FnG X.prog X.w X.K X.mg X.base (L2.CX X.prog X.w) j g fd ps (spM c wF n mm) ∧ Binds X.K fd ps [] ∧ Post c ex (f mm st) bs H kk := by
  cases r with
  | @loc a l h =>
    have q1 : Post c ex (bnd (bnd (obj l) fun o => match o with
      | .ins x fs => if fs.lookup m = none then match alts.lookup x with
        | some mm => ret mm
        | none => no else no
      | _ => no) f st) bs H kk := q
    unfold bnd obj at q1
    cases e : st[l]? with
    | none => rw [e] at q1; exact q1.elim
    | some o =>
      rw [e] at q1
      have ro := rl.obj l a o h e
      cases o with
      | lst _ => exact q1.elim
      | dct _ => exact q1.elim
      | ins x fs =>
        obtain ⟨C, dx, vfs, hc, hv, ek, r⟩ := ro
        simp only at q1
        by_cases hl : fs.lookup m = none
        · rw [if_pos hl] at q1
          cases e2 : alts.lookup x with
          | none => rw [e2] at q1; exact q1.elim
          | some mm =>
            rw [e2] at q1
            obtain ⟨C', g, fd, ps, hc', cl, hm, F, hb⟩ := (hA x mm e2).ex
            rw [hc] at hc'
            cases hc'
            exact ⟨a, C, dx, vfs, g, fd, ps, mm, rfl, hv, cl, hm, rds_lookup_none ek hl, F, hb, q1⟩
        · rw [if_neg hl] at q1
          exact q1.elim
  | _ => exact q.elim
theorem md_meth {pl : Sem Bool} (hA : ∀ x mm, alts.lookup x = some mm → CalM X.prog X.w X.K X.mg X.base c x m n j mm) (he : PE X o (tE c exF fo)) (hr : Room k X.A) (hj : j ≤ k) (hgd : X.A.guards = some []) (ha : PA X (e :: es) (tA c exF g))
    (hst : starEach (e :: es) X.env = (false, eval e X.env) :: starEach es X.env := by rfl) (hpl : (backTo pos (starEach es X.env)).any (·.1) = false := by rfl)
    (ht : eval (.Call (.Attribute o m apos) (e :: es) [] pos) X.env = (do
      let ov ← eval o X.env
      standAt apos.atName
      let (f, first) ← holding [ov] (getMethod ov m pl)
      callWith pos f first (backTo pos (starEach (e :: es) X.env)) (backToKw pos (keywordEach [] X.env))) := by rfl) :
    PE X (.Call (.Attribute o m apos) (e :: es) [] pos) (tE c exF (metE fo g m n alts)) :=
  PE_imp (pe_methD (pl := pl) he (hr.mono hj) hgd passL ha hst hpl ht) fun σ H Q q => by
    obtain ⟨ρ, st, bs, rl, re, q⟩ := q
    refine ⟨ρ, st, bs, rl, re, q.bnd.imp fun d st1 bs1 H1 e1 rl1 q1 v rv => ?_⟩
    obtain ⟨a, C, dx, vfs, g, fd, ps, mm, rfl, hv, cl, hm, hl, F, hb, q2⟩ := pick_ok hA q1 rl1 rv
    refine ⟨a, C, dx, vfs, g, fd, ps, _, rfl, hv, cl, hm, hl, F, hb, ρ, st1, bs1, rl1, re.ext e1, q2.bnd.imp fun ds st2 bs2 H2 e2 rl2 q3 vs rvs => ?_⟩
    obtain ⟨hn, q3⟩ := Post.iff (m := mm (d :: ds)) q3
    exact ⟨by simp [rvs.length]; exact hn, d :: ds, st2, bs2, rl2, .cons (rv.ext e2) rvs, q3⟩
theorem md_meth0 {pl : Sem Bool} (hA : ∀ x mm, alts.lookup x = some mm → CalM X.prog X.w X.K X.mg X.base c x m n j mm) (he : PE X o (tE c exF fo)) (hr : Room k X.A) (hj : j ≤ k) (hgd : X.A.guards = some [])
    (ht : eval (.Call (.Attribute o m apos) [] [] pos) X.env = (do
      let ov ← eval o X.env
      standAt apos.atName
      let (f, first) ← holding [ov] (getMethod ov m pl)
      callWith pos f first (backTo pos (starEach [] X.env)) (backToKw pos (keywordEach [] X.env))) := by rfl) :
    PE X (.Call (.Attribute o m apos) [] [] pos) (tE c exF (metE fo nilA m n alts)) :=
  PE_imp (pe_methD0 (pl := pl) he (hr.mono hj) hgd passL ht) fun σ H Q q => by
    obtain ⟨ρ, st, bs, rl, re, q⟩ := q
    refine ⟨ρ, st, bs, rl, re, q.bnd.imp fun d st1 bs1 H1 e1 rl1 q1 v rv => ?_⟩
    obtain ⟨a, C, dx, vfs, g, fd, ps, mm, rfl, hv, cl, hm, hl, F, hb, q2⟩ := pick_ok hA q1 rl1 rv
    obtain ⟨hn, q3⟩ := Post.iff (m := mm [d]) (q2.bnd.now rl1)
    exact ⟨a, C, dx, vfs, g, fd, ps, _, rfl, hv, cl, hm, hl, F, hb, hn, [d], st1, bs1, rl1, .cons rv .nil, q3⟩
end
section
variable {P : Program} {w : World} {K : PySem.W.Frag} {mg : Str → Option Value} {base : Heap} {k n : Nat} {f C : Addr} {fd : FuncData} {ps : List Str} {c : Ct} {x m : Str} {mm : List D → M D}
theorem calN_of (hc : c.cl x = some C) (g : mg x = some (.ref C)) (M : Mk K C f) (hb : Binds K fd ps []) (G : FnG P w K mg base (L2.CX P w) k f fd ps (spM c wF n mm)) : CalN P w K mg base c x n k mm := ⟨C, f, fd, ps, hc, g, M, G, hb⟩
theorem calM_of (hc : c.cl x = some C) (cl : Cls K C) (M : Meth K C m f) (hb : Binds K fd ps []) (G : FnG P w K mg base (L2.CX P w) k f fd ps (spM c wF n mm)) : CalM P w K mg base c x m n k mm := ⟨C, f, fd, ps, hc, cl, M, G, hb⟩
theorem alts_nil : ∀ x mm, ([] : List (Str × (List D → M D))).lookup x = some mm → CalM P w K mg base c x m n k mm := fun _ _ h => nomatch h
theorem alts_cons {y : Str} {m1 : List D → M D} {alts : List (Str × (List D → M D))} {j : Nat} (h1 : CalM P w K mg base c y m n j m1) (hj : j ≤ k) (h : ∀ x mm, alts.lookup x = some mm → CalM P w K mg base c x m n k mm) : ∀ x mm, ((y, m1) :: alts).lookup x = some mm → CalM P w K mg base c x m n k mm := fun x mm e => by
  rw [List.lookup_cons] at e
  cases q : (x == y) with
  | true =>
    rw [q] at e
    cases e
    have := eq_of_beq q
    subst this
    obtain ⟨C, f, fd, ps, hc, cl, M, G, hb⟩ := h1.ex
    exact ⟨C, f, fd, ps, hc, cl, M, G.mono hj, hb⟩
  | false =>
    rw [q] at e
    exact h x mm e
end
end Pm
end
section
set_option Elab.async false
set_option linter.all false
set_option maxRecDepth 100000
set_option maxHeartbeats 4000000
namespace Pm
open PySem PySem.Spec PyProof.Rows L2
/-! ### isinstance of a class of the program -/
def ty7 : List String := ["NoneType", "bool", "int", "str", "tuple", "list", "dict"]
structure InsT (K : PySem.W.Frag) (C : Addr) : Prop where
  cls : Cls K C
  h1 : PySem.W.findIn K (.ref C) "__class__" = some (some (.builtin "object.__class__"))
  h2 : PySem.W.specialIn K (.builtin "object.__class__") "__get__" = some (some (.builtin "getset_descriptor.__get__"))
  h3 : PySem.W.takesIn K (.builtin "object.__class__") = some true
  h4 : PySem.W.mroIn K C (.type "object") = some true
def insB (K : PySem.W.Frag) (x : Str) : Bool := (He.Fa.cls x).ok K && (decide (PySem.W.findIn K (.ref (He.ga K x)) "__class__" = some (some (.builtin "object.__class__"))) && (decide (PySem.W.specialIn K (.builtin "object.__class__") "__get__" = some (some (.builtin "getset_descriptor.__get__"))) &&
  (decide (PySem.W.takesIn K (.builtin "object.__class__") = some true) && decide (PySem.W.mroIn K (He.ga K x) (.type "object") = some true))))
theorem insB_ok {K : PySem.W.Frag} {x : Str} (h : insB K x = true) : InsT K (He.ga K x) := by
  unfold insB at h
  simp only [Bool.and_eq_true, decide_eq_true_eq] at h
  exact ⟨He.cls_ok h.1, h.2.1, h.2.2.1, h.2.2.2.1, h.2.2.2.2⟩
/-- isinstance(_, y): y's class, what the classes of tab answer -/
structure IsF (c : Ct) (mg : Str → Option Value) (y : Str) (tab : List (Str × Bool)) : Prop where
  ex : ∃ C, mg y = some (.ref C) ∧ (∀ t ∈ ty7, PySem.W.kitOne c.K (.type t) (.ref C) = some false) ∧ ∀ x b, tab.lookup x = some b → ∃ C', c.cl x = some C' ∧ InsT c.K C' ∧ PySem.W.kitOne c.K (.ref C') (.ref C) = some b
def isFB (K : PySem.W.Frag) (y : Str) (tab : List (Str × Bool)) : Bool := ty7.all (fun t => decide (PySem.W.kitOne K (.type t) (.ref (He.ga K y)) = some false)) && tab.all fun p => insB K p.1 && decide (PySem.W.kitOne K (.ref (He.ga K p.1)) (.ref (He.ga K y)) = some p.2)
theorem lookup_mem {α : Type} {x : Str} {b : α} : ∀ {tab : List (Str × α)}, tab.lookup x = some b → (x, b) ∈ tab
  | [], h => nomatch h
  | (y, d) :: tab, h => by
    rw [List.lookup_cons] at h
    cases q : (x == y) with
    | true =>
      rw [q] at h
      cases h
      rw [eq_of_beq q]
      exact List.mem_cons_self
    | false =>
      rw [q] at h
      exact List.mem_cons_of_mem _ (lookup_mem h)
theorem isFB_ok {c : Ct} {mg : Str → Option Value} {y : Str} {tab : List (Str × Bool)} (hcl : ∀ x, c.cl x = some (He.ga c.K x)) (hm : mg y = some (.ref (He.ga c.K y))) (h : isFB c.K y tab = true) : IsF c mg y tab := by
  unfold isFB at h
  rw [Bool.and_eq_true] at h
  refine ⟨_, hm, fun t ht => of_decide_eq_true (List.all_eq_true.mp h.1 t ht), fun x b e => ?_⟩
  have h2 := List.all_eq_true.mp h.2 (x, b) (lookup_mem e)
  simp only [Bool.and_eq_true, decide_eq_true_eq] at h2
  exact ⟨_, hcl x, insB_ok h2.1, h2.2⟩
def isC (tab : List (Str × Bool)) : D → M D
  | .loc l => bnd (obj l) fun o => match o with
    | .ins x _ => match tab.lookup x with
      | some b => ret (.bl b)
      | none => no
    | _ => ret (.bl false)
  | .scr => no
  | _ => ret (.bl false)
section
variable {X : Cx} {c : Ct} {ex : Wh} {bs : List Addr} {H : Hp} {st : Sto} {pos : Pos} {a : Expr} {f : ME}
theorem isC_ok {y : Str} {C : Addr} {tab : List (Str × Bool)} (h1 : ∀ t ∈ ty7, PySem.W.kitOne c.K (.type t) (.ref C) = some false) (h2 : ∀ x b, tab.lookup x = some b → ∃ C', c.cl x = some C' ∧ InsT c.K C' ∧ PySem.W.kitOne c.K (.ref C') (.ref C) = some b) {v : V} {d : D} {Q : VK} (r : RD c bs H v d) (rl : Rel c bs H st)
    (p : Post c ex (isC tab d st) bs H (fun z _ bs' H' => ∀ v, RD c bs' H' v z → Q v H')) : rIsi c.K [v, .ref C] H Q := by
  have fin : ∀ (t : String) (ht : t ∈ ty7), TyX c.K H v (.type t) → Post c ex (ret (D.bl false) st) bs H (fun z _ bs' H' => ∀ v, RD c bs' H' v z → Q v H') → rIsi c.K [v, .ref C] H Q := fun t ht ty p =>
    ⟨v, .ref C, .type t, .ref C, false, rfl, .own C, ty, h1 t ht, p.now rl _ (.bl _)⟩
  cases r with
  | non => exact fin "NoneType" (by simp [ty7]) (.base .non) p
  | bl b => exact fin "bool" (by simp [ty7]) (.base (.bl b)) p
  | int i => exact fin "int" (by simp [ty7]) (.base (.int i)) p
  | str x => exact fin "str" (by simp [ty7]) (.base (.str x)) p
  | @tup a vs ds s tl r =>
    refine fin "tuple" (by simp [ty7]) ?_ p
    rcases s with (s | ⟨o, s⟩) | ⟨o, its, n, hk, hc, _⟩
    · exact .base (.tup s)
    · exact .fTuple s
    · exact .kTuple hk hc
  | loc h =>
    obtain ⟨a, o, e, hb, hl, ro, p⟩ := post_obj p rl (RD.loc h)
    cases e
    cases o with
    | lst xs =>
      obtain ⟨vs, hv, r⟩ := ro
      exact fin "list" (by simp [ty7]) (.base (.lst hv)) p
    | dct kvs =>
      obtain ⟨vks, hv, e, r⟩ := ro
      exact fin "dict" (by simp [ty7]) (.base (.dK hv)) p
    | ins x fs =>
      obtain ⟨C', dx, vfs, hc, hv, ek, r⟩ := ro
      simp only at p
      cases e : tab.lookup x with
      | none => rw [e] at p; exact p.elim
      | some b =>
        rw [e] at p
        obtain ⟨C2, hc2, it, k⟩ := h2 x b e
        rw [hc] at hc2
        cases hc2
        exact ⟨_, .ref C, .ref C', .ref C, b, rfl, .own C, .base (.ins hv it.cls it.h1 it.h2 it.h3 it.h4), k, p.now rl _ (.bl _)⟩
  | scr => exact p.elim
theorem md_isC {y : Str} {tab : List (Str × Bool)} {p1 p2 : Pos} (hK : X.K = c.K) (F : IsF c X.mg y tab) (hg : Gl X "isinstance") (hm : X.mg "isinstance" = none) (hv : bootBuiltins "isinstance" = some (.builtin "isinstance")) (ha : PE X a (tE c ex f)) (hg2 : Gl X y)
    (hdb : (y == ("__debug__" : Str)) = false := by decide)
    (he : starEach [a, .Name y p2] X.env = (false, eval a X.env) :: starEach [.Name y p2] X.env := by rfl) (he2 : starEach [.Name y p2] X.env = (false, eval (.Name y p2) X.env) :: starEach [] X.env := by rfl) (hpl : (backTo pos (starEach [.Name y p2] X.env)).any (·.1) = false := by rfl) :
    PE X (.Call (.Name "isinstance" p1) [a, .Name y p2] [] pos) (tE c ex (una f (isC tab))) := by
  obtain ⟨C, hmy, h1, h2⟩ := F.ex
  exact PE_imp (pe_callB call_isi hg hm hv (pa_cons ha (pa_cons (pe_glob (v := .ref C) hg2 hmy rfl hdb) pa_nil he2) he) (by decide) (by decide) he hpl) fun σ H Q q => by
    obtain ⟨ρ, st, bs, rl, re, p⟩ := q
    refine ⟨ρ, st, bs, rl, re, p.bnd.imp fun d st1 bs1 H1 e1 rl1 p1 v rv => ?_⟩
    rw [hK]
    exact isC_ok (y := y) h1 h2 rv rl1 p1
end
end Pm
end
section
set_option Elab.async false
set_option linter.all false
set_option maxRecDepth 100000
set_option maxHeartbeats 4000000
namespace Pm
open PySem PySem.Spec PyProof.Rows L2
/-! ### dicts among the constants of the modules: text keys -/
def getC (kvs : List (Str × D)) : Key → Option D
  | .inl _ => none
  | .inr x => kvs.lookup x
def cGet (kvs : List (Str × D)) (y z : D) : M D := match dkey y with
  | some k => ret ((getC kvs k).getD z)
  | none => no
def cIn (neg : Bool) (kvs : List (Str × D)) (y : D) : M D := match dkey y with
  | some k => ret (.bl (if neg then !(getC kvs k).isSome else (getC kvs k).isSome))
  | none => no
def cIx (kvs : List (Str × D)) (y : D) : M D := match dkey y with
  | some k => ofO (getC kvs k)
  | none => no
/-- the entries of a written dict -/
def entB (K : PySem.W.Frag) : List DictEntry → List (Str × D) → Bool
  | [], [] => true
  | e :: es, (k, d) :: kvs => e.key.isStr k && (cB K d e.val && entB K es kvs)
  | _, _ => false
def kCB (l : List (Str × List (Str × D))) (K : PySem.W.Frag) : Bool := l.all fun p => match PySem.W.nsIn K mainGlobals p.1 with
  | some (some (.ref d)) => (match K.lookup d with
    | some ⟨_, _, .dict es _, _⟩ => entB K es.toList p.2
    | _ => false)
  | _ => false
/-- a constant dict -/
structure KC (K : PySem.W.Frag) (w : World) (mg : Str → Option Value) (x : Str) (kvs : List (Str × D)) : Prop where
  ex : ∃ d es n, mg x = some (.ref d) ∧ KDict K w d es n ∧ entB K es.toList kvs = true
theorem kCB_ok {l : List (Str × List (Str × D))} {K : PySem.W.Frag} {w : World} {h : Heap} {mg : Str → Option Value} (X : K.In h) (G : h.Ns mainGlobals mg) (hk : kCB l K = true) (i : Nat) {x : Str} {kvs : List (Str × D)} (hd : ∃ es n, KDict K w (He.ga K x) es n) (hi : l[i]? = some (x, kvs) := by rfl) : KC K w mg x kvs := by
  have h1 := List.all_eq_true.mp hk (x, kvs) (List.mem_of_getElem? hi)
  cases q : PySem.W.nsIn K mainGlobals x with
  | none => simp only [q] at h1; cases h1
  | some o =>
    cases o with
    | none => simp only [q] at h1; cases h1
    | some u =>
      cases u with
      | ref d =>
        have e : He.ga K x = d := by unfold He.ga; rw [q]
        rw [e] at hd
        obtain ⟨es, n, D⟩ := hd
        refine ⟨d, es, n, PySem.W.mg_of X G q, D, ?_⟩
        simp only [q] at h1
        rw [D.at_] at h1
        exact h1
      | _ => simp only [q] at h1; cases h1
section
variable {K : PySem.W.Frag}
theorem ent_find {es : List DictEntry} {kvs : List (Str × D)} (h : entB K es kvs = true) (x : Str) : (kvs.lookup x = none → (es.find? fun e => Value.isStrOf x e.key) = none) ∧ ∀ d, kvs.lookup x = some d → ∃ e, (es.find? fun e => Value.isStrOf x e.key) = some e ∧ cB K d e.val = true := by
  induction es generalizing kvs with
  | nil =>
    cases kvs with
    | nil => exact ⟨fun _ => rfl, fun d e => nomatch e⟩
    | cons p kvs => simp [entB] at h
  | cons e es ih =>
    cases kvs with
    | nil => simp [entB] at h
    | cons p kvs =>
      obtain ⟨k, d0⟩ := p
      rw [entB, Bool.and_eq_true, Bool.and_eq_true] at h
      obtain ⟨h1, h2, h3⟩ := h
      have h1' : Value.isStrOf k e.key = true := by rw [← PySem.W.isStr_of]; exact h1
      rw [List.lookup_cons, List.find?_cons]
      by_cases hx : x = k
      · subst hx
        rw [h1', beq_self_eq_true]
        exact ⟨(fun z => by cases z), (fun d z => by cases z; exact ⟨e, rfl, h2⟩)⟩
      · have hb : (x == k) = false := beq_eq_false_iff_ne.mpr hx
        have hf : Value.isStrOf x e.key = false := by
          cases q : Value.isStrOf x e.key with
          | false => rfl
          | true => exact absurd (Value.isStrOf_inj _ _ _ q h1') hx
        rw [hb, hf]
        exact ih h3
theorem mixMap {P : Program} {w : World} {d : Addr} {es : Array DictEntry} {n : Nat} {h : Heap} (X : K.In h) (D : KDict K w d es n) : h.MapOf (mixKind P w) d (fun k => findBy keyIs es k) :=
  ⟨_, es, n, X _ _ D.at_, ⟨rfl, rfl, rfl⟩, rfl, fun e he => by
    obtain ⟨x, t, e1, e2⟩ := D.lit.all e (Array.mem_toList_iff.mpr he)
    exact ⟨.inr x, by rw [e1]; exact mixKind_str P w x t, e2⟩, fun _ => rfl⟩
theorem KC.find {w : World} {d : Addr} {es : Array DictEntry} {n : Nat} {kvs : List (Str × D)} (D : KDict K w d es n) (h : entB K es.toList kvs = true) (k : Key) : (getC kvs k = none → findBy keyIs es k = none) ∧ ∀ dv, getC kvs k = some dv → ∃ u, findBy keyIs es k = some u ∧ cB K dv u = true := by
  obtain ⟨l⟩ := es
  cases k with
  | inl i =>
    refine ⟨fun _ => ?_, fun dv e => nomatch e⟩
    unfold findBy
    rw [List.find?_toArray]
    have : (l.find? fun e => keyIs (.inl i) e.key) = none := List.find?_eq_none.mpr fun e he z => by
      obtain ⟨x, t, e1, _⟩ := D.lit.all e he
      rw [e1] at z
      exact nomatch (show Value.isInt i (.str x t) = true from z)
    rw [this]
    rfl
  | inr x =>
    obtain ⟨h1, h2⟩ := ent_find h x
    unfold findBy
    rw [List.find?_toArray]
    refine ⟨fun e => ?_, fun dv e => ?_⟩
    · have := h1 e
      show ((l.find? fun e => Value.isStrOf x e.key).map (·.val)) = none
      rw [this]
      rfl
    · obtain ⟨en, e1, e2⟩ := h2 dv e
      refine ⟨en.val, ?_, e2⟩
      show ((l.find? fun e => Value.isStrOf x e.key).map (·.val)) = _
      rw [e1]
      rfl
end
section
variable {X : Cx} {c : Ct} {ex : Wh} {pos apos p0 : Pos} {a e e2 : Expr} {f fe fz : ME} {x : Str} {kvs : List (Str × D)}
/-- what a look finds -/
theorem kc_val {w : World} {d : Addr} {es : Array DictEntry} {n : Nat} (hK : X.K = c.K) (DD : KDict X.K w d es n) (h : entB X.K es.toList kvs = true) {bs : List Addr} {H : Hp} {y z : V} {dy dz : D} {k : Key} {ru : Value} (ek : dkey dy = some k) (ry : RD c bs H y dy) (rz : RD c bs H z dz) (rr : RelV z ru) :
    ∃ v, RelV v ((findBy keyIs es k).getD ru) ∧ RD c bs H v ((getC kvs k).getD dz) := by
  obtain ⟨h1, h2⟩ := KC.find DD h k
  cases q : getC kvs k with
  | none => rw [h1 q]; exact ⟨z, rr, rz⟩
  | some dv =>
    obtain ⟨u, e1, e2⟩ := h2 dv q
    rw [e1]
    obtain ⟨v, r1, r2⟩ := cB_ok e2
    exact ⟨v, r1, r2 c bs H hK.symm⟩
theorem md_cget1 (hu : X.A.units + 64 < cLine) (hK : X.K = c.K) (C : KC X.K X.w X.mg x kvs) (hg : Gl X x) (hd : (x == ("__debug__" : Str)) = false := by decide) (he : PE X e (tE c ex fe)) (m : M1 X (.Name x p0) "get" apos e pos := by exact ⟨rfl, rfl, rfl, rfl⟩) : PE X (.Call (.Attribute (.Name x p0) "get" apos) [e] [] pos) (tE c ex (una fe fun y => cGet kvs y .non)) := by
  obtain ⟨d, es, n, hm, D, hE⟩ := C.ex
  refine ⟨fun pins s σ H Q I h => ?_⟩
  obtain ⟨ρ, st, bs, rl, re, p⟩ := h
  refine wpAny_Call_method m.base m.few m.line PySem.F.plainAttrs_dict PySem.F.slot_dict_get PySem.F.type_dict_get (thn ((pe_glob (pos := p0) (v := .ref d) hg hm rfl hd).run pins s σ H (fun v H1 => v = .ref d ∧ H1 = H) I ⟨rfl, rfl⟩) fun u s1 ⟨v, H1, I1, rx, ev, eH⟩ => ?_)
  subst ev eH
  obtain rfl : u = Value.ref d := rx
  have mp := mixMap (P := X.prog) I1.kIn D
  obtain ⟨o, es', ep, ho, hex, hdt, _⟩ := id mp
  refine ⟨mp.typeIs, fun b q => by cases q; exact ⟨o, ho, hex.2.1⟩, ?_⟩
  rw [m.trees]
  refine Calls.callWith_builtin rfl (Calls.evalArgs_plain (Calls.spliced_cons (thn (he.run pins s1 σ _ _ I1 ⟨ρ, st, bs, rl, re, p.bnd.imp fun y st2 bs2 H2 e2 rl2 p3 vy ry => (⟨y, st2, bs2, rl2, p3, ry⟩ : ∃ y st2 bs2, Rel c bs2 H2 st2 ∧ Post c ex (cGet kvs y .non st2) bs2 H2 (fun z _ bs' H' => ∀ v, RD c bs' H' v z → Q v H') ∧ RD c bs2 H2 vy y)⟩) fun iv s2 ⟨vy, H2, I2, rv, y, st2, bs2, rl2, p3, ry⟩ => Calls.spliced_nil ?_)))
  unfold cGet at p3
  cases ek : dkey y with
  | none => rw [ek] at p3; exact p3.elim
  | some k =>
    rw [ek] at p3
    have mp2 := mixMap (P := X.prog) I2.kIn D
    have hy : RelV (kV k) iv := by rw [← dkey_v ry ek]; exact rv
    refine call_meetsIn PySem.F.slot_dict_get mp2.typeIs PySem.F.entry_dict_get (PySem.F.args_dict_get_2 _ _) (meets_dict_get (mixKind X.prog X.w) d (kV_is hy) D.low) ⟨_, mp2, ?_⟩
    obtain ⟨v, r1, r2⟩ := kc_val (ru := .none) (z := .non) (dz := .non) hK D hE ek ry .non rfl
    exact ⟨v, H2, I2.tok _, r1, p3.now rl2 v r2⟩
theorem md_cget2 (hu : X.A.units + 64 < cLine) (hK : X.K = c.K) (C : KC X.K X.w X.mg x kvs) (hg : Gl X x) (hd : (x == ("__debug__" : Str)) = false := by decide) (he : PE X e (tE c ex fe)) (hz : PE X e2 (tE c ex fz)) (m : M2 X (.Name x p0) "get" apos e e2 pos := by exact ⟨rfl, rfl, rfl, rfl⟩) : PE X (.Call (.Attribute (.Name x p0) "get" apos) [e, e2] [] pos) (tE c ex (bin fe fz (cGet kvs))) := by
  obtain ⟨d, es, n, hm, D, hE⟩ := C.ex
  refine ⟨fun pins s σ H Q I h => ?_⟩
  obtain ⟨ρ, st, bs, rl, re, p⟩ := h
  refine wpAny_Call_method m.base m.few m.line PySem.F.plainAttrs_dict PySem.F.slot_dict_get PySem.F.type_dict_get (thn ((pe_glob (pos := p0) (v := .ref d) hg hm rfl hd).run pins s σ H (fun v H1 => v = .ref d ∧ H1 = H) I ⟨rfl, rfl⟩) fun u s1 ⟨v, H1, I1, rx, ev, eH⟩ => ?_)
  subst ev eH
  obtain rfl : u = Value.ref d := rx
  have mp := mixMap (P := X.prog) I1.kIn D
  obtain ⟨o, es', ep, ho, hex, hdt, _⟩ := id mp
  refine ⟨mp.typeIs, fun b q => by cases q; exact ⟨o, ho, hex.2.1⟩, ?_⟩
  rw [m.trees]
  refine Calls.callWith_builtin rfl (Calls.evalArgs_plain (Calls.spliced_cons (thn (he.run pins s1 σ _ _ I1 ⟨ρ, st, bs, rl, re, p.bnd.imp fun y st2 bs2 H2 e2 rl2 p3 vy ry => (⟨y, st2, bs2, rl2, re.ext e2, p3, ry⟩ : ∃ y st2 bs2, Rel c bs2 H2 st2 ∧ RE c bs2 H2 ρ σ ∧ Post c ex (bnd (fz ρ) (fun z => cGet kvs y z) st2) bs2 H2 (fun z _ bs' H' => ∀ v, RD c bs' H' v z → Q v H') ∧ RD c bs2 H2 vy y)⟩) fun iv s2 ⟨vy, H2, I2, rv, y, st2, bs2, rl2, re2, p3, ry⟩ =>
    Calls.spliced_cons (thn (hz.run pins s2 σ _ _ I2 ⟨ρ, st2, bs2, rl2, re2, p3.bnd.imp fun z st4 bs4 H4 e4 rl4 p4 vz rz => (⟨z, st4, bs4, rl4, p4, ry.ext e4, rz⟩ : ∃ z st4 bs4, Rel c bs4 H4 st4 ∧ Post c ex (cGet kvs y z st4) bs4 H4 (fun z _ bs' H' => ∀ v, RD c bs' H' v z → Q v H') ∧ RD c bs4 H4 vy y ∧ RD c bs4 H4 vz z)⟩) fun iz s3 ⟨vz, H3, I3, rz', z, st3, bs3, rl3, p4, ry3, rz⟩ => Calls.spliced_nil ?_))))
  unfold cGet at p4
  cases ek : dkey y with
  | none => rw [ek] at p4; exact p4.elim
  | some k =>
    rw [ek] at p4
    have mp2 := mixMap (P := X.prog) I3.kIn D
    have hy : RelV (kV k) iv := by rw [← dkey_v ry ek]; exact rv
    refine call_meetsIn PySem.F.slot_dict_get mp2.typeIs PySem.F.entry_dict_get (PySem.F.args_dict_get_3 _ _ _) (meets_dict_get_default (mixKind X.prog X.w) d (kV_is hy) D.low iz) ⟨_, mp2, ?_⟩
    obtain ⟨v, r1, r2⟩ := kc_val (ru := iz) (z := vz) (dz := z) hK D hE ek ry3 rz rz'
    exact ⟨v, H3, I3.tok _, r1, p4.now rl3 v r2⟩
/-- e in x -/
theorem op_in_kc {w : World} {d : Addr} {es : Array DictEntry} {n : Nat} (hw : w = X.w) (D : KDict X.K w d es n) : OpR X (compareOp .In) (fun y q H Q => ∃ k, y = kV k ∧ q = .ref d ∧ Q (.bl (findBy keyIs es k).isSome) H) := by
  subst hw
  intro pins s σ H y q v u Q I ry rq h
  obtain ⟨k, rfl, rfl, q⟩ := h
  cases rq
  refine wpAny_in_of (kV_is ry) D.low (mixMap (P := X.prog) I.kIn D) ?_
  exact ⟨.bl _, H, I.tok _, rfl, q⟩
theorem op_notIn_kc {w : World} {d : Addr} {es : Array DictEntry} {n : Nat} (hw : w = X.w) (D : KDict X.K w d es n) : OpR X (compareOp .NotIn) (fun y q H Q => ∃ k, y = kV k ∧ q = .ref d ∧ Q (.bl (!(findBy keyIs es k).isSome)) H) := by
  subst hw
  intro pins s σ H y q v u Q I ry rq h
  obtain ⟨k, rfl, rfl, q⟩ := h
  cases rq
  refine wpAny_notIn_of (kV_is ry) D.low (mixMap (P := X.prog) I.kIn D) ?_
  exact ⟨.bl _, H, I.tok _, rfl, q⟩
theorem cin_ok {w : World} {neg : Bool} {d : Addr} {es : Array DictEntry} {n : Nat} (hK : X.K = c.K) (D : KDict X.K w d es n) (hE : entB X.K es.toList kvs = true) {σ : L2.St} {H : Hp} {Q : VK} (q : tE c ex (una fe (cIn neg kvs)) σ H Q) :
    tE c ex fe σ H fun y H1 => ∃ k, y = kV k ∧ Q (.bl (if neg then !(findBy keyIs es k).isSome else (findBy keyIs es k).isSome)) H1 := by
  obtain ⟨ρ, st, bs, rl, re, p⟩ := q
  refine ⟨ρ, st, bs, rl, re, p.bnd.imp fun y st1 bs1 H1 e1 rl1 p1 v rv => ?_⟩
  unfold cIn at p1
  cases ek : dkey y with
  | none => rw [ek] at p1; exact p1.elim
  | some k =>
    rw [ek] at p1
    have es1 : (getC kvs k).isSome = (findBy keyIs es k).isSome := by
      obtain ⟨h1, h2⟩ := KC.find D hE k
      cases q : getC kvs k with
      | none => rw [h1 q]; rfl
      | some dv =>
        obtain ⟨u, e1, _⟩ := h2 dv q
        rw [e1]; rfl
    refine ⟨k, dkey_v rv ek, ?_⟩
    rw [← es1]
    exact p1.now rl1 _ (.bl _)
theorem md_cin (hK : X.K = c.K) (C : KC X.K X.w X.mg x kvs) (hg : Gl X x) (he : PE X e (tE c ex fe)) (hd : (x == ("__debug__" : Str)) = false := by decide) (hm0 : behindInMarks .In (.Name x p0) = false := by first | rfl | exact nomark _) : PE X (.Compare e [.In] [.Name x p0] pos) (tE c ex (una fe (cIn false kvs))) := by
  obtain ⟨d, es, n, hm, D, hE⟩ := C.ex
  refine PE_imp (pe_cmpR (op_in_kc rfl D) he (pe_glob (v := .ref d) hg hm rfl hd) hm0) fun σ H Q q => ?_
  have q := cin_ok (neg := false) hK D hE q
  obtain ⟨ρ, st, bs, rl, re, p⟩ := q
  exact ⟨ρ, st, bs, rl, re, p.imp fun y st1 bs1 H1 e1 rl1 p1 v rv => by
    obtain ⟨k, ek, q⟩ := p1 v rv
    exact ⟨k, ek, rfl, q⟩⟩
theorem md_cnin (hK : X.K = c.K) (C : KC X.K X.w X.mg x kvs) (hg : Gl X x) (he : PE X e (tE c ex fe)) (hd : (x == ("__debug__" : Str)) = false := by decide) (hm0 : behindInMarks .NotIn (.Name x p0) = false := by first | rfl | exact nomark _) : PE X (.Compare e [.NotIn] [.Name x p0] pos) (tE c ex (una fe (cIn true kvs))) := by
  obtain ⟨d, es, n, hm, D, hE⟩ := C.ex
  refine PE_imp (pe_cmpR (op_notIn_kc rfl D) he (pe_glob (v := .ref d) hg hm rfl hd) hm0) fun σ H Q q => ?_
  have q := cin_ok (neg := true) hK D hE q
  obtain ⟨ρ, st, bs, rl, re, p⟩ := q
  exact ⟨ρ, st, bs, rl, re, p.imp fun y st1 bs1 H1 e1 rl1 p1 v rv => by
    obtain ⟨k, ek, q⟩ := p1 v rv
    exact ⟨k, ek, rfl, q⟩⟩
/-- .. as tests -/
theorem mt_cin (hK : X.K = c.K) (C : KC X.K X.w X.mg x kvs) (hg : Gl X x) (he : PE X e (tE c ex fe)) (hd : (x == ("__debug__" : Str)) = false := by decide) (hm0 : behindInMarks .In (.Name x p0) = false := by first | rfl | exact nomark _) : PT X (.Compare e [.In] [.Name x p0] pos) (tT c ex (tstB (una fe (cIn false kvs)))) := by
  obtain ⟨d, es, n, hm, D, hE⟩ := C.ex
  refine PT_imp (pt_cmpR (op_in_kc rfl D) he (pe_glob (v := .ref d) hg hm rfl hd) hm0) fun σ H Q q => ?_
  have q := cin_ok (neg := false) hK D hE (tT_B q)
  obtain ⟨ρ, st, bs, rl, re, p⟩ := q
  exact ⟨ρ, st, bs, rl, re, p.imp fun y st1 bs1 H1 e1 rl1 p1 v rv => by
    obtain ⟨k, ek, q⟩ := p1 v rv
    exact ⟨k, ek, rfl, q⟩⟩
theorem mt_cnin (hK : X.K = c.K) (C : KC X.K X.w X.mg x kvs) (hg : Gl X x) (he : PE X e (tE c ex fe)) (hd : (x == ("__debug__" : Str)) = false := by decide) (hm0 : behindInMarks .NotIn (.Name x p0) = false := by first | rfl | exact nomark _) : PT X (.Compare e [.NotIn] [.Name x p0] pos) (tT c ex (tstB (una fe (cIn true kvs)))) := by
  obtain ⟨d, es, n, hm, D, hE⟩ := C.ex
  refine PT_imp (pt_cmpR (op_notIn_kc rfl D) he (pe_glob (v := .ref d) hg hm rfl hd) hm0) fun σ H Q q => ?_
  have q := cin_ok (neg := true) hK D hE (tT_B q)
  obtain ⟨ρ, st, bs, rl, re, p⟩ := q
  exact ⟨ρ, st, bs, rl, re, p.imp fun y st1 bs1 H1 e1 rl1 p1 v rv => by
    obtain ⟨k, ek, q⟩ := p1 v rv
    exact ⟨k, ek, rfl, q⟩⟩
end
end Pm
end
section
set_option Elab.async false
set_option linter.all false
set_option maxRecDepth 100000
set_option maxHeartbeats 4000000
namespace Pm
open PySem PySem.Spec PyProof.Rows L2
def enumS (m : Nat) (xs : List D) : List D := xs.zipIdx.map fun p => .tup [.int (p.2 + m : Nat), p.1]
def enuS (f : ME) (m : Nat) : MI := fun ρ => bnd (f ρ) fun d => match d with
  | .tup xs => ret ⟨enumS m xs, fun _ => true⟩
  | .loc l => bnd (lst l) fun xs => ret ⟨enumS m xs, fun st => decide (st[l]? = some (.lst xs))⟩
  | _ => no
theorem enumS_get {m : Nat} {xs : List D} {i : Nat} (h : i < xs.length) : (enumS m xs)[i]? = some (.tup [.int (i + m : Nat), xs[i]]) := by
  simp [enumS, h]
theorem enumS_len {m : Nat} {xs : List D} : (enumS m xs).length = xs.length := by simp [enumS]
section
variable {X : Cx} {c : Ct} {ex : Wh} {pos tp kp cp : Pos} {e : Expr} {f : ME} {bs : List Addr} {H : Hp} {el : List Expr} {kk j m : Nat}
theorem wk_enS {b : Bool} {a : Addr} {xs : List D} {ok : Sto → Bool} (at_ : ∀ {H' : Hp} {bs' : List Addr} {st : Sto}, Ext bs H bs' H' → Rel c bs' H' st → ok st = true → ∃ vs, SqB b c.K H' a vs ∧ RDs c bs' H' vs xs) : Wk c ⟨enumS m xs, ok⟩ bs H (ItS b c.K m a) := by
  refine ⟨fun i H' hi ⟨st, bs', e, rl, h⟩ => ?_, fun H' ⟨st, bs', e, rl, h⟩ => ?_, fun i H' v H2 hi ⟨st0, bs0, e0, _, _⟩ y st bs' e rl h => ?_⟩
  · obtain ⟨vs, s, r⟩ := at_ e rl h
    have hi : i < vs.length := by rw [r.length, ← enumS_len (m := m)]; exact hi
    exact ⟨vs, vs[i], s, List.getElem?_eq_getElem hi⟩
  · obtain ⟨vs, s, r⟩ := at_ e rl h
    exact ⟨vs, s, by rw [r.length]; exact enumS_len.symm⟩
  · obtain ⟨T, x, us, rfl, hT, rfl, k⟩ := y
    obtain ⟨vs, s, r⟩ := at_ e rl h
    obtain ⟨d, hd, rd⟩ := r.getV (k vs s)
    obtain ⟨e2, rl2⟩ := rl.fresh hT (frT us [.int (i + m : Nat), x])
    have hi2 : i < xs.length := by rw [← enumS_len (m := m)]; exact hi
    rw [List.getElem?_eq_getElem hi2] at hd
    cases hd
    exact ⟨e2, rl2, _, enumS_get hi2, .tup sqF dlF (.cons (.int _) (.cons (rd.ext e2) .nil))⟩
theorem mi_enS (hK : X.K = c.K) (hg : Gl X "enumerate") (hm : X.mg "enumerate" = none) (hm2 : m < 1000) (he : PE X e (tE c ex f)) (hs : starEach [e] X.env = (false, eval e X.env) :: starEach [] X.env := by rfl)
    (hb : backTo pos (starEach [e] X.env) = (false, eval e X.env) :: backTo pos (starEach [] X.env) := by rfl) (hpl : (backTo pos (starEach [e] X.env)).any (·.1) = false := by rfl)
    (hall : (backToKw pos (keywordEach [⟨some "start", .Constant (.int (m : Int)) j cp, kp⟩] X.env)).all (·.1.isSome) = true := by rfl) (hnone : (backToKw pos (keywordEach [⟨some "start", .Constant (.int (m : Int)) j cp, kp⟩] X.env)).any (·.1.isNone) = false := by rfl)
    (hks : (backToKw pos (keywordEach [⟨some "start", .Constant (.int (m : Int)) j cp, kp⟩] X.env)).filterMap (·.1) = [Str.ofString "start"] := by rfl) {p : Pos} :
    PI X (.Tuple el kk tp) (.Call (.Name "enumerate" p) [e] [⟨some "start", .Constant (.int (m : Int)) j cp, kp⟩] pos) (tI c ex (enuS f m)) := PI_imp (pi_enS hg hm hm2 (pa_cons he pa_nil hs) hb hpl hall hnone hks) fun σ H R q => by
  obtain ⟨ρ, st, bs, rl, re, p⟩ := q
  refine ⟨ρ, st, bs, rl, re, p.bnd.imp fun d st1 bs1 H1 e1 rl1 p1 v rv => ?_⟩
  rw [hK]
  cases rv with
  | tup s tl r =>
    refine ⟨_, true, _, rfl, s, p1.now rl1 _ ⟨wk_enS fun e _ _ => ⟨_, e.sqT s, r.ext e⟩, fun q vs h nb => wk_enS fun e _ _ => ⟨_, e.sqT ((hid_pre (c := c) (bs := bs1) h).sqT _ _ s), (r.mono (hid_pre h)).ext e⟩⟩⟩
  | @loc a0 l0 h =>
    obtain ⟨a, vs, xs, ee, hb, hl, hv, r, p2⟩ := post_lst (k := fun _ _ _ _ => True) p1 rl1 (RD.loc h)
    cases ee
    have at_ : ∀ {bs0 : List Addr} {H0 H' : Hp} {bs' : List Addr} {st : Sto}, bs0[l0]? = some a0 → Ext bs0 H0 bs' H' → Rel c bs' H' st → decide (st[l0]? = some (O.lst xs)) = true → ∃ vs, SqB false c.K H' a0 vs ∧ RDs c bs' H' vs xs := fun {bs0 H0 H' bs' st} hb0 e rl h => by
      obtain ⟨ws, hw, r'⟩ := rl.obj l0 a0 _ (e.get hb0) (of_decide_eq_true h)
      exact ⟨ws, SqL.of hw, r'⟩
    exact ⟨_, false, _, rfl, SqL.of hv, p2.now rl1 _ ⟨wk_enS fun e rl h => at_ hb e rl h, fun q vs h nb => wk_enS fun e rl h => at_ hb e rl h⟩⟩
  | _ => exact p1.elim
end
end Pm
end
section
set_option Elab.async false
set_option linter.all false
set_option maxRecDepth 100000
set_option maxHeartbeats 4000000
namespace Pm
open PySem PySem.Spec PyProof.Rows L2
/-! ### max(xs, default=d), min(xs, default=d) of a list of ints -/
theorem max_loopD {prog : Program} {w : World} {A : Around} {R : Result → Shared → Prop} {I : Addr} {fp wr : List Addr} {n : Nat} {P : Nat → Value → Prop} {T : Nat → Heap → Prop} (W : Walks prog w A.in1 I fp wr n P T) (bt : Nat → Nat → Bool) (hc : CmpOf prog w A.in1 .Gt P bt) (S : Addr) (hf : S ∉ fp) (dv : Value) (k : Nat) :
    ∀ (j : Nat) (s : Shared) (vb : Value) (c : Nat), n - (j + 1) = k → j + 1 ≤ n → T (j + 1) s.heap → P (argBest bt j) vb → s.heap.get? S = some { cls := .type "list", dict := none, data := .seq #[vb, vb] c, slots := #[] } →
      (∀ v h' tk, P (argBest bt (n - 1)) v → (∀ b o, b ∉ wr → b ≠ S → s.heap.get? b = some o → h'.get? b = some o) → R (.ok (.ret v)) { s with heap := h', toks := tk }) →
      codeAny (model prog w) A (.builtin "max.loop" ⟨[.ref I, .none, .ref S], [(Str.ofString "default", dv)]⟩) R s := by
  have nm : (toString "max" ++ toString ".loop" : String) = "max.loop" := by decide
  have sw : S ∉ wr := fun z => hf (W.sub _ z)
  have ne : ∀ b ∈ fp, S ≠ b := fun b hb z => hf (by rw [z]; exact hb)
  induction k with
  | zero =>
    intro j s vb c hk hj ht hb hS hR
    have last : j + 1 = n := by omega
    apply codeAny_builtin F.entry_max_loop; rw [Around.under_plainId F.plain_max_loop _]
    refine wpAny_bind (m := seqItems? (.ref S)) (wpAny_seqItems hS rfl ?_)
    refine wpAny_bind (m := tryCatch (pyNext (.ref I)) _) (wpAny_tryCatch (W.done s _ _ (last ▸ ht) fun h1 tk hk1 => ?_))
    refine wpAny_bind (m := updateSeq S fun _ => #[]) (wpAny_updateSeq (hk1 S _ sw hS) rfl (wpAny_bind (wpAny_letGo (wpAny_pure (hR vb _ tk (by rw [← last]; exact hb) fun b o h1 h2 e => ?_)))))
    exact (Heap.get?_update_other _ _ (Ne.symm h2)).trans (hk1 b o h1 e)
  | succ k ih =>
    intro j s vb c hk hj ht hb hS hR
    have more : j + 1 < n := by omega
    apply codeAny_builtin F.entry_max_loop; rw [Around.under_plainId F.plain_max_loop _]
    refine wpAny_bind (m := seqItems? (.ref S)) (wpAny_seqItems hS rfl ?_)
    refine wpAny_bind (m := tryCatch (pyNext (.ref I)) _) (wpAny_tryCatch (W.item (j + 1) s _ _ more ht fun v h1 tk pv ht1 hk1 => ?_))
    have hS1 := hk1 S _ sw hS
    refine wpAny_bind (m := tryCatch (holding [v, v] (richCompare .Gt v vb >>= _)) _) (wpAny_tryCatch (wpAny_holding (wpAny_bind (hc (j + 1) (argBest bt j) v vb _ _ _ pv hb (wpAny_bind (wpAny_holding (wpAny_truthy_bool (wpAny_bind (wpAny_letGo (wpAny_pure ?_))))))))))
    cases q : bt (j + 1) (argBest bt j) with
    | true =>
      rw [if_pos rfl, nm]
      have e1 : argBest bt (j + 1) = j + 1 := by unfold argBest; rw [if_pos q]
      refine wpAny_bind (wpAny_updateSeq hS1 rfl (wpAny_bind (wpAny_letGo (wpAny_pure ⟨plainId_quiet F.plain_max_loop _, ih (j + 1) _ v _ (by omega) more (W.frame _ _ _ ht1 fun b hb2 o e => ?_) (by rw [e1]; exact pv) (Heap.get?_update_self _ hS1 rfl) fun v2 h2 tk2 pv2 hk2 => ?_⟩))))
      · exact Eq.trans (Heap.get?_update_other _ _ (ne b hb2)) e
      · exact hR v2 h2 tk2 pv2 fun b o z1 z2 e => hk2 b o z1 z2 (Eq.trans (Heap.get?_update_other _ _ (Ne.symm z2)) (hk1 b o z1 e))
    | false =>
      rw [if_neg (by simp), nm]
      have e1 : argBest bt (j + 1) = argBest bt j := by conv => lhs; unfold argBest; rw [if_neg (by simp [q])]
      exact wpAny_bind (wpAny_letGo (wpAny_pure ⟨plainId_quiet F.plain_max_loop _, ih (j + 1) _ vb c (by omega) more ht1 (by rw [e1]; exact hb) hS1 fun v2 h2 tk2 pv2 hk2 => hR v2 h2 tk2 pv2 fun b o z1 z2 e => hk2 b o z1 z2 (hk1 b o z1 e)⟩))
/-- max(x, default=d), x of n items -/
theorem call_maxD {prog : Program} {w : World} {A : Around} {E : Value → Shared → Prop} {s : Shared} {x dv : Value} {Q : Value → Shared → Prop} (ha : argsOk "max" ⟨[x], [(Str.ofString "default", dv)]⟩)
    (h : wpAny (model prog w) A.in1 (pyIter x) (fun it s2 => ∃ I fp wr n P T bt, it = .ref I ∧ Walks prog w A.in1 I fp wr n P T ∧ T 0 s2.heap ∧ (∀ b ∈ fp, b < s2.heap.objs.size) ∧ CmpOf prog w A.in1 .Gt P bt ∧
      (0 < n → ∀ v h' tk, P (argBest bt (n - 1)) v → (∀ b o, b ∉ wr → s2.heap.get? b = some o → h'.get? b = some o) → Q v { s2 with heap := h', toks := tk }) ∧ (n = 0 → ∀ h' tk, (∀ b o, b ∉ wr → s2.heap.get? b = some o → h'.get? b = some o) → Q dv { s2 with heap := h', toks := tk })) E s) :
    wpAny (model prog w) A (call (.builtin "max") [x] [(Str.ofString "default", dv)]) Q E s := by
  have nm : (toString "max" ++ toString ".loop" : String) = "max.loop" := by decide
  refine wpAny_call (codeAny_call_builtin F.plain_max F.entry_max ?_)
  have fin : wpAny (model prog w) A.in1 (Builtin.«max» ⟨[x], [(Str.ofString "default", dv)]⟩) (GQ.FinOf prog w A (wants Q E)) (fun e s' => wants Q E (.error e) s') s := by
    refine wpAny_bind (m := Builtin.Builtins.bindParams "max" ["key", "default"] 0 ⟨[], [(Str.ofString "default", dv)]⟩) (wpAny_of_eq (show _ = pure [none, some dv] from rfl) (wpAny_bind (wpAny_pure ?_)))
    refine wpAny_bind (wpAny_mono h (fun it s2 z => ?_) fun _ _ e => e)
    obtain ⟨I, fp, wr, n, P, T, bt, rfl, W, ht, hfp, hc, h1, h2⟩ := z
    refine wpAny_bind (wpAny_newObj_type ?_); rw [nm]; refine wpAny_pure ⟨plainId_quiet F.plain_max_loop _, ?_⟩
    have hf : s2.heap.objs.size ∉ fp := fun z => Nat.lt_irrefl _ (hfp _ z)
    have sw : s2.heap.objs.size ∉ wr := fun z => hf (W.sub _ z)
    have ht0 := W.frame _ _ (s2.heap.push { cls := .type "list", data := .seq #[] }) ht fun b _ o e => Heap.get?_push_of_some _ e
    have hS : (s2.heap.push { cls := .type "list", data := .seq #[] }).get? s2.heap.objs.size = some { cls := .type "list", data := .seq #[] } := Heap.get?_push_size _ rfl
    have ne : ∀ b o, s2.heap.get? b = some o → b ≠ s2.heap.objs.size := fun b o e => Nat.ne_of_lt (Heap.lt_size e)
    apply codeAny_builtin F.entry_max_loop; rw [Around.under_plainId F.plain_max_loop _]
    refine wpAny_bind (m := seqItems? (.ref s2.heap.objs.size)) (wpAny_seqItems hS rfl ?_)
    by_cases hn : 0 < n
    · refine wpAny_bind (m := tryCatch (pyNext (.ref I)) _) (wpAny_tryCatch (W.item 0 { s2 with heap := s2.heap.push { cls := .type "list", data := .seq #[] } } _ _ hn ht0 fun v h1' tk pv ht1 hk1 => ?_))
      have hS1 := hk1 s2.heap.objs.size _ sw hS
      refine wpAny_bind (m := updateSeq s2.heap.objs.size fun _ => #[v, v]) (wpAny_updateSeq hS1 rfl ?_)
      rw [nm]
      refine wpAny_pure ⟨plainId_quiet F.plain_max_loop _, max_loopD W bt hc _ hf dv _ 0 _ v _ rfl hn (W.frame _ _ _ ht1 fun b hb o e => ?_) pv (Heap.get?_update_self _ hS1 rfl) fun v2 h2' tk2 pv2 hk2 => ?_⟩
      · exact Eq.trans (Heap.get?_update_other _ _ (fun z => hf (by rw [z]; exact hb))) e
      · exact h1 hn v2 h2' tk2 pv2 fun b o z e => hk2 b o z (ne b o e) (Eq.trans (Heap.get?_update_other _ _ (Ne.symm (ne b o e))) (hk1 b o z (Heap.get?_push_of_some _ e)))
    · have h0 : n = 0 := by omega
      refine wpAny_bind (m := tryCatch (pyNext (.ref I)) _) (wpAny_tryCatch (W.done { s2 with heap := s2.heap.push { cls := .type "list", data := .seq #[] } } _ _ (h0 ▸ ht0) fun h1' tk hk1 => ?_))
      exact wpAny_bind (wpAny_rule (wpAny_pure (h2 h0 h1' tk fun b o z e => hk1 b o z (Heap.get?_push_of_some _ e))))
  simp only [checkBuiltinCall, F.kind_max]
  cases hs : Manifest.signature? "max" with
  | none => exact wpAny_pure fin
  | some sig =>
    have ha' : Bind.checkArgs "max" sig ⟨[x], [(Str.ofString "default", dv)]⟩ = pure () := by simpa only [argsOk, hs] using ha
    simp only [ha']
    exact wpAny_pure fin
theorem args_maxD (a d : Value) : argsOk "max" ⟨[a], [(Str.ofString "default", d)]⟩ := by unfold argsOk; kernel_rfl

theorem min_loopD {prog : Program} {w : World} {A : Around} {R : Result → Shared → Prop} {I : Addr} {fp wr : List Addr} {n : Nat} {P : Nat → Value → Prop} {T : Nat → Heap → Prop} (W : Walks prog w A.in1 I fp wr n P T) (bt : Nat → Nat → Bool) (hc : CmpOf prog w A.in1 .Lt P bt) (S : Addr) (hf : S ∉ fp) (dv : Value) (k : Nat) :
    ∀ (j : Nat) (s : Shared) (vb : Value) (c : Nat), n - (j + 1) = k → j + 1 ≤ n → T (j + 1) s.heap → P (argBest bt j) vb → s.heap.get? S = some { cls := .type "list", dict := none, data := .seq #[vb, vb] c, slots := #[] } →
      (∀ v h' tk, P (argBest bt (n - 1)) v → (∀ b o, b ∉ wr → b ≠ S → s.heap.get? b = some o → h'.get? b = some o) → R (.ok (.ret v)) { s with heap := h', toks := tk }) →
      codeAny (model prog w) A (.builtin "min.loop" ⟨[.ref I, .none, .ref S], [(Str.ofString "default", dv)]⟩) R s := by
  have nm : (toString "min" ++ toString ".loop" : String) = "min.loop" := by decide
  have sw : S ∉ wr := fun z => hf (W.sub _ z)
  have ne : ∀ b ∈ fp, S ≠ b := fun b hb z => hf (by rw [z]; exact hb)
  induction k with
  | zero =>
    intro j s vb c hk hj ht hb hS hR
    have last : j + 1 = n := by omega
    apply codeAny_builtin F.entry_min_loop; rw [Around.under_plainId F.plain_min_loop _]
    refine wpAny_bind (m := seqItems? (.ref S)) (wpAny_seqItems hS rfl ?_)
    refine wpAny_bind (m := tryCatch (pyNext (.ref I)) _) (wpAny_tryCatch (W.done s _ _ (last ▸ ht) fun h1 tk hk1 => ?_))
    refine wpAny_bind (m := updateSeq S fun _ => #[]) (wpAny_updateSeq (hk1 S _ sw hS) rfl (wpAny_bind (wpAny_letGo (wpAny_pure (hR vb _ tk (by rw [← last]; exact hb) fun b o h1 h2 e => ?_)))))
    exact (Heap.get?_update_other _ _ (Ne.symm h2)).trans (hk1 b o h1 e)
  | succ k ih =>
    intro j s vb c hk hj ht hb hS hR
    have more : j + 1 < n := by omega
    apply codeAny_builtin F.entry_min_loop; rw [Around.under_plainId F.plain_min_loop _]
    refine wpAny_bind (m := seqItems? (.ref S)) (wpAny_seqItems hS rfl ?_)
    refine wpAny_bind (m := tryCatch (pyNext (.ref I)) _) (wpAny_tryCatch (W.item (j + 1) s _ _ more ht fun v h1 tk pv ht1 hk1 => ?_))
    have hS1 := hk1 S _ sw hS
    refine wpAny_bind (m := tryCatch (holding [v, v] (richCompare .Lt v vb >>= _)) _) (wpAny_tryCatch (wpAny_holding (wpAny_bind (hc (j + 1) (argBest bt j) v vb _ _ _ pv hb (wpAny_bind (wpAny_holding (wpAny_truthy_bool (wpAny_bind (wpAny_letGo (wpAny_pure ?_))))))))))
    cases q : bt (j + 1) (argBest bt j) with
    | true =>
      rw [if_pos rfl, nm]
      have e1 : argBest bt (j + 1) = j + 1 := by unfold argBest; rw [if_pos q]
      refine wpAny_bind (wpAny_updateSeq hS1 rfl (wpAny_bind (wpAny_letGo (wpAny_pure ⟨plainId_quiet F.plain_min_loop _, ih (j + 1) _ v _ (by omega) more (W.frame _ _ _ ht1 fun b hb2 o e => ?_) (by rw [e1]; exact pv) (Heap.get?_update_self _ hS1 rfl) fun v2 h2 tk2 pv2 hk2 => ?_⟩))))
      · exact Eq.trans (Heap.get?_update_other _ _ (ne b hb2)) e
      · exact hR v2 h2 tk2 pv2 fun b o z1 z2 e => hk2 b o z1 z2 (Eq.trans (Heap.get?_update_other _ _ (Ne.symm z2)) (hk1 b o z1 e))
    | false =>
      rw [if_neg (by simp), nm]
      have e1 : argBest bt (j + 1) = argBest bt j := by conv => lhs; unfold argBest; rw [if_neg (by simp [q])]
      exact wpAny_bind (wpAny_letGo (wpAny_pure ⟨plainId_quiet F.plain_min_loop _, ih (j + 1) _ vb c (by omega) more ht1 (by rw [e1]; exact hb) hS1 fun v2 h2 tk2 pv2 hk2 => hR v2 h2 tk2 pv2 fun b o z1 z2 e => hk2 b o z1 z2 (hk1 b o z1 e)⟩))
/-- min(x, default=d), x of n items -/
theorem call_minD {prog : Program} {w : World} {A : Around} {E : Value → Shared → Prop} {s : Shared} {x dv : Value} {Q : Value → Shared → Prop} (ha : argsOk "min" ⟨[x], [(Str.ofString "default", dv)]⟩)
    (h : wpAny (model prog w) A.in1 (pyIter x) (fun it s2 => ∃ I fp wr n P T bt, it = .ref I ∧ Walks prog w A.in1 I fp wr n P T ∧ T 0 s2.heap ∧ (∀ b ∈ fp, b < s2.heap.objs.size) ∧ CmpOf prog w A.in1 .Lt P bt ∧
      (0 < n → ∀ v h' tk, P (argBest bt (n - 1)) v → (∀ b o, b ∉ wr → s2.heap.get? b = some o → h'.get? b = some o) → Q v { s2 with heap := h', toks := tk }) ∧ (n = 0 → ∀ h' tk, (∀ b o, b ∉ wr → s2.heap.get? b = some o → h'.get? b = some o) → Q dv { s2 with heap := h', toks := tk })) E s) :
    wpAny (model prog w) A (call (.builtin "min") [x] [(Str.ofString "default", dv)]) Q E s := by
  have nm : (toString "min" ++ toString ".loop" : String) = "min.loop" := by decide
  refine wpAny_call (codeAny_call_builtin F.plain_min F.entry_min ?_)
  have fin : wpAny (model prog w) A.in1 (Builtin.«min» ⟨[x], [(Str.ofString "default", dv)]⟩) (GQ.FinOf prog w A (wants Q E)) (fun e s' => wants Q E (.error e) s') s := by
    refine wpAny_bind (m := Builtin.Builtins.bindParams "min" ["key", "default"] 0 ⟨[], [(Str.ofString "default", dv)]⟩) (wpAny_of_eq (show _ = pure [none, some dv] from rfl) (wpAny_bind (wpAny_pure ?_)))
    refine wpAny_bind (wpAny_mono h (fun it s2 z => ?_) fun _ _ e => e)
    obtain ⟨I, fp, wr, n, P, T, bt, rfl, W, ht, hfp, hc, h1, h2⟩ := z
    refine wpAny_bind (wpAny_newObj_type ?_); rw [nm]; refine wpAny_pure ⟨plainId_quiet F.plain_min_loop _, ?_⟩
    have hf : s2.heap.objs.size ∉ fp := fun z => Nat.lt_irrefl _ (hfp _ z)
    have sw : s2.heap.objs.size ∉ wr := fun z => hf (W.sub _ z)
    have ht0 := W.frame _ _ (s2.heap.push { cls := .type "list", data := .seq #[] }) ht fun b _ o e => Heap.get?_push_of_some _ e
    have hS : (s2.heap.push { cls := .type "list", data := .seq #[] }).get? s2.heap.objs.size = some { cls := .type "list", data := .seq #[] } := Heap.get?_push_size _ rfl
    have ne : ∀ b o, s2.heap.get? b = some o → b ≠ s2.heap.objs.size := fun b o e => Nat.ne_of_lt (Heap.lt_size e)
    apply codeAny_builtin F.entry_min_loop; rw [Around.under_plainId F.plain_min_loop _]
    refine wpAny_bind (m := seqItems? (.ref s2.heap.objs.size)) (wpAny_seqItems hS rfl ?_)
    by_cases hn : 0 < n
    · refine wpAny_bind (m := tryCatch (pyNext (.ref I)) _) (wpAny_tryCatch (W.item 0 { s2 with heap := s2.heap.push { cls := .type "list", data := .seq #[] } } _ _ hn ht0 fun v h1' tk pv ht1 hk1 => ?_))
      have hS1 := hk1 s2.heap.objs.size _ sw hS
      refine wpAny_bind (m := updateSeq s2.heap.objs.size fun _ => #[v, v]) (wpAny_updateSeq hS1 rfl ?_)
      rw [nm]
      refine wpAny_pure ⟨plainId_quiet F.plain_min_loop _, min_loopD W bt hc _ hf dv _ 0 _ v _ rfl hn (W.frame _ _ _ ht1 fun b hb o e => ?_) pv (Heap.get?_update_self _ hS1 rfl) fun v2 h2' tk2 pv2 hk2 => ?_⟩
      · exact Eq.trans (Heap.get?_update_other _ _ (fun z => hf (by rw [z]; exact hb))) e
      · exact h1 hn v2 h2' tk2 pv2 fun b o z e => hk2 b o z (ne b o e) (Eq.trans (Heap.get?_update_other _ _ (Ne.symm (ne b o e))) (hk1 b o z (Heap.get?_push_of_some _ e)))
    · have h0 : n = 0 := by omega
      refine wpAny_bind (m := tryCatch (pyNext (.ref I)) _) (wpAny_tryCatch (W.done { s2 with heap := s2.heap.push { cls := .type "list", data := .seq #[] } } _ _ (h0 ▸ ht0) fun h1' tk hk1 => ?_))
      exact wpAny_bind (wpAny_rule (wpAny_pure (h2 h0 h1' tk fun b o z e => hk1 b o z (Heap.get?_push_of_some _ e))))
  simp only [checkBuiltinCall, F.kind_min]
  cases hs : Manifest.signature? "min" with
  | none => exact wpAny_pure fin
  | some sig =>
    have ha' : Bind.checkArgs "min" sig ⟨[x], [(Str.ofString "default", dv)]⟩ = pure () := by simpa only [argsOk, hs] using ha
    simp only [ha']
    exact wpAny_pure fin
theorem args_minD (a d : Value) : argsOk "min" ⟨[a], [(Str.ofString "default", d)]⟩ := by unfold argsOk; kernel_rfl
end Pm
end
section
set_option Elab.async false
set_option linter.all false
set_option maxRecDepth 100000
set_option maxHeartbeats 4000000
namespace Pm
open PySem PySem.Spec PyProof.Rows L2
theorem cr_maxD {X : Cx} (hc : X.calm = true) : CallRK X (.builtin "max") [Str.ofString "default"] (fun vs zs H Q => ∃ (a : Addr) (ns : List Int) (d : V), vs = [V.ref a] ∧ zs = [d] ∧ SqL X.K H a (ns.map V.int) ∧ (ns = [] → Q d H) ∧ ∀ m ∈ ns, (∀ k ∈ ns, k ≤ m) → Q (.int m) H) := by
  intro pins s σ H vs zs us ws Q I r rz h
  obtain ⟨a, ns, d, rfl, rfl, hs, q0, q1⟩ := h
  obtain rfl := Vals.ref1 r
  obtain ⟨dw, rfl, rd⟩ := vals1 rz
  obtain ⟨its, rv, hl, _⟩ := I.list hs
  obtain ⟨xs, e⟩ := rv.ints.allInts.items
  have hn : numsOf (intItems xs).toList = ns := by rw [← e]; exact rv.ints.numsOf
  rw [nums_intItems] at hn
  have hL := hl.isList
  rw [e] at hL
  refine call_maxD (args_maxD _ _) (iter_intList hL fun s2 es st hfp hlI => ?_)
  subst es
  have kept : ∀ {h' : Heap}, (∀ b o, b ∉ [s.heap.objs.size] → (s.heap.push { cls := .type "list_iterator", data := .fields #[.ref a, .int 0 0] }).get? b = some o → h'.get? b = some o) → ∀ b o, s.heap.get? b = some o → h'.get? b = some o := fun k => old_kept k
  refine ⟨_, _, _, _, _, _, _, rfl, Walks.list (A := X.A.in1) (show X.A.in1.handled = none from I.ok.hd hc) _ a hlI (intItems xs), st, hfp, CmpOf.ints_gt (numAt xs) (fun _ _ => intItems_at), fun hn0 v h' tk hP hk => ?_, fun h0 h' tk hk => ?_⟩
  · have hsz : (intItems xs).size = xs.size := by simp [intItems]
    rw [hsz] at hP hn0
    obtain ⟨t, rfl⟩ := intItems_at hP
    obtain ⟨h1, h2⟩ := argBest_gt (numAt xs) (xs.size - 1)
    refine ⟨.int _, H, I.kept (t' := tk) (kept hk), ⟨t, rfl⟩, q1 _ ?_ fun k hkm => ?_⟩
    · rw [numAt_eq, hn]; exact PySem.getD_mem (by rw [← hn, List.length_map, Array.length_toList]; omega)
    · obtain ⟨j, hj, rfl⟩ := mem_getD hkm
      rw [← hn, List.length_map, Array.length_toList] at hj
      rw [← hn, ← numAt_eq]
      exact h2 j (by omega)
  · have h0 : xs.size = 0 := by simpa [intItems] using h0
    refine ⟨d, H, I.kept (t' := tk) (kept hk), rd, q0 ?_⟩
    rw [← hn]
    exact List.map_eq_nil_iff.mpr (List.length_eq_zero_iff.mp (by rw [Array.length_toList]; exact h0))

theorem cr_minD {X : Cx} (hc : X.calm = true) : CallRK X (.builtin "min") [Str.ofString "default"] (fun vs zs H Q => ∃ (a : Addr) (ns : List Int) (d : V), vs = [V.ref a] ∧ zs = [d] ∧ SqL X.K H a (ns.map V.int) ∧ (ns = [] → Q d H) ∧ ∀ m ∈ ns, (∀ k ∈ ns, k ≥ m) → Q (.int m) H) := by
  intro pins s σ H vs zs us ws Q I r rz h
  obtain ⟨a, ns, d, rfl, rfl, hs, q0, q1⟩ := h
  obtain rfl := Vals.ref1 r
  obtain ⟨dw, rfl, rd⟩ := vals1 rz
  obtain ⟨its, rv, hl, _⟩ := I.list hs
  obtain ⟨xs, e⟩ := rv.ints.allInts.items
  have hn : numsOf (intItems xs).toList = ns := by rw [← e]; exact rv.ints.numsOf
  rw [nums_intItems] at hn
  have hL := hl.isList
  rw [e] at hL
  refine call_minD (args_minD _ _) (iter_intList hL fun s2 es st hfp hlI => ?_)
  subst es
  have kept : ∀ {h' : Heap}, (∀ b o, b ∉ [s.heap.objs.size] → (s.heap.push { cls := .type "list_iterator", data := .fields #[.ref a, .int 0 0] }).get? b = some o → h'.get? b = some o) → ∀ b o, s.heap.get? b = some o → h'.get? b = some o := fun k => old_kept k
  refine ⟨_, _, _, _, _, _, _, rfl, Walks.list (A := X.A.in1) (show X.A.in1.handled = none from I.ok.hd hc) _ a hlI (intItems xs), st, hfp, CmpOf.ints_lt (numAt xs) (fun _ _ => intItems_at), fun hn0 v h' tk hP hk => ?_, fun h0 h' tk hk => ?_⟩
  · have hsz : (intItems xs).size = xs.size := by simp [intItems]
    rw [hsz] at hP hn0
    obtain ⟨t, rfl⟩ := intItems_at hP
    obtain ⟨h1, h2⟩ := argBest_lt (numAt xs) (xs.size - 1)
    refine ⟨.int _, H, I.kept (t' := tk) (kept hk), ⟨t, rfl⟩, q1 _ ?_ fun k hkm => ?_⟩
    · rw [numAt_eq, hn]; exact PySem.getD_mem (by rw [← hn, List.length_map, Array.length_toList]; omega)
    · obtain ⟨j, hj, rfl⟩ := mem_getD hkm
      rw [← hn, List.length_map, Array.length_toList] at hj
      rw [← hn, ← numAt_eq]
      exact h2 j (by omega)
  · have h0 : xs.size = 0 := by simpa [intItems] using h0
    refine ⟨d, H, I.kept (t' := tk) (kept hk), rd, q0 ?_⟩
    rw [← hn]
    exact List.map_eq_nil_iff.mpr (List.length_eq_zero_iff.mp (by rw [Array.length_toList]; exact h0))

/-- the greatest, the least of ints -/
def bestI (mx : Bool) : List Int → Int → Int
  | [], m => m
  | n :: r, m => bestI mx r (if mx then max m n else min m n)
theorem bestI_max : ∀ (l : List Int) (m : Int), bestI true l m ∈ m :: l ∧ ∀ k ∈ m :: l, k ≤ bestI true l m
  | [], m => ⟨List.mem_cons_self, fun k h => by rw [List.mem_singleton.mp h]; exact Int.le_refl _⟩
  | n :: r, m => by
    have ih := bestI_max r (max m n)
    unfold bestI
    rw [if_pos rfl]
    refine ⟨?_, fun k h => ?_⟩
    · rcases List.mem_cons.mp ih.1 with z | z
      · rw [z]
        rcases Int.le_total m n with h | h
        · rw [Int.max_eq_right h]; simp
        · rw [Int.max_eq_left h]; simp
      · exact List.mem_cons_of_mem _ (List.mem_cons_of_mem _ z)
    · have b := ih.2 (max m n) List.mem_cons_self
      rcases List.mem_cons.mp h with rfl | h
      · omega
      · rcases List.mem_cons.mp h with rfl | h
        · omega
        · exact ih.2 k (List.mem_cons_of_mem _ h)
theorem bestI_min : ∀ (l : List Int) (m : Int), bestI false l m ∈ m :: l ∧ ∀ k ∈ m :: l, bestI false l m ≤ k
  | [], m => ⟨List.mem_cons_self, fun k h => by rw [List.mem_singleton.mp h]; exact Int.le_refl _⟩
  | n :: r, m => by
    have ih := bestI_min r (min m n)
    unfold bestI
    rw [if_neg (by simp)]
    refine ⟨?_, fun k h => ?_⟩
    · rcases List.mem_cons.mp ih.1 with z | z
      · rw [z]
        rcases Int.le_total m n with h | h
        · rw [Int.min_eq_left h]; simp
        · rw [Int.min_eq_right h]; simp
      · exact List.mem_cons_of_mem _ (List.mem_cons_of_mem _ z)
    · have b := ih.2 (min m n) List.mem_cons_self
      rcases List.mem_cons.mp h with rfl | h
      · omega
      · rcases List.mem_cons.mp h with rfl | h
        · omega
        · exact ih.2 k (List.mem_cons_of_mem _ h)
def opBestD (mx : Bool) : D → D → M D
  | .loc l, d => bnd (lst l) fun xs => match intsOf xs with
    | some [] => ret d
    | some (n :: r) => ret (.int (bestI mx r n))
    | none => no
  | _, _ => no
section
variable {X : Cx} {c : Ct} {ex : Wh} {pos kp p : Pos} {e d : Expr} {f g : ME}

theorem md_maxD (hK : X.K = c.K) (hc : X.calm = true) (hg : Gl X "max") (hm : X.mg "max" = none) (he : PE X e (tE c ex f)) (hd : PE X d (tE c ex g)) (hs : starEach [e] X.env = (false, eval e X.env) :: starEach [] X.env := by rfl)
    (hb : backTo pos (starEach [e] X.env) = (false, eval e X.env) :: backTo pos (starEach [] X.env) := by rfl) (hpl : (backTo pos (starEach [e] X.env)).any (·.1) = false := by rfl)
    (hall : (backToKw pos (keywordEach [⟨some "default", d, kp⟩] X.env)).all (·.1.isSome) = true := by rfl) (hnone : (backToKw pos (keywordEach [⟨some "default", d, kp⟩] X.env)).any (·.1.isNone) = false := by rfl)
    (hks : (backToKw pos (keywordEach [⟨some "default", d, kp⟩] X.env)).filterMap (·.1) = [Str.ofString "default"] := by rfl) :
    PE X (.Call (.Name "max" p) [e] [⟨some "default", d, kp⟩] pos) (tE c ex (bin f g (opBestD true))) :=
  PE_imp (pe_callBK (cr_maxD hc) hg hm (by decide +kernel) (pa_cons he pa_nil hs) (pk_cons hd pk_nil) (by decide) (by decide) hb hpl hall hnone hks) fun σ H Q q => by
    obtain ⟨ρ, st, bs, rl, re, p⟩ := q
    refine ⟨ρ, st, bs, rl, re, p.bnd.imp fun x st1 bs1 H1 e1 rl1 p1 v rv => ?_⟩
    refine ⟨ρ, st1, bs1, rl1, re.ext e1, p1.bnd.imp fun y st2 bs2 H2 e2 rl2 p2 w rw' => ?_⟩
    have rv := rv.ext e2
    rw [hK]
    cases rv with
    | loc h =>
      obtain ⟨a, vs, xs, ee, hb, hl, hv, r, p3⟩ := post_lst (k := fun _ _ _ _ => True) p2 rl2 (RD.loc h)
      cases ee
      cases e1 : intsOf xs with
      | none => simp only [e1] at p3; exact p3.elim
      | some ns =>
        rw [intsOf_map e1] at r
        rw [r.toInts] at hv
        refine ⟨_, ns, w, rfl, rfl, SqL.of hv, fun z => ?_, fun m hm hle => ?_⟩
        · subst z
          simp only [e1] at p3
          exact p3.now rl2 _ rw'
        · cases ns with
          | nil => cases hm
          | cons n rr =>
            simp only [e1] at p3
            obtain ⟨b1, b2⟩ := bestI_max rr n
            have : m = bestI true rr n := Int.le_antisymm (b2 m hm) (hle _ b1)
            subst this
            exact p3.now rl2 _ (.int _)
    | _ => exact p2.elim

theorem md_minD (hK : X.K = c.K) (hc : X.calm = true) (hg : Gl X "min") (hm : X.mg "min" = none) (he : PE X e (tE c ex f)) (hd : PE X d (tE c ex g)) (hs : starEach [e] X.env = (false, eval e X.env) :: starEach [] X.env := by rfl)
    (hb : backTo pos (starEach [e] X.env) = (false, eval e X.env) :: backTo pos (starEach [] X.env) := by rfl) (hpl : (backTo pos (starEach [e] X.env)).any (·.1) = false := by rfl)
    (hall : (backToKw pos (keywordEach [⟨some "default", d, kp⟩] X.env)).all (·.1.isSome) = true := by rfl) (hnone : (backToKw pos (keywordEach [⟨some "default", d, kp⟩] X.env)).any (·.1.isNone) = false := by rfl)
    (hks : (backToKw pos (keywordEach [⟨some "default", d, kp⟩] X.env)).filterMap (·.1) = [Str.ofString "default"] := by rfl) :
    PE X (.Call (.Name "min" p) [e] [⟨some "default", d, kp⟩] pos) (tE c ex (bin f g (opBestD false))) :=
  PE_imp (pe_callBK (cr_minD hc) hg hm (by decide +kernel) (pa_cons he pa_nil hs) (pk_cons hd pk_nil) (by decide) (by decide) hb hpl hall hnone hks) fun σ H Q q => by
    obtain ⟨ρ, st, bs, rl, re, p⟩ := q
    refine ⟨ρ, st, bs, rl, re, p.bnd.imp fun x st1 bs1 H1 e1 rl1 p1 v rv => ?_⟩
    refine ⟨ρ, st1, bs1, rl1, re.ext e1, p1.bnd.imp fun y st2 bs2 H2 e2 rl2 p2 w rw' => ?_⟩
    have rv := rv.ext e2
    rw [hK]
    cases rv with
    | loc h =>
      obtain ⟨a, vs, xs, ee, hb, hl, hv, r, p3⟩ := post_lst (k := fun _ _ _ _ => True) p2 rl2 (RD.loc h)
      cases ee
      cases e1 : intsOf xs with
      | none => simp only [e1] at p3; exact p3.elim
      | some ns =>
        rw [intsOf_map e1] at r
        rw [r.toInts] at hv
        refine ⟨_, ns, w, rfl, rfl, SqL.of hv, fun z => ?_, fun m hm hle => ?_⟩
        · subst z
          simp only [e1] at p3
          exact p3.now rl2 _ rw'
        · cases ns with
          | nil => cases hm
          | cons n rr =>
            simp only [e1] at p3
            obtain ⟨b1, b2⟩ := bestI_min rr n
            have : m = bestI false rr n := Int.le_antisymm (hle _ b1) (b2 m hm)
            subst this
            exact p3.now rl2 _ (.int _)
    | _ => exact p2.elim
end
end Pm
end
section
set_option Elab.async false
set_option linter.all false
set_option maxRecDepth 100000
set_option maxHeartbeats 2000000
namespace Pm
open PySem PySem.Spec PyProof.Rows L2
/-! ### t.count(n) -/
theorem inv_dl {X : Cx} {pins : List (Addr × Obj)} {σ : L2.St} {H : Hp} {s : Shared} (I : Inv X pins σ H s) {a : Addr} (h : DL X.K H a) : ∃ o, s.heap.get? a = some o ∧ o.dict = none := by
  rcases h with ⟨o, u, h1, h2⟩ | ⟨o, h1, h2⟩
  · exact ⟨o, (I.hok _ _ h1).1, h2⟩
  · exact ⟨o, I.kIn _ _ h1, h2⟩
def rCntT (K : PySem.W.Frag) : V → List V → Hp → VK → Prop := fun x xs H Q => ∃ (p : Addr) (ns : List Int) (k : Int), x = .ref p ∧ xs = [.int k] ∧ SqT K H p (ns.map V.int) ∧ Q (.int (ns.count k : Nat)) H
theorem mt_tcount {X : Cx} : MtR X "tuple.count" (rCntT X.K) := by
  intro pins s σ H x xs v us Q I rx rxs h
  obtain ⟨p, ns, k, rfl, rfl, hs, q⟩ := h
  cases rx
  obtain ⟨u, rfl, ru⟩ := rxs.one
  obtain ⟨t, rfl⟩ := ru
  obtain ⟨its, rv, ⟨⟨cls, dd, data, sl⟩, ho, hc, n, hd⟩, hlen⟩ := I.tuple hs
  simp only at hc hd
  subst hc hd
  have hi := ints_of_vals rv
  refine call_meets PySem.F.slot_tuple_count ⟨_, ho, rfl⟩ PySem.F.entry_tuple_count (PySem.F.args_tuple_count_2 _ _)
    (SeqAt.tuple_countAt p its.toArray n dd sl (.int k t) (eqk k)) ⟨ho, fun y hy => (eqk_gives hi y (by simpa using hy)).at _ _, ?_⟩
  have ec : its.toArray.toList.countP (eqk k) = ns.count k := eqk_count hi
  refine ⟨.int (ns.count k : Nat), H, I.tok _, ⟨s.toks, ?_⟩, q⟩
  show Value.int ((its.toArray.toList.countP (eqk k) : Nat) : Int) s.toks = Value.int ((ns.count k : Nat) : Int) s.toks
  rw [ec]
section
variable {X : Cx} {c : Ct} {ex : Wh} {o e : Expr} {to te : TE} {fo fe : ME} {apos pos : Pos}
def tMT (K : PySem.W.Frag) (r : V → List V → Hp → VK → Prop) (to te : TE) : TE := fun σ H Q => to σ H fun x H1 => (∃ a xs, x = .ref a ∧ SqT K H1 a xs ∧ DL K H1 a) ∧ te σ H1 fun y H2 => r x [y] H2 Q
theorem pe_mT {id : String} {name : Str} {r : V → List V → Hp → VK → Prop} (slot : Slot "tuple" name id) (ty : typeOf (.builtin id) = pure (.type "method_descriptor")) (rule : MtR X id r) (ho : PE X o to) (he : PE X e te)
    (hs : starEach [e] X.env = [(false, eval e X.env)] := by rfl) (hbase : attributeBase o name X.env (eval o X.env) = eval o X.env := by rfl) (hline : (apos.endLine == pos.line) = true := by rfl) :
    PE X (.Call (.Attribute o name apos) [e] [] pos) (tMT X.K r to te) := by
  refine ⟨fun pins s σ H Q I h => ?_⟩
  refine PySem.Call_method1 hbase hs hline (thn (ho.run pins s σ H _ I h) fun v s1 ⟨x, H1, I1, r1, q1⟩ => ?_)
  obtain ⟨⟨a, xs, rfl, hq, hd⟩, q1⟩ := q1
  have r1' := r1
  cases r1
  obtain ⟨its, rv, hT, _⟩ := I1.tuple hq
  obtain ⟨ob, e1, e2⟩ := inv_dl I1 hd
  refine ⟨"tuple", _, PySem.F.plainAttrs_tuple, slot, ty, hT.typeIs, (fun b eb => by cases eb; exact ⟨ob, e1, e2⟩), Calls.callWith_builtin rfl (Calls.evalArgs_plain (Calls.spliced_cons ?_))⟩
  exact thn (he.run pins s1 σ H1 _ I1 q1) fun u s2 ⟨y, H2, I2, r2, q2⟩ => Calls.spliced_nil (rule pins s2 σ H2 _ [y] _ [u] Q I2 r1' (.cons r2 .nil) q2)
def isTu : D → M Unit
  | .tup _ => ret ()
  | _ => no
def cntT : D → D → M D
  | .tup xs, .int k => match intsOf xs with
    | some ns => ret (.int (ns.count k : Nat))
    | none => no
  | _, _ => no
def metT (fo fe : ME) (op : D → D → M D) : ME := fun ρ => bnd (fo ρ) fun o => bnd (isTu o) fun _ => bnd (fe ρ) fun y => op o y
theorem md_count (hK : X.K = c.K) (ho : PE X o (tE c ex fo)) (he : PE X e (tE c ex fe)) (hs : starEach [e] X.env = [(false, eval e X.env)] := by rfl) (hbase : attributeBase o "count" X.env (eval o X.env) = eval o X.env := by rfl) (hline : (apos.endLine == pos.line) = true := by rfl) :
    PE X (.Call (.Attribute o "count" apos) [e] [] pos) (tE c ex (metT fo fe cntT)) :=
  PE_imp (pe_mT PySem.F.slot_tuple_count PySem.F.type_tuple_count mt_tcount ho he hs hbase hline) fun σ H Q q => by
    obtain ⟨ρ, st, bs, rl, re, p⟩ := q
    refine ⟨ρ, st, bs, rl, re, p.bnd.imp fun d st1 bs1 H1 e1 rl1 p1 v rv => ?_⟩
    cases rv with
    | @tup a vs ds s tl r =>
      refine ⟨⟨_, _, rfl, by rw [hK]; exact s, by rw [hK]; exact tl⟩, ρ, st1, bs1, rl1, re.ext e1, Post.bnd (m := fe ρ) p1 |>.imp fun y st2 bs2 H2 e2 rl2 p2 vy ry => ?_⟩
      cases ry with
      | int k =>
        unfold cntT at p2
        cases en : intsOf ds with
        | none => simp only [en] at p2; exact p2.elim
        | some ns =>
          simp only [en] at p2
          have r := (r.ext e2)
          rw [intsOf_map en] at r
          refine ⟨_, ns, k, rfl, rfl, ?_, p2.now rl2 _ (.int _)⟩
          rw [hK, ← r.toInts]
          exact e2.sqT s
      | _ => exact p2.elim
    | _ => exact p1.elim
/-! ### s.removeprefix(t) -/
def opRemP : D → D → M D
  | .str a, .str b => if a.length ≤ sizeLine then ret (.str (Txt.removeprefix a b)) else no
  | _, _ => no
theorem md_remP (ho : PE X o (tE c ex fo)) (he : PE X e (tE c ex fe)) (hs : starEach [e] X.env = [(false, eval e X.env)] := by rfl) (hbase : attributeBase o "removeprefix" X.env (eval o X.env) = eval o X.env := by rfl) (hline : (apos.endLine == pos.line) = true := by rfl) :
    PE X (.Call (.Attribute o "removeprefix" apos) [e] [] pos) (tE c ex (met1 fo fe opRemP)) :=
  PE_imp (pe_m1 F.slot_str_removeprefix F.type_str_removeprefix mt_removeprefix ho he hs hbase hline) fun σ H Q q => tM1_of (fun a y d bs H st Q ry rl p => by
    cases ry with
    | str b =>
      obtain ⟨h, p⟩ := Post.iff (m := ret _) p
      exact ⟨a, b, rfl, rfl, h, p.now rl _ (.str _)⟩
    | _ => exact p.elim) q
end
/-! ### sum of a tuple -/
section
variable {prog : Program} {w : World} {A : Around} {E : Value → Shared → Prop} {s : Shared} {l : Addr}
theorem sum_tupG {xs : Array (Int × Tok)} {Q : Value → Shared → Prop} (hh : A.handled = none) (hl : s.heap.IsTuple l (intItems xs))
    (h : ∀ h' tk t', (∀ b o, s.heap.get? b = some o → h'.get? b = some o) → Q (.int (preSum (numAt xs) xs.size) t') { s with heap := h', toks := tk }) :
    wpAny (model prog w) A (call (.builtin "sum") [.ref l]) Q E s := by
  have hlt : l < s.heap.objs.size := by obtain ⟨_, e, _⟩ := hl; exact Heap.lt_size e
  refine call_sum_walkG (wpAny_pyIter_tuple hl ?_)
  refine ⟨_, _, _, _, _, _, numAt xs, rfl, Walks.tuple (A := A.in1) hh s.heap.objs.size l (Nat.ne_of_lt hlt) (intItems xs), ⟨⟨_, Heap.get?_push_size _ rfl, rfl, rfl⟩, hl.push _⟩, fun b hb => ?_, (fun _ _ => intItems_at), fun h' tk t' hk => ?_⟩
  · show b < (s.heap.push _).objs.size
    rw [Heap.size_push]
    rcases List.mem_cons.mp hb with rfl | hb
    · exact Nat.lt_succ_self _
    · rcases List.mem_cons.mp hb with rfl | hb
      · exact Nat.lt_succ_of_lt hlt
      · cases hb
  · have := h h' tk t' fun b o e => by
      refine hk b o (fun hm => ?_) (Heap.get?_push_of_some _ e)
      rcases List.mem_cons.mp hm with e1 | hm
      · exact absurd (e1 ▸ Heap.lt_size e) (Nat.lt_irrefl _)
      · cases hm
    simpa [intItems] using this
theorem sum_rawT {its : List Value} {ns : List Int} {Q : Value → Shared → Prop} (hh : A.handled = none) (hl : s.heap.IsTuple l its.toArray) (hi : IntsAre its ns)
    (h : ∀ h' tk t', (∀ b o, s.heap.get? b = some o → h'.get? b = some o) → Q (.int ns.sum t') { s with heap := h', toks := tk }) : wpAny (model prog w) A (call (.builtin "sum") [.ref l]) Q E s := by
  obtain ⟨xs, e⟩ := hi.allInts.items
  have hn : numsOf (intItems xs).toList = ns := by rw [← e]; exact hi.numsOf
  rw [nums_intItems] at hn
  rw [e] at hl
  refine sum_tupG hh hl fun h' tk t' hk => ?_
  have := h h' tk t' hk
  rw [preSum_eq, List.take_of_length_le (by simp), hn]; exact this
end
def rSumT (K : PySem.W.Frag) : List V → Hp → VK → Prop := fun vs H Q => ∃ (a : Addr) (ns : List Int), vs = [V.ref a] ∧ SqT K H a (ns.map V.int) ∧ Q (.int ns.sum) H
theorem cr_sumT {X : Cx} (hc : X.calm = true) : CallR X (.builtin "sum") (rSumT X.K) := by
  intro pins s σ H vs us Q I r h
  obtain ⟨a, ns, rfl, hs, q⟩ := h
  obtain ⟨its, rv, hl, _⟩ := I.tuple hs
  rw [Vals.ref1 r]
  exact sum_rawT (I.ok.hd hc) hl (ints_of_vals rv) fun h' tk t' hk => ⟨.int _, H, I.kept hk, ⟨_, rfl⟩, q⟩
def bSumX : List D → M D
  | [.loc l] => bnd (lst l) fun xs => match intsOf xs with
    | some ns => ret (.int ns.sum)
    | none => no
  | [.tup xs] => match intsOf xs with
    | some ns => ret (.int ns.sum)
    | none => no
  | _ => no
theorem cb_sumX {X : Cx} {c : Ct} {ex : Wh} (hK : X.K = c.K) (hc : X.calm = true) : CB X c ex (.builtin "sum") bSumX := ⟨_, (cr_sum hc).or (cr_sumT hc), by
  intro vs ds bs H st Q r rl p
  match ds, r, p with
  | [.loc l], .cons (.loc h) .nil, p =>
    obtain ⟨a, vs, xs, e, hb, hl, hv, r, p⟩ := post_lst (k := fun _ _ _ _ => True) p rl (RD.loc h)
    cases e
    cases e1 : intsOf xs with
    | none => simp only [e1] at p; exact p.elim
    | some ns =>
      simp only [e1] at p
      rw [intsOf_map e1] at r
      rw [r.toInts] at hv
      exact .inl ⟨_, _, rfl, SqL.of hv, p.now rl _ (.int _)⟩
  | [.tup xs], .cons (.tup s tl r) .nil, p =>
    unfold bSumX at p
    cases e1 : intsOf xs with
    | none => simp only [e1] at p; exact p.elim
    | some ns =>
      simp only [e1] at p
      rw [intsOf_map e1] at r
      rw [r.toInts] at s
      exact .inr ⟨_, _, rfl, by rw [hK]; exact s, p.now rl _ (.int _)⟩⟩
/-! ### t * n -/
theorem tuple_mul1 (l : Addr) (items : Array Value) (n : Nat) (dd : Option Addr) (sl : Array (Option Value)) (u : Tok) :
    Meets (Builtin.«tuple.__mul__» ⟨[.ref l, .int 1 u], []⟩) (fun _ R s => s.heap.get? l = some { cls := .type "tuple", dict := dd, data := .seq items n, slots := sl } ∧ R (.ok (.ret (Value.ref l))) s) :=
  .of_wp fun prog w A R s h => by
    obtain ⟨hp, g, d, tk, os⟩ := s
    obtain ⟨hl, h⟩ := h
    have f1 := AutoSeq1.idx_int
    wp_walk using wpAny_loadPart' hl
    repeat (first
      | (refine wpAny_ite_false (decide_eq_false (by decide)) ?_; wp_walk using wpAny_loadPart' hl)
      | (refine wpAny_ite_true (decide_eq_true (by simp)) ?_; wp_walk using wpAny_loadPart' hl))
    exact ⟨_, rfl, h⟩
def rRep1 (K : PySem.W.Frag) : R2 := fun x y H Q => ∃ l xs, x = .ref l ∧ y = .int 1 ∧ SqT K H l xs ∧ Q (.ref l) H
def rRepF (K : PySem.W.Frag) : R2 := fun x y H Q => ∃ l k xs, x = .ref l ∧ y = .int k ∧ SqT K H l xs ∧ xs ≠ [] ∧ 2 ≤ k ∧ k ≤ 1000 ∧ xs.length ≤ 1000 ∧ ∀ p us, H p = none → Q (.ref p) (upd H p (frT us (List.replicate k.toNat xs).flatten))
section
variable {X : Cx}
theorem op_rep1 : OpR X (binaryOp .Mult) (rRep1 X.K) := by
  intro pins s σ H x y v u Q I rx ry h
  obtain ⟨l, xs, rfl, rfl, hT, q⟩ := h
  cases rx
  obtain ⟨t, rfl⟩ := ry
  obtain ⟨its, r, ⟨⟨cls, dd, data, sl⟩, ho, hc, n, hd⟩, hs⟩ := I.tuple hT
  simp only at hc hd
  subst hc hd
  exact wpAny_binaryOp_repeat_ref (T := "tuple") (U := "int") (by decide) ⟨_, ho, rfl⟩ (fun s' => typeIs_int s' 1 t) noFill_tuple_mul F.fills_int_mul F.slot_int_rmul repeat_tuple F.slot_int_index.lookup
    (call_meets F.slot_int_rmul (typeIs_int s 1 t) F.entry_int_rmul (F.args_int_rmul_2 _ _) (int_rmul_tuple 1 t l its.toArray n dd sl)
      ⟨ho, rfl, ⟨_, ho, rfl⟩, call_meets F.slot_tuple_mul ⟨_, ho, rfl⟩ F.entry_tuple_mul (F.args_tuple_mul_2 _ _) (tuple_mul1 l its.toArray n dd sl t) ⟨ho, ⟨.ref l, H, I, rfl, q⟩⟩⟩)
theorem op_repF : OpR X (binaryOp .Mult) (rRepF X.K) := by
  intro pins s σ H x y v u Q I rx ry h
  obtain ⟨l, k, xs, rfl, rfl, hT, hne, h1, h2, hz, q⟩ := h
  cases rx
  obtain ⟨t, rfl⟩ := ry
  obtain ⟨its, r, ⟨⟨cls, dd, data, sl⟩, ho, hc, n, hd⟩, hs⟩ := I.tuple hT
  simp only at hc hd
  subst hc hd
  have hle : its.length = xs.length := r.length.symm
  have hn : its ≠ [] := fun e => hne (by
    rw [e] at hle
    exact List.eq_nil_of_length_eq_zero hle.symm)
  have hi : its.toArray.isEmpty = false := by
    cases its with
    | nil => exact absurd rfl hn
    | cons a b => rfl
  have hsz0 : its.toArray.size = xs.length := by rw [List.size_toArray, hle]
  have hm : ((its.toArray.size : Nat) : Int) * k ≤ 1000000 := by
    rw [hsz0]
    have a1 : ((xs.length : Nat) : Int) * k ≤ 1000 * k := Int.mul_le_mul_of_nonneg_right (by omega) (by omega)
    omega
  have flen : (List.replicate k.toNat its).flatten.length ≤ sizeLine := by
    rw [PyProof.Rows.lm_len_rep_flat, hle, sizeLine_eq]
    have a1 : k.toNat * xs.length ≤ 1000 * 1000 := Nat.mul_le_mul (by omega) hz
    omega
  have c0 : (decide (k < -(2 ^ 63)) || decide (k ≥ 2 ^ 63)) = false := by
    rw [decide_eq_false (by omega), decide_eq_false (by omega)] <;> rfl
  have c1 : (its.toArray.isEmpty || k == 1) = false := by
    rw [hi, Bool.false_or]
    exact beq_eq_false_iff_ne.mpr (by omega)
  have c2 : (decide (k ≤ 0) || its.toArray.isEmpty) = false := by
    rw [hi, Bool.or_false]
    exact decide_eq_false (by omega)
  have c4 : Builtin.Tuple.tupleTooMany (((its.toArray.size : Nat) : Int) * k) = false := by
    unfold Builtin.Tuple.tupleTooMany
    rw [sizeLine_eq]
    exact decide_eq_false (by omega)
  refine wpAny_binaryOp_repeat_ref (T := "tuple") (U := "int") (by decide) ⟨_, ho, rfl⟩ (fun s' => typeIs_int s' k t) noFill_tuple_mul F.fills_int_mul F.slot_int_rmul repeat_tuple F.slot_int_index.lookup
    (call_meets F.slot_int_rmul (typeIs_int s k t) F.entry_int_rmul (F.args_int_rmul_2 _ _) (int_rmul_tuple k t l its.toArray n dd sl)
      ⟨ho, rfl, ⟨_, ho, rfl⟩, call_meets F.slot_tuple_mul ⟨_, ho, rfl⟩ F.entry_tuple_mul (F.args_tuple_mul_2 _ _) (tuple_mulW l its.toArray n dd sl k t c0 c1 c2 (by omega) c4 (by rw [size_rep, List.size_toArray]; exact flen)) ⟨ho, ?_⟩⟩)
  rw [size_rep]
  exact ⟨.ref s.heap.objs.size, _, tupN I (xs := (List.replicate k.toNat xs).flatten) (by rw [PyProof.Rows.lm_len_rep_flat, sizeLine_eq]; have a1 : k.toNat * xs.length ≤ 1000 * 1000 := Nat.mul_le_mul (by omega) hz; omega) (r.rep k.toNat) s.toks, rfl, q _ _ (I.hok.fresh (Nat.le_refl _))⟩
end
def repL {α : Type} (k : Nat) (xs : List α) : List α := (List.replicate k xs).flatten
def opRep : D → D → M D
  | .tup xs, .int k => if k = 1 then ret (.tup xs) else if xs ≠ [] ∧ 2 ≤ k ∧ k ≤ 1000 ∧ xs.length ≤ 1000 then ret (.tup (repL k.toNat xs)) else no
  | _, _ => no
theorem RDs.rep {c : Ct} {bs : List Addr} {H : Hp} {vs : List V} {xs : List D} (r : RDs c bs H vs xs) : ∀ k : Nat, RDs c bs H (List.replicate k vs).flatten (repL k xs)
  | 0 => .nil
  | k + 1 => by
    unfold repL
    rw [List.replicate_succ, List.replicate_succ, List.flatten_cons, List.flatten_cons]
    exact r.append (r.rep k)
theorem s2_rep {c : Ct} {ex : Wh} : S2 c ex opRep (fun x y H Q => rRep1 c.K x y H Q ∨ rRepF c.K x y H Q) := by
  intro x y d e bs H st Q rx ry rl p
  cases rx with
  | @tup a vs xs s tl r =>
    cases ry with
    | int k =>
      unfold opRep at p
      by_cases h1 : k = 1
      · subst h1
        simp only [if_true] at p
        exact .inl ⟨_, _, rfl, rfl, s, p.now rl _ (.tup s tl r)⟩
      · simp only [if_neg h1] at p
        obtain ⟨⟨g1, g2, g3, g4⟩, p⟩ := Post.iff (m := ret _) p
        refine .inr ⟨a, k, vs, rfl, rfl, s, fun z => g1 (by cases r with | nil => rfl | cons _ _ => cases z), g2, g3, by rw [r.length]; exact g4, fun q us hq => ?_⟩
        obtain ⟨e, rl'⟩ := rl.fresh hq (frT us (List.replicate k.toNat vs).flatten)
        exact p.at e rl' _ (.tup sqF dlF ((r.rep k.toNat).ext e))
    | _ => exact p.elim
  | _ => cases ry <;> exact p.elim
theorem md_rep {X : Cx} {c : Ct} {ex : Wh} {pos : Pos} {a b : Expr} {fa fb : ME} (hK : X.K = c.K) (ha : PE X a (tE c ex fa)) (hb : PE X b (tE c ex fb)) : PE X (.BinOp a .Mult b pos) (tE c ex (bin fa fb opRep)) := md_bin (op_rep1.or op_repF) (by rw [hK]; exact s2_rep) ha hb
end Pm
end
section
set_option Elab.async false
set_option linter.all false
set_option maxRecDepth 100000
set_option maxHeartbeats 4000000
namespace Lk38
open PySem PySem.Spec PyProof.Rows L2 Pm
def top (i : Nat) : Stmt := PySem.Challenge.pw_onestillview_k38_whole_fewest_deeds_by_t.main.body.getD i (.Pass ⟨0, 0, 0, 0⟩)
abbrev s_law_pot : Stmt := top 23
theorem sc_law_pot : FnScope ["script", "place", "cell", "own", "small"] ["script", "place"] (defScope s_law_pot) := ⟨rfl, rfl, rfl, by decide +kernel, rfl, by decide +kernel, by decide +kernel⟩
def b_law_pot (ns : List Int) : MS := (seqS (setS (.nm 2) (ifE (tstB (bin (rd 1) (appA (conA (rd 0) nilA) (bLen ns)) opLt)) (bin (rd 0) (rd 1) (opIx ns)) (bin (bin (bin (appA (conA (appA (conA (sli (rd 0) noP (som (kon (.int 1))) (opSl ns)) nilA) bSum) nilA) bInt) (kon (.int 1000003)) opMod) (bin (kon (.int 1589)) (rd 1) opMul) opAdd) (kon (.int 1443)) opAdd))) (seqS (setS (.nm 3) (bin (bin (appA (conA (appA (conA (rd 2) nilA) bAbs) nilA) bInt) (bin (bin (kon (.int 10)) (kon (.int 60)) opPow) (kon (.int 5)) opPow) opMod) (appA (conA (bin (appA (conA (rd 2) nilA) bAbs) (bin (kon (.int 10)) (kon (.int 18)) opPow) opGe) nilA) bInt) opMul)) (seqS (setS (.nm 4) (bin (appA (conA (rd 2) nilA) bInt) (kon (.int 2305843009213693951)) opMod)) (retS (lstE (conA (rd 3) (conA (bin (appA (conA (bin (bin (bin (rd 4) (kon (.int 86745)) opMul) (bin (bin (kon (.int 10357)) (rd 1) opMul) (rd 1) opMul) opAdd) (kon (.int 701)) opAdd) nilA) bInt) (kon (.int 2305843009213693921)) opMod) (conA (kon (.int 0)) nilA))))))))
def m_law_pot (ns : List Int) : List D → M D := runB 5 (b_law_pot ns)
abbrev s_law_cells : Stmt := top 27
theorem sc_law_cells : FnScope ["script", "limit"] ["script", "limit"] (defScope s_law_cells) := ⟨rfl, rfl, rfl, by decide +kernel, rfl, by decide +kernel, by decide +kernel⟩
def b_law_cells (ns : List Int) : MS := (retS (una (appA (conA (kon (.int 1)) (conA (appA (conA (rd 1) (conA (appA (conA (rd 0) nilA) (bLen ns)) nilA)) bMin) nilA)) bMax) bRg1))
def m_law_cells (ns : List Int) : List D → M D := runB 2 (b_law_cells ns)
abbrev s_is_integer : Stmt := top 7
theorem sc_is_integer : FnScope ["value"] ["value"] (defScope s_is_integer) := ⟨rfl, rfl, rfl, by decide +kernel, rfl, by decide +kernel, by decide +kernel⟩
def b_is_integer (ns : List Int) : MS := (retS (andV (una (rd 0) (isi "int")) (notV (una (rd 0) (isi "bool")))))
def m_is_integer (ns : List Int) : List D → M D := runB 1 (b_is_integer ns)
abbrev s_is_within : Stmt := top 8
theorem sc_is_within : FnScope ["value", "low", "high"] ["value", "low", "high"] (defScope s_is_within) := ⟨rfl, rfl, rfl, by decide +kernel, rfl, by decide +kernel, by decide +kernel⟩
def b_is_within (ns : List Int) : MS := (retS (andV (calE (conA (rd 0) nilA) (ofLen 1 (m_is_integer ns))) (chn (rd 1) (rd 0) (rd 2) opLe opLe)))
def m_is_within (ns : List Int) : List D → M D := runB 3 (b_is_within ns)
abbrev s_check_many : Stmt := top 12
theorem sc_check_many : FnScope ["value"] ["value"] (defScope s_check_many) := ⟨rfl, rfl, rfl, by decide +kernel, rfl, by decide +kernel, by decide +kernel⟩
def b_check_many (ns : List Int) : MS := (ifS (notT (tstV (calE (conA (rd 0) (conA (kon (.int 1)) (conA (kon (.int 5)) nilA))) (ofLen 3 (m_is_within ns))))) nevS nxS)
def m_check_many (ns : List Int) : List D → M D := runB 1 (b_check_many ns)
abbrev s_is_ascending : Stmt := top 9
theorem sc_is_ascending : FnScope ["value", "one", "other"] ["value"] (defScope s_is_ascending) := ⟨rfl, rfl, rfl, by decide +kernel, rfl, by decide +kernel, by decide +kernel⟩
def b_is_ascending (ns : List Int) : MS := (retS (appA (conA (lcE (zipI (rd 0) (sli (rd 0) (som (kon (.int 1))) noP (opSl ns))) (.tp [(.nm 1), (.nm 2)]) yesT (bin (rd 1) (rd 2) opLtX) [1, 2]) nilA) bAll))
def m_is_ascending (ns : List Int) : List D → M D := runB 3 (b_is_ascending ns)
abbrev s_is_lot : Stmt := top 10
theorem sc_is_lot : FnScope ["many", "value", "walker"] ["many", "value"] (defScope s_is_lot) := ⟨rfl, rfl, rfl, by decide +kernel, rfl, by decide +kernel, by decide +kernel⟩
def b_is_lot (ns : List Int) : MS := (seqS (ifS (orT (notT (tstV (una (rd 1) (isi "tuple")))) (tstB (bin (appA (conA (rd 1) nilA) (bLen ns)) (kon (.int 0)) opEq))) (retS (kon (.bl false))) nxS) (retS (andV (appA (conA (lcE (iterA (rd 1)) (.nm 2) yesT (calE (conA (rd 2) (conA (kon (.int 0)) (conA (bin (rd 0) (kon (.int 1)) opSub) nilA))) (ofLen 3 (m_is_within ns))) [2]) nilA) bAll) (calE (conA (rd 1) nilA) (ofLen 1 (m_is_ascending ns))))))
def m_is_lot (ns : List Int) : List D → M D := runB 3 (b_is_lot ns)
abbrev s_are_lots : Stmt := top 11
theorem sc_are_lots : FnScope ["many", "value", "lot"] ["many", "value"] (defScope s_are_lots) := ⟨rfl, rfl, rfl, by decide +kernel, rfl, by decide +kernel, by decide +kernel⟩
def b_are_lots (ns : List Int) : MS := (retS (andV (una (rd 1) (isi "tuple")) (appA (conA (lcE (iterA (rd 1)) (.nm 2) yesT (calE (conA (rd 0) (conA (rd 2) nilA)) (ofLen 2 (m_is_lot ns))) [2]) nilA) bAll)))
def m_are_lots (ns : List Int) : List D → M D := runB 3 (b_are_lots ns)
abbrev s_cut_in_eras : Stmt := top 14
theorem sc_cut_in_eras : FnScope ["many", "lots", "found", "missing", "lot", "walker", "era"] ["many", "lots"] (defScope s_cut_in_eras) := ⟨rfl, rfl, rfl, by decide +kernel, rfl, by decide +kernel, by decide +kernel⟩
def b_cut_in_eras (ns : List Int) : MS := (seqS (setS (.nm 2) (lstE nilA)) (seqS (setS (.nm 3) (lstE nilA)) (seqS (forS (iterA (rd 1)) (.nm 4) (seqS (ifS (tstB (bin (appA (conA (rd 3) nilA) (bLen ns)) (kon (.int 0)) opEq)) (seqS (dropS (meth (rd 2) (conA (lstE nilA) nilA) mAppend)) (setS (.nm 3) (una (rd 0) bRg1))) nxS) (seqS (ifS (notT (tstV (appA (conA (lcE (iterA (rd 4)) (.nm 5) yesT (bin (rd 5) (rd 3) opIn) [5]) nilA) bAll))) (retS (kon .non)) nxS) (seqS (dropS (meth (bin (rd 2) (una (kon (.int 1)) opNeg) (opIx ns)) (conA (rd 4) nilA) mAppend)) (setS (.nm 3) (lcE (iterA (rd 3)) (.nm 5) (tstB (bin (rd 5) (rd 4) opNotIn)) (rd 5) [5])))))) (retS (appA (conA (lcE (iterA (rd 2)) (.nm 6) yesT (appA (conA (rd 6) nilA) bTuple) [6]) nilA) bTuple)))))
def m_cut_in_eras (ns : List Int) : List D → M D := runB 7 (b_cut_in_eras ns)
abbrev s_is_of_kind : Stmt := top 15
theorem sc_is_of_kind : FnScope ["kind", "many", "value", "lot"] ["kind", "many", "value"] (defScope s_is_of_kind) := ⟨rfl, rfl, rfl, by decide +kernel, rfl, by decide +kernel, by decide +kernel⟩
def b_is_of_kind (ns : List Int) : MS := (seqS (ifS (notT (tstV (calE (conA (rd 1) (conA (rd 2) nilA)) (ofLen 2 (m_are_lots ns))))) (retS (kon (.bl false))) nxS) (seqS (ifS (tstB (bin (rd 0) (kon (.str "full")) opEq)) (retS (appA (conA (lcE (iterA (rd 2)) (.nm 3) yesT (bin (appA (conA (rd 3) nilA) (bLen ns)) (rd 1) opEq) [3]) nilA) bAll)) nxS) (seqS (ifS (tstB (bin (rd 0) (kon (.str "one")) opEq)) (retS (appA (conA (lcE (iterA (rd 2)) (.nm 3) yesT (bin (appA (conA (rd 3) nilA) (bLen ns)) (kon (.int 1)) opEq) [3]) nilA) bAll)) nxS) (retS (orV (bin (rd 0) (kon (.str "some")) opEq) (bin (calE (conA (rd 1) (conA (rd 2) nilA)) (ofLen 2 (m_cut_in_eras ns))) (kon .non) opIsNot))))))
def m_is_of_kind (ns : List Int) : List D → M D := runB 4 (b_is_of_kind ns)
abbrev s_check_lots : Stmt := top 16
theorem sc_check_lots : FnScope ["kind", "many", "value"] ["kind", "many", "value"] (defScope s_check_lots) := ⟨rfl, rfl, rfl, by decide +kernel, rfl, by decide +kernel, by decide +kernel⟩
def b_check_lots (ns : List Int) : MS := (ifS (notT (tstV (calE (conA (rd 0) (conA (rd 1) (conA (rd 2) nilA))) (ofLen 3 (m_is_of_kind ns))))) nevS nxS)
def m_check_lots (ns : List Int) : List D → M D := runB 3 (b_check_lots ns)
abbrev s_numbers_left : Stmt := top 19
theorem sc_numbers_left : FnScope ["many", "sizes", "found", "remaining", "size"] ["many", "sizes"] (defScope s_numbers_left) := ⟨rfl, rfl, rfl, by decide +kernel, rfl, by decide +kernel, by decide +kernel⟩
def b_numbers_left (ns : List Int) : MS := (seqS (setS (.nm 2) (lstE nilA)) (seqS (setS (.nm 3) (rd 0)) (seqS (forS (iterA (rd 1)) (.nm 4) (seqS (ifS (orT (notT (tstV (calE (conA (rd 4) nilA) (ofLen 1 (m_is_integer ns))))) (notT (tstB (chn (kon (.int 1)) (rd 4) (rd 3) opLe opLe)))) (retS (kon .non)) nxS) (seqS (dropS (meth (rd 2) (conA (rd 3) nilA) mAppend)) (setS (.nm 3) (ifE (tstB (bin (rd 4) (rd 3) opEq)) (rd 0) (bin (rd 3) (rd 4) opSub)))))) (retS (rd 2)))))
def m_numbers_left (ns : List Int) : List D → M D := runB 5 (b_numbers_left ns)
abbrev s_deeds_for_sizes : Stmt := top 20
theorem sc_deeds_for_sizes : FnScope ["many", "sizes", "ahead", "changes", "ended", "size", "remaining"] ["many", "sizes"] (defScope s_deeds_for_sizes) := ⟨rfl, rfl, rfl, by decide +kernel, rfl, by decide +kernel, by decide +kernel⟩
def b_deeds_for_sizes (ns : List Int) : MS := (seqS (ifS (tstB (bin (appA (conA (rd 1) nilA) (bLen ns)) (kon (.int 0)) opEq)) (retS (kon (.int 0))) nxS) (seqS (setS (.nm 2) (calE (conA (rd 0) (conA (rd 1) nilA)) (ofLen 2 (m_numbers_left ns)))) (seqS (setS (.nm 3) (bin (bin (appA (conA (rd 1) nilA) bSumX) (bin (kon (.int 2)) (appA (conA (rd 2) nilA) bSumX) opMul) opAdd) (appA (conA (sli (rd 2) noP (som (una (kon (.int 1)) opNeg)) (opSl ns)) nilA) bSumX) opAdd)) (seqS (setS (.nm 4) (lcE (zipI (sli (rd 1) noP (som (una (kon (.int 1)) opNeg)) (opSl ns)) (rd 2)) (.tp [(.nm 5), (.nm 6)]) (tstB (bin (rd 5) (rd 6) opEq)) (rd 5) [5, 6])) (seqS (setS (.nm 3) (bin (rd 3) (bin (bin (kon (.int 2)) (rd 0) opMul) (appA (conA (rd 4) nilA) (bLen ns)) opMul) opAdd)) (retS (bin (bin (kon (.int 3)) (rd 3) opMul) (bin (rd 0) (bin (rd 1) (una (kon (.int 1)) opNeg) (opIx ns)) opSub) opSub)))))))
def m_deeds_for_sizes (ns : List Int) : List D → M D := runB 7 (b_deeds_for_sizes ns)
abbrev s_least_deeds : Stmt := top 18
theorem sc_least_deeds : FnScope ["many", "lots", "lot"] ["many", "lots"] (defScope s_least_deeds) := ⟨rfl, rfl, rfl, by decide +kernel, rfl, by decide +kernel, by decide +kernel⟩
def b_least_deeds (ns : List Int) : MS := (seqS (dropS (calE (conA (rd 0) nilA) (ofLen 1 (m_check_many ns)))) (seqS (dropS (calE (conA (kon (.str "eras")) (conA (rd 0) (conA (rd 1) nilA))) (ofLen 3 (m_check_lots ns)))) (retS (calE (conA (rd 0) (conA (lcE (iterA (rd 1)) (.nm 2) yesT (appA (conA (rd 2) nilA) (bLen ns)) [2]) nilA)) (ofLen 2 (m_deeds_for_sizes ns))))))
def m_least_deeds (ns : List Int) : List D → M D := runB 3 (b_least_deeds ns)
abbrev s_deeds_of : Stmt := top 21
theorem sc_deeds_of : FnScope ["many", "sizes"] ["many", "sizes"] (defScope s_deeds_of) := ⟨rfl, rfl, rfl, by decide +kernel, rfl, by decide +kernel, by decide +kernel⟩
def b_deeds_of (ns : List Int) : MS := (seqS (ifS (orT (notT (tstV (calE (conA (rd 0) nilA) (ofLen 1 (m_is_integer ns))))) (tstB (bin (rd 0) (kon (.int 1)) opLtX))) nevS nxS) (seqS (ifS (orT (notT (tstV (una (rd 1) (isi "tuple")))) (tstB (bin (calE (conA (rd 0) (conA (rd 1) nilA)) (ofLen 2 (m_numbers_left ns))) (kon .non) opIs))) nevS nxS) (retS (calE (conA (rd 0) (conA (rd 1) nilA)) (ofLen 2 (m_deeds_for_sizes ns))))))
def m_deeds_of (ns : List Int) : List D → M D := runB 2 (b_deeds_of ns)
abbrev s_law_take : Stmt := top 24
theorem sc_law_take : FnScope ["pot", "upto", "prime", "blend", "digit"] ["pot", "upto"] (defScope s_law_take) := ⟨rfl, rfl, rfl, by decide +kernel, rfl, by decide +kernel, by decide +kernel⟩
def b_law_take (ns : List Int) : MS := (seqS (ifS (tstB (bin (bin (rd 0) (kon (.int 0)) (opIx ns)) (kon (.int 0)) opGt)) (seqS (setS (.nm 4) (bin (appA (conA (bin (rd 0) (kon (.int 0)) (opIx ns)) nilA) bInt) (rd 1) opMod)) (seqS (subS (bin (bin (rd 0) (kon (.int 0)) (opIx ns)) (rd 1) opFdiv) (rd 0) (kon (.int 0))) (retS (rd 4)))) nxS) (seqS (subS (bin (bin (rd 0) (kon (.int 2)) (opIx ns)) (kon (.int 1)) opAdd) (rd 0) (kon (.int 2))) (seqS (setS (.nm 2) (bin (lstE (conA (kon (.int 2147483647)) (conA (kon (.int 2147483629)) (conA (kon (.int 2147483587)) (conA (kon (.int 2147483579)) (conA (kon (.int 2147483563)) nilA)))))) (bin (appA (conA (bin (rd 0) (kon (.int 2)) (opIx ns)) nilA) bInt) (kon (.int 5)) opMod) (opIx ns))) (seqS (setS (.nm 3) (bin (appA (conA (bin (appA (conA (bin (bin (bin (rd 0) (kon (.int 1)) (opIx ns)) (bin (bin (kon (.int 100987)) (bin (rd 0) (kon (.int 2)) (opIx ns)) opMul) (bin (rd 0) (kon (.int 2)) (opIx ns)) opMul) opAdd) (kon (.int 1435)) opAdd) nilA) bInt) (kon (.int 3)) opPow) nilA) bInt) (rd 2) opMod)) (retS (bin (appA (conA (bin (bin (rd 3) (bin (bin (appA (conA (rd 3) nilA) bInt) (kon (.int 11427)) opMod) (bin (kon (.int 591)) (bin (rd 0) (kon (.int 2)) (opIx ns)) opMul) opAdd) opMul) (kon (.int 315)) opFdiv) nilA) bInt) (rd 1) opMod))))))
def m_law_take (ns : List Int) : List D → M D := runB 5 (b_law_take ns)
abbrev s_law_of : Stmt := top 25
theorem sc_law_of : FnScope ["pot", "some"] ["pot", "some"] (defScope s_law_of) := ⟨rfl, rfl, rfl, by decide +kernel, rfl, by decide +kernel, by decide +kernel⟩
def b_law_of (ns : List Int) : MS := (retS (bin (rd 1) (calE (conA (rd 0) (conA (appA (conA (rd 1) nilA) (bLen ns)) nilA)) (ofLen 2 (m_law_take ns))) (opIx ns)))
def m_law_of (ns : List Int) : List D → M D := runB 2 (b_law_of ns)
abbrev s_law_some : Stmt := top 26
theorem sc_law_some : FnScope ["pot", "pool", "many", "stock", "found", "lap"] ["pot", "pool", "many"] (defScope s_law_some) := ⟨rfl, rfl, rfl, by decide +kernel, rfl, by decide +kernel, by decide +kernel⟩
def b_law_some (ns : List Int) : MS := (seqS (parS 3 4 (conA (appA (conA (rd 1) nilA) (bList ns)) (conA (lstE nilA) nilA))) (seqS (forS (rng1 (rd 2)) (.nm 5) (dropS (meth (rd 4) (conA (meth (rd 3) (conA (calE (conA (rd 0) (conA (appA (conA (rd 3) nilA) (bLen ns)) nilA)) (ofLen 2 (m_law_take ns))) nilA) mPopAt) nilA) mAppend))) (retS (rd 4))))
def m_law_some (ns : List Int) : List D → M D := runB 6 (b_law_some ns)
abbrev s_law_left : Stmt := top 28
theorem sc_law_left : FnScope ["many", "still", "lot", "rest", "one"] ["many", "still", "lot"] (defScope s_law_left) := ⟨rfl, rfl, rfl, by decide +kernel, rfl, by decide +kernel, by decide +kernel⟩
def b_law_left (ns : List Int) : MS := (seqS (setS (.nm 3) (appA (conA (lcE (iterA (rd 1)) (.nm 4) (tstB (bin (rd 4) (rd 2) opNotIn)) (rd 4) [4]) nilA) bTuple)) (retS (ifE (tstB (bin (rd 3) (tupE nilA) opNe)) (rd 3) (una (rd 0) bRgT))))
def m_law_left (ns : List Int) : List D → M D := runB 5 (b_law_left ns)
abbrev s_law_drawn_eras : Stmt := top 29
theorem sc_law_drawn_eras : FnScope ["pot", "many", "lots", "found", "still", "lap", "lot"] ["pot", "many", "lots"] (defScope s_law_drawn_eras) := ⟨rfl, rfl, rfl, by decide +kernel, rfl, by decide +kernel, by decide +kernel⟩
def b_law_drawn_eras (ns : List Int) : MS := (seqS (parS 3 4 (conA (lstE nilA) (conA (una (rd 1) bRgT) nilA))) (seqS (forS (rng1 (rd 2)) (.nm 5) (seqS (setS (.nm 6) (appA (conA (appA (conA (calE (conA (rd 0) (conA (appA (conA (rd 4) nilA) (bList ns)) (conA (bin (kon (.int 1)) (calE (conA (rd 0) (conA (appA (conA (rd 4) nilA) (bLen ns)) nilA)) (ofLen 2 (m_law_take ns))) opAdd) nilA))) (ofLen 3 (m_law_some ns))) nilA) bSortX) nilA) bTuple)) (seqS (dropS (meth (rd 3) (conA (rd 6) nilA) mAppend)) (setS (.nm 4) (calE (conA (rd 1) (conA (rd 4) (conA (rd 6) nilA))) (ofLen 3 (m_law_left ns))))))) (retS (appA (conA (rd 3) nilA) bTuple))))
def m_law_drawn_eras (ns : List Int) : List D → M D := runB 7 (b_law_drawn_eras ns)
abbrev s_law_number : Stmt := top 30
theorem sc_law_number : FnScope ["many", "sizes", "changes", "left", "at", "size"] ["many", "sizes"] (defScope s_law_number) := ⟨rfl, rfl, rfl, by decide +kernel, rfl, by decide +kernel, by decide +kernel⟩
def b_law_number (ns : List Int) : MS := (seqS (parS 2 3 (conA (kon (.int 0)) (conA (rd 0) nilA))) (seqS (forS (enuI (rd 1)) (.tp [(.nm 4), (.nm 5)]) (seqS (setS (.nm 2) (bin (bin (rd 2) (rd 5) opAdd) (bin (kon (.int 2)) (rd 3) opMul) opAdd)) (seqS (ifS (tstB (bin (rd 4) (bin (appA (conA (rd 1) nilA) (bLen ns)) (kon (.int 1)) opSub) opLtX)) (seqS (setS (.nm 2) (bin (rd 2) (rd 3) opAdd)) (ifS (tstB (bin (rd 3) (rd 5) opEq)) (setS (.nm 2) (bin (rd 2) (bin (kon (.int 2)) (rd 0) opMul) opAdd)) nxS)) nxS) (setS (.nm 3) (ifE (tstB (bin (rd 3) (rd 5) opEq)) (rd 0) (bin (rd 3) (rd 5) opSub)))))) (retS (ifE (tstB (bin (appA (conA (rd 1) nilA) (bLen ns)) (kon (.int 0)) opEq)) (kon (.int 0)) (bin (bin (kon (.int 3)) (rd 2) opMul) (bin (rd 0) (bin (rd 1) (una (kon (.int 1)) opNeg) (opIx ns)) opSub) opSub)))))
def m_law_number (ns : List Int) : List D → M D := runB 6 (b_law_number ns)
abbrev s_law_great_sizes : Stmt := top 31
theorem sc_law_great_sizes : FnScope ["pot", "many", "found", "left", "lap", "size"] ["pot", "many"] (defScope s_law_great_sizes) := ⟨rfl, rfl, rfl, by decide +kernel, rfl, by decide +kernel, by decide +kernel⟩
def b_law_great_sizes (ns : List Int) : MS := (seqS (parS 2 3 (conA (lstE nilA) (conA (rd 1) nilA))) (seqS (forS (rng1 (calE (conA (rd 0) (conA (kon (.int 12)) nilA)) (ofLen 2 (m_law_take ns)))) (.nm 4) (seqS (setS (.nm 5) (calE (conA (rd 0) (conA (lstE (conA (kon (.int 1)) (conA (rd 3) (conA (bin (kon (.int 1)) (bin (rd 3) (kon (.int 2)) opFdiv) opAdd) (conA (appA (conA (kon (.int 1)) (conA (bin (rd 3) (kon (.int 1)) opSub) nilA)) bMax) (conA (appA (conA (kon (.int 1)) (conA (bin (rd 3) (kon (.int 3)) opFdiv) nilA)) bMax) nilA)))))) nilA)) (ofLen 2 (m_law_of ns)))) (seqS (setS (.nm 5) (appA (conA (rd 5) (conA (rd 3) nilA)) bMin)) (seqS (dropS (meth (rd 2) (conA (rd 5) nilA) mAppend)) (setS (.nm 3) (ifE (tstB (bin (rd 3) (rd 5) opEq)) (rd 1) (bin (rd 3) (rd 5) opSub))))))) (retS (appA (conA (rd 2) nilA) bTuple))))
def m_law_great_sizes (ns : List Int) : List D → M D := runB 6 (b_law_great_sizes ns)
abbrev s_law_right : Stmt := top 32
theorem sc_law_right : FnScope ["pot", "walkers", "lots", "sizes", "due", "names", "other", "many", "great", "told", "laps", "lot", "one", "at"] ["pot"] (defScope s_law_right) := ⟨rfl, rfl, rfl, by decide +kernel, rfl, by decide +kernel, by decide +kernel⟩
def b_law_right (ns : List Int) : MS := (seqS (setS (.nm 1) (bin (kon (.int 1)) (calE (conA (rd 0) (conA (kon (.int 5)) nilA)) (ofLen 2 (m_law_take ns))) opAdd)) (seqS (setS (.nm 2) (calE (conA (rd 0) (conA (rd 1) (conA (calE (conA (rd 0) (conA (kon (.int 12)) nilA)) (ofLen 2 (m_law_take ns))) nilA))) (ofLen 3 (m_law_drawn_eras ns)))) (seqS (setS (.nm 3) (appA (conA (lcE (iterA (rd 2)) (.nm 11) yesT (appA (conA (rd 11) nilA) (bLen ns)) [11]) nilA) bTuple)) (seqS (setS (.nm 4) (calE (conA (rd 1) (conA (rd 3) nilA)) (ofLen 2 (m_law_number ns)))) (seqS (ifS (orT (tstB (bin (appA (conA (kwE [0, 1] 2 (conA (rd 1) (conA (rd 2) nilA)) (m_least_deeds ns)) nilA) bRepr) (appA (conA (rd 4) nilA) bRepr) opNe)) (tstB (bin (appA (conA (kwE [0, 1] 2 (conA (rd 1) (conA (rd 3) nilA)) (m_deeds_of ns)) nilA) bRepr) (appA (conA (rd 4) nilA) bRepr) opNe))) (retS (kon (.bl false))) nxS) (seqS (setS (.nm 5) (calE (conA (rd 0) (conA (una (rd 1) bRg1) (conA (rd 1) nilA))) (ofLen 3 (m_law_some ns)))) (seqS (setS (.nm 6) (appA (conA (lcE (iterA (rd 2)) (.nm 11) yesT (appA (conA (appA (conA (lcE (iterA (rd 11)) (.nm 12) yesT (bin (rd 5) (rd 12) (opIx ns)) [12]) nilA) bSortX) nilA) bTuple) [11]) nilA) bTuple)) (seqS (ifS (tstB (bin (appA (conA (calE (conA (rd 1) (conA (rd 6) nilA)) (ofLen 2 (m_least_deeds ns))) nilA) bRepr) (appA (conA (rd 4) nilA) bRepr) opNe)) (retS (kon (.bl false))) nxS) (seqS (setS (.nm 7) (calE (conA (rd 0) (conA (lstE (conA (kon (.int 1)) (conA (kon (.int 2)) (conA (kon (.int 7)) (conA (kon (.int 1000)) (conA (bin (bin (kon (.int 10)) (kon (.int 9)) opPow) (kon (.int 1)) opAdd) (conA (bin (kon (.int 10)) (kon (.int 30)) opPow) nilA))))))) nilA)) (ofLen 2 (m_law_of ns)))) (seqS (setS (.nm 8) (calE (conA (rd 0) (conA (rd 7) nilA)) (ofLen 2 (m_law_great_sizes ns)))) (seqS (ifS (tstB (bin (appA (conA (calE (conA (rd 7) (conA (rd 8) nilA)) (ofLen 2 (m_deeds_of ns))) nilA) bRepr) (appA (conA (calE (conA (rd 7) (conA (rd 8) nilA)) (ofLen 2 (m_law_number ns))) nilA) bRepr) opNe)) (retS (kon (.bl false))) nxS) (seqS (setS (.nm 9) (lcE (rng2 (kon (.int 1)) (kon (.int 6))) (.nm 10) yesT (calE (conA (rd 7) (conA (bin (tupE (conA (rd 7) nilA)) (rd 10) opRep) nilA)) (ofLen 2 (m_deeds_of ns))) [10])) (retS (andV (bin (una (lcE (rng1 (kon (.int 4))) (.nm 13) yesT (bin (bin (rd 9) (bin (rd 13) (kon (.int 1)) opAdd) (opIx ns)) (bin (rd 9) (rd 13) (opIx ns)) opSub) [13]) oLenSet) (kon (.int 1)) opEq) (bin (appA (conA (calE (conA (rd 7) (conA (tupE nilA) nilA)) (ofLen 2 (m_deeds_of ns))) nilA) bRepr) (kon (.str "0")) opEq)))))))))))))))
def m_law_right (ns : List Int) : List D → M D := runB 14 (b_law_right ns)
abbrev s_law : Stmt := top 33
theorem sc_law : FnScope ["script", "place"] ["script"] (defScope s_law) := ⟨rfl, rfl, rfl, by decide +kernel, rfl, by decide +kernel, by decide +kernel⟩
def b_law (ns : List Int) : MS := (retS (appA (conA (lcE (iterA (calE (conA (rd 0) (conA (kon (.int 2)) nilA)) (ofLen 2 (m_law_cells ns)))) (.nm 1) yesT (calE (conA (calE (conA (rd 0) (conA (rd 1) nilA)) (ofLen 2 (m_law_pot ns))) nilA) (ofLen 1 (m_law_right ns))) [1]) nilA) bAll))
def m_law (ns : List Int) : List D → M D := runB 2 (b_law ns)
structure Tx (mg : Str → Option Value) : Prop where
  z_abs : mg "abs" = none
  z_all : mg "all" = none
  z_bool : mg "bool" = none
  z_enumerate : mg "enumerate" = none
  z_int : mg "int" = none
  z_isinstance : mg "isinstance" = none
  z_len : mg "len" = none
  z_list : mg "list" = none
  z_max : mg "max" = none
  z_min : mg "min" = none
  z_range : mg "range" = none
  z_repr : mg "repr" = none
  z_set : mg "set" = none
  z_sorted : mg "sorted" = none
  z_sum : mg "sum" = none
  z_tuple : mg "tuple" = none
  z_zip : mg "zip" = none
  i_MOST_WALKERS : ∃ t, mg "MOST_WALKERS" = some (.int 5 t)
section
variable {P : Program} {w : World} {K : PySem.W.Frag} {mg : Str → Option Value} {base : Heap} {sa : Addr} {ns : List Int} {cl : Str → Option Addr} {f : Addr} {fd : FuncData}
theorem g_law_pot (F : FnP K "_law_pot" s_law_pot f fd) (T : Tx mg) : FnG P w K mg base (L2.CX P w) 1 f fd ["script", "place"] (spM ⟨K, sa, ns, cl⟩ wF 2 (m_law_pot ns)) :=
  fn_m F sc_law_pot fun cdv A out s H E hr hgd => (mss_cons (ms_set sc_law_pot.nd (md_if (mt_cmp co_lt (md_var 1) (md_callB (cb_len rfl) (by rfl) T.z_len (by decide +kernel) (ma_cons (md_var 0) ma_nil))) (md_ix rfl hr.units (md_var 0) (md_var 1)) (md_add rfl (md_add rfl (md_mod (md_callTy cb_int (by rfl) T.z_int (by decide +kernel) (ma_cons (md_callB (cb_sum rfl rfl) (by rfl) T.z_sum (by decide +kernel) (ma_cons (md_sl rfl (md_var 0) mo_none (mo_some md_int)) ma_nil)) ma_nil)) md_int) (md_mul md_int (md_var 1))) md_int))) (mss_cons (ms_set sc_law_pot.nd (md_mul (md_mod (md_callTy cb_int (by rfl) T.z_int (by decide +kernel) (ma_cons (md_callB cb_abs (by rfl) T.z_abs (by decide +kernel) (ma_cons (md_var 2) ma_nil)) ma_nil)) (md_pow (md_pow md_int md_int) md_int)) (md_callTy cb_int (by rfl) T.z_int (by decide +kernel) (ma_cons (md_cmp co_ge (md_callB cb_abs (by rfl) T.z_abs (by decide +kernel) (ma_cons (md_var 2) ma_nil)) (md_pow md_int md_int)) ma_nil)))) (mss_cons (ms_set sc_law_pot.nd (md_mod (md_callTy cb_int (by rfl) T.z_int (by decide +kernel) (ma_cons (md_var 2) ma_nil)) md_int)) (mss_one (ms_ret (md_lst (ma_cons (md_var 3) (ma_cons (md_mod (md_callTy cb_int (by rfl) T.z_int (by decide +kernel) (ma_cons (md_add rfl (md_add rfl (md_mul (md_var 4) md_int) (md_mul (md_mul md_int (md_var 1)) (md_var 1))) md_int) ma_nil)) md_int) (ma_cons md_int ma_nil)))))))))
theorem g_law_cells (F : FnP K "_law_cells" s_law_cells f fd) (T : Tx mg) : FnG P w K mg base (L2.CX P w) 1 f fd ["script", "limit"] (spM ⟨K, sa, ns, cl⟩ wF 2 (m_law_cells ns)) :=
  fn_m F sc_law_cells fun cdv A out s H E hr hgd => (mss_one (ms_ret (md_listRg rfl (by rfl) T.z_list (by rfl) T.z_range (md_callB (cb_max rfl) (by rfl) T.z_max (by decide +kernel) (ma_cons md_int (ma_cons (md_callB (cb_min rfl) (by rfl) T.z_min (by decide +kernel) (ma_cons (md_var 1) (ma_cons (md_callB (cb_len rfl) (by rfl) T.z_len (by decide +kernel) (ma_cons (md_var 0) ma_nil)) ma_nil))) ma_nil))))))
theorem g_is_integer (F : FnP K "is_integer" s_is_integer f fd) (T : Tx mg) : FnG P w K mg base (L2.CX P w) 1 f fd ["value"] (spM ⟨K, sa, ns, cl⟩ wF 1 (m_is_integer ns)) :=
  fn_m F sc_is_integer fun cdv A out s H E hr hgd => (mss_one (ms_ret (md_and rfl (md_isi rfl (by decide +kernel) (by rfl) T.z_isinstance (by decide +kernel) (md_var 0) (by rfl) T.z_int (by decide +kernel)) (md_one (md_not rfl (md_isi rfl (by decide +kernel) (by rfl) T.z_isinstance (by decide +kernel) (md_var 0) (by rfl) T.z_bool (by decide +kernel)))))))
theorem g_is_within (F : FnP K "is_within" s_is_within f fd) (T : Tx mg) (C_is_integer : Cal P w K mg base ⟨K, sa, ns, cl⟩ "is_integer" 1 1 (m_is_integer ns)) : FnG P w K mg base (L2.CX P w) 2 f fd ["value", "low", "high"] (spM ⟨K, sa, ns, cl⟩ wF 3 (m_is_within ns)) :=
  fn_m F sc_is_within fun cdv A out s H E hr hgd => (mss_one (ms_ret (md_and rfl (md_c C_is_integer hr (by decide) hgd (by rfl) (ma_cons (md_var 0) ma_nil)) (md_one (md_chain co_le co_le (md_var 1) (md_var 0) (md_var 2))))))
theorem g_check_many (F : FnP K "check_many" s_check_many f fd) (T : Tx mg) (C_is_within : Cal P w K mg base ⟨K, sa, ns, cl⟩ "is_within" 3 2 (m_is_within ns)) : FnG P w K mg base (L2.CX P w) 3 f fd ["value"] (spM ⟨K, sa, ns, cl⟩ wF 1 (m_check_many ns)) :=
  fn_m F sc_check_many fun cdv A out s H E hr hgd => (mss_one (ms_if (mt_not (mt_tru rfl (md_c C_is_within hr (by decide) hgd (by rfl) (ma_cons (md_var 0) (ma_cons md_int (ma_cons (md_gint T.i_MOST_WALKERS (by rfl)) ma_nil)))))) (mss_one ms_never) mss_nil))
theorem g_is_ascending (F : FnP K "is_ascending" s_is_ascending f fd) (T : Tx mg) : FnG P w K mg base (L2.CX P w) 1 f fd ["value"] (spM ⟨K, sa, ns, cl⟩ wF 1 (m_is_ascending ns)) :=
  fn_m F sc_is_ascending fun cdv A out s H E hr hgd => (mss_one (ms_ret (md_callB (cb_all rfl rfl) (by rfl) T.z_all (by decide +kernel) (ma_cons (md_lc rfl sc_is_ascending.nd (mi_zip rfl (by rfl) T.z_zip (md_var 0) (md_sl rfl (md_var 0) (mo_some md_int) mo_none)) (blkOk_by (N := ["value", "one", "other"]) (sc := defScope s_is_ascending) (own := [("one", 1), ("other", 2)]) (by decide +kernel)) (fun _ _ _ _ _ => (mg_tup rfl rfl (mg_cons (mg_name sc_is_ascending.nd) (mg_cons (mg_name sc_is_ascending.nd) mg_nil)))) (fun _ _ _ _ _ => mts_nil) (fun _ _ _ _ _ => (md_cmp co_ltX (md_var 1) (md_var 2)))) ma_nil))))
theorem g_is_lot (F : FnP K "is_lot" s_is_lot f fd) (T : Tx mg) (C_is_within : Cal P w K mg base ⟨K, sa, ns, cl⟩ "is_within" 3 2 (m_is_within ns)) (C_is_ascending : Cal P w K mg base ⟨K, sa, ns, cl⟩ "is_ascending" 1 1 (m_is_ascending ns)) : FnG P w K mg base (L2.CX P w) 3 f fd ["many", "value"] (spM ⟨K, sa, ns, cl⟩ wF 2 (m_is_lot ns)) :=
  fn_m F sc_is_lot fun cdv A out s H E hr hgd => (mss_cons (ms_if (PW.pt (mw_or (mt_not (mt_tru rfl (md_isi rfl (by decide +kernel) (by rfl) T.z_isinstance (by decide +kernel) (md_var 1) (by rfl) T.z_tuple (by decide +kernel)))) (mw_or1 (mt_cmp (co_eq rfl hr.units) (md_callB (cb_len rfl) (by rfl) T.z_len (by decide +kernel) (ma_cons (md_var 1) ma_nil)) md_int)))) (mss_one (ms_ret md_bl)) mss_nil) (mss_one (ms_ret (md_and rfl (md_callB (cb_all rfl rfl) (by rfl) T.z_all (by decide +kernel) (ma_cons (md_lc rfl sc_is_lot.nd (mi_seq rfl (md_var 1)) (blkOk_by (N := ["many", "value", "walker"]) (sc := defScope s_is_lot) (own := [("walker", 2)]) (by decide +kernel)) (fun _ _ _ _ _ => (mg_name sc_is_lot.nd)) (fun _ _ _ _ _ => mts_nil) (fun _ _ _ _ _ => (md_c C_is_within hr (by decide) hgd (by rfl) (ma_cons (md_var 2) (ma_cons md_int (ma_cons (md_sub (md_var 0) md_int) ma_nil)))))) ma_nil)) (md_one (md_c C_is_ascending hr (by decide) hgd (by rfl) (ma_cons (md_var 1) ma_nil)))))))
theorem g_are_lots (F : FnP K "are_lots" s_are_lots f fd) (T : Tx mg) (C_is_lot : Cal P w K mg base ⟨K, sa, ns, cl⟩ "is_lot" 2 3 (m_is_lot ns)) : FnG P w K mg base (L2.CX P w) 4 f fd ["many", "value"] (spM ⟨K, sa, ns, cl⟩ wF 2 (m_are_lots ns)) :=
  fn_m F sc_are_lots fun cdv A out s H E hr hgd => (mss_one (ms_ret (md_and rfl (md_isi rfl (by decide +kernel) (by rfl) T.z_isinstance (by decide +kernel) (md_var 1) (by rfl) T.z_tuple (by decide +kernel)) (md_one (md_callB (cb_all rfl rfl) (by rfl) T.z_all (by decide +kernel) (ma_cons (md_lc rfl sc_are_lots.nd (mi_seq rfl (md_var 1)) (blkOk_by (N := ["many", "value", "lot"]) (sc := defScope s_are_lots) (own := [("lot", 2)]) (by decide +kernel)) (fun _ _ _ _ _ => (mg_name sc_are_lots.nd)) (fun _ _ _ _ _ => mts_nil) (fun _ _ _ _ _ => (md_c C_is_lot hr (by decide) hgd (by rfl) (ma_cons (md_var 0) (ma_cons (md_var 2) ma_nil))))) ma_nil))))))
theorem g_cut_in_eras (F : FnP K "cut_in_eras" s_cut_in_eras f fd) (T : Tx mg) : FnG P w K mg base (L2.CX P w) 1 f fd ["many", "lots"] (spM ⟨K, sa, ns, cl⟩ wF 2 (m_cut_in_eras ns)) :=
  fn_m F sc_cut_in_eras fun cdv A out s H E hr hgd => (mss_cons (ms_set sc_cut_in_eras.nd (md_lst ma_nil)) (mss_cons (ms_set sc_cut_in_eras.nd (md_lst ma_nil)) (mss_cons (ms_for pass_own rfl (mi_seq rfl (md_var 1)) (mg_name sc_cut_in_eras.nd) (mss_cons (ms_if (mt_cmp (co_eq rfl hr.units) (md_callB (cb_len rfl) (by rfl) T.z_len (by decide +kernel) (ma_cons (md_var 3) ma_nil)) md_int) (mss_cons (ms_expr (md_append rfl (md_var 2) (ma_cons (md_lst ma_nil) ma_nil))) (mss_one (ms_set sc_cut_in_eras.nd (md_listRg rfl (by rfl) T.z_list (by rfl) T.z_range (md_var 0))))) mss_nil) (mss_cons (ms_if (mt_not (mt_tru rfl (md_callB (cb_all rfl rfl) (by rfl) T.z_all (by decide +kernel) (ma_cons (md_lc rfl sc_cut_in_eras.nd (mi_seq rfl (md_var 4)) (blkOk_by (N := ["many", "lots", "found", "missing", "lot", "walker", "era"]) (sc := defScope s_cut_in_eras) (own := [("walker", 5)]) (by decide +kernel)) (fun _ _ _ _ _ => (mg_name sc_cut_in_eras.nd)) (fun _ _ _ _ _ => mts_nil) (fun _ _ _ _ _ => (md_cmp (co_in rfl hr.units) (md_var 5) (md_var 3)))) ma_nil)))) (mss_one (ms_ret md_non)) mss_nil) (mss_cons (ms_expr (md_append rfl (md_ix rfl hr.units (md_var 2) (md_neg md_int)) (ma_cons (md_var 4) ma_nil))) (mss_one (ms_set sc_cut_in_eras.nd (md_lc rfl sc_cut_in_eras.nd (mi_seq rfl (md_var 3)) (blkOk_by (N := ["many", "lots", "found", "missing", "lot", "walker", "era"]) (sc := defScope s_cut_in_eras) (own := [("walker", 5)]) (by decide +kernel)) (fun _ _ _ _ _ => (mg_name sc_cut_in_eras.nd)) (fun _ _ _ _ _ => (mts_one (mt_cmp (co_notin rfl hr.units) (md_var 5) (md_var 4)))) (fun _ _ _ _ _ => (md_var 5))))))))) (mss_one (ms_ret (md_callTy (cb_tuple rfl) (by rfl) T.z_tuple (by decide +kernel) (ma_cons (md_lc rfl sc_cut_in_eras.nd (mi_seq rfl (md_var 2)) (blkOk_by (N := ["many", "lots", "found", "missing", "lot", "walker", "era"]) (sc := defScope s_cut_in_eras) (own := [("era", 6)]) (by decide +kernel)) (fun _ _ _ _ _ => (mg_name sc_cut_in_eras.nd)) (fun _ _ _ _ _ => mts_nil) (fun _ _ _ _ _ => (md_callTy (cb_tuple rfl) (by rfl) T.z_tuple (by decide +kernel) (ma_cons (md_var 6) ma_nil)))) ma_nil)))))))
theorem g_is_of_kind (F : FnP K "is_of_kind" s_is_of_kind f fd) (T : Tx mg) (C_are_lots : Cal P w K mg base ⟨K, sa, ns, cl⟩ "are_lots" 2 4 (m_are_lots ns)) (C_cut_in_eras : Cal P w K mg base ⟨K, sa, ns, cl⟩ "cut_in_eras" 2 1 (m_cut_in_eras ns)) : FnG P w K mg base (L2.CX P w) 5 f fd ["kind", "many", "value"] (spM ⟨K, sa, ns, cl⟩ wF 3 (m_is_of_kind ns)) :=
  fn_m F sc_is_of_kind fun cdv A out s H E hr hgd => (mss_cons (ms_if (mt_not (mt_tru rfl (md_c C_are_lots hr (by decide) hgd (by rfl) (ma_cons (md_var 1) (ma_cons (md_var 2) ma_nil))))) (mss_one (ms_ret md_bl)) mss_nil) (mss_cons (ms_if (mt_cmp (co_eq rfl hr.units) (md_var 0) md_str) (mss_one (ms_ret (md_callB (cb_all rfl rfl) (by rfl) T.z_all (by decide +kernel) (ma_cons (md_lc rfl sc_is_of_kind.nd (mi_seq rfl (md_var 2)) (blkOk_by (N := ["kind", "many", "value", "lot"]) (sc := defScope s_is_of_kind) (own := [("lot", 3)]) (by decide +kernel)) (fun _ _ _ _ _ => (mg_name sc_is_of_kind.nd)) (fun _ _ _ _ _ => mts_nil) (fun _ _ _ _ _ => (md_cmp (co_eq rfl hr.units) (md_callB (cb_len rfl) (by rfl) T.z_len (by decide +kernel) (ma_cons (md_var 3) ma_nil)) (md_var 1)))) ma_nil)))) mss_nil) (mss_cons (ms_if (mt_cmp (co_eq rfl hr.units) (md_var 0) md_str) (mss_one (ms_ret (md_callB (cb_all rfl rfl) (by rfl) T.z_all (by decide +kernel) (ma_cons (md_lc rfl sc_is_of_kind.nd (mi_seq rfl (md_var 2)) (blkOk_by (N := ["kind", "many", "value", "lot"]) (sc := defScope s_is_of_kind) (own := [("lot", 3)]) (by decide +kernel)) (fun _ _ _ _ _ => (mg_name sc_is_of_kind.nd)) (fun _ _ _ _ _ => mts_nil) (fun _ _ _ _ _ => (md_cmp (co_eq rfl hr.units) (md_callB (cb_len rfl) (by rfl) T.z_len (by decide +kernel) (ma_cons (md_var 3) ma_nil)) md_int))) ma_nil)))) mss_nil) (mss_one (ms_ret (md_or rfl (md_cmp (co_eq rfl hr.units) (md_var 0) md_str) (md_one (md_cmp co_isnot (md_c C_cut_in_eras hr (by decide) hgd (by rfl) (ma_cons (md_var 1) (ma_cons (md_var 2) ma_nil))) md_non))))))))
theorem g_check_lots (F : FnP K "check_lots" s_check_lots f fd) (T : Tx mg) (C_is_of_kind : Cal P w K mg base ⟨K, sa, ns, cl⟩ "is_of_kind" 3 5 (m_is_of_kind ns)) : FnG P w K mg base (L2.CX P w) 6 f fd ["kind", "many", "value"] (spM ⟨K, sa, ns, cl⟩ wF 3 (m_check_lots ns)) :=
  fn_m F sc_check_lots fun cdv A out s H E hr hgd => (mss_one (ms_if (mt_not (mt_tru rfl (md_c C_is_of_kind hr (by decide) hgd (by rfl) (ma_cons (md_var 0) (ma_cons (md_var 1) (ma_cons (md_var 2) ma_nil)))))) (mss_one ms_never) mss_nil))
theorem g_numbers_left (F : FnP K "numbers_left" s_numbers_left f fd) (T : Tx mg) (C_is_integer : Cal P w K mg base ⟨K, sa, ns, cl⟩ "is_integer" 1 1 (m_is_integer ns)) : FnG P w K mg base (L2.CX P w) 2 f fd ["many", "sizes"] (spM ⟨K, sa, ns, cl⟩ wF 2 (m_numbers_left ns)) :=
  fn_m F sc_numbers_left fun cdv A out s H E hr hgd => (mss_cons (ms_set sc_numbers_left.nd (md_lst ma_nil)) (mss_cons (ms_set sc_numbers_left.nd (md_var 0)) (mss_cons (ms_for pass_own rfl (mi_seq rfl (md_var 1)) (mg_name sc_numbers_left.nd) (mss_cons (ms_if (PW.pt (mw_or (mt_not (mt_tru rfl (md_c C_is_integer hr (by decide) hgd (by rfl) (ma_cons (md_var 4) ma_nil)))) (mw_or1 (mt_not (mt_chain co_le co_le md_int (md_var 4) (md_var 3)))))) (mss_one (ms_ret md_non)) mss_nil) (mss_cons (ms_expr (md_append rfl (md_var 2) (ma_cons (md_var 3) ma_nil))) (mss_one (ms_set sc_numbers_left.nd (md_if (mt_cmp (co_eq rfl hr.units) (md_var 4) (md_var 3)) (md_var 0) (md_sub (md_var 3) (md_var 4)))))))) (mss_one (ms_ret (md_var 2))))))
theorem g_deeds_for_sizes (F : FnP K "deeds_for_sizes" s_deeds_for_sizes f fd) (T : Tx mg) (C_numbers_left : Cal P w K mg base ⟨K, sa, ns, cl⟩ "numbers_left" 2 2 (m_numbers_left ns)) : FnG P w K mg base (L2.CX P w) 3 f fd ["many", "sizes"] (spM ⟨K, sa, ns, cl⟩ wF 2 (m_deeds_for_sizes ns)) :=
  fn_m F sc_deeds_for_sizes fun cdv A out s H E hr hgd => (mss_cons (ms_if (mt_cmp (co_eq rfl hr.units) (md_callB (cb_len rfl) (by rfl) T.z_len (by decide +kernel) (ma_cons (md_var 1) ma_nil)) md_int) (mss_one (ms_ret md_int)) mss_nil) (mss_cons (ms_set sc_deeds_for_sizes.nd (md_c C_numbers_left hr (by decide) hgd (by rfl) (ma_cons (md_var 0) (ma_cons (md_var 1) ma_nil)))) (mss_cons (ms_set sc_deeds_for_sizes.nd (md_add rfl (md_add rfl (md_callB (cb_sumX rfl rfl) (by rfl) T.z_sum (by decide +kernel) (ma_cons (md_var 1) ma_nil)) (md_mul md_int (md_callB (cb_sumX rfl rfl) (by rfl) T.z_sum (by decide +kernel) (ma_cons (md_var 2) ma_nil)))) (md_callB (cb_sumX rfl rfl) (by rfl) T.z_sum (by decide +kernel) (ma_cons (md_sl rfl (md_var 2) mo_none (mo_some (md_neg md_int))) ma_nil)))) (mss_cons (ms_setLc rfl sc_deeds_for_sizes.nd (mi_zip rfl (by rfl) T.z_zip (md_sl rfl (md_var 1) mo_none (mo_some (md_neg md_int))) (md_var 2)) (blkOk_by (N := ["many", "sizes", "ahead", "changes", "ended", "size", "remaining"]) (sc := defScope s_deeds_for_sizes) (own := [("size", 5), ("remaining", 6)]) (by decide +kernel)) (fun _ _ _ _ _ => (mg_tup rfl rfl (mg_cons (mg_name sc_deeds_for_sizes.nd) (mg_cons (mg_name sc_deeds_for_sizes.nd) mg_nil)))) (fun _ _ _ _ _ => (mts_one (mt_cmp (co_eq rfl hr.units) (md_var 5) (md_var 6)))) (fun _ _ _ _ _ => (md_var 5)) (sw_true rfl rfl rfl (by decide +kernel))) (mss_cons (ms_set sc_deeds_for_sizes.nd (md_add rfl (md_var 3) (md_mul (md_mul md_int (md_var 0)) (md_callB (cb_len rfl) (by rfl) T.z_len (by decide +kernel) (ma_cons (md_var 4) ma_nil))))) (mss_one (ms_ret (md_sub (md_mul md_int (md_var 3)) (md_sub (md_var 0) (md_ix rfl hr.units (md_var 1) (md_neg md_int)))))))))))
theorem g_least_deeds (F : FnP K "least_deeds" s_least_deeds f fd) (T : Tx mg) (C_check_many : Cal P w K mg base ⟨K, sa, ns, cl⟩ "check_many" 1 3 (m_check_many ns)) (C_check_lots : Cal P w K mg base ⟨K, sa, ns, cl⟩ "check_lots" 3 6 (m_check_lots ns)) (C_deeds_for_sizes : Cal P w K mg base ⟨K, sa, ns, cl⟩ "deeds_for_sizes" 2 3 (m_deeds_for_sizes ns)) : FnG P w K mg base (L2.CX P w) 7 f fd ["many", "lots"] (spM ⟨K, sa, ns, cl⟩ wF 2 (m_least_deeds ns)) :=
  fn_m F sc_least_deeds fun cdv A out s H E hr hgd => (mss_cons (ms_expr (md_c C_check_many hr (by decide) hgd (by rfl) (ma_cons (md_var 0) ma_nil))) (mss_cons (ms_expr (md_c C_check_lots hr (by decide) hgd (by rfl) (ma_cons md_str (ma_cons (md_var 0) (ma_cons (md_var 1) ma_nil))))) (mss_one (ms_ret (md_c C_deeds_for_sizes hr (by decide) hgd (by rfl) (ma_cons (md_var 0) (ma_cons (md_lc rfl sc_least_deeds.nd (mi_seq rfl (md_var 1)) (blkOk_by (N := ["many", "lots", "lot"]) (sc := defScope s_least_deeds) (own := [("lot", 2)]) (by decide +kernel)) (fun _ _ _ _ _ => (mg_name sc_least_deeds.nd)) (fun _ _ _ _ _ => mts_nil) (fun _ _ _ _ _ => (md_callB (cb_len rfl) (by rfl) T.z_len (by decide +kernel) (ma_cons (md_var 2) ma_nil)))) ma_nil)))))))
theorem g_deeds_of (F : FnP K "deeds_of" s_deeds_of f fd) (T : Tx mg) (C_is_integer : Cal P w K mg base ⟨K, sa, ns, cl⟩ "is_integer" 1 1 (m_is_integer ns)) (C_numbers_left : Cal P w K mg base ⟨K, sa, ns, cl⟩ "numbers_left" 2 2 (m_numbers_left ns)) (C_deeds_for_sizes : Cal P w K mg base ⟨K, sa, ns, cl⟩ "deeds_for_sizes" 2 3 (m_deeds_for_sizes ns)) : FnG P w K mg base (L2.CX P w) 4 f fd ["many", "sizes"] (spM ⟨K, sa, ns, cl⟩ wF 2 (m_deeds_of ns)) :=
  fn_m F sc_deeds_of fun cdv A out s H E hr hgd => (mss_cons (ms_if (PW.pt (mw_or (mt_not (mt_tru rfl (md_c C_is_integer hr (by decide) hgd (by rfl) (ma_cons (md_var 0) ma_nil)))) (mw_or1 (mt_cmp co_ltX (md_var 0) md_int)))) (mss_one ms_never) mss_nil) (mss_cons (ms_if (PW.pt (mw_or (mt_not (mt_tru rfl (md_isi rfl (by decide +kernel) (by rfl) T.z_isinstance (by decide +kernel) (md_var 1) (by rfl) T.z_tuple (by decide +kernel)))) (mw_or1 (mt_cmp co_is (md_c C_numbers_left hr (by decide) hgd (by rfl) (ma_cons (md_var 0) (ma_cons (md_var 1) ma_nil))) md_non)))) (mss_one ms_never) mss_nil) (mss_one (ms_ret (md_c C_deeds_for_sizes hr (by decide) hgd (by rfl) (ma_cons (md_var 0) (ma_cons (md_var 1) ma_nil)))))))
theorem g_law_take (F : FnP K "_law_take" s_law_take f fd) (T : Tx mg) : FnG P w K mg base (L2.CX P w) 1 f fd ["pot", "upto"] (spM ⟨K, sa, ns, cl⟩ wF 2 (m_law_take ns)) :=
  fn_m F sc_law_take fun cdv A out s H E hr hgd => (mss_cons (ms_if (mt_cmp co_gt (md_ix rfl hr.units (md_var 0) md_int) md_int) (mss_cons (ms_set sc_law_take.nd (md_mod (md_callTy cb_int (by rfl) T.z_int (by decide +kernel) (ma_cons (md_ix rfl hr.units (md_var 0) md_int) ma_nil)) (md_var 1))) (mss_cons (ms_sub hr.units (md_fdiv (md_ix rfl hr.units (md_var 0) md_int) (md_var 1)) (md_var 0) md_int) (mss_one (ms_ret (md_var 4))))) mss_nil) (mss_cons (ms_sub hr.units (md_add rfl (md_ix rfl hr.units (md_var 0) md_int) md_int) (md_var 0) md_int) (mss_cons (ms_set sc_law_take.nd (md_ix rfl hr.units (md_lst (ma_cons md_int (ma_cons md_int (ma_cons md_int (ma_cons md_int (ma_cons md_int ma_nil)))))) (md_mod (md_callTy cb_int (by rfl) T.z_int (by decide +kernel) (ma_cons (md_ix rfl hr.units (md_var 0) md_int) ma_nil)) md_int))) (mss_cons (ms_set sc_law_take.nd (md_mod (md_callTy cb_int (by rfl) T.z_int (by decide +kernel) (ma_cons (md_pow (md_callTy cb_int (by rfl) T.z_int (by decide +kernel) (ma_cons (md_add rfl (md_add rfl (md_ix rfl hr.units (md_var 0) md_int) (md_mul (md_mul md_int (md_ix rfl hr.units (md_var 0) md_int)) (md_ix rfl hr.units (md_var 0) md_int))) md_int) ma_nil)) md_int) ma_nil)) (md_var 2))) (mss_one (ms_ret (md_mod (md_callTy cb_int (by rfl) T.z_int (by decide +kernel) (ma_cons (md_fdiv (md_mul (md_var 3) (md_add rfl (md_mod (md_callTy cb_int (by rfl) T.z_int (by decide +kernel) (ma_cons (md_var 3) ma_nil)) md_int) (md_mul md_int (md_ix rfl hr.units (md_var 0) md_int)))) md_int) ma_nil)) (md_var 1))))))))
theorem g_law_of (F : FnP K "_law_of" s_law_of f fd) (T : Tx mg) (C_law_take : Cal P w K mg base ⟨K, sa, ns, cl⟩ "_law_take" 2 1 (m_law_take ns)) : FnG P w K mg base (L2.CX P w) 2 f fd ["pot", "some"] (spM ⟨K, sa, ns, cl⟩ wF 2 (m_law_of ns)) :=
  fn_m F sc_law_of fun cdv A out s H E hr hgd => (mss_one (ms_ret (md_ix rfl hr.units (md_var 1) (md_c C_law_take hr (by decide) hgd (by rfl) (ma_cons (md_var 0) (ma_cons (md_callB (cb_len rfl) (by rfl) T.z_len (by decide +kernel) (ma_cons (md_var 1) ma_nil)) ma_nil))))))
theorem g_law_some (F : FnP K "_law_some" s_law_some f fd) (T : Tx mg) (C_law_take : Cal P w K mg base ⟨K, sa, ns, cl⟩ "_law_take" 2 1 (m_law_take ns)) : FnG P w K mg base (L2.CX P w) 2 f fd ["pot", "pool", "many"] (spM ⟨K, sa, ns, cl⟩ wF 3 (m_law_some ns)) :=
  fn_m F sc_law_some fun cdv A out s H E hr hgd => (mss_cons (ms_par rfl sc_law_some.nd (by decide) (ma_cons (md_callTy (cb_list rfl) (by rfl) T.z_list (by decide +kernel) (ma_cons (md_var 1) ma_nil)) (ma_cons (md_lst ma_nil) ma_nil))) (mss_cons (ms_for pass_own rfl (mi_rng1 (by rfl) T.z_range (md_var 2)) (mg_name sc_law_some.nd) (mss_one (ms_expr (md_append rfl (md_var 4) (ma_cons (md_popAt rfl (md_var 3) (ma_cons (md_c C_law_take hr (by decide) hgd (by rfl) (ma_cons (md_var 0) (ma_cons (md_callB (cb_len rfl) (by rfl) T.z_len (by decide +kernel) (ma_cons (md_var 3) ma_nil)) ma_nil))) ma_nil)) ma_nil))))) (mss_one (ms_ret (md_var 4)))))
theorem g_law_left (F : FnP K "_law_left" s_law_left f fd) (T : Tx mg) : FnG P w K mg base (L2.CX P w) 1 f fd ["many", "still", "lot"] (spM ⟨K, sa, ns, cl⟩ wF 3 (m_law_left ns)) :=
  fn_m F sc_law_left fun cdv A out s H E hr hgd => (mss_cons (ms_set sc_law_left.nd (md_callTy (cb_tuple rfl) (by rfl) T.z_tuple (by decide +kernel) (ma_cons (md_lc rfl sc_law_left.nd (mi_seq rfl (md_var 1)) (blkOk_by (N := ["many", "still", "lot", "rest", "one"]) (sc := defScope s_law_left) (own := [("one", 4)]) (by decide +kernel)) (fun _ _ _ _ _ => (mg_name sc_law_left.nd)) (fun _ _ _ _ _ => (mts_one (mt_cmp (co_notin rfl hr.units) (md_var 4) (md_var 2)))) (fun _ _ _ _ _ => (md_var 4))) ma_nil))) (mss_one (ms_ret (md_if (mt_cmp (co_ne rfl hr.units) (md_var 3) (md_tup ma_nil)) (md_var 3) (md_tupRg rfl (by rfl) T.z_tuple (by rfl) T.z_range (md_var 0))))))
theorem g_law_drawn_eras (F : FnP K "_law_drawn_eras" s_law_drawn_eras f fd) (T : Tx mg) (C_law_take : Cal P w K mg base ⟨K, sa, ns, cl⟩ "_law_take" 2 1 (m_law_take ns)) (C_law_some : Cal P w K mg base ⟨K, sa, ns, cl⟩ "_law_some" 3 2 (m_law_some ns)) (C_law_left : Cal P w K mg base ⟨K, sa, ns, cl⟩ "_law_left" 3 1 (m_law_left ns)) : FnG P w K mg base (L2.CX P w) 3 f fd ["pot", "many", "lots"] (spM ⟨K, sa, ns, cl⟩ wF 3 (m_law_drawn_eras ns)) :=
  fn_m F sc_law_drawn_eras fun cdv A out s H E hr hgd => (mss_cons (ms_par rfl sc_law_drawn_eras.nd (by decide) (ma_cons (md_lst ma_nil) (ma_cons (md_tupRg rfl (by rfl) T.z_tuple (by rfl) T.z_range (md_var 1)) ma_nil))) (mss_cons (ms_for pass_own rfl (mi_rng1 (by rfl) T.z_range (md_var 2)) (mg_name sc_law_drawn_eras.nd) (mss_cons (ms_set sc_law_drawn_eras.nd (md_callTy (cb_tuple rfl) (by rfl) T.z_tuple (by decide +kernel) (ma_cons (md_callB (cb_sortX rfl) (by rfl) T.z_sorted (by decide +kernel) (ma_cons (md_c C_law_some hr (by decide) hgd (by rfl) (ma_cons (md_var 0) (ma_cons (md_callTy (cb_list rfl) (by rfl) T.z_list (by decide +kernel) (ma_cons (md_var 4) ma_nil)) (ma_cons (md_add rfl md_int (md_c C_law_take hr (by decide) hgd (by rfl) (ma_cons (md_var 0) (ma_cons (md_callB (cb_len rfl) (by rfl) T.z_len (by decide +kernel) (ma_cons (md_var 4) ma_nil)) ma_nil)))) ma_nil)))) ma_nil)) ma_nil))) (mss_cons (ms_expr (md_append rfl (md_var 3) (ma_cons (md_var 6) ma_nil))) (mss_one (ms_set sc_law_drawn_eras.nd (md_c C_law_left hr (by decide) hgd (by rfl) (ma_cons (md_var 1) (ma_cons (md_var 4) (ma_cons (md_var 6) ma_nil))))))))) (mss_one (ms_ret (md_callTy (cb_tuple rfl) (by rfl) T.z_tuple (by decide +kernel) (ma_cons (md_var 3) ma_nil))))))
theorem g_law_number (F : FnP K "_law_number" s_law_number f fd) (T : Tx mg) : FnG P w K mg base (L2.CX P w) 1 f fd ["many", "sizes"] (spM ⟨K, sa, ns, cl⟩ wF 2 (m_law_number ns)) :=
  fn_m F sc_law_number fun cdv A out s H E hr hgd => (mss_cons (ms_par rfl sc_law_number.nd (by decide) (ma_cons md_int (ma_cons (md_var 0) ma_nil))) (mss_cons (ms_for pass_own rfl (mi_enu rfl (by rfl) T.z_enumerate (md_var 1)) (mg_tup rfl rfl (mg_cons (mg_name sc_law_number.nd) (mg_cons (mg_name sc_law_number.nd) mg_nil))) (mss_cons (ms_set sc_law_number.nd (md_add rfl (md_add rfl (md_var 2) (md_var 5)) (md_mul md_int (md_var 3)))) (mss_cons (ms_if (mt_cmp co_ltX (md_var 4) (md_sub (md_callB (cb_len rfl) (by rfl) T.z_len (by decide +kernel) (ma_cons (md_var 1) ma_nil)) md_int)) (mss_cons (ms_set sc_law_number.nd (md_add rfl (md_var 2) (md_var 3))) (mss_one (ms_if (mt_cmp (co_eq rfl hr.units) (md_var 3) (md_var 5)) (mss_one (ms_set sc_law_number.nd (md_add rfl (md_var 2) (md_mul md_int (md_var 0))))) mss_nil))) mss_nil) (mss_one (ms_set sc_law_number.nd (md_if (mt_cmp (co_eq rfl hr.units) (md_var 3) (md_var 5)) (md_var 0) (md_sub (md_var 3) (md_var 5)))))))) (mss_one (ms_ret (md_if (mt_cmp (co_eq rfl hr.units) (md_callB (cb_len rfl) (by rfl) T.z_len (by decide +kernel) (ma_cons (md_var 1) ma_nil)) md_int) md_int (md_sub (md_mul md_int (md_var 2)) (md_sub (md_var 0) (md_ix rfl hr.units (md_var 1) (md_neg md_int)))))))))
theorem g_law_great_sizes (F : FnP K "_law_great_sizes" s_law_great_sizes f fd) (T : Tx mg) (C_law_take : Cal P w K mg base ⟨K, sa, ns, cl⟩ "_law_take" 2 1 (m_law_take ns)) (C_law_of : Cal P w K mg base ⟨K, sa, ns, cl⟩ "_law_of" 2 2 (m_law_of ns)) : FnG P w K mg base (L2.CX P w) 3 f fd ["pot", "many"] (spM ⟨K, sa, ns, cl⟩ wF 2 (m_law_great_sizes ns)) :=
  fn_m F sc_law_great_sizes fun cdv A out s H E hr hgd => (mss_cons (ms_par rfl sc_law_great_sizes.nd (by decide) (ma_cons (md_lst ma_nil) (ma_cons (md_var 1) ma_nil))) (mss_cons (ms_for pass_own rfl (mi_rng1 (by rfl) T.z_range (md_c C_law_take hr (by decide) hgd (by rfl) (ma_cons (md_var 0) (ma_cons md_int ma_nil)))) (mg_name sc_law_great_sizes.nd) (mss_cons (ms_set sc_law_great_sizes.nd (md_c C_law_of hr (by decide) hgd (by rfl) (ma_cons (md_var 0) (ma_cons (md_lst (ma_cons md_int (ma_cons (md_var 3) (ma_cons (md_add rfl md_int (md_fdiv (md_var 3) md_int)) (ma_cons (md_callB (cb_max rfl) (by rfl) T.z_max (by decide +kernel) (ma_cons md_int (ma_cons (md_sub (md_var 3) md_int) ma_nil))) (ma_cons (md_callB (cb_max rfl) (by rfl) T.z_max (by decide +kernel) (ma_cons md_int (ma_cons (md_fdiv (md_var 3) md_int) ma_nil))) ma_nil)))))) ma_nil)))) (mss_cons (ms_set sc_law_great_sizes.nd (md_callB (cb_min rfl) (by rfl) T.z_min (by decide +kernel) (ma_cons (md_var 5) (ma_cons (md_var 3) ma_nil)))) (mss_cons (ms_expr (md_append rfl (md_var 2) (ma_cons (md_var 5) ma_nil))) (mss_one (ms_set sc_law_great_sizes.nd (md_if (mt_cmp (co_eq rfl hr.units) (md_var 3) (md_var 5)) (md_var 1) (md_sub (md_var 3) (md_var 5))))))))) (mss_one (ms_ret (md_callTy (cb_tuple rfl) (by rfl) T.z_tuple (by decide +kernel) (ma_cons (md_var 2) ma_nil))))))
theorem g_law_right (F : FnP K "_law_right" s_law_right f fd) (T : Tx mg) (C_least_deeds : Cal P w K mg base ⟨K, sa, ns, cl⟩ "least_deeds" 2 7 (m_least_deeds ns)) (C_deeds_of : Cal P w K mg base ⟨K, sa, ns, cl⟩ "deeds_of" 2 4 (m_deeds_of ns)) (C_law_take : Cal P w K mg base ⟨K, sa, ns, cl⟩ "_law_take" 2 1 (m_law_take ns)) (C_law_of : Cal P w K mg base ⟨K, sa, ns, cl⟩ "_law_of" 2 2 (m_law_of ns)) (C_law_some : Cal P w K mg base ⟨K, sa, ns, cl⟩ "_law_some" 3 2 (m_law_some ns)) (C_law_drawn_eras : Cal P w K mg base ⟨K, sa, ns, cl⟩ "_law_drawn_eras" 3 3 (m_law_drawn_eras ns)) (C_law_number : Cal P w K mg base ⟨K, sa, ns, cl⟩ "_law_number" 2 1 (m_law_number ns)) (C_law_great_sizes : Cal P w K mg base ⟨K, sa, ns, cl⟩ "_law_great_sizes" 2 3 (m_law_great_sizes ns)) (K_deeds_of_many_sizes : CalK P w K mg base ⟨K, sa, ns, cl⟩ "deeds_of" 2 4 (m_deeds_of ns) ["many", "sizes"] [0, 1]) (K_least_deeds_many_lots : CalK P w K mg base ⟨K, sa, ns, cl⟩ "least_deeds" 2 7 (m_least_deeds ns) ["many", "lots"] [0, 1]) : FnG P w K mg base (L2.CX P w) 8 f fd ["pot"] (spM ⟨K, sa, ns, cl⟩ wF 1 (m_law_right ns)) :=
  fn_m F sc_law_right fun cdv A out s H E hr hgd => (mss_cons (ms_set sc_law_right.nd (md_add rfl md_int (md_c C_law_take hr (by decide) hgd (by rfl) (ma_cons (md_var 0) (ma_cons md_int ma_nil))))) (mss_cons (ms_set sc_law_right.nd (md_c C_law_drawn_eras hr (by decide) hgd (by rfl) (ma_cons (md_var 0) (ma_cons (md_var 1) (ma_cons (md_c C_law_take hr (by decide) hgd (by rfl) (ma_cons (md_var 0) (ma_cons md_int ma_nil))) ma_nil))))) (mss_cons (ms_set sc_law_right.nd (md_callTy (cb_tuple rfl) (by rfl) T.z_tuple (by decide +kernel) (ma_cons (md_lc rfl sc_law_right.nd (mi_seq rfl (md_var 2)) (blkOk_by (N := ["pot", "walkers", "lots", "sizes", "due", "names", "other", "many", "great", "told", "laps", "lot", "one", "at"]) (sc := defScope s_law_right) (own := [("lot", 11)]) (by decide +kernel)) (fun _ _ _ _ _ => (mg_name sc_law_right.nd)) (fun _ _ _ _ _ => mts_nil) (fun _ _ _ _ _ => (md_callB (cb_len rfl) (by rfl) T.z_len (by decide +kernel) (ma_cons (md_var 11) ma_nil)))) ma_nil))) (mss_cons (ms_set sc_law_right.nd (md_c C_law_number hr (by decide) hgd (by rfl) (ma_cons (md_var 1) (ma_cons (md_var 3) ma_nil)))) (mss_cons (ms_if (PW.pt (mw_or (mt_cmp (co_ne rfl hr.units) (md_callB (cb_repr rfl hgd hr.units) (by rfl) T.z_repr (by decide +kernel) (ma_cons (md_ck K_least_deeds_many_lots hr (by decide) hgd (by rfl) (mk_cons (md_var 1) (mk_cons (md_var 2) mk_nil)) (by intro zs h; match zs, h with | [_, _], _ => rfl)) ma_nil)) (md_callB (cb_repr rfl hgd hr.units) (by rfl) T.z_repr (by decide +kernel) (ma_cons (md_var 4) ma_nil))) (mw_or1 (mt_cmp (co_ne rfl hr.units) (md_callB (cb_repr rfl hgd hr.units) (by rfl) T.z_repr (by decide +kernel) (ma_cons (md_ck K_deeds_of_many_sizes hr (by decide) hgd (by rfl) (mk_cons (md_var 1) (mk_cons (md_var 3) mk_nil)) (by intro zs h; match zs, h with | [_, _], _ => rfl)) ma_nil)) (md_callB (cb_repr rfl hgd hr.units) (by rfl) T.z_repr (by decide +kernel) (ma_cons (md_var 4) ma_nil)))))) (mss_one (ms_ret md_bl)) mss_nil) (mss_cons (ms_set sc_law_right.nd (md_c C_law_some hr (by decide) hgd (by rfl) (ma_cons (md_var 0) (ma_cons (md_listRg rfl (by rfl) T.z_list (by rfl) T.z_range (md_var 1)) (ma_cons (md_var 1) ma_nil))))) (mss_cons (ms_set sc_law_right.nd (md_callTy (cb_tuple rfl) (by rfl) T.z_tuple (by decide +kernel) (ma_cons (md_lc rfl sc_law_right.nd (mi_seq rfl (md_var 2)) (blkOk_by (N := ["pot", "walkers", "lots", "sizes", "due", "names", "other", "many", "great", "told", "laps", "lot", "one", "at"]) (sc := defScope s_law_right) (own := [("lot", 11)]) (by decide +kernel)) (fun _ _ _ _ _ => (mg_name sc_law_right.nd)) (fun _ _ _ _ _ => mts_nil) (fun _ _ _ _ _ => (md_callTy (cb_tuple rfl) (by rfl) T.z_tuple (by decide +kernel) (ma_cons (md_callB (cb_sortX rfl) (by rfl) T.z_sorted (by decide +kernel) (ma_cons (md_lc rfl sc_law_right.nd (mi_seq rfl (md_var 11)) (blkOk_by (N := ["pot", "walkers", "lots", "sizes", "due", "names", "other", "many", "great", "told", "laps", "lot", "one", "at"]) (own := [("one", 12)]) (by rfl)) (fun _ _ _ _ _ => (mg_name sc_law_right.nd)) (fun _ _ _ _ _ => mts_nil) (fun _ _ _ _ _ => (md_ix rfl hr.units (md_var 5) (md_var 12)))) ma_nil)) ma_nil)))) ma_nil))) (mss_cons (ms_if (mt_cmp (co_ne rfl hr.units) (md_callB (cb_repr rfl hgd hr.units) (by rfl) T.z_repr (by decide +kernel) (ma_cons (md_c C_least_deeds hr (by decide) hgd (by rfl) (ma_cons (md_var 1) (ma_cons (md_var 6) ma_nil))) ma_nil)) (md_callB (cb_repr rfl hgd hr.units) (by rfl) T.z_repr (by decide +kernel) (ma_cons (md_var 4) ma_nil))) (mss_one (ms_ret md_bl)) mss_nil) (mss_cons (ms_set sc_law_right.nd (md_c C_law_of hr (by decide) hgd (by rfl) (ma_cons (md_var 0) (ma_cons (md_lst (ma_cons md_int (ma_cons md_int (ma_cons md_int (ma_cons md_int (ma_cons (md_add rfl (md_pow md_int md_int) md_int) (ma_cons (md_pow md_int md_int) ma_nil))))))) ma_nil)))) (mss_cons (ms_set sc_law_right.nd (md_c C_law_great_sizes hr (by decide) hgd (by rfl) (ma_cons (md_var 0) (ma_cons (md_var 7) ma_nil)))) (mss_cons (ms_if (mt_cmp (co_ne rfl hr.units) (md_callB (cb_repr rfl hgd hr.units) (by rfl) T.z_repr (by decide +kernel) (ma_cons (md_c C_deeds_of hr (by decide) hgd (by rfl) (ma_cons (md_var 7) (ma_cons (md_var 8) ma_nil))) ma_nil)) (md_callB (cb_repr rfl hgd hr.units) (by rfl) T.z_repr (by decide +kernel) (ma_cons (md_c C_law_number hr (by decide) hgd (by rfl) (ma_cons (md_var 7) (ma_cons (md_var 8) ma_nil))) ma_nil))) (mss_one (ms_ret md_bl)) mss_nil) (mss_cons (ms_set sc_law_right.nd (md_lc rfl sc_law_right.nd (mi_rng2 (by rfl) T.z_range md_int md_int) (blkOk_by (N := ["pot", "walkers", "lots", "sizes", "due", "names", "other", "many", "great", "told", "laps", "lot", "one", "at"]) (sc := defScope s_law_right) (own := [("laps", 10)]) (by decide +kernel)) (fun _ _ _ _ _ => (mg_name sc_law_right.nd)) (fun _ _ _ _ _ => mts_nil) (fun _ _ _ _ _ => (md_c C_deeds_of hr (by decide) hgd (by rfl) (ma_cons (md_var 7) (ma_cons (md_rep rfl (md_tup (ma_cons (md_var 7) ma_nil)) (md_var 10)) ma_nil)))))) (mss_one (ms_ret (md_and rfl (md_cmp (co_eq rfl hr.units) (md_lenSet rfl rfl (by rfl) T.z_len (by rfl) T.z_set (md_lc rfl sc_law_right.nd (mi_rng1 (by rfl) T.z_range md_int) (blkOk_by (N := ["pot", "walkers", "lots", "sizes", "due", "names", "other", "many", "great", "told", "laps", "lot", "one", "at"]) (sc := defScope s_law_right) (own := [("at", 13)]) (by decide +kernel)) (fun _ _ _ _ _ => (mg_name sc_law_right.nd)) (fun _ _ _ _ _ => mts_nil) (fun _ _ _ _ _ => (md_sub (md_ix rfl hr.units (md_var 9) (md_add rfl (md_var 13) md_int)) (md_ix rfl hr.units (md_var 9) (md_var 13)))))) md_int) (md_one (md_cmp (co_eq rfl hr.units) (md_callB (cb_repr rfl hgd hr.units) (by rfl) T.z_repr (by decide +kernel) (ma_cons (md_c C_deeds_of hr (by decide) hgd (by rfl) (ma_cons (md_var 7) (ma_cons (md_tup ma_nil) ma_nil))) ma_nil)) md_str)))))))))))))))))
theorem g_law (F : FnP K "law" s_law f fd) (T : Tx mg) (C_law_pot : Cal P w K mg base ⟨K, sa, ns, cl⟩ "_law_pot" 2 1 (m_law_pot ns)) (C_law_cells : Cal P w K mg base ⟨K, sa, ns, cl⟩ "_law_cells" 2 1 (m_law_cells ns)) (C_law_right : Cal P w K mg base ⟨K, sa, ns, cl⟩ "_law_right" 1 8 (m_law_right ns)) : FnG P w K mg base (L2.CX P w) 9 f fd ["script"] (spM ⟨K, sa, ns, cl⟩ wF 1 (m_law ns)) :=
  fn_m F sc_law fun cdv A out s H E hr hgd => (mss_one (ms_ret (md_callB (cb_all rfl rfl) (by rfl) T.z_all (by decide +kernel) (ma_cons (md_lc rfl sc_law.nd (mi_seq rfl (md_c C_law_cells hr (by decide) hgd (by rfl) (ma_cons (md_var 0) (ma_cons md_int ma_nil)))) (blkOk_by (N := ["script", "place"]) (sc := defScope s_law) (own := [("place", 1)]) (by decide +kernel)) (fun _ _ _ _ _ => (mg_name sc_law.nd)) (fun _ _ _ _ _ => mts_nil) (fun _ _ _ _ _ => (md_c C_law_right hr (by decide) hgd (by rfl) (ma_cons (md_c C_law_pot hr (by decide) hgd (by rfl) (ma_cons (md_var 0) (ma_cons (md_var 1) ma_nil))) ma_nil)))) ma_nil))))
end
def d_law_pot : He.DefD := ⟨("_law_pot", none), "_law_pot", "_law_pot", defArgs s_law_pot, defBody s_law_pot, defScope s_law_pot, [], []⟩
def d_law_cells : He.DefD := ⟨("_law_cells", none), "_law_cells", "_law_cells", defArgs s_law_cells, defBody s_law_cells, defScope s_law_cells, [], []⟩
def d_is_integer : He.DefD := ⟨("is_integer", none), "is_integer", "is_integer", defArgs s_is_integer, defBody s_is_integer, defScope s_is_integer, [], []⟩
def d_is_within : He.DefD := ⟨("is_within", none), "is_within", "is_within", defArgs s_is_within, defBody s_is_within, defScope s_is_within, [], []⟩
def d_check_many : He.DefD := ⟨("check_many", none), "check_many", "check_many", defArgs s_check_many, defBody s_check_many, defScope s_check_many, [], []⟩
def d_is_ascending : He.DefD := ⟨("is_ascending", none), "is_ascending", "is_ascending", defArgs s_is_ascending, defBody s_is_ascending, defScope s_is_ascending, [], []⟩
def d_is_lot : He.DefD := ⟨("is_lot", none), "is_lot", "is_lot", defArgs s_is_lot, defBody s_is_lot, defScope s_is_lot, [], []⟩
def d_are_lots : He.DefD := ⟨("are_lots", none), "are_lots", "are_lots", defArgs s_are_lots, defBody s_are_lots, defScope s_are_lots, [], []⟩
def d_cut_in_eras : He.DefD := ⟨("cut_in_eras", none), "cut_in_eras", "cut_in_eras", defArgs s_cut_in_eras, defBody s_cut_in_eras, defScope s_cut_in_eras, [], []⟩
def d_is_of_kind : He.DefD := ⟨("is_of_kind", none), "is_of_kind", "is_of_kind", defArgs s_is_of_kind, defBody s_is_of_kind, defScope s_is_of_kind, [], []⟩
def d_check_lots : He.DefD := ⟨("check_lots", none), "check_lots", "check_lots", defArgs s_check_lots, defBody s_check_lots, defScope s_check_lots, [], []⟩
def d_numbers_left : He.DefD := ⟨("numbers_left", none), "numbers_left", "numbers_left", defArgs s_numbers_left, defBody s_numbers_left, defScope s_numbers_left, [], []⟩
def d_deeds_for_sizes : He.DefD := ⟨("deeds_for_sizes", none), "deeds_for_sizes", "deeds_for_sizes", defArgs s_deeds_for_sizes, defBody s_deeds_for_sizes, defScope s_deeds_for_sizes, [], []⟩
def d_least_deeds : He.DefD := ⟨("least_deeds", none), "least_deeds", "least_deeds", defArgs s_least_deeds, defBody s_least_deeds, defScope s_least_deeds, [], []⟩
def d_deeds_of : He.DefD := ⟨("deeds_of", none), "deeds_of", "deeds_of", defArgs s_deeds_of, defBody s_deeds_of, defScope s_deeds_of, [], []⟩
def d_law_take : He.DefD := ⟨("_law_take", none), "_law_take", "_law_take", defArgs s_law_take, defBody s_law_take, defScope s_law_take, [], []⟩
def d_law_of : He.DefD := ⟨("_law_of", none), "_law_of", "_law_of", defArgs s_law_of, defBody s_law_of, defScope s_law_of, [], []⟩
def d_law_some : He.DefD := ⟨("_law_some", none), "_law_some", "_law_some", defArgs s_law_some, defBody s_law_some, defScope s_law_some, [], []⟩
def d_law_left : He.DefD := ⟨("_law_left", none), "_law_left", "_law_left", defArgs s_law_left, defBody s_law_left, defScope s_law_left, [], []⟩
def d_law_drawn_eras : He.DefD := ⟨("_law_drawn_eras", none), "_law_drawn_eras", "_law_drawn_eras", defArgs s_law_drawn_eras, defBody s_law_drawn_eras, defScope s_law_drawn_eras, [], []⟩
def d_law_number : He.DefD := ⟨("_law_number", none), "_law_number", "_law_number", defArgs s_law_number, defBody s_law_number, defScope s_law_number, [], []⟩
def d_law_great_sizes : He.DefD := ⟨("_law_great_sizes", none), "_law_great_sizes", "_law_great_sizes", defArgs s_law_great_sizes, defBody s_law_great_sizes, defScope s_law_great_sizes, [], []⟩
def d_law_right : He.DefD := ⟨("_law_right", none), "_law_right", "_law_right", defArgs s_law_right, defBody s_law_right, defScope s_law_right, [], []⟩
def d_law : He.DefD := ⟨("law", none), "law", "law", defArgs s_law, defBody s_law, defScope s_law, [], []⟩
def fns : List He.DefD := [d_law_pot, d_law_cells, d_is_integer, d_is_within, d_check_many, d_is_ascending, d_is_lot, d_are_lots, d_cut_in_eras, d_is_of_kind, d_check_lots, d_numbers_left, d_deeds_for_sizes, d_least_deeds, d_deeds_of, d_law_take, d_law_of, d_law_some, d_law_left, d_law_drawn_eras, d_law_number, d_law_great_sizes, d_law_right, d_law]
def fac : List He.Fa := [.glo "_law_pot", .glo "_law_cells", .glo "is_integer", .glo "is_within", .glo "check_many", .glo "is_ascending", .glo "is_lot", .glo "are_lots", .glo "cut_in_eras", .glo "is_of_kind", .glo "check_lots", .glo "numbers_left", .glo "deeds_for_sizes", .glo "least_deeds", .glo "deeds_of", .glo "_law_take", .glo "_law_of", .glo "_law_some", .glo "_law_left", .glo "_law_drawn_eras", .glo "_law_number", .glo "_law_great_sizes", .glo "_law_right", .glo "law", .free "abs", .free "all", .free "bool", .free "enumerate", .free "int", .free "isinstance", .free "len", .free "list", .free "max", .free "min", .free "range", .free "repr", .free "set", .free "sorted", .free "sum", .free "tuple", .free "zip", .int "MOST_WALKERS" 5]
abbrev R : PySem.W.OpenRow := PySem.W.OpenLaw.row PySem.Challenge.rw_onestillview_k38_whole_fewest_deeds_by_t
abbrev hk : PySem.W.Hook := He.hookD 4 fac fns
def ob (s : PySem.W.SharedT) : He.AlD := He.obsDG 4 fac fns (HandSHeadRun.getT s)
theorem ob_eq (s : PySem.W.SharedT) : ob s = hk.obs s.abs := He.obsDG_eq (HandSHeadRun.getT_eq s)
def nm0 : List Str := ["WalkError", "BadLots", "BadMany", "BadSizes", "MOST_WALKERS", "is_integer", "is_within", "is_ascending", "is_lot", "are_lots", "check_many", "cut_in_eras", "is_of_kind", "check_lots", "least_deeds", "numbers_left", "deeds_for_sizes", "deeds_of", "_law_pot", "_law_take", "_law_of", "_law_some", "_law_cells", "_law_left", "_law_drawn_eras", "_law_number", "_law_great_sizes", "_law_right"]
def loose : List Str := nm0
theorem run (w : World) : HandSHeadRun.RunEq R (PySem.W.view R.prog [33]) hk ob 4000 loose w := by
  intro os
  kernel_rfl
theorem facts {P : Program} {w : World} {K : PySem.W.Frag} {h : Heap} {mg : Str → Option Value} {f : Addr} (X : K.In h) (G : h.Ns mainGlobals mg) (hfa : mg ("law" : Str) = some (.ref f)) (c : He.SaysD fac fns K) :
    ∃ fd : FuncData, (∀ (s : Shared) (v : Value), BindsTo s fd ⟨[v], []⟩ [("script", v)]) ∧ ∀ (cl : Str → Option Addr) (sa : Addr) (ns : List Int) (base : Heap), K.In base → base.Ns mainGlobals mg → FnG P w K mg base (L2.CX P w) 9 f fd ["script"] (spM ⟨K, sa, ns, cl⟩ wF 1 (m_law ns)) := by
  obtain ⟨fd_law_pot, F_law_pot⟩ := c.def_ 0 (d := d_law_pot) rfl
  have F_law_pot : FnP K "_law_pot" s_law_pot (He.ga K "_law_pot") fd_law_pot := F_law_pot
  have q_law_pot := He.glo_ok X G (c.fact 0 (f := .glo "_law_pot") rfl)
  obtain ⟨fd_law_cells, F_law_cells⟩ := c.def_ 1 (d := d_law_cells) rfl
  have F_law_cells : FnP K "_law_cells" s_law_cells (He.ga K "_law_cells") fd_law_cells := F_law_cells
  have q_law_cells := He.glo_ok X G (c.fact 1 (f := .glo "_law_cells") rfl)
  obtain ⟨fd_is_integer, F_is_integer⟩ := c.def_ 2 (d := d_is_integer) rfl
  have F_is_integer : FnP K "is_integer" s_is_integer (He.ga K "is_integer") fd_is_integer := F_is_integer
  have q_is_integer := He.glo_ok X G (c.fact 2 (f := .glo "is_integer") rfl)
  obtain ⟨fd_is_within, F_is_within⟩ := c.def_ 3 (d := d_is_within) rfl
  have F_is_within : FnP K "is_within" s_is_within (He.ga K "is_within") fd_is_within := F_is_within
  have q_is_within := He.glo_ok X G (c.fact 3 (f := .glo "is_within") rfl)
  obtain ⟨fd_check_many, F_check_many⟩ := c.def_ 4 (d := d_check_many) rfl
  have F_check_many : FnP K "check_many" s_check_many (He.ga K "check_many") fd_check_many := F_check_many
  have q_check_many := He.glo_ok X G (c.fact 4 (f := .glo "check_many") rfl)
  obtain ⟨fd_is_ascending, F_is_ascending⟩ := c.def_ 5 (d := d_is_ascending) rfl
  have F_is_ascending : FnP K "is_ascending" s_is_ascending (He.ga K "is_ascending") fd_is_ascending := F_is_ascending
  have q_is_ascending := He.glo_ok X G (c.fact 5 (f := .glo "is_ascending") rfl)
  obtain ⟨fd_is_lot, F_is_lot⟩ := c.def_ 6 (d := d_is_lot) rfl
  have F_is_lot : FnP K "is_lot" s_is_lot (He.ga K "is_lot") fd_is_lot := F_is_lot
  have q_is_lot := He.glo_ok X G (c.fact 6 (f := .glo "is_lot") rfl)
  obtain ⟨fd_are_lots, F_are_lots⟩ := c.def_ 7 (d := d_are_lots) rfl
  have F_are_lots : FnP K "are_lots" s_are_lots (He.ga K "are_lots") fd_are_lots := F_are_lots
  have q_are_lots := He.glo_ok X G (c.fact 7 (f := .glo "are_lots") rfl)
  obtain ⟨fd_cut_in_eras, F_cut_in_eras⟩ := c.def_ 8 (d := d_cut_in_eras) rfl
  have F_cut_in_eras : FnP K "cut_in_eras" s_cut_in_eras (He.ga K "cut_in_eras") fd_cut_in_eras := F_cut_in_eras
  have q_cut_in_eras := He.glo_ok X G (c.fact 8 (f := .glo "cut_in_eras") rfl)
  obtain ⟨fd_is_of_kind, F_is_of_kind⟩ := c.def_ 9 (d := d_is_of_kind) rfl
  have F_is_of_kind : FnP K "is_of_kind" s_is_of_kind (He.ga K "is_of_kind") fd_is_of_kind := F_is_of_kind
  have q_is_of_kind := He.glo_ok X G (c.fact 9 (f := .glo "is_of_kind") rfl)
  obtain ⟨fd_check_lots, F_check_lots⟩ := c.def_ 10 (d := d_check_lots) rfl
  have F_check_lots : FnP K "check_lots" s_check_lots (He.ga K "check_lots") fd_check_lots := F_check_lots
  have q_check_lots := He.glo_ok X G (c.fact 10 (f := .glo "check_lots") rfl)
  obtain ⟨fd_numbers_left, F_numbers_left⟩ := c.def_ 11 (d := d_numbers_left) rfl
  have F_numbers_left : FnP K "numbers_left" s_numbers_left (He.ga K "numbers_left") fd_numbers_left := F_numbers_left
  have q_numbers_left := He.glo_ok X G (c.fact 11 (f := .glo "numbers_left") rfl)
  obtain ⟨fd_deeds_for_sizes, F_deeds_for_sizes⟩ := c.def_ 12 (d := d_deeds_for_sizes) rfl
  have F_deeds_for_sizes : FnP K "deeds_for_sizes" s_deeds_for_sizes (He.ga K "deeds_for_sizes") fd_deeds_for_sizes := F_deeds_for_sizes
  have q_deeds_for_sizes := He.glo_ok X G (c.fact 12 (f := .glo "deeds_for_sizes") rfl)
  obtain ⟨fd_least_deeds, F_least_deeds⟩ := c.def_ 13 (d := d_least_deeds) rfl
  have F_least_deeds : FnP K "least_deeds" s_least_deeds (He.ga K "least_deeds") fd_least_deeds := F_least_deeds
  have q_least_deeds := He.glo_ok X G (c.fact 13 (f := .glo "least_deeds") rfl)
  obtain ⟨fd_deeds_of, F_deeds_of⟩ := c.def_ 14 (d := d_deeds_of) rfl
  have F_deeds_of : FnP K "deeds_of" s_deeds_of (He.ga K "deeds_of") fd_deeds_of := F_deeds_of
  have q_deeds_of := He.glo_ok X G (c.fact 14 (f := .glo "deeds_of") rfl)
  obtain ⟨fd_law_take, F_law_take⟩ := c.def_ 15 (d := d_law_take) rfl
  have F_law_take : FnP K "_law_take" s_law_take (He.ga K "_law_take") fd_law_take := F_law_take
  have q_law_take := He.glo_ok X G (c.fact 15 (f := .glo "_law_take") rfl)
  obtain ⟨fd_law_of, F_law_of⟩ := c.def_ 16 (d := d_law_of) rfl
  have F_law_of : FnP K "_law_of" s_law_of (He.ga K "_law_of") fd_law_of := F_law_of
  have q_law_of := He.glo_ok X G (c.fact 16 (f := .glo "_law_of") rfl)
  obtain ⟨fd_law_some, F_law_some⟩ := c.def_ 17 (d := d_law_some) rfl
  have F_law_some : FnP K "_law_some" s_law_some (He.ga K "_law_some") fd_law_some := F_law_some
  have q_law_some := He.glo_ok X G (c.fact 17 (f := .glo "_law_some") rfl)
  obtain ⟨fd_law_left, F_law_left⟩ := c.def_ 18 (d := d_law_left) rfl
  have F_law_left : FnP K "_law_left" s_law_left (He.ga K "_law_left") fd_law_left := F_law_left
  have q_law_left := He.glo_ok X G (c.fact 18 (f := .glo "_law_left") rfl)
  obtain ⟨fd_law_drawn_eras, F_law_drawn_eras⟩ := c.def_ 19 (d := d_law_drawn_eras) rfl
  have F_law_drawn_eras : FnP K "_law_drawn_eras" s_law_drawn_eras (He.ga K "_law_drawn_eras") fd_law_drawn_eras := F_law_drawn_eras
  have q_law_drawn_eras := He.glo_ok X G (c.fact 19 (f := .glo "_law_drawn_eras") rfl)
  obtain ⟨fd_law_number, F_law_number⟩ := c.def_ 20 (d := d_law_number) rfl
  have F_law_number : FnP K "_law_number" s_law_number (He.ga K "_law_number") fd_law_number := F_law_number
  have q_law_number := He.glo_ok X G (c.fact 20 (f := .glo "_law_number") rfl)
  obtain ⟨fd_law_great_sizes, F_law_great_sizes⟩ := c.def_ 21 (d := d_law_great_sizes) rfl
  have F_law_great_sizes : FnP K "_law_great_sizes" s_law_great_sizes (He.ga K "_law_great_sizes") fd_law_great_sizes := F_law_great_sizes
  have q_law_great_sizes := He.glo_ok X G (c.fact 21 (f := .glo "_law_great_sizes") rfl)
  obtain ⟨fd_law_right, F_law_right⟩ := c.def_ 22 (d := d_law_right) rfl
  have F_law_right : FnP K "_law_right" s_law_right (He.ga K "_law_right") fd_law_right := F_law_right
  have q_law_right := He.glo_ok X G (c.fact 22 (f := .glo "_law_right") rfl)
  obtain ⟨fd_law, F_law⟩ := c.def_ 23 (d := d_law) rfl
  have F_law : FnP K "law" s_law (He.ga K "law") fd_law := F_law
  have T : Tx mg := ⟨He.free_ok X G (c.fact 24 (f := .free "abs") rfl), He.free_ok X G (c.fact 25 (f := .free "all") rfl), He.free_ok X G (c.fact 26 (f := .free "bool") rfl), He.free_ok X G (c.fact 27 (f := .free "enumerate") rfl), He.free_ok X G (c.fact 28 (f := .free "int") rfl), He.free_ok X G (c.fact 29 (f := .free "isinstance") rfl), He.free_ok X G (c.fact 30 (f := .free "len") rfl), He.free_ok X G (c.fact 31 (f := .free "list") rfl), He.free_ok X G (c.fact 32 (f := .free "max") rfl), He.free_ok X G (c.fact 33 (f := .free "min") rfl), He.free_ok X G (c.fact 34 (f := .free "range") rfl), He.free_ok X G (c.fact 35 (f := .free "repr") rfl), He.free_ok X G (c.fact 36 (f := .free "set") rfl), He.free_ok X G (c.fact 37 (f := .free "sorted") rfl), He.free_ok X G (c.fact 38 (f := .free "sum") rfl), He.free_ok X G (c.fact 39 (f := .free "tuple") rfl), He.free_ok X G (c.fact 40 (f := .free "zip") rfl), He.int_ok X G (c.fact 41 (f := .int "MOST_WALKERS" 5) rfl)⟩
  have e := hfa.symm.trans (He.glo_ok X G (c.fact 23 (f := .glo "law") rfl))
  cases e
  have b := FunD.bindsA (ps := ["script"]) F_law fun _ _ _ _ _ _ us hl => match us, hl with | [_], _ => rfl
  refine ⟨fd_law, fun s v => b s [v] rfl, fun cl sa ns base _ _ => ?_⟩
  have G_law_pot := g_law_pot (P := P) (w := w) (base := base) (sa := sa) (ns := ns) (cl := cl) F_law_pot T
  have C_law_pot := cal_of F_law_pot q_law_pot (F_law_pot.bindsN (ps := ["script", "place"]) fun _ _ _ _ _ _ us hl => match us, hl with | [_, _], _ => rfl) G_law_pot
  have G_law_cells := g_law_cells (P := P) (w := w) (base := base) (sa := sa) (ns := ns) (cl := cl) F_law_cells T
  have C_law_cells := cal_of F_law_cells q_law_cells (F_law_cells.bindsN (ps := ["script", "limit"]) fun _ _ _ _ _ _ us hl => match us, hl with | [_, _], _ => rfl) G_law_cells
  have G_is_integer := g_is_integer (P := P) (w := w) (base := base) (sa := sa) (ns := ns) (cl := cl) F_is_integer T
  have C_is_integer := cal_of F_is_integer q_is_integer (F_is_integer.bindsN (ps := ["value"]) fun _ _ _ _ _ _ us hl => match us, hl with | [_], _ => rfl) G_is_integer
  have G_is_within := g_is_within (P := P) (w := w) (base := base) (sa := sa) (ns := ns) (cl := cl) F_is_within T C_is_integer
  have C_is_within := cal_of F_is_within q_is_within (F_is_within.bindsN (ps := ["value", "low", "high"]) fun _ _ _ _ _ _ us hl => match us, hl with | [_, _, _], _ => rfl) G_is_within
  have G_check_many := g_check_many (P := P) (w := w) (base := base) (sa := sa) (ns := ns) (cl := cl) F_check_many T C_is_within
  have C_check_many := cal_of F_check_many q_check_many (F_check_many.bindsN (ps := ["value"]) fun _ _ _ _ _ _ us hl => match us, hl with | [_], _ => rfl) G_check_many
  have G_is_ascending := g_is_ascending (P := P) (w := w) (base := base) (sa := sa) (ns := ns) (cl := cl) F_is_ascending T
  have C_is_ascending := cal_of F_is_ascending q_is_ascending (F_is_ascending.bindsN (ps := ["value"]) fun _ _ _ _ _ _ us hl => match us, hl with | [_], _ => rfl) G_is_ascending
  have G_is_lot := g_is_lot (P := P) (w := w) (base := base) (sa := sa) (ns := ns) (cl := cl) F_is_lot T C_is_within C_is_ascending
  have C_is_lot := cal_of F_is_lot q_is_lot (F_is_lot.bindsN (ps := ["many", "value"]) fun _ _ _ _ _ _ us hl => match us, hl with | [_, _], _ => rfl) G_is_lot
  have G_are_lots := g_are_lots (P := P) (w := w) (base := base) (sa := sa) (ns := ns) (cl := cl) F_are_lots T C_is_lot
  have C_are_lots := cal_of F_are_lots q_are_lots (F_are_lots.bindsN (ps := ["many", "value"]) fun _ _ _ _ _ _ us hl => match us, hl with | [_, _], _ => rfl) G_are_lots
  have G_cut_in_eras := g_cut_in_eras (P := P) (w := w) (base := base) (sa := sa) (ns := ns) (cl := cl) F_cut_in_eras T
  have C_cut_in_eras := cal_of F_cut_in_eras q_cut_in_eras (F_cut_in_eras.bindsN (ps := ["many", "lots"]) fun _ _ _ _ _ _ us hl => match us, hl with | [_, _], _ => rfl) G_cut_in_eras
  have G_is_of_kind := g_is_of_kind (P := P) (w := w) (base := base) (sa := sa) (ns := ns) (cl := cl) F_is_of_kind T C_are_lots C_cut_in_eras
  have C_is_of_kind := cal_of F_is_of_kind q_is_of_kind (F_is_of_kind.bindsN (ps := ["kind", "many", "value"]) fun _ _ _ _ _ _ us hl => match us, hl with | [_, _, _], _ => rfl) G_is_of_kind
  have G_check_lots := g_check_lots (P := P) (w := w) (base := base) (sa := sa) (ns := ns) (cl := cl) F_check_lots T C_is_of_kind
  have C_check_lots := cal_of F_check_lots q_check_lots (F_check_lots.bindsN (ps := ["kind", "many", "value"]) fun _ _ _ _ _ _ us hl => match us, hl with | [_, _, _], _ => rfl) G_check_lots
  have G_numbers_left := g_numbers_left (P := P) (w := w) (base := base) (sa := sa) (ns := ns) (cl := cl) F_numbers_left T C_is_integer
  have C_numbers_left := cal_of F_numbers_left q_numbers_left (F_numbers_left.bindsN (ps := ["many", "sizes"]) fun _ _ _ _ _ _ us hl => match us, hl with | [_, _], _ => rfl) G_numbers_left
  have G_deeds_for_sizes := g_deeds_for_sizes (P := P) (w := w) (base := base) (sa := sa) (ns := ns) (cl := cl) F_deeds_for_sizes T C_numbers_left
  have C_deeds_for_sizes := cal_of F_deeds_for_sizes q_deeds_for_sizes (F_deeds_for_sizes.bindsN (ps := ["many", "sizes"]) fun _ _ _ _ _ _ us hl => match us, hl with | [_, _], _ => rfl) G_deeds_for_sizes
  have G_least_deeds := g_least_deeds (P := P) (w := w) (base := base) (sa := sa) (ns := ns) (cl := cl) F_least_deeds T C_check_many C_check_lots C_deeds_for_sizes
  have C_least_deeds := cal_of F_least_deeds q_least_deeds (F_least_deeds.bindsN (ps := ["many", "lots"]) fun _ _ _ _ _ _ us hl => match us, hl with | [_, _], _ => rfl) G_least_deeds
  have K_least_deeds_many_lots := calK_of F_least_deeds q_least_deeds (kb_of (ps := ["many", "lots"]) (ks := ["many", "lots"]) (ix := [0, 1]) F_least_deeds fun _ _ _ _ _ _ ws hl => match ws, hl with | [_, _], _ => rfl) G_least_deeds
  have G_deeds_of := g_deeds_of (P := P) (w := w) (base := base) (sa := sa) (ns := ns) (cl := cl) F_deeds_of T C_is_integer C_numbers_left C_deeds_for_sizes
  have C_deeds_of := cal_of F_deeds_of q_deeds_of (F_deeds_of.bindsN (ps := ["many", "sizes"]) fun _ _ _ _ _ _ us hl => match us, hl with | [_, _], _ => rfl) G_deeds_of
  have K_deeds_of_many_sizes := calK_of F_deeds_of q_deeds_of (kb_of (ps := ["many", "sizes"]) (ks := ["many", "sizes"]) (ix := [0, 1]) F_deeds_of fun _ _ _ _ _ _ ws hl => match ws, hl with | [_, _], _ => rfl) G_deeds_of
  have G_law_take := g_law_take (P := P) (w := w) (base := base) (sa := sa) (ns := ns) (cl := cl) F_law_take T
  have C_law_take := cal_of F_law_take q_law_take (F_law_take.bindsN (ps := ["pot", "upto"]) fun _ _ _ _ _ _ us hl => match us, hl with | [_, _], _ => rfl) G_law_take
  have G_law_of := g_law_of (P := P) (w := w) (base := base) (sa := sa) (ns := ns) (cl := cl) F_law_of T C_law_take
  have C_law_of := cal_of F_law_of q_law_of (F_law_of.bindsN (ps := ["pot", "some"]) fun _ _ _ _ _ _ us hl => match us, hl with | [_, _], _ => rfl) G_law_of
  have G_law_some := g_law_some (P := P) (w := w) (base := base) (sa := sa) (ns := ns) (cl := cl) F_law_some T C_law_take
  have C_law_some := cal_of F_law_some q_law_some (F_law_some.bindsN (ps := ["pot", "pool", "many"]) fun _ _ _ _ _ _ us hl => match us, hl with | [_, _, _], _ => rfl) G_law_some
  have G_law_left := g_law_left (P := P) (w := w) (base := base) (sa := sa) (ns := ns) (cl := cl) F_law_left T
  have C_law_left := cal_of F_law_left q_law_left (F_law_left.bindsN (ps := ["many", "still", "lot"]) fun _ _ _ _ _ _ us hl => match us, hl with | [_, _, _], _ => rfl) G_law_left
  have G_law_drawn_eras := g_law_drawn_eras (P := P) (w := w) (base := base) (sa := sa) (ns := ns) (cl := cl) F_law_drawn_eras T C_law_take C_law_some C_law_left
  have C_law_drawn_eras := cal_of F_law_drawn_eras q_law_drawn_eras (F_law_drawn_eras.bindsN (ps := ["pot", "many", "lots"]) fun _ _ _ _ _ _ us hl => match us, hl with | [_, _, _], _ => rfl) G_law_drawn_eras
  have G_law_number := g_law_number (P := P) (w := w) (base := base) (sa := sa) (ns := ns) (cl := cl) F_law_number T
  have C_law_number := cal_of F_law_number q_law_number (F_law_number.bindsN (ps := ["many", "sizes"]) fun _ _ _ _ _ _ us hl => match us, hl with | [_, _], _ => rfl) G_law_number
  have G_law_great_sizes := g_law_great_sizes (P := P) (w := w) (base := base) (sa := sa) (ns := ns) (cl := cl) F_law_great_sizes T C_law_take C_law_of
  have C_law_great_sizes := cal_of F_law_great_sizes q_law_great_sizes (F_law_great_sizes.bindsN (ps := ["pot", "many"]) fun _ _ _ _ _ _ us hl => match us, hl with | [_, _], _ => rfl) G_law_great_sizes
  have G_law_right := g_law_right (P := P) (w := w) (base := base) (sa := sa) (ns := ns) (cl := cl) F_law_right T C_least_deeds C_deeds_of C_law_take C_law_of C_law_some C_law_drawn_eras C_law_number C_law_great_sizes K_deeds_of_many_sizes K_least_deeds_many_lots
  have C_law_right := cal_of F_law_right q_law_right (F_law_right.bindsN (ps := ["pot"]) fun _ _ _ _ _ _ us hl => match us, hl with | [_], _ => rfl) G_law_right
  exact g_law F_law T C_law_pot C_law_cells C_law_right
end Lk38
end
section
set_option Elab.async false
set_option linter.all false
set_option maxRecDepth 100000
namespace Pm
open PySem L2

/-! ### the mathematics of meanings -/
def wp {α : Type} (m : M α) (st : Sto) (Q : α → Sto → Prop) : Prop := match m st with
  | .ok a st' => Q a st'
  | _ => False
section
variable {α β : Type} {m : M α} {f : α → M β} {st st' : Sto} {a : α} {l : Nat} {xs : List D}
@[simp] theorem wp_ret {Q : α → Sto → Prop} : wp (ret a) st Q = Q a st := rfl
@[simp] theorem wp_no {Q : α → Sto → Prop} : wp no st Q = False := rfl
@[simp] theorem wp_bnd {Q : β → Sto → Prop} : wp (bnd m f) st Q = wp m st fun a st' => wp (f a) st' Q := by
  unfold wp bnd
  cases m st <;> rfl
@[simp] theorem bnd_ret : bnd (ret a) f = f a := rfl
@[simp] theorem bnd_no : bnd (no : M α) f = no := rfl
@[simp] theorem bnd_bnd {γ : Type} {g : β → M γ} : bnd (bnd m f) g = bnd m fun x => bnd (f x) g := by
  funext st
  show bnd (bnd m f) g st = bnd m (fun x => bnd (f x) g) st
  unfold bnd
  cases m st <;> rfl
@[simp] theorem ret_ap : (ret a : M α) st = .ok a st := rfl
@[simp] theorem bnd_ite {p : Prop} [Decidable p] {m' : M α} : bnd (if p then m else m') f = if p then bnd m f else bnd m' f := by split <;> rfl
@[simp] theorem wp_ite {p : Prop} [Decidable p] {m' : M α} {Q : α → Sto → Prop} : wp (if p then m else m') st Q = if p then wp m st Q else wp m' st Q := by split <;> rfl
@[simp] theorem wp_alloc {Q : D → Sto → Prop} : wp (alloc xs) st Q = Q (.loc st.length) (st ++ [.lst xs]) := rfl
theorem wp_lst {Q : List D → Sto → Prop} (h : st[l]? = some (.lst xs)) : wp (lst l) st Q = Q xs st := by
  unfold wp lst
  rw [h]
theorem wp_obj {o : O} {Q : O → Sto → Prop} (h : st[l]? = some o) : wp (obj l) st Q = Q o st := by
  unfold wp obj
  rw [h]
@[simp] theorem wp_obj_new {o : O} {Q : O → Sto → Prop} : wp (obj st.length) (st ++ [o]) Q = Q o (st ++ [o]) := wp_obj (by simp)
@[simp] theorem wp_put {Q : Unit → Sto → Prop} : wp (put l xs) st Q = Q () (st.set l (.lst xs)) := rfl
@[simp] theorem wp_lst_new {Q : List D → Sto → Prop} : wp (lst st.length) (st ++ [.lst xs]) Q = Q xs (st ++ [.lst xs]) := wp_lst (by simp)
@[simp] theorem wp_nox {Q : α → Sto → Prop} : wp (nox m) st Q = wp m st Q := by
  unfold wp nox
  cases m st <;> rfl
theorem wp_mono {Q Q' : α → Sto → Prop} (h : wp m st Q) (i : ∀ a st', Q a st' → Q' a st') : wp m st Q' := by
  unfold wp at h ⊢
  cases e : m st with
  | ok a st' => rw [e] at h; exact i a st' h
  | exc => rw [e] at h; exact h
  | stuck => rw [e] at h; exact h
theorem wp_ok {Q : α → Sto → Prop} (h : wp m st Q) : ∃ a st', m st = .ok a st' ∧ Q a st' := by
  unfold wp at h
  cases e : m st with
  | ok a st' => rw [e] at h; exact ⟨a, st', rfl, h⟩
  | exc => rw [e] at h; exact h.elim
  | stuck => rw [e] at h; exact h.elim
/-- what stays -/
def Fr (S : List Nat) (st st' : Sto) : Prop := st.length ≤ st'.length ∧ ∀ k, k < st.length → k ∉ S → st'[k]? = st[k]?
theorem Fr.refl {S : List Nat} : Fr S st st := ⟨Nat.le_refl _, fun _ _ _ => rfl⟩
theorem Fr.trans {S : List Nat} {st'' : Sto} (a : Fr S st st') (b : Fr S st' st'') : Fr S st st'' := ⟨Nat.le_trans a.1 b.1, fun k h n => (b.2 k (Nat.lt_of_lt_of_le h a.1) n).trans (a.2 k h n)⟩
theorem Fr.mono {S S' : List Nat} (a : Fr S st st') (h : ∀ k ∈ S, k < st.length → k ∈ S') : Fr S' st st' := ⟨a.1, fun k hk n => a.2 k hk fun z => n (h k z hk)⟩
theorem Fr.new {S : List Nat} (g : Sto) : Fr S st (st ++ g) := ⟨by simp, fun k h _ => List.getElem?_append_left h⟩
theorem Fr.set {o : O} : Fr [l] st (st.set l o) := ⟨by simp, fun k _ n => List.getElem?_set_ne fun z => n (by simp [z])⟩
theorem Fr.at {S : List Nat} (a : Fr S st st') {o : O} (h : st[l]? = some o) (n : l ∉ S) : st'[l]? = some o := by
  rw [a.2 l (List.getElem?_eq_some_iff.mp h).1 n, h]
/-- a value, whatever stands -/
def Pu (m : M α) (a : α) : Prop := ∀ (st : Sto) (Q : α → Sto → Prop), (∀ st', Fr [] st st' → Q a st') → wp m st Q
theorem Pu.ret' : Pu (ret a) a := fun st Q q => q st Fr.refl
theorem Pu.bnd' {b : β} (h : Pu m a) (k : Pu (f a) b) : Pu (bnd m f) b := fun st Q q => by
  rw [wp_bnd]
  exact h st _ fun st1 r1 => k st1 _ fun st2 r2 => q st2 (r1.trans r2)
theorem Pu.of_eq {m' : M α} (e : m = m') (h : Pu m' a) : Pu m a := e ▸ h
theorem Pu.ok (h : Pu m a) (st : Sto) : ∃ st', m st = .ok a st' ∧ Fr [] st st' := by
  obtain ⟨a', st', e, q1, q2⟩ := wp_ok (h st (fun b st' => b = a ∧ Fr [] st st') fun st' r => ⟨rfl, r⟩)
  exact ⟨st', by rw [e, q1], q2⟩
end
/-! ### combinators, applied -/
section
variable {ρ : En} {f g h : ME} {t u : MT} {op op' : D → D → M D} {o1 : D → M D} {oA : List D → M D} {a : MA} {s s' : MS} {p : Pat} {n : Nat} {m : List D → M D} {it : MI}
@[simp] theorem ap_kon {d : D} : kon d ρ = ret d := rfl
@[simp] theorem ap_bin : bin f g op ρ = bnd (f ρ) fun x => bnd (g ρ) fun y => op x y := rfl
@[simp] theorem ap_una : una f o1 ρ = bnd (f ρ) o1 := rfl
@[simp] theorem ap_andV : andV f g ρ = bnd (f ρ) fun x => bnd (tru x) fun k => if k = true then g ρ else ret x := rfl
@[simp] theorem ap_orV : orV f g ρ = bnd (f ρ) fun x => bnd (tru x) fun k => if k = true then ret x else g ρ := rfl
@[simp] theorem ap_notV : notV f ρ = bnd (f ρ) fun x => bnd (tru x) fun k => ret (.bl (!k)) := rfl
@[simp] theorem ap_tstV : tstV f ρ = bnd (f ρ) tru := rfl
@[simp] theorem ap_tstB : tstB f ρ = bnd (f ρ) asB := rfl
@[simp] theorem ap_notT : notT t ρ = bnd (t ρ) fun k => ret (!k) := rfl
@[simp] theorem ap_andT : andT t u ρ = bnd (t ρ) fun k => if k = true then u ρ else ret false := rfl
@[simp] theorem ap_orT : orT t u ρ = bnd (t ρ) fun k => if k = true then ret true else u ρ := rfl
@[simp] theorem ap_ifE : ifE t f g ρ = bnd (t ρ) fun k => if k = true then f ρ else g ρ := rfl
@[simp] theorem ap_chn : chn f g h op op' ρ = bnd (f ρ) fun x => bnd (g ρ) fun y => bnd (op x y) fun z => bnd (asB z) fun k => if k = true then bnd (h ρ) fun w => op' y w else ret (.bl false) := rfl
@[simp] theorem ap_nilA : nilA ρ = ret [] := rfl
@[simp] theorem ap_conA : conA f a ρ = bnd (f ρ) fun x => bnd (a ρ) fun xs => ret (x :: xs) := rfl
@[simp] theorem ap_tupE : tupE a ρ = bnd (a ρ) fun xs => if xs.length ≤ sizeLine then ret (.tup xs) else no := rfl
@[simp] theorem ap_lstE : lstE a ρ = bnd (a ρ) fun xs => if xs.length ≤ sizeLine then alloc xs else no := rfl
@[simp] theorem ap_appA : appA a oA ρ = bnd (a ρ) oA := rfl
@[simp] theorem ap_calE : calE a m ρ = bnd (a ρ) m := rfl
@[simp] theorem ap_kwE {ix : List Nat} {nk : Nat} : kwE ix nk a m ρ = bnd (a ρ) fun zs => if zs.length = nk then m (permL ix zs) else no := rfl
@[simp] theorem ap_nxS : nxS ρ = ret (.nx, ρ) := rfl
@[simp] theorem ap_nevS : nevS ρ = no := rfl
@[simp] theorem ap_seqS : seqS s s' ρ = bnd (s ρ) fun x => match x.1 with
  | .nx => s' x.2
  | _ => ret x := rfl
@[simp] theorem ap_retS : retS f ρ = bnd (f ρ) fun d => ret (.rt d, ρ) := rfl
@[simp] theorem ap_dropS : dropS f ρ = bnd (f ρ) fun _ => ret (.nx, ρ) := rfl
@[simp] theorem ap_ifS : ifS t s s' ρ = bnd (t ρ) fun k => if k = true then s ρ else s' ρ := rfl
@[simp] theorem ap_setS : setS p f ρ = bnd (f ρ) fun d => bnd (ofE (bindP p d ρ)) fun ρ' => ret (.nx, ρ') := rfl
@[simp] theorem ap_parS {i j : Nat} : parS i j a ρ = bnd (a ρ) fun ds => match ds with
  | [d, e] => ret (.nx, (ρ.set i (some d)).set j (some e))
  | _ => no := rfl
@[simp] theorem ap_subS : subS f g h ρ = bnd (f ρ) fun v => bnd (g ρ) fun o => bnd (h ρ) fun i => bnd (setI o i v) fun _ => ret (.nx, ρ) := rfl
@[simp] theorem ap_forS : forS it p s ρ = bnd (it ρ) fun I => forL I.ok p s I.xs ρ := rfl
@[simp] theorem ap_lcE {vs : List Nat} : lcE it p t f vs ρ = bnd (it ρ) fun I => bnd (lcL I.ok p t f (wipeE ρ vs) I.xs []) alloc := rfl
@[simp] theorem ap_yesT : yesT ρ = ret true := rfl
@[simp] theorem ofE_some : ofE (some ρ) = ret ρ := rfl
@[simp] theorem ofE_none : ofE none = no := rfl
@[simp] theorem ofO_some {d : D} : ofO (some d) = ret d := rfl
@[simp] theorem ofLen_ok {ds : List D} (h : ds.length = n) : ofLen n m ds = m ds := if_pos h
@[simp] theorem ap_iterA : iterA f ρ = bnd (f ρ) seqA := rfl
@[simp] theorem ap_rng1 : rng1 f ρ = bnd (f ρ) fun d => match d with
  | .int j => if okR j then ret (rngI 0 j) else no
  | _ => no := rfl
@[simp] theorem ap_rng2 : rng2 f g ρ = bnd (f ρ) fun d => bnd (g ρ) fun d' => match d, d' with
  | .int i, .int j => if okR i && okR j then ret (rngI i j) else no
  | _, _ => no := rfl
@[simp] theorem ap_enuI : enuI f ρ = bnd (f ρ) fun d => match d with
  | .tup xs => ret ⟨xs.zipIdx.map fun p => .tup [.int (p.2 : Nat), p.1], fun _ => true⟩
  | _ => no := rfl
@[simp] theorem ap_sli {l u : MO} {op : D → Option Int → Option Int → M D} : sli f l u op ρ = bnd (f ρ) fun x => bnd (l ρ) fun lo => bnd (u ρ) fun hi => op x lo hi := rfl
@[simp] theorem ap_noP : noP ρ = ret none := rfl
@[simp] theorem ap_som : som f ρ = bnd (f ρ) fun x => match x with
  | .int i => ret (some i)
  | _ => no := rfl
@[simp] theorem ap_meth {om : D → List D → M D} : meth f a om ρ = bnd (f ρ) fun o => bnd (isL o) fun _ => bnd (a ρ) fun ds => om o ds := rfl
/-- the end of a def -/
def fin : Fl × En → M D := fun x => match x.1 with
  | .nx => ret .non
  | .rt d => ret d
  | _ => no
@[simp] theorem fin_rt {d : D} : fin (.rt d, ρ) = ret d := rfl
@[simp] theorem fin_nx : fin (.nx, ρ) = ret .non := rfl
theorem small_line {n : Nat} (h : n ≤ 100000) : n ≤ sizeLine := Nat.le_trans h (by rw [sizeLine_eq]; decide)
end
/-! ### loops -/
theorem wp_forL {ok : Sto → Bool} {p : Pat} {body : MS} {Q : Fl × En → Sto → Prop} (I : Nat → En → Sto → Prop) : ∀ (xs : List D) (i : Nat) (ρ : En) (st : Sto), I i ρ st →
    (∀ j x ρ st, xs[j]? = some x → I (i + j) ρ st → ok st = true ∧ ∃ ρ1, bindP p x ρ = some ρ1 ∧ wp (body ρ1) st fun y st' => match y.1 with
      | .nx => I (i + j + 1) y.2 st'
      | .ct => I (i + j + 1) y.2 st'
      | .bk => Q (.nx, y.2) st'
      | .rt d => Q (.rt d, y.2) st') →
    (∀ ρ st, I (i + xs.length) ρ st → ok st = true ∧ Q (.nx, ρ) st) → wp (forL ok p body xs ρ) st Q
  | [], i, ρ, st, h0, _, hd => by
    obtain ⟨h1, h2⟩ := hd ρ st h0
    unfold wp forL
    rw [if_pos h1]
    exact h2
  | x :: xs, i, ρ, st, h0, hs, hd => by
    obtain ⟨h1, ρ1, h2, h3⟩ := hs 0 x ρ st rfl h0
    have e : wp (forL ok p body (x :: xs) ρ) st Q = wp (bnd (body ρ1) fun y => match y.1 with
        | .nx => forL ok p body xs y.2
        | .ct => forL ok p body xs y.2
        | .bk => ret (.nx, y.2)
        | .rt d => ret (.rt d, y.2)) st Q := by
      have e1 : forL ok p body (x :: xs) ρ st = (bnd (body ρ1) fun y => match y.1 with
        | .nx => forL ok p body xs y.2
        | .ct => forL ok p body xs y.2
        | .bk => ret (.nx, y.2)
        | .rt d => ret (.rt d, y.2)) st := by
        show (if ok st = true then _ else _) = _
        rw [if_pos h1, h2]
        rfl
      unfold wp
      rw [e1]
    rw [e, wp_bnd]
    refine wp_mono h3 fun y st' q => ?_
    obtain ⟨fl, ρ2⟩ := y
    have next : I (i + 0 + 1) ρ2 st' → wp (forL ok p body xs ρ2) st' Q := fun q => wp_forL I xs (i + 1) ρ2 st' q (fun j y ρ st hj hI => by
      have z := hs (j + 1) y ρ st (by simpa using hj) (by rw [show i + (j + 1) = i + 1 + j by omega]; exact hI)
      rw [show i + (j + 1) + 1 = i + 1 + j + 1 by omega] at z
      exact z) fun ρ st hI => hd ρ st (by rw [show i + (x :: xs).length = i + 1 + xs.length by simp; omega]; exact hI)
    cases fl with
    | nx => exact next q
    | ct => exact next q
    | bk => exact q
    | rt d => exact q
/-- a comprehension, by an invariant -/
theorem wp_lcL {ok : Sto → Bool} {p : Pat} {t : MT} {e : ME} {ρ : En} {Q : List D → Sto → Prop} (I : Nat → List D → Sto → Prop) : ∀ (xs : List D) (i : Nat) (acc : List D) (st : Sto), I i acc st →
    (∀ j x acc st, xs[j]? = some x → I (i + j) acc st → ok st = true ∧ ∃ ρ1, bindP p x ρ = some ρ1 ∧ wp (t ρ1) st fun k st' => if k = true then wp (e ρ1) st' fun y st'' => acc.length < sizeLine ∧ I (i + j + 1) (acc ++ [y]) st'' else I (i + j + 1) acc st') →
    (∀ acc st, I (i + xs.length) acc st → ok st = true ∧ Q acc st) → wp (lcL ok p t e ρ xs acc) st Q
  | [], i, acc, st, h0, _, hd => by
    obtain ⟨h1, h2⟩ := hd acc st h0
    unfold wp lcL
    rw [if_pos h1]
    exact h2
  | x :: xs, i, acc, st, h0, hs, hd => by
    obtain ⟨h1, ρ1, h2, h3⟩ := hs 0 x acc st rfl h0
    have ee : wp (lcL ok p t e ρ (x :: xs) acc) st Q = wp (bnd (nox (t ρ1)) fun k => if k = true then bnd (nox (e ρ1)) fun y => if acc.length < sizeLine then lcL ok p t e ρ xs (acc ++ [y]) else no else lcL ok p t e ρ xs acc) st Q := by
      have e1 : lcL ok p t e ρ (x :: xs) acc st = (bnd (nox (t ρ1)) fun k => if k = true then bnd (nox (e ρ1)) fun y => if acc.length < sizeLine then lcL ok p t e ρ xs (acc ++ [y]) else no else lcL ok p t e ρ xs acc) st := by
        show (if ok st = true then _ else _) = _
        rw [if_pos h1, h2]
        rfl
      unfold wp
      rw [e1]
    have next : ∀ acc st', I (i + 0 + 1) acc st' → wp (lcL ok p t e ρ xs acc) st' Q := fun acc st' q => wp_lcL I xs (i + 1) acc st' q (fun j y acc st hj hI => by
      have z := hs (j + 1) y acc st (by simpa using hj) (by rw [show i + (j + 1) = i + 1 + j by omega]; exact hI)
      rw [show i + (j + 1) + 1 = i + 1 + j + 1 by omega] at z
      exact z) fun acc st hI => hd acc st (by rw [show i + (x :: xs).length = i + 1 + xs.length by simp; omega]; exact hI)
    rw [ee, wp_bnd, wp_nox]
    refine wp_mono h3 fun k st' q => ?_
    cases k with
    | false =>
      rw [if_neg (by simp)] at q ⊢
      exact next acc st' q
    | true =>
      rw [if_pos rfl] at q ⊢
      rw [wp_bnd, wp_nox]
      refine wp_mono q fun y st'' q => ?_
      rw [if_pos q.1]
      exact next _ _ q.2
/-- .. of values -/
theorem pu_lcL {p : Pat} {t : MT} {e : ME} {ρ : En} (g : D → Option D) (xs acc : List D) (hl : acc.length + xs.length ≤ 100000) (h : ∀ x ∈ xs, ∃ ρ1, bindP p x ρ = some ρ1 ∧ ((g x = none ∧ Pu (t ρ1) false) ∨ ∃ y, g x = some y ∧ Pu (t ρ1) true ∧ Pu (e ρ1) y)) :
    Pu (lcL (fun _ => true) p t e ρ xs acc) (acc ++ xs.filterMap g) := fun st Q q => by
  refine wp_lcL (fun i a s => Fr [] st s ∧ i ≤ xs.length ∧ a.length ≤ acc.length + i ∧ a = acc ++ (xs.take i).filterMap g) xs 0 acc st ⟨Fr.refl, Nat.zero_le _, by simp, by simp⟩ (fun j x a s hj ⟨fr, hi, hn, ea⟩ => ⟨rfl, ?_⟩) fun a s ⟨fr, hi, hn, ea⟩ => ⟨rfl, ?_⟩
  · have hj1 : j < xs.length := (List.getElem?_eq_some_iff.mp hj).1
    obtain ⟨ρ1, h1, h2⟩ := h x (List.mem_of_getElem? hj)
    refine ⟨ρ1, h1, ?_⟩
    have tk : xs.take (0 + j + 1) = xs.take (0 + j) ++ [x] := by
      rw [Nat.zero_add, List.take_add_one, hj]; rfl
    rcases h2 with ⟨g0, p0⟩ | ⟨y, g1, p1, p2⟩
    · refine p0 s _ fun s' fr' => ?_
      rw [if_neg (by simp)]
      exact ⟨fr.trans fr', by omega, by omega, by rw [tk, List.filterMap_append, ea]; simp [g0]⟩
    · refine p1 s _ fun s' fr' => ?_
      rw [if_pos rfl]
      refine p2 s' _ fun s'' fr'' => ⟨Nat.lt_of_le_of_lt (show a.length ≤ 99999 by omega) (by rw [sizeLine_eq]; decide), (fr.trans fr').trans fr'', by omega, by simp; omega, by rw [tk, List.filterMap_append, ea]; simp [g1]⟩
  · rw [ea]
    simp only [Nat.zero_add, List.take_length]
    exact q s fr
/-- tuple([..]) | all([..]) | .. -/
theorem pu_tup {α : Type} {m : M α} {xs : List D} {f : α → M (List D)} {a : α} (h : Pu m a) (h2 : Pu (f a) xs) : Pu (bnd m fun x => bnd (f x) fun ys => bnd (alloc ys) fun l => bTuple [l]) (.tup xs) := fun st Q q => by
  rw [wp_bnd]
  refine h st _ fun s1 r1 => ?_
  rw [wp_bnd]
  refine h2 s1 _ fun s2 r2 => ?_
  simp only [wp_bnd, wp_alloc, bTuple, wp_lst_new, wp_ret]
  exact q _ ((r1.trans r2).trans (Fr.new _))
end Pm
namespace Pm
open PySem L2
theorem decS {a b : Str} : decide (D.str a = D.str b) = decide (a = b) := by
  by_cases h : a = b
  · rw [h, decide_eq_true rfl, decide_eq_true rfl]
  · rw [decide_eq_false h, decide_eq_false fun z => h (D.str.inj z)]
theorem decI {a b : Int} : decide (D.int a = D.int b) = decide (a = b) := by
  by_cases h : a = b
  · rw [h, decide_eq_true rfl, decide_eq_true rfl]
  · rw [decide_eq_false h, decide_eq_false fun z => h (D.int.inj z)]
theorem opEq_str {a b : Str} : opEq (.str a) (.str b) = ret (.bl (decide (a = b))) := by
  show ret (D.bl (decide (D.str a = D.str b))) = _
  rw [decS]
theorem opEq_int {a b : Int} : opEq (.int a) (.int b) = ret (.bl (decide (a = b))) := by
  show ret (D.bl (decide (D.int a = D.int b))) = _
  rw [decI]
theorem opNe_str {a b : Str} : opNe (.str a) (.str b) = ret (.bl (!decide (a = b))) := by
  show ret (D.bl (!decide (D.str a = D.str b))) = _
  rw [decS]
theorem opNe_int {a b : Int} : opNe (.int a) (.int b) = ret (.bl (!decide (a = b))) := by
  show ret (D.bl (!decide (D.int a = D.int b))) = _
  rw [decI]
@[simp] theorem opAdd_int {a b : Int} : opAdd (.int a) (.int b) = ret (.int (a + b)) := rfl
@[simp] theorem opSub_int {a b : Int} : opSub (.int a) (.int b) = ret (.int (a - b)) := rfl
@[simp] theorem opNeg_int {a : Int} : opNeg (.int a) = ret (.int (-a)) := rfl
@[simp] theorem opLe_int {a b : Int} : opLe (.int a) (.int b) = ret (.bl (decide (a ≤ b))) := rfl
@[simp] theorem opLt_int {a b : Int} : opLt (.int a) (.int b) = ret (.bl (decide (a < b))) := rfl
@[simp] theorem opGt_int {a b : Int} : opGt (.int a) (.int b) = ret (.bl (decide (b < a))) := rfl
@[simp] theorem opGe_int {a b : Int} : opGe (.int a) (.int b) = ret (.bl (decide (b ≤ a))) := rfl
@[simp] theorem asB_bl {b : Bool} : asB (.bl b) = ret b := rfl
@[simp] theorem tru_bl {b : Bool} : tru (.bl b) = ret b := rfl
@[simp] theorem opIx_tup {ns : List Int} {xs : List D} {i : Int} : opIx ns (.tup xs) (.int i) = ofO (atI xs i) := rfl
theorem opMod_int {a b : Int} (h : 0 < b) : opMod (.int a) (.int b) = ret (.int (a % b)) := by
  show (if decide (0 < b) = true then _ else _) = _
  rw [if_pos (decide_eq_true h)]
theorem opFdiv_int {a b : Int} (h : 0 < b) (h2 : b < 1073741824) : opFdiv (.int a) (.int b) = ret (.int (a / b)) := by
  show (if decide (0 < b ∧ b < 1073741824) = true then _ else _) = _
  rw [if_pos (decide_eq_true ⟨h, h2⟩)]
theorem opMul_int {a b : Int} (h : (-(2 ^ 64) < a ∧ a < 2 ^ 64) ∨ (-(2 ^ 64) < b ∧ b < 2 ^ 64)) : opMul (.int a) (.int b) = ret (.int (a * b)) := by
  show (if decide _ = true then _ else _) = _
  rw [if_pos (decide_eq_true h)]
theorem runB_eq {n : Nat} {b : MS} {ds : List D} : runB n b ds = bnd (b (startE n ds)) fin := rfl
@[simp] theorem rd_at {i : Nat} {ρ : En} : rd i ρ = match ρ[i]? with
  | some (some d) => ret d
  | _ => no := rfl
@[simp] theorem bLen_tup {ns : List Int} {xs : List D} : bLen ns [.tup xs] = ret (.int xs.length) := rfl
@[simp] theorem isi_int {T : String} {i : Int} : isi T (.int i) = ret (.bl (isT "int" T)) := rfl
@[simp] theorem isi_tup {T : String} {xs : List D} : isi T (.tup xs) = ret (.bl (isT "tuple" T)) := rfl
@[simp] theorem bindP_nm {i : Nat} {d : D} {ρ : En} : bindP (.nm i) d ρ = some (ρ.set i (some d)) := by unfold bindP; rfl
@[simp] theorem bindP_tp {ps : List Pat} {xs : List D} {ρ : En} : bindP (.tp ps) (.tup xs) ρ = bindPs ps xs ρ := by unfold bindP; rfl
@[simp] theorem bindPs_nil {ρ : En} : bindPs [] [] ρ = some ρ := by unfold bindPs; rfl
@[simp] theorem bindPs_cons {p : Pat} {ps : List Pat} {x : D} {xs : List D} {ρ : En} : bindPs (p :: ps) (x :: xs) ρ = (bindP p x ρ).bind fun ρ' => bindPs ps xs ρ' := by
  rw [bindPs]
end Pm
namespace Pm
open PySem L2
theorem fm_const {α : Type} {d : D} : ∀ xs : List α, xs.filterMap (fun _ => some d) = List.replicate xs.length d
  | [] => rfl
  | x :: xs => by simp [fm_const xs, List.replicate_succ]
theorem bls_rep : ∀ n : Nat, blsOf (List.replicate n (D.bl true)) = some (List.replicate n true)
  | 0 => rfl
  | n + 1 => by simp [List.replicate_succ, blsOf, bls_rep n]
@[simp] theorem wp_bAll_true {n : Nat} {st : Sto} {Q : D → Sto → Prop} : wp (bAll [.loc st.length]) (st ++ [.lst (List.replicate n (.bl true))]) Q = Q (.bl true) (st ++ [.lst (List.replicate n (.bl true))]) := by
  simp [bAll, bls_rep]
@[simp] theorem wp_bTuple_new {xs : List D} {st : Sto} {Q : D → Sto → Prop} : wp (bTuple [.loc st.length]) (st ++ [.lst xs]) Q = Q (.tup xs) (st ++ [.lst xs]) := by
  simp [bTuple]
@[simp] theorem wp_bSorted_new {ns : List Int} {st : Sto} {Q : D → Sto → Prop} : wp (bSorted [.loc st.length]) (st ++ [.lst (ns.map .int)]) Q = Q (.loc (st.length + 1)) (st ++ [.lst (ns.map .int)] ++ [.lst ((isort ns).map .int)]) := by
  simp [bSorted, intsOf_ints]
theorem wp_seqA {l : Nat} {xs : List D} {st : Sto} {Q : Itm → Sto → Prop} (h : st[l]? = some (.lst xs)) : wp (seqA (.loc l)) st Q = Q ⟨xs, fun st => decide (st[l]? = some (.lst xs))⟩ st := by
  show wp (bnd (lst l) _) st Q = _
  rw [wp_bnd, wp_lst h]
  rfl
/-- a comprehension over a list that stays -/
theorem pu_lcLok {ok : Sto → Bool} {p : Pat} {t : MT} {e : ME} {ρ : En} {st : Sto} {Q : List D → Sto → Prop} (g : D → Option D) (xs : List D) (hok : ∀ s, Fr [] st s → ok s = true) (hl : xs.length ≤ 100000) (h : ∀ x ∈ xs, ∃ ρ1, bindP p x ρ = some ρ1 ∧ ((g x = none ∧ Pu (t ρ1) false) ∨ ∃ y, g x = some y ∧ Pu (t ρ1) true ∧ Pu (e ρ1) y))
    (q : ∀ st', Fr [] st st' → Q (xs.filterMap g) st') : wp (lcL ok p t e ρ xs []) st Q := by
  refine wp_lcL (fun i a s => Fr [] st s ∧ i ≤ xs.length ∧ a.length ≤ i ∧ a = (xs.take i).filterMap g) xs 0 [] st ⟨Fr.refl, Nat.zero_le _, by simp, by simp⟩ (fun j x a s hj ⟨fr, hi, hn, ea⟩ => ⟨hok s fr, ?_⟩) fun a s ⟨fr, hi, hn, ea⟩ => ⟨hok s fr, ?_⟩
  · have hj1 : j < xs.length := (List.getElem?_eq_some_iff.mp hj).1
    obtain ⟨ρ1, h1, h2⟩ := h x (List.mem_of_getElem? hj)
    refine ⟨ρ1, h1, ?_⟩
    have tk : xs.take (0 + j + 1) = xs.take (0 + j) ++ [x] := by
      rw [Nat.zero_add, List.take_add_one, hj]; rfl
    rcases h2 with ⟨g0, p0⟩ | ⟨y, g1, p1, p2⟩
    · refine p0 s _ fun s' fr' => ?_
      rw [if_neg (by simp)]
      exact ⟨fr.trans fr', by omega, by omega, by rw [tk, List.filterMap_append, ea]; simp [g0]⟩
    · refine p1 s _ fun s' fr' => ?_
      rw [if_pos rfl]
      refine p2 s' _ fun s'' fr'' => ⟨Nat.lt_of_le_of_lt (show a.length ≤ 99999 by omega) (by rw [sizeLine_eq]; decide), (fr.trans fr').trans fr'', by omega, by simp; omega, by rw [tk, List.filterMap_append, ea]; simp [g1]⟩
  · rw [ea]
    simp only [Nat.zero_add, List.take_length]
    exact q s fr
theorem Pu.ap {m : M D} {a : D} (h : Pu m a) {st : Sto} {Q : D → Sto → Prop} (q : ∀ st', Fr [] st st' → Q a st') : wp m st Q := h st Q q
end Pm
namespace Pm
open PySem L2
theorem wp_bTuple {l : Nat} {xs : List D} {st : Sto} {Q : D → Sto → Prop} (h : st[l]? = some (.lst xs)) : wp (bTuple [.loc l]) st Q = Q (.tup xs) st := by
  simp [bTuple, wp_lst h]
theorem opIsNot_non {d : D} : opIsNot d .non = ret (.bl (!decide (d = .non))) := by cases d <;> rfl
@[simp] theorem get_new2 {st : Sto} {a b : O} : (st ++ [a, b])[st.length + 1]? = some b := by simp
end Pm
end
section
set_option Elab.async false
set_option linter.all false
set_option maxRecDepth 100000
namespace Pm
open PySem L2
/-! ### data that shows -/
def Sh (e w : Nat) (d : D) : Prop := ∃ p, (∀ st n, e ≤ n → toPy st n d = some p) ∧ p.showable = true ∧ p.hasDict = false ∧ p.depth ≤ e ∧ p.shown.length ≤ w
theorem Sh.mono {e e' w w' : Nat} {d : D} (h : Sh e w d) (h1 : e ≤ e') (h2 : w ≤ w') : Sh e' w' d := by
  obtain ⟨p, a, b, c, f, g⟩ := h
  exact ⟨p, fun st n hn => a st n (by omega), b, c, by omega, by omega⟩
theorem Sh.non : Sh 1 4 .non := ⟨.none, fun st n hn => by
  obtain ⟨m, rfl⟩ : ∃ m, n = m + 1 := ⟨n - 1, by omega⟩
  rfl, rfl, rfl, by decide, by decide⟩
theorem Sh.bl {b : Bool} : Sh 1 5 (.bl b) := ⟨.bool b, fun st n hn => by
  obtain ⟨m, rfl⟩ : ∃ m, n = m + 1 := ⟨n - 1, by omega⟩
  rfl, rfl, rfl, by simp [PyData.depth], by cases b <;> decide⟩
theorem log2_small {a : Int} (h : a.natAbs < 10 ^ 30) : a.natAbs.log2 < 1920 := by
  rcases Nat.eq_zero_or_pos a.natAbs with z | z
  · rw [z]; decide
  · exact (Nat.log2_lt (by omega)).mpr (Nat.lt_of_lt_of_le (Nat.lt_of_lt_of_le h (show 10 ^ 30 ≤ 2 ^ 100 by decide)) (Nat.pow_le_pow_right (by decide) (by decide)))
theorem ofStr_len (s : String) : (Str.ofString s).length = s.length := by
  exact ofString_length s
theorem Sh.int {i : Int} (h : i.natAbs < 10 ^ 30) : Sh 1 31 (.int i) := ⟨.int i, fun st n hn => by
  obtain ⟨m, rfl⟩ : ∃ m, n = m + 1 := ⟨n - 1, by omega⟩
  rfl, by simp only [PyData.showable]; exact decide_eq_true (log2_small h), rfl, by simp [PyData.depth], by
  show (Str.ofString (toString i)).length ≤ 31
  rw [ofStr_len]
  exact int_text_length_le10 (by decide) h⟩
theorem toPys_of {st : Sto} {n e w : Nat} (hn : e ≤ n) : ∀ xs : List D, (∀ x ∈ xs, Sh e w x) → ∃ ps, (∀ st n, e ≤ n → toPys (toPy st n) xs = some ps) ∧ ps.length = xs.length ∧ PyData.showableAll ps = true ∧ PyData.hasDictAll ps = false ∧ PyData.depthAll ps ≤ e ∧ piled (PyData.shownAll ps) ≤ xs.length * (w + 2)
  | [], _ => ⟨[], fun _ _ _ => rfl, rfl, rfl, rfl, by simp [PyData.depthAll], by simp [piled, PyData.shownAll]⟩
  | x :: xs, h => by
    obtain ⟨p, a, b, c, f, g⟩ := h x (by simp)
    obtain ⟨ps, a', l', b', c', f', g'⟩ := toPys_of (st := st) hn xs fun y hy => h y (by simp [hy])
    refine ⟨p :: ps, fun st n hn => ?_, by simp [l'], by simp [PyData.showableAll, b, b'], by simp [PyData.hasDictAll, c, c'], by simp [PyData.depthAll]; omega, ?_⟩
    · unfold toPys
      rw [a st n hn, a' st n hn]
    · simp only [PyData.shownAll, piled_cons, List.length_cons, Nat.succ_mul]
      omega
theorem Sh.tup {e w n : Nat} {xs : List D} (h : ∀ x ∈ xs, Sh e w x) (hn : xs.length ≤ n) : Sh (e + 1) (n * (w + 2) + 3) (.tup xs) := by
  obtain ⟨ps, a, l, b, c, f, g⟩ := toPys_of (st := []) (Nat.le_refl e) xs h
  refine ⟨.tuple ps, fun st m hm => ?_, by simpa [PyData.showable] using b, by simpa [PyData.hasDict] using c, by simp [PyData.depth]; omega, ?_⟩
  · obtain ⟨m, rfl⟩ : ∃ k, m = k + 1 := ⟨m - 1, by omega⟩
    unfold toPy
    simp only [a st m (by omega), Option.map_some]
  · have g2 : xs.length * (w + 2) ≤ n * (w + 2) := Nat.mul_le_mul_right _ hn
    simp only [PyData.shown]
    unfold tupleText
    rw [strLen_append, strLen_append]
    have e1 : ((("(" : String) : Str)).length = 1 := rfl
    have e3 : (((if (PyData.shownAll ps).length == 1 then ",)" else ")" : String) : Str)).length ≤ 2 := by split <;> decide
    rw [e1]
    by_cases z : PyData.shownAll ps = []
    · rw [z]
      have : (Str.join ", " []).length = 0 := rfl
      rw [z] at e3
      omega
    · have := join_length_add _ z
      omega
theorem Sh.repr {e w : Nat} {d : D} (h : Sh e w d) (he : e ≤ 60) (hw : w ≤ 100000) : ∃ t : Str, bRepr [d] = ret (.str t) := by
  obtain ⟨p, a, b, c, f, g⟩ := h
  refine ⟨p.shown, ?_⟩
  funext st
  show (bnd (py d) _) st = _
  have e1 : py d st = .ok p st := by
    unfold py
    rw [a st 60 he]
  unfold bnd
  rw [e1]
  show (if _ then _ else _ : M D) st = _
  rw [if_pos ⟨b, c, by omega, by omega⟩]
end Pm
end
section
set_option Elab.async false
set_option linter.all false
set_option maxRecDepth 100000
namespace Pm
open PySem L2
/-! ### draws, any constants -/
def bPot2 (c d e : Int) : MS := (seqS (setS (.nm 3) (bin (bin (appA (conA (appA (conA (rd 2) nilA) bAbs) nilA) bInt) (bin (bin (kon (.int 10)) (kon (.int 60)) opPow) (kon (.int 5)) opPow) opMod) (appA (conA (bin (appA (conA (rd 2) nilA) bAbs) (bin (kon (.int 10)) (kon (.int 18)) opPow) opGe) nilA) bInt) opMul)) (seqS (setS (.nm 4) (bin (appA (conA (rd 2) nilA) bInt) (kon (.int 2305843009213693951)) opMod)) (retS (lstE (conA (rd 3) (conA (bin (appA (conA (bin (bin (bin (rd 4) (kon (.int c)) opMul) (bin (bin (kon (.int d)) (rd 1) opMul) (rd 1) opMul) opAdd) (kon (.int e)) opAdd) nilA) bInt) (kon (.int 2305843009213693921)) opMod) (conA (kon (.int 0)) nilA)))))))
def bPot (ns : List Int) (a b c d e : Int) : MS := (seqS (setS (.nm 2) (ifE (tstB (bin (rd 1) (appA (conA (rd 0) nilA) (bLen ns)) opLt)) (bin (rd 0) (rd 1) (opIx ns)) (bin (bin (bin (appA (conA (appA (conA (sli (rd 0) noP (som (kon (.int 1))) (opSl ns)) nilA) bSum) nilA) bInt) (kon (.int 1000003)) opMod) (bin (kon (.int a)) (rd 1) opMul) opAdd) (kon (.int b)) opAdd))) (bPot2 c d e))
def bCells (ns : List Int) : MS := (retS (una (appA (conA (kon (.int 1)) (conA (appA (conA (rd 1) (conA (appA (conA (rd 0) nilA) (bLen ns)) nilA)) bMin) nilA)) bMax) bRg1))
def bTake (ns : List Int) (a b c d e : Int) : MS := (seqS (ifS (tstB (bin (bin (rd 0) (kon (.int 0)) (opIx ns)) (kon (.int 0)) opGt)) (seqS (setS (.nm 4) (bin (appA (conA (bin (rd 0) (kon (.int 0)) (opIx ns)) nilA) bInt) (rd 1) opMod)) (seqS (subS (bin (bin (rd 0) (kon (.int 0)) (opIx ns)) (rd 1) opFdiv) (rd 0) (kon (.int 0))) (retS (rd 4)))) nxS) (seqS (subS (bin (bin (rd 0) (kon (.int 2)) (opIx ns)) (kon (.int 1)) opAdd) (rd 0) (kon (.int 2))) (seqS (setS (.nm 2) (bin (lstE (conA (kon (.int 2147483647)) (conA (kon (.int 2147483629)) (conA (kon (.int 2147483587)) (conA (kon (.int 2147483579)) (conA (kon (.int 2147483563)) nilA)))))) (bin (appA (conA (bin (rd 0) (kon (.int 2)) (opIx ns)) nilA) bInt) (kon (.int 5)) opMod) (opIx ns))) (seqS (setS (.nm 3) (bin (appA (conA (bin (appA (conA (bin (bin (bin (rd 0) (kon (.int 1)) (opIx ns)) (bin (bin (kon (.int a)) (bin (rd 0) (kon (.int 2)) (opIx ns)) opMul) (bin (rd 0) (kon (.int 2)) (opIx ns)) opMul) opAdd) (kon (.int b)) opAdd) nilA) bInt) (kon (.int 3)) opPow) nilA) bInt) (rd 2) opMod)) (retS (bin (appA (conA (bin (bin (rd 3) (bin (bin (appA (conA (rd 3) nilA) bInt) (kon (.int c)) opMod) (bin (kon (.int d)) (bin (rd 0) (kon (.int 2)) (opIx ns)) opMul) opAdd) opMul) (kon (.int e)) opFdiv) nilA) bInt) (rd 1) opMod))))))
def Pot (l n : Nat) (st : Sto) : Prop := ∃ own seed cnt : Int, st[l]? = some (.lst [.int own, .int seed, .int cnt]) ∧ 0 ≤ own ∧ (0 ≤ seed ∧ seed < 2 ^ 61) ∧ 0 ≤ cnt ∧ cnt ≤ n
theorem Pot.lt {l n : Nat} {st : Sto} (h : Pot l n st) : l < st.length := by
  obtain ⟨_, _, _, h, _⟩ := h
  exact (List.getElem?_eq_some_iff.mp h).1
theorem Pot.fr {l n n' : Nat} {st st' : Sto} {S : List Nat} (h : Pot l n st) (f : Fr S st st') (hl : l ∉ S) (hn : n ≤ n') : Pot l n' st' := by
  obtain ⟨o, s, c, h1, h2, h3, h4, h5⟩ := h
  exact ⟨o, s, c, f.at h1 hl, h2, h3, h4, by omega⟩
structure Small (a b c d e : Int) : Prop where
  a : 0 ≤ a ∧ a < 2 ^ 20
  b : 0 ≤ b ∧ b < 2 ^ 20
  c : 0 < c ∧ c < 2 ^ 20
  d : 0 ≤ d ∧ d < 2 ^ 20
  e : 0 < e ∧ e < 2 ^ 20
@[simp] theorem bInt_int {i : Int} : bInt [.int i] = ret (.int i) := rfl
@[simp] theorem bInt_bl {k : Bool} : bInt [.bl k] = ret (.int (if k then 1 else 0)) := rfl
@[simp] theorem bAbs_int {i : Int} : bAbs [.int i] = ret (.int (if i < 0 then -i else i)) := rfl
@[simp] theorem bMax_int {i j : Int} : bMax [.int i, .int j] = ret (.int (if j > i then j else i)) := rfl
@[simp] theorem bMin_int {i j : Int} : bMin [.int i, .int j] = ret (.int (if j < i then j else i)) := rfl
@[simp] theorem bLen_scr {ns : List Int} : bLen ns [.scr] = ret (.int ns.length) := rfl
@[simp] theorem opIx_scr {ns : List Int} {i : Int} : opIx ns .scr (.int i) = ofO (atI (ns.map D.int) i) := rfl
theorem opIx_loc {ns : List Int} {l : Nat} {i : Int} : opIx ns (.loc l) (.int i) = bnd (obj l) fun o => match o with
  | .lst xs => ofO (atI xs i)
  | .dct kvs => ofO (getK kvs (.inl i))
  | .ins _ _ => no := rfl
theorem opSl_scr {ns : List Int} {lo hi : Option Int} : opSl ns .scr lo hi = alloc (cutD (ns.map D.int) lo hi) := rfl
theorem opPow_int {i j : Int} (h : CPowB i j) : opPow (.int i) (.int j) = ret (.int (i ^ j.toNat)) := by
  show (if decide (CPowB i j) = true then _ else _) = _
  rw [if_pos (decide_eq_true h)]
theorem cube_ok {x : Int} (h0 : 0 ≤ x) (h : x < 2 ^ 100) : CPowB x 3 := by
  have : Builtin.Int.intBits x ≤ 100 := intBits_le_iff.mpr (by omega)
  exact ⟨by decide, by omega⟩
theorem setI_loc {l : Nat} {i : Int} {d : D} : setI (.loc l) (.int i) d = bnd (obj l) fun o => match o with
  | .lst xs => match ixN xs.length i with
    | some j => put l (xs.set j d)
    | none => no
  | .dct kvs => if kvs.length < sizeLine then putO l (.dct (setK kvs (.inl i) d)) else no
  | .ins _ _ => no := rfl
abbrev primes : List D := [.int 2147483647, .int 2147483629, .int 2147483587, .int 2147483579, .int 2147483563]
theorem prime_at (c : Int) : ∃ p : Int, atI primes (c % 5) = some (.int p) ∧ 0 < p ∧ p < 2 ^ 31 := by
  have h0 := Int.emod_nonneg c (show (5 : Int) ≠ 0 by decide)
  have h1 := Int.emod_lt_of_pos c (show (0 : Int) < 5 by decide)
  generalize c % 5 = r at h0 h1 ⊢
  have : r = 0 ∨ r = 1 ∨ r = 2 ∨ r = 3 ∨ r = 4 := by omega
  rcases this with rfl | rfl | rfl | rfl | rfl
  all_goals exact ⟨_, rfl, by decide, by decide⟩
theorem take_spec {ns : List Int} {a b c d e : Int} (sm : Small a b c d e) {l n : Nat} {st : Sto} {u : Int} {Q : D → Sto → Prop} (hp : Pot l n st) (hn : n ≤ 1000000) (hu : 0 < u ∧ u < 2 ^ 24)
    (q : ∀ k st', (0 ≤ k ∧ k < u) → Pot l (n + 1) st' → Fr [l] st st' → Q (.int k) st') : wp (runB 5 (bTake ns a b c d e) [.loc l, .int u]) st Q := by
  obtain ⟨own, seed, cnt, h1, h2, h3, h4, h5⟩ := hp
  have hl : l < st.length := (List.getElem?_eq_some_iff.mp h1).1
  simp only [runB_eq, bTake, startE]
  simp [opIx_loc, setI_loc, wp_lst h1, wp_obj h1, atI, ixN]
  by_cases ho : 0 < own
  · simp [ho, opMod_int hu.1, opFdiv_int hu.1 (show u < 1073741824 by omega), wp_lst h1, wp_obj h1, ixN]
    exact q _ _ ⟨Int.emod_nonneg _ (by omega), Int.emod_lt_of_pos _ hu.1⟩ ⟨own / u, seed, cnt, by simp [hl], Int.ediv_nonneg h2 (by omega), h3, h4, by omega⟩ Fr.set
  · have hg : (st.set l (.lst [.int own, .int seed, .int (cnt + 1)]))[l]? = some (.lst [.int own, .int seed, .int (cnt + 1)]) := by simp [hl]
    simp [ho, wp_lst h1, wp_obj h1, wp_lst hg, wp_obj hg, ixN]
    refine ⟨small_line (by decide), ?_⟩
    have hl1 : (st.set l (.lst [.int own, .int seed, .int (cnt + 1)])).length = st.length := by simp
    have fr : Fr [l] st (st.set l (.lst [.int own, .int seed, .int (cnt + 1)])) := Fr.set
    revert hg hl1 fr
    generalize st.set l (.lst [.int own, .int seed, .int (cnt + 1)]) = s1
    intro hg hl1 fr
    have hg2 : (s1 ++ [O.lst primes])[l]? = some (.lst [.int own, .int seed, .int (cnt + 1)]) := by
      rw [List.getElem?_append_left (by omega)]; exact hg
    have hp2 : (s1 ++ [O.lst primes])[st.length]? = some (.lst primes) := by rw [← hl1]; simp
    have fr2 : Fr [l] st (s1 ++ [O.lst primes]) := fr.trans (Fr.new _)
    show wp _ (s1 ++ [O.lst primes]) _
    revert hg2 hp2 fr2
    generalize s1 ++ [O.lst primes] = s2
    intro hg2 hp2 fr2
    obtain ⟨p, ep, hp0, hp1⟩ := prime_at (cnt + 1)
    have b0 : -(2 ^ 64) < cnt + 1 ∧ cnt + 1 < 2 ^ 64 := by omega
    obtain ⟨⟨a0, a1⟩, ⟨b1, b2⟩, ⟨c0, c1⟩, ⟨d0, d1⟩, ⟨e0, e1⟩⟩ := sm
    have hx0 : 0 ≤ a * (cnt + 1) * (cnt + 1) := Int.mul_nonneg (Int.mul_nonneg a0 (by omega)) (by omega)
    have hx1 : a * (cnt + 1) * (cnt + 1) ≤ 2 ^ 20 * 2 ^ 20 * 2 ^ 20 := by
      have i1 : a * (cnt + 1) ≤ 2 ^ 20 * 2 ^ 20 := Int.mul_le_mul (by omega) (by omega) (by omega) (by decide)
      exact Int.mul_le_mul i1 (by omega) (by omega) (by decide)
    have hpow := cube_ok (x := seed + a * (cnt + 1) * (cnt + 1) + b) (by omega) (by omega)
    simp [wp_lst hg2, wp_obj hg2, opIx_loc, opMod_int (show (0 : Int) < 5 by decide), wp_lst hp2, wp_obj hp2, ep, opMul_int (.inr b0), opPow_int hpow, opMod_int hp0, opMod_int c0]
    generalize hB : (seed + a * (cnt + 1) * (cnt + 1) + b) ^ 3 % p = B
    have hB0 : 0 ≤ B ∧ B < p := by
      rw [← hB]
      exact ⟨Int.emod_nonneg _ (by omega), Int.emod_lt_of_pos _ hp0⟩
    simp [opMul_int (a := B) (.inl (show -(2 ^ 64) < B ∧ B < 2 ^ 64 by omega)), opFdiv_int e0 (show e < 1073741824 by omega), opMod_int hu.1]
    exact q _ _ ⟨Int.emod_nonneg _ (by omega), Int.emod_lt_of_pos _ hu.1⟩ ⟨own, seed, cnt + 1, hg2, h2, h3, by omega, by omega⟩ fr2
theorem cutD_ints (l : List Int) (lo hi : Option Int) : cutD (l.map D.int) lo hi = (cutD l lo hi).map D.int := by
  simp [cutD, List.map_drop, List.map_take]
theorem bSum_new {l : List Int} {st : Sto} {Q : D → Sto → Prop} : wp (bSum [.loc st.length]) (st ++ [.lst (l.map .int)]) Q = Q (.int l.sum) (st ++ [.lst (l.map .int)]) := by
  simp [bSum, intsOf_ints]
theorem big_ok : CPowB 10 60 ∧ CPowB (10 ^ 60) 5 ∧ CPowB 10 18 := by
  have h1 : Builtin.Int.intBits (10 : Int) ≤ 4 := intBits_le_iff.mpr (by decide)
  have h2 : Builtin.Int.intBits ((10 : Int) ^ 60) ≤ 200 := intBits_le_iff.mpr (by decide)
  exact ⟨⟨by decide, by omega⟩, ⟨by decide, by omega⟩, ⟨by decide, by omega⟩⟩
theorem pow60 : (10 : Int) ^ 60 = 1000000000000000000000000000000000000000000000000000000000000 := by decide
theorem pow300 : ∃ N : Int, 0 < N ∧ opPow (.int 1000000000000000000000000000000000000000000000000000000000000) (.int 5) = ret (.int N) := by
  refine ⟨(10 ^ 60) ^ 5, Int.pow_pos (Int.pow_pos (by decide)), ?_⟩
  rw [← pow60, opPow_int big_ok.2.1]
  rfl
theorem pot_spec {ns : List Int} {a b c d e : Int} (sm : Small a b c d e) {p : Int} (hp : 0 ≤ p ∧ p < 64) {st : Sto} {Q : D → Sto → Prop}
    (q : ∀ l st', Pot l 0 st' → st.length ≤ l → Fr [] st st' → Q (.loc l) st') : wp (runB 5 (bPot ns a b c d e) [.scr, .int p]) st Q := by
  obtain ⟨⟨a0, a1⟩, ⟨b1, b2⟩, ⟨c0, c1⟩, ⟨d0, d1⟩, ⟨e0, e1⟩⟩ := sm
  obtain ⟨k1, k2, k3⟩ := big_ok
  obtain ⟨N, hN, k2⟩ := pow300
  have rest : ∀ (cell : Int) (s : Sto), Fr [] st s → wp (bnd ((bPot2 c d e) [some .scr, some (.int p), some (.int cell), none, none]) fin) s Q := by
    intro cell s fr
    have i0 : ∀ k : Prop, ∀ _ : Decidable k, -(2 ^ 64) < (if k then (1 : Int) else 0) ∧ (if k then (1 : Int) else 0) < 2 ^ 64 := fun k _ => by split <;> decide
    have i0' : ∀ k : Prop, ∀ _ : Decidable k, 0 ≤ (if k then (1 : Int) else 0) := fun k _ => by split <;> decide
    have i1 : -(2 ^ 64) < p ∧ p < 2 ^ 64 := by omega
    have i2 : -(2 ^ 64) < c ∧ c < 2 ^ 64 := by omega
    simp [bPot2, opPow_int k1, k2, opPow_int k3, show (60 : Int).toNat = 60 from rfl, show (18 : Int).toNat = 18 from rfl, opMod_int hN, opMod_int (show (0 : Int) < 2305843009213693951 by decide), opMod_int (show (0 : Int) < 2305843009213693921 by decide), opMul_int (.inr i1), opMul_int (.inr i2)]
    rw [opMul_int (.inr (i0 _ _))]
    simp
    refine ⟨small_line (by decide), ?_⟩
    refine q _ _ ⟨_, _, 0, by simp; exact ⟨rfl, rfl⟩, ?_, ?_, by decide, by decide⟩ fr.1 (fr.trans (Fr.new _))
    · exact Int.mul_nonneg (Int.emod_nonneg _ (by omega)) (i0' _ _)
    · have h0 := Int.emod_nonneg (cell % 2305843009213693951 * c + d * p * p + e) (show (2305843009213693921 : Int) ≠ 0 by decide)
      have h1 := Int.emod_lt_of_pos (cell % 2305843009213693951 * c + d * p * p + e) (show (0 : Int) < 2305843009213693921 by decide)
      exact ⟨h0, by omega⟩
  simp only [runB_eq, bPot, startE]
  rw [show ∀ {s1 s2 : MS} {ρ : En}, seqS s1 s2 ρ = bnd (s1 ρ) fun x => match x.1 with
    | .nx => s2 x.2
    | _ => ret x from rfl, bnd_bnd, wp_bnd]
  by_cases hlt : p < ns.length
  · obtain ⟨v, hv⟩ : ∃ v, atI (ns.map D.int) p = some (D.int v) := by
      refine ⟨ns[p.toNat]'(by omega), ?_⟩
      unfold atI ixN
      rw [if_pos hp.1, if_pos (by simpa using hlt)]
      simp
    simp [hlt, hv]
    have := rest v st Fr.refl
    rw [wp_bnd] at this
    exact this
  · simp [hlt, opSl_scr, cutD_ints]
    rw [bSum_new]
    simp [opMod_int (show (0 : Int) < 1000003 by decide), opMul_int (.inr (show -(2 ^ 64) < p ∧ p < 2 ^ 64 by omega))]
    have := rest ((cutD ns none (some 1)).sum % 1000003 + a * p + b) _ (Fr.new [.lst ((cutD ns none (some 1)).map D.int)])
    rw [wp_bnd] at this
    exact this
theorem cells_spec {ns : List Int} (hn : ns.length ≤ 63) {L : Int} (hL : 1 ≤ L ∧ L ≤ 60) {st : Sto} {Q : D → Sto → Prop}
    (q : ∀ k : Nat, 1 ≤ k ∧ k ≤ 60 → Q (.loc st.length) (st ++ [.lst ((List.range k).map fun i : Nat => .int (i : Int))])) : wp (runB 2 (bCells ns) [.scr, .int L]) st Q := by
  simp [runB_eq, bCells, startE]
  generalize hm : (if (if (ns.length : Int) < L then (ns.length : Int) else L) > 1 then (if (ns.length : Int) < L then (ns.length : Int) else L) else 1) = m
  have h1 : 1 ≤ m ∧ m ≤ 60 := by
    rw [← hm]
    split <;> split <;> omega
  simp [bRg1, show -4611686018427387904 ≤ m ∧ m ≤ 16777216 by omega]
  exact q m.toNat (by omega)
/-- the law over some cells -/
def bLawAll (ns : List Int) (L : Int) (mc mp mr : List D → M D) : MS := (retS (appA (conA (lcE (iterA (calE (conA (rd 0) (conA (kon (.int L)) nilA)) (ofLen 2 mc))) (.nm 1) yesT (calE (conA (calE (conA (rd 0) (conA (rd 1) nilA)) (ofLen 2 mp)) nilA) (ofLen 1 mr)) [1]) nilA) bAll))
theorem law_all {ns : List Int} {L : Int} {mp mr : List D → M D} {a b c d e : Int} (hn : ns.length ≤ 63) (hL : 1 ≤ L ∧ L ≤ 60) (hp : mp = runB 5 (bPot ns a b c d e)) (sm : Small a b c d e)
    (hr : ∀ l st, Pot l 0 st → wp (mr [.loc l]) st fun r st' => r = .bl true ∧ Fr [l] st st') : ∃ st, runB 2 (bLawAll ns L (runB 2 (bCells ns)) mp mr) [.scr] [] = .ok (.bl true) st := by
  suffices h : wp (runB 2 (bLawAll ns L (runB 2 (bCells ns)) mp mr) [.scr]) [] fun r _ => r = .bl true by
    obtain ⟨r, st, e1, e2⟩ := wp_ok h
    exact ⟨st, by rw [e1, e2]⟩
  rw [runB_eq]
  simp [bLawAll, startE]
  refine cells_spec hn hL fun k hk => ?_
  simp only [List.length_nil]
  rw [wp_seqA (xs := (List.range k).map fun i : Nat => .int (i : Int)) (by simp)]
  simp only [wipeE]
  refine wp_lcL (fun i acc s => acc = List.replicate i (.bl true) ∧ i ≤ 60 ∧ s[0]? = some (.lst ((List.range k).map fun i : Nat => .int (i : Int)))) _ 0 [] _ ⟨rfl, by decide, by simp⟩ (fun j x acc s hj hI => ?_) fun acc s hI => ?_
  · obtain ⟨h1, h2, h3⟩ := hI
    have hjk : j < k := by
      have := (List.getElem?_eq_some_iff.mp hj).1
      simpa using this
    have hx : x = .int (j : Int) := by
      rw [List.getElem?_map, List.getElem?_range hjk] at hj
      simpa using hj.symm
    subst hx
    refine ⟨decide_eq_true h3, _, by simp; rfl, ?_⟩
    simp
    rw [hp]
    refine pot_spec sm (by omega) fun l s1 pt hl fr => ?_
    refine wp_mono (hr l s1 pt) fun r s2 ⟨hr1, hr2⟩ => ?_
    have hs : 0 < s.length := (List.getElem?_eq_some_iff.mp h3).1
    refine ⟨Nat.lt_of_lt_of_le (show acc.length < 100 by rw [h1]; simp; omega) (small_line (by decide)), by rw [h1, hr1, ← List.replicate_succ']; simp, by omega, hr2.at (fr.at h3 (by simp)) (by simp; omega)⟩
  · obtain ⟨h1, h2, h3⟩ := hI
    refine ⟨decide_eq_true h3, ?_⟩
    rw [h1]
    simp
end Pm
end
section
set_option Elab.async false
set_option linter.all false
set_option maxRecDepth 100000
namespace Pm
open PySem L2
theorem wp_isL {l : Nat} {xs : List D} {st : Sto} {Q : Unit → Sto → Prop} (h : st[l]? = some (.lst xs)) : wp (isL (.loc l)) st Q = Q () st := by
  show wp (bnd (lst l) _) st Q = _
  rw [wp_bnd, wp_lst h]
  rfl
theorem wp_append {l : Nat} {xs : List D} {d : D} {st : Sto} {Q : D → Sto → Prop} (h : st[l]? = some (.lst xs)) (hn : xs.length < 100000) : wp (mAppend (.loc l) [d]) st Q = Q .non (st.set l (.lst (xs ++ [d]))) := by
  show wp (bnd (lst l) _) st Q = _
  rw [wp_bnd, wp_lst h, if_pos (Nat.lt_of_lt_of_le hn (small_line (Nat.le_refl _)))]
  simp
theorem range_fm {α : Type} (g : Nat → Option α) (j : Nat) : (List.range (j + 1)).filterMap g = (List.range j).filterMap g ++ (g j).toList := by
  rw [List.range_succ, List.filterMap_append]
  cases h : g j <;> simp [h]
theorem Fr.old {S : List Nat} {st s1 : Sto} {g : Sto} (h : Fr S (st ++ g) s1) (hS : ∀ k ∈ S, st.length ≤ k) : Fr [] st s1 :=
  ⟨Nat.le_trans (by simp) h.1, fun k hk _ => (h.2 k (by simp; omega) fun z => absurd (hS k z) (by omega)).trans (List.getElem?_append_left hk)⟩
theorem Fr.up {S : List Nat} {st s1 : Sto} (h : Fr [] st s1) : Fr S st s1 := h.mono (by simp)
/-- from a mark on -/
theorem Fr.from' {S : List Nat} {st s s1 : Sto} (a : Fr [] st s) (b : Fr S s s1) (hS : ∀ k ∈ S, st.length ≤ k) : Fr [] st s1 :=
  ⟨Nat.le_trans a.1 b.1, fun k hk n => (b.2 k (Nat.lt_of_lt_of_le hk a.1) fun z => absurd (hS k z) (by omega)).trans (a.2 k hk n)⟩
end Pm
end
section
set_option Elab.async false
set_option linter.all false
set_option maxRecDepth 100000
namespace Pm
open PySem L2
def bOf (ns : List Int) (mt : List D → M D) : MS := (retS (bin (rd 1) (calE (conA (rd 0) (conA (appA (conA (rd 1) nilA) (bLen ns)) nilA)) (ofLen 2 mt)) (opIx ns)))
@[simp] theorem bLen_loc {ns : List Int} {l : Nat} : bLen ns [.loc l] = bnd (obj l) fun o => match o with
  | .lst xs => ret (.int xs.length)
  | .dct kvs => ret (.int kvs.length)
  | .ins _ _ => no := rfl
theorem of_spec {ns : List Int} {a b c d e : Int} {mt : List D → M D} (hm : mt = runB 5 (bTake ns a b c d e)) (sm : Small a b c d e) {l m n : Nat} {st : Sto} {xs : List D} {Q : D → Sto → Prop} (hp : Pot l n st) (hn : n ≤ 1000000) (hx : st[m]? = some (.lst xs)) (hml : m ≠ l) (h1 : 0 < xs.length ∧ xs.length < 2 ^ 24)
    (q : ∀ x st', x ∈ xs → Pot l (n + 1) st' → Fr [l] st st' → Q x st') : wp (runB 2 (bOf ns mt) [.loc l, .loc m]) st Q := by
  simp [runB_eq, bOf, startE, wp_lst hx, wp_obj hx]
  rw [hm]
  refine take_spec sm hp hn (by omega) fun k st' hk p' fr => ?_
  have hx' := fr.at hx (by simpa using hml)
  obtain ⟨x, hx1⟩ : ∃ x, xs[k.toNat]? = some x := ⟨xs[k.toNat]'(by omega), by simp⟩
  have e : atI xs k = some x := by
    unfold atI ixN
    rw [if_pos hk.1, if_pos hk.2]
    exact hx1
  simp [opIx_loc, wp_lst hx', wp_obj hx', e]
  exact q x st' (List.mem_of_getElem? hx1) p' fr
theorem okR_small {j : Int} (h0 : -1000000 ≤ j) (h1 : j ≤ 1000000) : okR j = true := by
  unfold okR
  refine decide_eq_true ?_
  rcases Nat.eq_zero_or_pos j.natAbs with z | z
  · rw [z]; decide
  · exact (Nat.log2_lt (by omega)).mpr (Nat.lt_of_lt_of_le (show j.natAbs < 2 ^ 20 by omega) (by decide))
end Pm
end
section
set_option Elab.async false
set_option linter.all false
set_option maxRecDepth 100000
namespace Pm
open PySem L2
/-! ### plain data: None, ints, texts, tuples of them -/
mutual
def pyD : D → PyData
  | .int i => .int i
  | .str s => .str s
  | .tup xs => .tuple (pyDs xs)
  | _ => .none
def pyDs : List D → List PyData
  | [] => []
  | x :: xs => pyD x :: pyDs xs
end
mutual
/-- plain, of at most this depth -/
def plD : Nat → D → Bool
  | 0, _ => false
  | _ + 1, .non => true
  | _ + 1, .int _ => true
  | _ + 1, .str s => PySem.PyData.canLay0 (.str s)
  | n + 1, .tup xs => plDs n xs
  | _, _ => false
def plDs : Nat → List D → Bool
  | _, [] => true
  | n, x :: xs => plD n x && plDs n xs
end
mutual
theorem eqv_pl : ∀ (n : Nat) (d : D) (m : Nat) (e : D), plD n d = true → plD m e = true → PyData.eqv (pyD d) (pyD e) = decide (d = e)
  | n + 1, .non, m + 1, e, _, h => by cases e <;> simp_all [pyD, PyData.eqv, plD]
  | n + 1, .int i, m + 1, e, _, h => by
    cases e with
    | int j =>
      simp only [pyD, PyData.eqv]
      rw [decI]
      rfl
    | _ => simp_all [pyD, PyData.eqv, plD]
  | n + 1, .str x, m + 1, e, _, h => by
    cases e with
    | str y =>
      simp only [pyD, PyData.eqv]
      rw [decS]
      by_cases z : x = y
      · subst z; simp
      · rw [decide_eq_false z]; exact beq_eq_false_iff_ne.mpr z
    | _ => simp_all [pyD, PyData.eqv, plD]
  | n + 1, .tup xs, m + 1, e, g, h => by
    cases e with
    | tup ys =>
      simp only [pyD, PyData.eqv]
      rw [eqv_pls n xs m ys (by simpa [plD] using g) (by simpa [plD] using h)]
      by_cases z : xs = ys
      · rw [decide_eq_true z, decide_eq_true (by rw [z])]
      · rw [decide_eq_false z, decide_eq_false fun q => z (D.tup.inj q)]
    | _ => simp_all [pyD, PyData.eqv, plD]
  | n + 1, .bl _, _, _, g, _ => by simp [plD] at g
  | n + 1, .loc _, _, _, g, _ => by simp [plD] at g
  | n + 1, .scr, _, _, g, _ => by simp [plD] at g
  | 0, _, _, _, g, _ => by simp [plD] at g
  | _, _, 0, _, _, h => by simp [plD] at h
theorem eqv_pls : ∀ (n : Nat) (xs : List D) (m : Nat) (ys : List D), plDs n xs = true → plDs m ys = true → PyData.eqvAll (pyDs xs) (pyDs ys) = decide (xs = ys)
  | _, [], _, [], _, _ => by simp [pyDs, PyData.eqvAll]
  | _, [], _, _ :: _, _, _ => by simp [pyDs, PyData.eqvAll]
  | _, _ :: _, _, [], _, _ => by simp [pyDs, PyData.eqvAll]
  | n, x :: xs, m, y :: ys, g, h => by
    rw [plDs, Bool.and_eq_true] at g h
    simp only [pyDs, PyData.eqvAll]
    rw [eqv_pl n x m y g.1 h.1, eqv_pls n xs m ys g.2 h.2, ← Bool.decide_and]
    simp only [List.cons.injEq]
end
mutual
theorem toPy_pl (st : Sto) : ∀ (n m : Nat) (d : D), n ≤ m → plD n d = true → toPy st m d = some (pyD d) ∧ PyData.canLay0 (pyD d) = true ∧ PyData.depth (pyD d) ≤ n
  | n + 1, m + 1, .non, _, _ => ⟨rfl, rfl, by simp [pyD, PyData.depth]⟩
  | n + 1, m + 1, .int i, _, _ => ⟨rfl, rfl, by simp [pyD, PyData.depth]⟩
  | n + 1, m + 1, .str x, _, h => ⟨rfl, (show PyData.canLay0 (.str x) = true from by simpa [plD] using h), by simp [pyD, PyData.depth]⟩
  | n + 1, m + 1, .tup xs, hm, h => by
    obtain ⟨h1, h2, h3⟩ := toPys_pl st n m xs (by omega) (by simpa [plD] using h)
    refine ⟨?_, by simpa [pyD, PyData.canLay0] using h2, by simp [pyD, PyData.depth]; omega⟩
    unfold toPy
    simp only [h1, Option.map_some, pyD]
  | n + 1, _, .bl _, _, g => by simp [plD] at g
  | n + 1, _, .loc _, _, g => by simp [plD] at g
  | n + 1, _, .scr, _, g => by simp [plD] at g
  | 0, _, _, _, g => by simp [plD] at g
  | n + 1, 0, _, hm, _ => by omega
theorem toPys_pl (st : Sto) : ∀ (n m : Nat) (xs : List D), n ≤ m → plDs n xs = true → toPys (toPy st m) xs = some (pyDs xs) ∧ PyData.canLayAll0 (pyDs xs) = true ∧ PyData.depthAll (pyDs xs) ≤ n
  | n, m, [], _, _ => ⟨rfl, rfl, by simp [pyDs, PyData.depthAll]⟩
  | n, m, x :: xs, hm, h => by
    rw [plDs, Bool.and_eq_true] at h
    obtain ⟨a1, a2, a3⟩ := toPy_pl st n m x hm h.1
    obtain ⟨b1, b2, b3⟩ := toPys_pl st n m xs hm h.2
    refine ⟨by unfold toPys; rw [a1, b1]; rfl, by simp [pyDs, PyData.canLayAll0, a2, b2], by simp [pyDs, PyData.depthAll]; omega⟩
end
theorem py_pl {n : Nat} {d : D} (hn : n ≤ 60) (h : plD n d = true) : py d = ret (pyD d) := by
  funext st
  unfold py
  rw [(toPy_pl st n 60 d hn h).1]
  rfl
theorem shaped_pl {n : Nat} {d : D} (hn : n ≤ 60) (h : plD n d = true) : SeqAt.shaped (pyD d) = true := by
  obtain ⟨_, h1, h2⟩ := toPy_pl [] n 60 d hn h
  unfold SeqAt.shaped
  rw [h1, decide_eq_true (show PyData.depth (pyD d) ≤ 64 by omega)]
  rfl
theorem opEq_pl {n m : Nat} {d e : D} (hn : n ≤ 60) (hm : m ≤ 60) (h1 : plD n d = true) (h2 : plD m e = true) : opEq d e = ret (.bl (decide (d = e))) := by
  unfold opEq
  by_cases hs : scD d e = true
  · rw [if_pos hs]
  · rw [if_neg hs, py_pl hn h1, py_pl hm h2]
    show (if (SeqAt.shaped (pyD d) && SeqAt.shaped (pyD e)) = true then _ else _) = _
    rw [if_pos (by rw [shaped_pl hn h1, shaped_pl hm h2]; rfl), eqv_pl n d m e h1 h2]
theorem opNe_pl {n m : Nat} {d e : D} (hn : n ≤ 60) (hm : m ≤ 60) (h1 : plD n d = true) (h2 : plD m e = true) : opNe d e = ret (.bl (!decide (d = e))) := by
  unfold opNe
  by_cases hs : scD d e = true
  · rw [if_pos hs]
  · rw [if_neg hs, py_pl hn h1, py_pl hm h2]
    show (if (SeqAt.shaped (pyD d) && SeqAt.shaped (pyD e)) = true then _ else _) = _
    rw [if_pos (by rw [shaped_pl hn h1, shaped_pl hm h2]; rfl), eqv_pl n d m e h1 h2]
end Pm
end
section
set_option Elab.async false
set_option linter.all false
set_option maxRecDepth 100000
namespace Pm
open PySem L2
theorem wp_lcMap {ok : Sto → Bool} {p : Pat} {e : ME} {ρ : En} {st : Sto} {Q : List D → Sto → Prop} (g : D → D) (xs : List D) (hok : ∀ s, Fr [] st s → ok s = true) (hl : xs.length ≤ 100000)
    (h : ∀ x ∈ xs, ∀ s, Fr [] st s → ∃ ρ1, bindP p x ρ = some ρ1 ∧ wp (e ρ1) s fun y s' => y = g x ∧ Fr [] s s') (q : ∀ st', Fr [] st st' → Q (xs.map g) st') : wp (lcL ok p yesT e ρ xs []) st Q := by
  refine wp_lcL (fun i a s => Fr [] st s ∧ i ≤ xs.length ∧ a = (xs.take i).map g) xs 0 [] st ⟨Fr.refl, Nat.zero_le _, by simp⟩ (fun j x a s hj ⟨fr, hi, ea⟩ => ⟨hok s fr, ?_⟩) fun a s ⟨fr, hi, ea⟩ => ⟨hok s fr, ?_⟩
  · have hj1 : j < xs.length := (List.getElem?_eq_some_iff.mp hj).1
    obtain ⟨ρ1, h1, h2⟩ := h x (List.mem_of_getElem? hj) s fr
    refine ⟨ρ1, h1, ?_⟩
    simp only [ap_yesT, wp_ret, if_true]
    refine wp_mono h2 fun y s' ⟨ey, fr'⟩ => ?_
    have tk : xs.take (0 + j + 1) = xs.take (0 + j) ++ [x] := by
      rw [Nat.zero_add, List.take_add_one, hj]; rfl
    exact ⟨Nat.lt_of_le_of_lt (show a.length ≤ 99999 by rw [ea]; simp; omega) (by rw [sizeLine_eq]; decide), fr.trans fr', by omega, by rw [tk, List.map_append, ea, ey]; rfl⟩
  · rw [ea]
    simp only [Nat.zero_add, List.take_length]
    exact q s fr
theorem blsOf_f (f : D → Bool) : ∀ xs : List D, blsOf (xs.map fun x => D.bl (f x)) = some (xs.map f)
  | [] => rfl
  | x :: xs => by simp [blsOf, blsOf_f f xs]
theorem wp_bAll_f {f : D → Bool} {xs : List D} {st : Sto} {Q : D → Sto → Prop} : wp (bAll [.loc st.length]) (st ++ [.lst (xs.map fun x => D.bl (f x))]) Q = Q (.bl (xs.all f)) (st ++ [.lst (xs.map fun x => D.bl (f x))]) := by
  show wp (bnd (lst st.length) _) _ Q = _
  rw [wp_bnd, wp_lst_new]
  simp [blsOf_f, List.all_map]
theorem py_lst {a l : Nat} {xs : List D} {st : Sto} (ha : a ≤ 50) (hl : st[l]? = some (.lst xs)) (h : plDs a xs = true) : py (.loc l) st = .ok (.list (pyDs xs)) st ∧ SeqAt.shaped (.list (pyDs xs)) = true := by
  obtain ⟨h1, h2, h3⟩ := toPys_pl st a 59 xs (by omega) h
  constructor
  · unfold py
    have e : toPy st 60 (.loc l) = some (.list (pyDs xs)) := by
      unfold toPy
      simp only [hl, h1, Option.map_some]
    rw [e]
  · unfold SeqAt.shaped
    rw [show PyData.canLay0 (.list (pyDs xs)) = true by simpa [PyData.canLay0] using h2, decide_eq_true (show PyData.depth (.list (pyDs xs)) ≤ 64 by simp [PyData.depth]; omega)]
    rfl
theorem wp_eqLL {a b l m : Nat} {xs ys : List D} {st : Sto} {Q : D → Sto → Prop} (ha : a ≤ 50) (hb : b ≤ 50) (hl : st[l]? = some (.lst xs)) (hm : st[m]? = some (.lst ys)) (h1 : plDs a xs = true) (h2 : plDs b ys = true) : wp (opEq (.loc l) (.loc m)) st Q = Q (.bl (decide (xs = ys))) st := by
  obtain ⟨e1, s1⟩ := py_lst ha hl h1
  obtain ⟨e2, s2⟩ := py_lst hb hm h2
  have e : opEq (.loc l) (.loc m) st = .ok (.bl (decide (xs = ys))) st := by
    show (bnd (py (.loc l)) fun p => bnd (py (.loc m)) fun q => if SeqAt.shaped p && SeqAt.shaped q then ret (D.bl (PyData.eqv p q)) else no) st = _
    unfold bnd
    simp only [e1, e2]
    rw [s1, s2]
    show (.ok (D.bl (PyData.eqv (.list (pyDs xs)) (.list (pyDs ys)))) st : Res D) = _
    simp only [PyData.eqv]
    rw [eqv_pls a xs b ys h1 h2]
  unfold wp
  rw [e]
end Pm
end
section
set_option Elab.async false
set_option linter.all false
set_option maxRecDepth 100000
namespace Pm
open PySem L2
theorem get_app {st g : Sto} {n : Nat} (k : Nat) (h : n = st.length + k) : (st ++ g)[n]? = g[k]? := by
  subst h
  rw [List.getElem?_append_right (by omega)]
  congr 1
  omega
theorem wp_extend {l m : Nat} {xs ys : List D} {st : Sto} {Q : D → Sto → Prop} (h : st[l]? = some (.lst xs)) (h2 : st[m]? = some (.lst ys)) (hn : xs.length + ys.length ≤ 100000) : wp (mExtend (.loc l) [.loc m]) st Q = Q .non (st.set l (.lst (xs ++ ys))) := by
  show wp (bnd (lst l) _) st Q = _
  rw [wp_bnd, wp_lst h, wp_bnd, wp_lst h2, if_pos (small_line hn)]
  simp
theorem wp_addL {l m : Nat} {xs ys : List D} {st : Sto} {Q : D → Sto → Prop} (h : st[l]? = some (.lst xs)) (h2 : st[m]? = some (.lst ys)) (hn : xs.length + ys.length ≤ 100000) : wp (opAdd (.loc l) (.loc m)) st Q = Q (.loc st.length) (st ++ [.lst (xs ++ ys)]) := by
  show wp (bnd (lst l) _) st Q = _
  rw [wp_bnd, wp_lst h, wp_bnd, wp_lst h2, if_pos (small_line hn)]
  simp
theorem rng1_ok {f : ME} {ρ : En} {n : Int} (h : f ρ = ret (.int n)) (h0 : -1000000 ≤ n ∧ n ≤ 1000000) : rng1 f ρ = ret (rngI 0 n) := by
  show (bnd (f ρ) fun d => match d with
    | .int j => if okR j then ret (rngI 0 j) else no
    | _ => no) = _
  rw [h]
  show (if okR n = true then ret (rngI 0 n) else no) = _
  rw [okR_small h0.1 h0.2, if_pos rfl]
/-- a statement that is not unfolded -/
structure Wp {α : Type} (m : M α) (st : Sto) (Q : α → Sto → Prop) : Prop where
  go : wp m st Q
theorem Wp.mono {α : Type} {m : M α} {st : Sto} {Q Q' : α → Sto → Prop} (h : Wp m st Q) (i : ∀ a st', Q a st' → Q' a st') : wp m st Q' := wp_mono h.go i
/-- pieces of a law: repr of one bool -/
theorem repr_bl (b : Bool) : ∃ t : Str, bRepr [.bl b] = ret (.str t) := (Sh.bl (b := b)).repr (by decide) (by decide)
end Pm
end
section
set_option Elab.async false
set_option linter.all false
set_option maxRecDepth 100000
namespace Pm
open PySem L2
/-! ### in of flat things -/
theorem eqV_str {a b : Str} : eqV (.str a) (.str b) = decide (a = b) := by
  show (a == b) = _
  by_cases h : a = b
  · subst h; simp
  · rw [decide_eq_false h]; exact beq_eq_false_iff_ne.mpr h
theorem eqV_int {a b : Int} : eqV (.int a) (.int b) = decide (a = b) := by
  show (a == b) = _
  by_cases h : a = b
  · subst h; simp
  · rw [decide_eq_false h]; exact beq_eq_false_iff_ne.mpr h
theorem inD_str (a : Str) : ∀ ls : List Str, inD (.str a) (ls.map .str) = decide (a ∈ ls)
  | [] => by simp [inD]
  | b :: ls => by
    have ih := inD_str a ls
    unfold inD at ih ⊢
    rw [List.map_cons, List.any_cons, ih]
    show (eqV (.str b) (.str a) || _) = _
    rw [eqV_str]
    by_cases h : b = a
    · subst h; simp
    · have h' : ¬ a = b := fun e => h e.symm
      simp [h, h']
theorem inD_int (a : Int) : ∀ ls : List Int, inD (.int a) (ls.map .int) = decide (a ∈ ls)
  | [] => by simp [inD]
  | b :: ls => by
    have ih := inD_int a ls
    unfold inD at ih ⊢
    rw [List.map_cons, List.any_cons, ih]
    show (eqV (.int b) (.int a) || _) = _
    rw [eqV_int]
    by_cases h : b = a
    · subst h; simp
    · have h' : ¬ a = b := fun e => h e.symm
      simp [h, h']
theorem flats_str (ls : List Str) : (ls.map D.str).all flatD = true := by
  rw [List.all_map, List.all_eq_true]
  intro _ _
  rfl
theorem flats_int (ls : List Int) : (ls.map D.int).all flatD = true := by
  rw [List.all_map, List.all_eq_true]
  intro _ _
  rfl
theorem opIn_strT {a : Str} {ls : List Str} : opIn (.str a) (.tup (ls.map .str)) = ret (.bl (decide (a ∈ ls))) := by
  show (if flatD (.str a) = true ∧ (ls.map D.str).all flatD = true then ret (D.bl (if false = true then !inD (.str a) (ls.map .str) else inD (.str a) (ls.map .str))) else no) = _
  rw [if_pos ⟨rfl, flats_str ls⟩, if_neg (by simp), inD_str]
theorem opNotIn_strT {a : Str} {ls : List Str} : opNotIn (.str a) (.tup (ls.map .str)) = ret (.bl (!decide (a ∈ ls))) := by
  show (if flatD (.str a) = true ∧ (ls.map D.str).all flatD = true then ret (D.bl (if true = true then !inD (.str a) (ls.map .str) else inD (.str a) (ls.map .str))) else no) = _
  rw [if_pos ⟨rfl, flats_str ls⟩, if_pos rfl, inD_str]
theorem opIn_intT {a : Int} {ls : List Int} : opIn (.int a) (.tup (ls.map .int)) = ret (.bl (decide (a ∈ ls))) := by
  show (if flatD (.int a) = true ∧ (ls.map D.int).all flatD = true then ret (D.bl (if false = true then !inD (.int a) (ls.map .int) else inD (.int a) (ls.map .int))) else no) = _
  rw [if_pos ⟨rfl, flats_int ls⟩, if_neg (by simp), inD_int]
theorem opNotIn_intT {a : Int} {ls : List Int} : opNotIn (.int a) (.tup (ls.map .int)) = ret (.bl (!decide (a ∈ ls))) := by
  show (if flatD (.int a) = true ∧ (ls.map D.int).all flatD = true then ret (D.bl (if true = true then !inD (.int a) (ls.map .int) else inD (.int a) (ls.map .int))) else no) = _
  rw [if_pos ⟨rfl, flats_int ls⟩, if_pos rfl, inD_int]
theorem wp_inL {a : Int} {ls : List Int} {l : Nat} {st : Sto} {Q : D → Sto → Prop} (h : st[l]? = some (.lst (ls.map .int))) : wp (opIn (.int a) (.loc l)) st Q = Q (.bl (decide (a ∈ ls))) st := by
  show wp (bnd (obj l) fun o => match o with
    | .lst xs => if flatD (.int a) = true ∧ xs.all flatD = true then ret (D.bl (if false = true then !inD (.int a) xs else inD (.int a) xs)) else no
    | .dct kvs => _
    | .ins _ _ => no) st Q = _
  rw [wp_bnd, wp_obj h]
  simp only
  rw [if_pos ⟨rfl, flats_int ls⟩, if_neg (by simp), inD_int]
  rfl
@[simp] theorem ap_zipI {f g : ME} {ρ : En} : zipI f g ρ = bnd (f ρ) fun d => bnd (g ρ) fun e => zipD d e := rfl
@[simp] theorem zipD_tup {xs ys : List D} : zipD (.tup xs) (.tup ys) = ret ⟨zipL xs ys, fun _ => true⟩ := rfl
@[simp] theorem wp_bSortX_new {ns : List Int} {st : Sto} {Q : D → Sto → Prop} : wp (bSortX [.loc st.length]) (st ++ [.lst (ns.map .int)]) Q = Q (.loc (st.length + 1)) (st ++ [.lst (ns.map .int)] ++ [.lst ((isort ns).map .int)]) := by
  show wp (bnd (lst st.length) srtX) _ Q = _
  rw [wp_bnd, wp_lst_new]
  unfold srtX
  simp only [intsOf_ints]
  simp
/-! ### all, any of a comprehension -/
theorem wp_bAny_f {f : D → Bool} {xs : List D} {st : Sto} {Q : D → Sto → Prop} : wp (bAny [.loc st.length]) (st ++ [.lst (xs.map fun x => D.bl (f x))]) Q = Q (.bl (xs.any f)) (st ++ [.lst (xs.map fun x => D.bl (f x))]) := by
  show wp (bnd (lst st.length) _) _ Q = _
  rw [wp_bnd, wp_lst_new]
  simp [blsOf_f, List.any_map]
theorem wp_allC {ok : Sto → Bool} {p : Pat} {e : ME} {ρ : En} {st : Sto} {Q : D → Sto → Prop} (f : D → Bool) (xs : List D) (hok : ∀ s, Fr [] st s → ok s = true) (hl : xs.length ≤ 100000)
    (h : ∀ x ∈ xs, ∀ s, Fr [] st s → ∃ ρ1, bindP p x ρ = some ρ1 ∧ wp (e ρ1) s fun y s' => y = .bl (f x) ∧ Fr [] s s') (q : ∀ st', Fr [] st st' → Q (.bl (xs.all f)) st') :
    wp (lcL ok p yesT e ρ xs []) st fun a st' => wp (bAll [.loc st'.length]) (st' ++ [.lst a]) Q :=
  wp_lcMap (fun x => .bl (f x)) xs hok hl h fun s1 r1 => by
    rw [wp_bAll_f]
    exact q _ (r1.trans (Fr.new _))
theorem wp_anyC {ok : Sto → Bool} {p : Pat} {e : ME} {ρ : En} {st : Sto} {Q : D → Sto → Prop} (f : D → Bool) (xs : List D) (hok : ∀ s, Fr [] st s → ok s = true) (hl : xs.length ≤ 100000)
    (h : ∀ x ∈ xs, ∀ s, Fr [] st s → ∃ ρ1, bindP p x ρ = some ρ1 ∧ wp (e ρ1) s fun y s' => y = .bl (f x) ∧ Fr [] s s') (q : ∀ st', Fr [] st st' → Q (.bl (xs.any f)) st') :
    wp (lcL ok p yesT e ρ xs []) st fun a st' => wp (bAny [.loc st'.length]) (st' ++ [.lst a]) Q :=
  wp_lcMap (fun x => .bl (f x)) xs hok hl h fun s1 r1 => by
    rw [wp_bAny_f]
    exact q _ (r1.trans (Fr.new _))
theorem Fr.setNew {S : List Nat} {st s : Sto} {i : Nat} {o : O} (f : Fr S st s) (h : st.length ≤ i) : Fr S st (s.set i o) :=
  ⟨by simpa using f.1, fun k hk n => by
    rw [List.getElem?_set_ne (by omega)]
    exact f.2 k hk n⟩
/-! ### some of a pool, taken one by one -/
def bSome (ns : List Int) (mt : List D → M D) : MS := (seqS (parS 3 4 (conA (appA (conA (rd 1) nilA) (bList ns)) (conA (lstE nilA) nilA))) (seqS (forS (rng1 (rd 2)) (.nm 5) (dropS (meth (rd 4) (conA (meth (rd 3) (conA (calE (conA (rd 0) (conA (appA (conA (rd 3) nilA) (bLen ns)) nilA)) (ofLen 2 mt)) nilA) mPopAt) nilA) mAppend))) (retS (rd 4))))
theorem perm_pick {α : Type} {f s xs : List α} {k : Nat} {x : α} (h : (f ++ s).Perm xs) (hk : s[k]? = some x) : ((f ++ [x]) ++ s.eraseIdx k).Perm xs := by
  refine List.Perm.trans ?_ h
  rw [List.append_assoc]
  refine List.Perm.append_left f ?_
  have hlt := (List.getElem?_eq_some_iff.mp hk).1
  have : s = s.take k ++ x :: s.drop (k + 1) := by
    have e := (List.getElem?_eq_some_iff.mp hk).2
    rw [← e, List.getElem_cons_drop hlt, List.take_append_drop]
  rw [List.eraseIdx_eq_take_drop_succ]
  conv => rhs; rw [this]
  exact (List.perm_middle (a := x) (l₁ := s.take k) (l₂ := s.drop (k + 1))).symm
theorem wp_popAt {l : Nat} {xs : List D} {p : Int} {y : D} {st : Sto} {Q : D → Sto → Prop} (h : st[l]? = some (.lst xs)) (hp : 0 ≤ p ∧ p < xs.length) (hl : xs.length ≤ 100000) (hy : xs[p.toNat]? = some y) : wp (mPopAt (.loc l) [.int p]) st Q = Q y (st.set l (.lst (xs.eraseIdx p.toNat))) := by
  have ei : ixN xs.length p = some p.toNat := by
    unfold ixN
    rw [if_pos hp.1, if_pos hp.2]
  unfold mPopAt
  rw [wp_bnd, wp_lst h, if_pos ⟨by omega, by omega⟩]
  simp only [ei, hy, wp_bnd, wp_put, wp_ret]
theorem some_spec {ns : List Int} {a b c d e : Int} {mt : List D → M D} (hm : mt = runB 5 (bTake ns a b c d e)) (sm : Small a b c d e) {l n k : Nat} {pool : D} {xs : List D} {st : Sto} {Q : D → Sto → Prop} (hp : Pot l n st) (hn : n + k ≤ 900000) (hpool : bList ns [pool] st = .ok (.loc st.length) (st ++ [.lst xs])) (hk : k ≤ xs.length) (hx : xs.length ≤ 1000)
    (q : ∀ ys r s', (ys ++ r).Perm xs → ys.length = k → Pot l (n + k) s' → Fr [l] st s' → st.length < s'.length → s'[st.length + 1]? = some (.lst ys) → Q (.loc (st.length + 1)) s') : wp (runB 6 (bSome ns mt) [.loc l, pool, .int k]) st Q := by
  have hlt := hp.lt
  have e1 : ∀ Q' : D → Sto → Prop, wp (bList ns [pool]) st Q' = Q' (.loc st.length) (st ++ [.lst xs]) := fun Q' => by
    unfold wp
    rw [hpool]
  unfold bSome
  simp only [runB_eq, startE]
  simp only [ap_seqS, wp_bnd, ap_forS]
  simp [e1]
  repeat refine ⟨small_line (by decide), ?_⟩
  refine ⟨okR_small (by omega) (by omega), ?_⟩
  simp only [rngI]
  refine wp_forL (fun i ρ s => (∃ v5, ρ = [some (.loc l), some pool, some (.int k), some (.loc st.length), some (.loc (st.length + 1)), v5]) ∧ i ≤ k ∧ ∃ f, f.length = i ∧ ∃ r, (f ++ r).Perm xs ∧ s[st.length]? = some (.lst r) ∧ s[st.length + 1]? = some (.lst f) ∧ Pot l (n + i) s ∧ Fr [l] st s) _ 0 _ _ ⟨⟨_, rfl⟩, by omega, [], rfl, xs, .refl _, by simp, by simp, hp.fr (S := []) (Fr.new _) (by simp) (by omega), Fr.new _⟩ (fun j x ρ s hj hI => ?_) fun ρ s hI => ?_
  · obtain ⟨⟨v5, rfl⟩, h1, f, h2, r, h3, h4, h5, h6, h7⟩ := hI
    have hjk : j < k := by
      have := (List.getElem?_eq_some_iff.mp hj).1
      simpa using this
    have hlr : r.length = xs.length - j := by
      have := h3.length_eq
      simp at this
      omega
    have hs : st.length + 1 < s.length := (List.getElem?_eq_some_iff.mp h5).1
    refine ⟨rfl, _, by simp; rfl, ?_⟩
    simp
    rw [wp_isL h5, wp_isL h4, wp_obj h4]
    simp
    rw [hm]
    refine take_spec sm h6 (by omega) (by omega) fun p s1 hp1 o1 f1 => ?_
    have g4 := f1.at h4 (by simp; omega)
    have g5 := f1.at h5 (by simp; omega)
    obtain ⟨y, hy⟩ : ∃ y, r[p.toNat]? = some y := ⟨r[p.toNat]'(by omega), by simp⟩
    rw [wp_popAt g4 ⟨hp1.1, hp1.2⟩ (by omega) hy]
    have g5' : (s1.set st.length (.lst (r.eraseIdx p.toNat)))[st.length + 1]? = some (.lst f) := by
      rw [List.getElem?_set_ne (by omega)]
      exact g5
    rw [wp_append g5' (by omega)]
    have hl1 : s.length ≤ s1.length := f1.1
    refine ⟨by omega, f ++ [y], by simp [h2], r.eraseIdx p.toNat, perm_pick h3 hy, ?_, ?_, ?_, ?_⟩
    · rw [List.getElem?_set_ne (by omega), List.getElem?_set_self (by omega)]
    · rw [List.getElem?_set_self (by simp; omega)]
    · have := (o1.fr (S := [st.length]) (n' := n + j + 1) (Fr.set (o := .lst (r.eraseIdx p.toNat))) (by simp; omega) (by omega)).fr (S := [st.length + 1]) (n' := n + (j + 1)) (Fr.set (o := .lst (f ++ [y]))) (by simp; omega) (by omega)
      exact this
    · exact ((h7.trans f1).setNew (by omega)).setNew (by omega)
  · obtain ⟨⟨v5, rfl⟩, h1, f, h2, r, h3, h4, h5, h6, h7⟩ := hI
    refine ⟨rfl, ?_⟩
    have hs : st.length + 1 < s.length := (List.getElem?_eq_some_iff.mp h5).1
    simp
    simp at h2 h6
    exact q f r s h3 h2 h6 h7 (by omega) h5
end Pm
end
section
set_option Elab.async false
set_option linter.all false
set_option maxRecDepth 100000
namespace Lk38
open PySem L2 Pm
/-! ### values that come up -/
def isIB : D → Bool
  | .int _ => true
  | .bl _ => true
  | _ => false
def okE (st : Sto) : D → Prop
  | .int _ => True
  | .tup ys => (∀ y ∈ ys, isIB y = true) ∧ ys.length ≤ 20
  | _ => False
def okV (st : Sto) : D → Prop
  | .non => True
  | .tup xs => (∀ x ∈ xs, okE st x) ∧ xs.length ≤ 50
  | _ => False
theorem okE.len {st st' : Sto} {x : D} (h : okE st x) (f : st.length ≤ st'.length) : okE st' x := by
  cases x with
  | _ => exact h
theorem okV.len {st st' : Sto} {x : D} (h : okV st x) (f : st.length ≤ st'.length) : okV st' x := by
  cases x with
  | tup xs => exact ⟨fun x hx => (h.1 x hx).len f, h.2⟩
  | _ => exact h
def inR (m : Int) : D → Bool
  | .int i => decide (0 ≤ i ∧ i ≤ m - 1)
  | _ => false
def ltI : D → Bool
  | .tup [.int a, .int b] => decide (a < b)
  | _ => false
def ascD (ys : List D) : Bool := (zipL ys (ys.drop 1)).all ltI
def lotB (m : Int) : D → Bool
  | .tup ys => !decide (ys = []) && (ys.all (inR m) && ascD ys)
  | _ => false
def lotsB (m : Int) : D → Bool
  | .tup xs => xs.all (lotB m)
  | _ => false
theorem cut_one {α : Type} (xs : List α) : cutD xs (some 1) none = xs.drop 1 := by
  unfold cutD
  rw [HT.sIx_none, show (some (1 : Int)) = some ((1 : Nat) : Int) from rfl, HT.sIx_nat]
  cases xs with
  | nil => simp
  | cons a xs => simp
theorem zip_mem {xs ys : List D} {p : D} (h : p ∈ zipL xs ys) : ∃ a ∈ xs, ∃ b ∈ ys, p = .tup [a, b] := by
  unfold zipL at h
  obtain ⟨⟨a, b⟩, h1, rfl⟩ := List.mem_map.mp h
  exact ⟨a, (List.of_mem_zip h1).1, b, (List.of_mem_zip h1).2, rfl⟩
theorem p_asc (ns : List Int) {ys : List D} {v1 v2 : Option D} {i j k : Nat} (m : Int) (h : ys.all (inR m) = true) (hl : ys.length ≤ 20) {ρ : En} (hi : i < ρ.length) (hj : j < ρ.length) (hij : i ≠ j) {st : Sto} {Q : D → Sto → Prop} (q : ∀ s, Fr [] st s → Q (.bl (ascD ys)) s) :
    wp (lcL (fun _ => true) (.tp [(.nm i), (.nm j)]) yesT (bin (rd i) (rd j) opLtX) (wipeE ρ [i, j]) (zipL ys (ys.drop 1)) []) st fun a st' => wp (bAll [.loc st'.length]) (st' ++ [.lst a]) Q := by
  refine wp_allC ltI _ (fun _ _ => rfl) (by rw [zipL_len]; omega) (fun x hx s fr => ?_) q
  obtain ⟨a, ha, b, hb, rfl⟩ := zip_mem hx
  have h1 := List.all_eq_true.mp h a ha
  have h2 := List.all_eq_true.mp h b (List.mem_of_mem_drop hb)
  cases a with
  | int a =>
    cases b with
    | int b =>
      refine ⟨_, by simp; rfl, ?_⟩
      have hw : (wipeE ρ [i, j]).length = ρ.length := by simp [wipeE]
      have e1 : (((wipeE ρ [i, j]).set i (some (D.int a))).set j (some (D.int b)))[i]? = some (some (D.int a)) := by
        rw [List.getElem?_set_ne (by omega), List.getElem?_set_self (by omega)]
      have e2 : (((wipeE ρ [i, j]).set i (some (D.int a))).set j (some (D.int b)))[j]? = some (some (D.int b)) := by
        rw [List.getElem?_set_self (by simp; omega)]
      simp only [ap_bin, rd_at, e1, e2, bnd_ret, opLtX_int, wp_ret]
      exact ⟨rfl, Fr.refl⟩
    | _ => simp [inR] at h2
  | _ => simp [inR] at h1
theorem p_is_ascending (ns : List Int) {ys : List D} (m : Int) (h : ys.all (inR m) = true) (hl : ys.length ≤ 20) {st : Sto} {Q : D → Sto → Prop} (q : ∀ s, Fr [] st s → Q (.bl (ascD ys)) s) : wp (m_is_ascending ns [.tup ys]) st Q := by
  simp [m_is_ascending, runB_eq, b_is_ascending, startE, opSl]
  rw [cut_one]
  exact p_asc ns (v1 := none) (v2 := none) (k := 0) m h hl (by simp) (by simp) (by decide) q
theorem e_is_integer (ns : List Int) (n : Int) : m_is_integer ns [.int n] = ret (.bl true) := by
  simp [m_is_integer, b_is_integer, runB_eq, startE, isT]
theorem e_is_within (ns : List Int) (n lo hi : Int) : m_is_within ns [.int n, .int lo, .int hi] = ret (.bl (decide (lo ≤ n ∧ n ≤ hi))) := by
  simp [m_is_within, b_is_within, runB_eq, startE, e_is_integer]
  by_cases h : lo ≤ n <;> simp [h]
theorem e_within_bl (ns : List Int) (b : Bool) (lo hi : Int) : m_is_within ns [.bl b, .int lo, .int hi] = ret (.bl false) := by
  simp [m_is_within, b_is_within, m_is_integer, b_is_integer, runB_eq, startE, isi, isT]
theorem p_is_lot (ns : List Int) {m : Int} {x : D} {st : Sto} (h : okE st x) {Q : D → Sto → Prop} (q : ∀ s, Fr [] st s → Q (.bl (lotB m x)) s) : wp (m_is_lot ns [.int m, x]) st Q := by
  cases x with
  | tup ys =>
    obtain ⟨h1, h2⟩ := h
    simp [m_is_lot, runB_eq, b_is_lot, startE, isT, opEq_int, seqA]
    by_cases e : ys = []
    · subst e
      simp
      exact q st Fr.refl
    · have e' : ¬ ((ys.length : Int) = 0) := by
        have : 0 < ys.length := List.length_pos_iff.mpr e
        omega
      simp [e]
      refine wp_allC (inR m) ys (fun _ _ => rfl) (by omega) (fun y hy s fr => ⟨_, by simp; rfl, ?_⟩) fun s1 r1 => ?_
      · have hb := h1 y hy
        cases y with
        | int i =>
          simp [wipeE, e_is_within, inR]
          exact Fr.refl
        | bl b =>
          simp [wipeE, e_within_bl, inR]
          exact Fr.refl
        | _ => cases hb
      · have elot : lotB m (.tup ys) = (ys.all (inR m) && ascD ys) := by simp [lotB, e]
        by_cases ha : ys.all (inR m) = true
        · rw [ha]
          simp
          refine p_is_ascending ns m ha (by omega) fun s2 r2 => ?_
          have := q s2 (r1.trans r2)
          rw [elot, ha, Bool.true_and] at this
          exact this
        · have ha : ys.all (inR m) = false := by simpa using ha
          rw [ha]
          simp
          have := q s1 r1
          rw [elot, ha, Bool.false_and] at this
          exact this
  | int i =>
    simp [m_is_lot, runB_eq, b_is_lot, startE, isT]
    exact q st Fr.refl
  | _ => exact h.elim
theorem p_are_lots (ns : List Int) {m : Int} {v : D} {st : Sto} (h : okV st v) {Q : D → Sto → Prop} (q : ∀ s, Fr [] st s → Q (.bl (lotsB m v)) s) : wp (m_are_lots ns [.int m, v]) st Q := by
  cases v with
  | tup xs =>
    obtain ⟨h1, h2⟩ := h
    simp [m_are_lots, runB_eq, b_are_lots, startE, isT, seqA]
    refine wp_allC (lotB m) xs (fun _ _ => rfl) (by omega) (fun y hy s fr => ⟨_, by simp; rfl, ?_⟩) fun s1 r1 => ?_
    · simp [wipeE]
      exact p_is_lot ns ((h1 y hy).len fr.1) fun s2 r2 => ⟨rfl, r2⟩
    · exact q s1 r1
  | non =>
    simp [m_are_lots, runB_eq, b_are_lots, startE, isi, isT]
    exact q st Fr.refl
  | _ => exact h.elim
/-- lots, as they are -/
abbrev lotD (l : List Int) : D := .tup (l.map .int)
abbrev lotsD (Ls : List (List Int)) : D := .tup (Ls.map lotD)
theorem ints_of {m : Int} : ∀ {ys : List D}, ys.all (inR m) = true → ∃ l : List Int, ys = l.map .int
  | [], _ => ⟨[], rfl⟩
  | y :: ys, h => by
    rw [List.all_cons, Bool.and_eq_true] at h
    obtain ⟨l, rfl⟩ := ints_of h.2
    cases y with
    | int i => exact ⟨i :: l, rfl⟩
    | _ => simp [inR] at h
theorem lots_of {m : Int} : ∀ {xs : List D}, xs.all (lotB m) = true → ∃ Ls : List (List Int), xs = Ls.map lotD
  | [], _ => ⟨[], rfl⟩
  | x :: xs, h => by
    rw [List.all_cons, Bool.and_eq_true] at h
    obtain ⟨Ls, rfl⟩ := lots_of h.2
    cases x with
    | tup ys =>
      have h1 := h.1
      unfold lotB at h1
      rw [Bool.and_eq_true, Bool.and_eq_true] at h1
      obtain ⟨l, rfl⟩ := ints_of h1.2.1
      exact ⟨l :: Ls, rfl⟩
    | _ => simp [lotB] at h
end Lk38
end
section
set_option Elab.async false
set_option linter.all false
set_option maxRecDepth 100000
namespace Lk38
open PySem L2 Pm
def t_cut_in_eras_3_4 (ns : List Int) : MS := (setS (.nm 3) (lcE (iterA (rd 3)) (.nm 5) (tstB (bin (rd 5) (rd 4) opNotIn)) (rd 5) [5]))
def t_cut_in_eras_3_3 (ns : List Int) : MS := (seqS (dropS (meth (bin (rd 2) (una (kon (.int 1)) opNeg) (opIx ns)) (conA (rd 4) nilA) mAppend)) (t_cut_in_eras_3_4 ns))
def t_cut_in_eras_3_2 (ns : List Int) : MS := (seqS (ifS (notT (tstV (appA (conA (lcE (iterA (rd 4)) (.nm 5) yesT (bin (rd 5) (rd 3) opIn) [5]) nilA) bAll))) (retS (kon .non)) nxS) (t_cut_in_eras_3_3 ns))
def t_cut_in_eras_3_1 (ns : List Int) : MS := (seqS (ifS (tstB (bin (appA (conA (rd 3) nilA) (bLen ns)) (kon (.int 0)) opEq)) (seqS (dropS (meth (rd 2) (conA (lstE nilA) nilA) mAppend)) (setS (.nm 3) (una (rd 0) bRg1))) nxS) (t_cut_in_eras_3_2 ns))
def t_cut_in_eras_4 (ns : List Int) : MS := (retS (appA (conA (lcE (iterA (rd 2)) (.nm 6) yesT (appA (conA (rd 6) nilA) bTuple) [6]) nilA) bTuple))
def t_cut_in_eras_3 (ns : List Int) : MS := (seqS (forS (iterA (rd 1)) (.nm 4) (t_cut_in_eras_3_1 ns)) (t_cut_in_eras_4 ns))
def t_cut_in_eras_2 (ns : List Int) : MS := (seqS (setS (.nm 3) (lstE nilA)) (t_cut_in_eras_3 ns))
def t_cut_in_eras_1 (ns : List Int) : MS := (seqS (setS (.nm 2) (lstE nilA)) (t_cut_in_eras_2 ns))
theorem e_t_cut_in_eras (ns : List Int) : b_cut_in_eras ns = t_cut_in_eras_1 ns := rfl
def t_law_drawn_eras_2_3 (ns : List Int) : MS := (setS (.nm 4) (calE (conA (rd 1) (conA (rd 4) (conA (rd 6) nilA))) (ofLen 3 (m_law_left ns))))
def t_law_drawn_eras_2_2 (ns : List Int) : MS := (seqS (dropS (meth (rd 3) (conA (rd 6) nilA) mAppend)) (t_law_drawn_eras_2_3 ns))
def t_law_drawn_eras_2_1 (ns : List Int) : MS := (seqS (setS (.nm 6) (appA (conA (appA (conA (calE (conA (rd 0) (conA (appA (conA (rd 4) nilA) (bList ns)) (conA (bin (kon (.int 1)) (calE (conA (rd 0) (conA (appA (conA (rd 4) nilA) (bLen ns)) nilA)) (ofLen 2 (m_law_take ns))) opAdd) nilA))) (ofLen 3 (m_law_some ns))) nilA) bSortX) nilA) bTuple)) (t_law_drawn_eras_2_2 ns))
def t_law_drawn_eras_3 (ns : List Int) : MS := (retS (appA (conA (rd 3) nilA) bTuple))
def t_law_drawn_eras_2 (ns : List Int) : MS := (seqS (forS (rng1 (rd 2)) (.nm 5) (t_law_drawn_eras_2_1 ns)) (t_law_drawn_eras_3 ns))
def t_law_drawn_eras_1 (ns : List Int) : MS := (seqS (parS 3 4 (conA (lstE nilA) (conA (una (rd 1) bRgT) nilA))) (t_law_drawn_eras_2 ns))
theorem e_t_law_drawn_eras (ns : List Int) : b_law_drawn_eras ns = t_law_drawn_eras_1 ns := rfl
/-! ### eras -/
def rg (m : Int) : List Int := (List.range m.toNat).map fun i : Nat => 0 + (i : Int)
def restS (still lot : List Int) : List Int := still.filter fun w => !decide (w ∈ lot)
def nextS (m : Int) (still lot : List Int) : List Int := if restS still lot = [] then rg m else restS still lot
def erasF (m : Int) : List Int → List (List Int) → Bool
  | _, [] => true
  | still, lot :: r => lot.all (fun w => decide (w ∈ still)) && erasF m (nextS m still lot) r
def erasB (m : Int) (Ls : List (List Int)) : Bool := erasF m (rg m) Ls
def kindB (its : Str) (m : Int) (v : D) : Bool := lotsB m v && (match v with
  | .tup xs => if its = "full" then xs.all (fun x => decide (lenI x = m)) else if its = "one" then xs.all (fun x => decide (lenI x = 1)) else if its = "some" then true else erasB m (xs.map intsI)
  | _ => false)
where
  lenI : D → Int
    | .tup ys => ys.length
    | _ => 0
  intsI : D → List Int
    | .tup ys => ys.filterMap fun y => match y with
      | .int i => some i
      | _ => none
    | _ => []
theorem intsI_lot (l : List Int) : kindB.intsI (lotD l) = l := by
  simp [kindB.intsI, lotD]
  induction l with
  | nil => rfl
  | cons a l ih => simp [ih]
theorem ints_lots (Ls : List (List Int)) : (Ls.map lotD).map kindB.intsI = Ls := by
  rw [List.map_map]
  induction Ls with
  | nil => rfl
  | cons a l ih => simp [intsI_lot, ih]
/-- w in a list that stands -/
def inI (ls : List Int) : D → Bool
  | .int i => decide (i ∈ ls)
  | _ => false
theorem all_inI (l still : List Int) : (l.map D.int).all (inI still) = l.all fun w => decide (w ∈ still) := by
  rw [List.all_map]
  rfl
theorem filter_not (still lot : List Int) : (still.map D.int).filterMap (fun d => if !inI lot d then some d else none) = (restS still lot).map .int := by
  unfold restS
  induction still with
  | nil => rfl
  | cons a l ih =>
    by_cases h : a ∈ lot
    · simp [inI, h] at ih ⊢
      exact ih
    · simp [inI, h] at ih ⊢
      exact ih
theorem wp_rg1 {m : Int} (h : 1 ≤ m ∧ m ≤ 5) {st : Sto} {Q : D → Sto → Prop} : wp (bRg1 (.int m)) st Q = Q (.loc st.length) (st ++ [.lst ((rg m).map .int)]) := by
  show wp (if -(2 ^ 62) ≤ m ∧ m ≤ 2 ^ 24 then alloc _ else no) st Q = _
  rw [if_pos (by omega)]
  simp [rg]
  rfl
theorem e_rgT {m : Int} (h : 1 ≤ m ∧ m ≤ 5) : bRgT (.int m) = ret (.tup ((rg m).map .int)) := by
  show (if -(2 ^ 62) ≤ m ∧ m ≤ 2 ^ 24 then ret (D.tup _) else no) = _
  rw [if_pos (by omega)]
  simp [rg]
  rfl
theorem rg_len {m : Int} (h : 1 ≤ m ∧ m ≤ 5) : (rg m).length ≤ 5 ∧ (rg m) ≠ [] := by
  constructor
  · simp [rg]; omega
  · intro e
    have := congrArg List.length e
    simp [rg] at this
    omega
end Lk38
end
section
set_option Elab.async false
set_option linter.all false
set_option maxRecDepth 100000
namespace Lk38
open PySem L2 Pm
theorem restS_len (still lot : List Int) : (restS still lot).length ≤ still.length := List.length_filter_le ..
theorem eq_nilI {l : List Int} : opNe (lotD l) (.tup []) = ret (.bl (!decide (l = []))) := by
  have pl : ∀ l : List Int, plDs 1 (l.map D.int) = true := fun l => by
    induction l with
    | nil => simp [plDs]
    | cons a l ih => simp [plDs, plD, ih]
  rw [opNe_pl (n := 2) (m := 2) (by decide) (by decide) (by simp [plD, pl]) (by simp [plD, plDs])]
  by_cases e : l = []
  · subst e; simp
  · rw [decide_eq_false e, decide_eq_false fun z => e (by simpa using D.tup.inj z)]
theorem p_law_left (ns : List Int) {m : Int} (hm : 1 ≤ m ∧ m ≤ 5) {still lot : List Int} (hs : still.length ≤ 5) : Pu (m_law_left ns [.int m, lotD still, lotD lot]) (lotD (nextS m still lot)) := by
  intro st Q q
  simp [m_law_left, runB_eq, b_law_left, startE, seqA]
  refine pu_lcL (fun d => if !inI lot d then some d else none) _ [] (by simp; omega) (fun x hx => ?_) st _ fun s1 r1 => ?_
  · obtain ⟨a, ha, rfl⟩ := List.mem_map.mp hx
    refine ⟨_, by simp; rfl, ?_⟩
    by_cases h : a ∈ lot
    · refine .inl ⟨by simp [inI, h], ?_⟩
      simp [wipeE]
      rw [opNotIn_intT, decide_eq_true h]
      exact .ret'
    · refine .inr ⟨_, by simp [inI, h]; rfl, ?_, ?_⟩
      · simp [wipeE]
        rw [opNotIn_intT, decide_eq_false h]
        exact .ret'
      · simp [wipeE]
        exact .ret'
  · rw [filter_not]
    simp [eq_nilI]
    by_cases e : restS still lot = []
    · have := q (s1 ++ [.lst ((restS still lot).map .int)]) (r1.trans (Fr.new _))
      unfold nextS at this
      rw [if_pos e] at this
      simp [e, e_rgT hm]
      simpa [e] using this
    · have := q (s1 ++ [.lst ((restS still lot).map .int)]) (r1.trans (Fr.new _))
      unfold nextS at this
      rw [if_neg e] at this
      simp [e]
      exact this
def stillOf (m : Int) (mis : List Int) : List Int := if mis = [] then rg m else mis
theorem nextS_eq (m : Int) (still lot : List Int) : nextS m still lot = stillOf m (restS still lot) := rfl
/-- what stands while eras are cut -/
structure Cut (st : Sto) (F M : Nat) (es : List Nat) (mis : List Int) (a b : Nat) (s : Sto) : Prop where
  fr : Fr [] st s
  hF : st.length ≤ F ∧ s[F]? = some (.lst (es.map .loc))
  hM : st.length ≤ M ∧ M ≠ F ∧ s[M]? = some (.lst (mis.map .int)) ∧ mis.length ≤ 5
  hes : es.length ≤ a ∧ ∀ e ∈ es, st.length ≤ e ∧ e ≠ F ∧ e ≠ M ∧ ∃ xs, s[e]? = some (.lst xs) ∧ xs.length ≤ b
  ne : mis ≠ [] → es ≠ []
theorem p_cut (ns : List Int) {m : Int} (hm : 1 ≤ m ∧ m ≤ 5) {Ls : List (List Int)} (hl : Ls.length ≤ 50) (hll : ∀ l ∈ Ls, l.length ≤ 20) {st : Sto} {Q : D → Sto → Prop} (q : ∀ y s, Fr [] st s → decide (y = .non) = !erasB m Ls → Q y s) : wp (m_cut_in_eras ns [.int m, lotsD Ls]) st Q := by
  have e0 : m_cut_in_eras ns = runB 7 (t_cut_in_eras_1 ns) := rfl
  rw [e0]
  simp [runB_eq, startE, t_cut_in_eras_1, t_cut_in_eras_2, t_cut_in_eras_3, seqA]
  refine wp_forL (fun i ρ s => ∃ M es mis, (∃ v4 v5 v6, ρ = [some (.int m), some (lotsD Ls), some (.loc st.length), some (.loc M), v4, v5, v6]) ∧ Cut st st.length M es mis i i s ∧ erasF m (stillOf m mis) (Ls.drop i) = erasB m Ls) _ 0 _ _
    ⟨st.length + 1, [], [], ⟨_, _, _, rfl⟩, ⟨Fr.new _, ⟨Nat.le_refl _, by simp⟩, ⟨by omega, by omega, by simp, by simp⟩, ⟨by simp, by simp⟩, fun h => absurd rfl h⟩, rfl⟩ (fun j x ρ s hj hI => ?_) fun ρ s hI => ?_
  · obtain ⟨M, es, mis, ⟨v4, v5, v6, rfl⟩, C, he⟩ := hI
    rw [Nat.zero_add] at C he
    have hj1 : j < Ls.length := by
      have := (List.getElem?_eq_some_iff.mp hj).1
      simpa using this
    have hx : x = lotD Ls[j] := by
      rw [List.getElem?_map, List.getElem?_eq_getElem hj1] at hj
      simpa using hj.symm
    subst hx
    have hlot := hll _ (List.getElem_mem hj1)
    have hd : Ls.drop j = Ls[j] :: Ls.drop (j + 1) := List.drop_eq_getElem_cons hj1
    rw [hd, erasF] at he
    refine ⟨rfl, _, by simp; rfl, ?_⟩
    simp [t_cut_in_eras_3_1]
    rw [wp_obj C.hM.2.2.1]
    simp [opEq_int]
    -- behind the first statement
    have rest : ∀ M1 es1 s1 v6', Cut st st.length M1 es1 (stillOf m mis) (j + 1) j s1 → es1 ≠ [] → wp (t_cut_in_eras_3_2 ns [some (.int m), some (lotsD Ls), some (.loc st.length), some (.loc M1), some (lotD Ls[j]), v5, v6']) s1 fun y st' => match y.1 with
        | .nx => ∃ M es mis, (∃ v4 v5 v6, y.2 = [some (.int m), some (lotsD Ls), some (.loc st.length), some (.loc M), v4, v5, v6]) ∧ Cut st st.length M es mis (j + 1) (j + 1) st' ∧ erasF m (stillOf m mis) (Ls.drop (j + 1)) = erasB m Ls
        | .rt d => Q d st'
        | _ => False := by
      intro M1 es1 s1 v6' C1 hne
      simp [t_cut_in_eras_3_2, seqA]
      refine wp_allC (inI (stillOf m mis)) _ (fun _ _ => rfl) (by simp; omega) (fun y hy s2 fr => ?_) fun s2 r2 => ?_
      · obtain ⟨a, ha, rfl⟩ := List.mem_map.mp hy
        refine ⟨_, by simp; rfl, ?_⟩
        simp [wipeE]
        rw [wp_inL (fr.at C1.hM.2.2.1 (by simp))]
        exact ⟨rfl, Fr.refl⟩
      · rw [all_inI]
        by_cases ha : (Ls[j].all fun w => decide (w ∈ stillOf m mis)) = true
        · rw [ha]
          simp
          rw [ha, Bool.true_and] at he
          simp [t_cut_in_eras_3_3]
          have gF := r2.at C1.hF.2 (by simp)
          obtain ⟨es0, e, rfl⟩ : ∃ es0 e, es1 = es0 ++ [e] := ⟨es1.dropLast, es1.getLast hne, (List.dropLast_concat_getLast hne).symm⟩
          have elast : atI ((es0 ++ [e]).map D.loc) (-1) = some (.loc e) := by
            unfold atI ixN
            simp
            rw [if_pos (by omega)]
            simp
            rw [show (-1 + ((es0.length : Int) + 1)).toNat = es0.length by omega]
            simp
          obtain ⟨h1, h2, h3, xs, h4, h5⟩ := C1.hes.2 e (by simp)
          have ge := r2.at h4 (by simp)
          simp [opIx_loc]
          rw [wp_obj gF]
          show wp (ofO (atI ((es0 ++ [e]).map D.loc) (-1))) s2 _
          rw [elast]
          simp
          rw [wp_isL ge, wp_append ge (by omega)]
          have hel : e < s2.length := (List.getElem?_eq_some_iff.mp ge).1
          have gM : (s2.set e (.lst (xs ++ [lotD Ls[j]])))[M1]? = some (.lst ((stillOf m mis).map .int)) := by
            rw [List.getElem?_set_ne (by omega)]
            exact r2.at C1.hM.2.2.1 (by simp)
          simp [t_cut_in_eras_3_4]
          rw [wp_seqA gM]
          have fr2 : Fr [] st (s2.set e (.lst (xs ++ [lotD Ls[j]]))) := (C1.fr.trans r2).setNew h1
          refine pu_lcLok (fun d => if !inI Ls[j] d then some d else none) _ (fun s fr => decide_eq_true (fr.at gM (by simp))) (by simp; have := C1.hM.2.2.2; omega) (fun x hx => ?_) fun s3 r3 => ?_
          · obtain ⟨a, ha, rfl⟩ := List.mem_map.mp hx
            refine ⟨_, by simp; rfl, ?_⟩
            by_cases h : a ∈ Ls[j]
            · refine .inl ⟨by simp [inI, h], ?_⟩
              simp [wipeE]
              rw [opNotIn_intT, decide_eq_true h]
              exact .ret'
            · refine .inr ⟨_, by simp [inI, h]; rfl, ?_, ?_⟩
              · simp [wipeE]
                rw [opNotIn_intT, decide_eq_false h]
                exact .ret'
              · simp [wipeE]
                exact .ret'
          · rw [filter_not]
            try simp
            have hl3 : (s2.set e (.lst (xs ++ [lotD Ls[j]]))).length ≤ s3.length := r3.1
            simp at hl3
            refine ⟨es0 ++ [e], restS (stillOf m mis) Ls[j], ⟨(fr2.trans r3).trans (Fr.new _), ⟨Nat.le_refl _, ?_⟩, ⟨by omega, by omega, by simp, Nat.le_trans (restS_len ..) C1.hM.2.2.2⟩, ⟨C1.hes.1, fun e' he' => ?_⟩, fun _ => by simp⟩, ?_⟩
            · refine (r3.trans (Fr.new _)).at ?_ (by simp)
              rw [List.getElem?_set_ne h2]
              exact gF
            · obtain ⟨k1, k2, k3, ys, k4, k5⟩ := C1.hes.2 e' he'
              have he'l := (List.getElem?_eq_some_iff.mp (r2.at k4 (by simp))).1
              refine ⟨k1, k2, by omega, ?_⟩
              by_cases ee : e' = e
              · subst ee
                refine ⟨xs ++ [lotD Ls[j]], (r3.trans (Fr.new _)).at (by rw [List.getElem?_set_self hel]) (by simp), ?_⟩
                simp
                omega
              · refine ⟨ys, (r3.trans (Fr.new _)).at ?_ (by simp), by omega⟩
                rw [List.getElem?_set_ne (by omega)]
                exact r2.at k4 (by simp)
            · rw [← nextS_eq]
              exact he
        · have ha : (Ls[j].all fun w => decide (w ∈ stillOf m mis)) = false := by simpa using ha
          rw [ha]
          simp
          rw [ha, Bool.false_and] at he
          exact q .non s2 (C1.fr.trans r2) (by rw [← he]; rfl)
    have hls := C.fr.1
    have hMl : M < s.length := (List.getElem?_eq_some_iff.mp C.hM.2.2.1).1
    by_cases em : mis = []
    · rw [if_pos em, wp_isL C.hF.2]
      have hFl : st.length < s.length := (List.getElem?_eq_some_iff.mp C.hF.2).1
      have g1 : (s ++ [O.lst []])[st.length]? = some (.lst (es.map .loc)) := (Fr.new (S := []) _).at C.hF.2 (by simp)
      rw [wp_append g1 (by have := C.hes.1; simp; omega), wp_rg1 hm]
      have fr1 : Fr [] st ((s ++ [O.lst []]).set st.length (.lst (es.map .loc ++ [.loc s.length])) ++ [.lst ((rg m).map .int)]) := (((C.fr.trans (Fr.new _)).setNew (Nat.le_refl _)).trans (Fr.new _))
      have old : ∀ e, e < s.length → e ≠ st.length → ((s ++ [O.lst []]).set st.length (.lst (es.map .loc ++ [.loc s.length])) ++ [.lst ((rg m).map .int)])[e]? = s[e]? := fun e h1 h2 => by
        rw [List.getElem?_append_left (by simp; omega), List.getElem?_set_ne (by omega), List.getElem?_append_left h1]
      have es' : stillOf m mis = rg m := if_pos em
      refine wp_mono (rest _ (es ++ [s.length]) _ _ ⟨fr1, ⟨Nat.le_refl _, ?_⟩, ⟨by simp; omega, by simp; omega, ?_, ?_⟩, ⟨by have := C.hes.1; simp; omega, fun e he' => ?_⟩, fun _ => by simp⟩ (by simp)) fun y st' h => ?_
      · rw [List.getElem?_append_left (by simp; omega), List.getElem?_set_self (by simp; omega)]
        simp
      · rw [es']
        simp
      · rw [es']
        exact (rg_len hm).1
      · rcases List.mem_append.mp he' with he' | he'
        · obtain ⟨k1, k2, k3, ys, k4, k5⟩ := C.hes.2 e he'
          have hel := (List.getElem?_eq_some_iff.mp k4).1
          exact ⟨k1, k2, by simp; omega, ys, by rw [old e hel k2]; exact k4, k5⟩
        · cases List.mem_singleton.mp he'
          refine ⟨by omega, by omega, by simp, [], ?_, by simp⟩
          rw [List.getElem?_append_left (by simp), List.getElem?_set_ne (by omega)]
          simp
      · obtain ⟨fl, ρ2⟩ := y
        cases fl with
        | nx =>
          obtain ⟨M2, es2, mis2, h1, h2, h3⟩ := h
          exact ⟨M2, h1, es2, mis2, h2, h3⟩
        | rt d => exact h
        | bk => exact h.elim
        | ct => exact h.elim
    · rw [if_neg em]
      have es' : stillOf m mis = mis := if_neg em
      refine wp_mono (rest M es s v6 ⟨C.fr, C.hF, by rw [es']; exact C.hM, ⟨by have := C.hes.1; omega, C.hes.2⟩, fun _ => C.ne em⟩ (C.ne em)) fun y st' h => ?_
      obtain ⟨fl, ρ2⟩ := y
      cases fl with
      | nx =>
        obtain ⟨M2, es2, mis2, h1, h2, h3⟩ := h
        exact ⟨M2, h1, es2, mis2, h2, h3⟩
      | rt d => exact h
      | bk => exact h.elim
      | ct => exact h.elim
  · obtain ⟨M, es, mis, ⟨v4, v5, v6, rfl⟩, C, he⟩ := hI
    refine ⟨rfl, ?_⟩
    have hb : erasB m Ls = true := by
      rw [← he]
      simp [erasF]
    simp [t_cut_in_eras_4]
    rw [wp_seqA C.hF.2]
    refine wp_lcL (fun i a s' => Fr [] s s' ∧ a.length = i ∧ i ≤ es.length) _ 0 [] _ ⟨Fr.refl, rfl, by omega⟩ (fun j x a s' hj hI => ?_) fun a s' hI => ?_
    · obtain ⟨h1, h2, h3⟩ := hI
      obtain ⟨e, he', rfl⟩ := List.mem_map.mp (List.mem_of_getElem? hj)
      have hj1 : j < es.length := by
        have := (List.getElem?_eq_some_iff.mp hj).1
        simpa using this
      obtain ⟨k1, k2, k3, ys, k4, k5⟩ := C.hes.2 e he'
      refine ⟨decide_eq_true (h1.at C.hF.2 (by simp)), _, by simp; rfl, ?_⟩
      simp [wipeE]
      rw [wp_bTuple (h1.at k4 (by simp))]
      have := C.hes.1
      simp at this
      exact ⟨Nat.lt_of_lt_of_le (show a.length < 100 by omega) (small_line (by decide)), h1, by omega, by omega⟩
    · obtain ⟨h1, h2, h3⟩ := hI
      refine ⟨decide_eq_true (h1.at C.hF.2 (by simp)), ?_⟩
      exact q _ _ ((C.fr.trans h1).trans (Fr.new _)) (by rw [hb]; rfl)
end Lk38
end
section
set_option Elab.async false
set_option linter.all false
set_option maxRecDepth 100000
namespace Lk38
open PySem L2 Pm
def t_is_of_kind_4 (ns : List Int) : MS := (retS (orV (bin (rd 0) (kon (.str "some")) opEq) (bin (calE (conA (rd 1) (conA (rd 2) nilA)) (ofLen 2 (m_cut_in_eras ns))) (kon .non) opIsNot)))
def t_is_of_kind_3 (ns : List Int) : MS := (seqS (ifS (tstB (bin (rd 0) (kon (.str "one")) opEq)) (retS (appA (conA (lcE (iterA (rd 2)) (.nm 3) yesT (bin (appA (conA (rd 3) nilA) (bLen ns)) (kon (.int 1)) opEq) [3]) nilA) bAll)) nxS) (t_is_of_kind_4 ns))
def t_is_of_kind_2 (ns : List Int) : MS := (seqS (ifS (tstB (bin (rd 0) (kon (.str "full")) opEq)) (retS (appA (conA (lcE (iterA (rd 2)) (.nm 3) yesT (bin (appA (conA (rd 3) nilA) (bLen ns)) (rd 1) opEq) [3]) nilA) bAll)) nxS) (t_is_of_kind_3 ns))
def t_is_of_kind_1 (ns : List Int) : MS := (seqS (ifS (notT (tstV (calE (conA (rd 1) (conA (rd 2) nilA)) (ofLen 2 (m_are_lots ns))))) (retS (kon (.bl false))) nxS) (t_is_of_kind_2 ns))
theorem e_t_is_of_kind (ns : List Int) : b_is_of_kind ns = t_is_of_kind_1 ns := rfl
theorem kind_no {its : Str} {m : Int} {v : D} (h : lotsB m v = false) : kindB its m v = false := by
  unfold kindB
  rw [h, Bool.false_and]
theorem kind_yes {its : Str} {m : Int} {Ls : List (List Int)} (h : lotsB m (lotsD Ls) = true) : kindB its m (lotsD Ls) = (if its = "full" then Ls.all (fun l => decide ((l.length : Int) = m)) else if its = "one" then Ls.all (fun l => decide ((l.length : Int) = 1)) else if its = "some" then true else erasB m Ls) := by
  unfold kindB
  rw [h, Bool.true_and]
  have e1 : ∀ k : Int, (Ls.map lotD).all (fun x => decide (kindB.lenI x = k)) = Ls.all (fun l => decide ((l.length : Int) = k)) := fun k => by
    rw [List.all_map]
    congr 1
    funext l
    simp [kindB.lenI, lotD]
  simp only [lotsD, e1, ints_lots]
theorem lots_tup {m : Int} {v : D} {st : Sto} (hv : okV st v) (h : lotsB m v = true) : ∃ Ls : List (List Int), v = lotsD Ls ∧ Ls.length ≤ 50 ∧ ∀ l ∈ Ls, l.length ≤ 20 := by
  cases v with
  | tup xs =>
    obtain ⟨Ls, rfl⟩ := lots_of h
    refine ⟨Ls, rfl, by simpa using hv.2, fun l hl => ?_⟩
    have := hv.1 (lotD l) (List.mem_map_of_mem hl)
    simpa using this.2
  | _ => cases h
def lenIs (k : Int) : D → Bool
  | .tup ys => decide ((ys.length : Int) = k)
  | _ => false
theorem all_len (Ls : List (List Int)) (k : Int) : (Ls.map lotD).all (lenIs k) = Ls.all fun l => decide ((l.length : Int) = k) := by
  rw [List.all_map]
  congr 1
  funext l
  simp [lenIs, lotD]
theorem p_is_of_kind (ns : List Int) {m : Int} (hm : 1 ≤ m ∧ m ≤ 5) {its : Str} {v : D} {st : Sto} (h : okV st v) {Q : D → Sto → Prop} (q : ∀ s, Fr [] st s → Q (.bl (kindB its m v)) s) : wp (m_is_of_kind ns [.str its, .int m, v]) st Q := by
  simp [m_is_of_kind, runB_eq, b_is_of_kind, startE]
  refine p_are_lots ns h fun s1 r1 => ?_
  by_cases hb : lotsB m v = true
  · obtain ⟨Ls, rfl, hl, hll⟩ := lots_tup h hb
    rw [kind_yes hb] at q
    rw [hb]
    simp [opEq_str, seqA]
    by_cases e1 : its = "full"
    · simp [e1] at q ⊢
      refine wp_allC (lenIs m) _ (fun _ _ => rfl) (by simp; omega) (fun x hx s fr => ?_) fun s2 r2 => ?_
      · obtain ⟨l, hl', rfl⟩ := List.mem_map.mp hx
        refine ⟨_, by simp; rfl, ?_⟩
        simp [wipeE, opEq_int, lenIs]
        exact Fr.refl
      · rw [all_len]
        exact q s2 (r1.trans r2)
    · simp [e1] at q ⊢
      by_cases e2 : its = "one"
      · simp [e2] at q ⊢
        refine wp_allC (lenIs 1) _ (fun _ _ => rfl) (by simp; omega) (fun x hx s fr => ?_) fun s2 r2 => ?_
        · obtain ⟨l, hl', rfl⟩ := List.mem_map.mp hx
          refine ⟨_, by simp; rfl, ?_⟩
          simp [wipeE, opEq_int, lenIs]
          exact Fr.refl
        · rw [all_len]
          have := q s2 (r1.trans r2)
          simpa using this
      · simp [e2] at q ⊢
        by_cases e3 : its = "some"
        · simp [e3] at q ⊢
          exact q s1 r1
        · simp [e3] at q ⊢
          refine p_cut ns hm hl hll fun y s2 r2 hy => ?_
          rw [opIsNot_non]
          simp only [wp_ret]
          rw [hy, Bool.not_not]
          exact q s2 (r1.trans r2)
  · have hb : lotsB m v = false := by simpa using hb
    rw [hb]
    simp
    have := q s1 r1
    rw [kind_no hb] at this
    exact this
theorem lotsB_tup {m : Int} {xs : List D} : lotsB m (.tup xs) = xs.all (lotB m) := rfl
theorem lotB_tup {m : Int} {ys : List D} : lotB m (.tup ys) = (!decide (ys = []) && (ys.all (inR m) && ascD ys)) := rfl
theorem ib_py : ∀ {ys : List D}, (∀ y ∈ ys, isIB y = true) → ∃ ps : List PyData, (∀ st n, toPys (toPy st (n + 1)) ys = some ps) ∧ ps.length = ys.length ∧ PyData.canLayAll0 ps = true ∧ PyData.depthAll ps ≤ 1
  | [], _ => ⟨[], fun _ _ => rfl, rfl, rfl, by simp [PyData.depthAll]⟩
  | y :: ys, h => by
    obtain ⟨ps, h1, h2, h3, h4⟩ := ib_py (ys := ys) fun z hz => h z (by simp [hz])
    have hy := h y (by simp)
    cases y with
    | int i => exact ⟨.int i :: ps, fun st n => by unfold toPys; rw [h1 st n]; rfl, by simp [h2], by simp [PyData.canLayAll0, h3, PyData.canLay0], by simp [PyData.depthAll, PyData.depth]; omega⟩
    | bl i => exact ⟨.bool i :: ps, fun st n => by unfold toPys; rw [h1 st n]; rfl, by simp [h2], by simp [PyData.canLayAll0, h3, PyData.canLay0], by simp [PyData.depthAll, PyData.depth]; omega⟩
    | _ => cases hy
theorem eq_nil_ib {ys : List D} (h : ∀ y ∈ ys, isIB y = true) : opEq (.tup ys) (.tup []) = ret (.bl (decide (ys = []))) := by
  obtain ⟨ps, h1, h2, h3, h4⟩ := ib_py h
  have p1 : py (.tup ys) = ret (.tuple ps) := by
    funext st
    unfold py
    rw [show toPy st 60 (.tup ys) = some (.tuple ps) by unfold toPy; simp only [h1 st 58, Option.map_some]]
    rfl
  have p2 : py (.tup []) = ret (.tuple []) := rfl
  unfold opEq
  rw [if_neg (by simp [scD]), p1, p2]
  show (if (SeqAt.shaped (.tuple ps) && SeqAt.shaped (.tuple [])) = true then _ else _) = _
  have s1 : SeqAt.shaped (.tuple ps) = true := by
    unfold SeqAt.shaped
    rw [show PyData.canLay0 (.tuple ps) = true by simpa [PyData.canLay0] using h3, decide_eq_true (show PyData.depth (.tuple ps) ≤ 64 by simp [PyData.depth]; omega)]
    rfl
  have s2 : SeqAt.shaped (.tuple []) = true := rfl
  rw [if_pos (by rw [s1, s2]; rfl)]
  simp only [PyData.eqv]
  cases ys with
  | nil =>
    cases ps with
    | nil => rfl
    | cons _ _ => simp at h2
  | cons y ys =>
    cases ps with
    | nil => simp at h2
    | cons p ps => simp [PyData.eqvAll]
end Lk38
end
section
set_option Elab.async false
set_option linter.all false
set_option maxRecDepth 100000
namespace Lk38
open PySem L2 Pm
/-! ### draws -/
theorem sm : Small 100987 1435 11427 591 315 := by constructor <;> decide
theorem sm2 : Small 1589 1443 86745 10357 701 := by constructor <;> decide
theorem e_take (ns : List Int) : m_law_take ns = runB 5 (bTake ns 100987 1435 11427 591 315) := rfl
theorem p_take (ns : List Int) {l n : Nat} {st : Sto} {u : Int} {Q : D → Sto → Prop} (hp : Pot l n st) (hn : n ≤ 1000000) (hu : 0 < u ∧ u < 2 ^ 24)
    (q : ∀ k st', (0 ≤ k ∧ k < u) → Pot l (n + 1) st' → Fr [l] st st' → Q (.int k) st') : wp (m_law_take ns [.loc l, .int u]) st Q := take_spec sm hp hn hu q
theorem e_some (ns : List Int) : m_law_some ns = runB 6 (bSome ns (m_law_take ns)) := rfl
theorem bList_loc {ns : List Int} {p : Nat} {xs : List D} {st : Sto} (h : st[p]? = some (.lst xs)) : bList ns [.loc p] st = .ok (.loc st.length) (st ++ [.lst xs]) := by
  show bnd (lst p) (fun xs => alloc xs) st = _
  unfold bnd lst
  rw [h]
  rfl
theorem p_some (ns : List Int) {l n k p : Nat} {xs : List D} {st : Sto} {Q : D → Sto → Prop} (hp : Pot l n st) (hn : n + k ≤ 900000) (hpool : st[p]? = some (.lst xs)) (hk : k ≤ xs.length) (hx : xs.length ≤ 1000)
    (q : ∀ ys r s', (ys ++ r).Perm xs → ys.length = k → Pot l (n + k) s' → Fr [l] st s' → st.length < s'.length → s'[st.length + 1]? = some (.lst ys) → Q (.loc (st.length + 1)) s') : wp (m_law_some ns [.loc l, .loc p, .int k]) st Q := by
  rw [e_some]
  exact some_spec (e_take ns) sm hp hn (bList_loc hpool) hk hx q
theorem wp_sortI {l : Nat} {zs : List Int} {st : Sto} {Q : D → Sto → Prop} (h : st[l]? = some (.lst (zs.map .int))) : wp (bSortX [.loc l]) st Q = Q (.loc st.length) (st ++ [.lst ((isort zs).map .int)]) := by
  show wp (bnd (lst l) srtX) st Q = _
  rw [wp_bnd, wp_lst h]
  unfold srtX
  simp only [intsOf_ints]
  rfl
structure goodL (m : Int) (l : List Int) : Prop where
  ne : l ≠ []
  mem : ∀ i ∈ l, 0 ≤ i ∧ i < m
  asc : l.Pairwise (· < ·)
  len : l.length ≤ 5
theorem adj {α : Type} {R : α → α → Prop} : ∀ {ls : List α}, ls.Pairwise R → ∀ p ∈ ls.zip (ls.drop 1), R p.1 p.2
  | [], _, p, hp => by simp at hp
  | [a], _, p, hp => by simp at hp
  | a :: b :: r, h, p, hp => by
    simp at hp
    rcases hp with rfl | hp
    · exact (List.pairwise_cons.mp h).1 b (by simp)
    · exact adj (List.pairwise_cons.mp h).2 p (by simpa using hp)
theorem asc_ok {l : List Int} (h : l.Pairwise (· < ·)) : ascD (l.map .int) = true := by
  unfold ascD zipL
  rw [← List.map_drop, List.zip_map, List.map_map, List.all_map, List.all_eq_true]
  intro p hp
  exact decide_eq_true (adj h p hp)
theorem goodL.lot {m : Int} {l : List Int} (h : goodL m l) : lotB m (lotD l) = true := by
  rw [lotB_tup, asc_ok h.asc, decide_eq_false (by simpa using h.ne), Bool.and_true]
  simp only [Bool.not_false, Bool.true_and]
  rw [List.all_map, List.all_eq_true]
  intro i hi
  have := h.mem i hi
  exact decide_eq_true (by omega)
theorem lots_good {m : Int} {Ls : List (List Int)} (h : ∀ l ∈ Ls, goodL m l) : lotsB m (lotsD Ls) = true := by
  rw [lotsB_tup, List.all_map, List.all_eq_true]
  exact fun l hl => (h l hl).lot
theorem isort_asc {l : List Int} (h : l.Nodup) : (isort l).Pairwise (· < ·) := by
  have h1 := isort_sorted l
  have h2 : (isort l).Pairwise (· ≠ ·) := (isort_perm l).nodup_iff.mpr h
  exact (h1.and h2).imp fun {a b} h => by have := h.1; have := h.2; omega
/-- one lot of a pool, taken and sorted -/
theorem p_lot (ns : List Int) {l n k p : Nat} {m : Int} {pool : List Int} {st : Sto} {Q : D → Sto → Prop} (hp : Pot l n st) (hn : n ≤ 800000) (hpool : st[p]? = some (.lst (pool.map .int))) (hk : 1 ≤ k ∧ k ≤ pool.length) (h5 : pool.length ≤ 5) (hnd : pool.Nodup) (hmem : ∀ i ∈ pool, 0 ≤ i ∧ i < m)
    (q : ∀ lot s, goodL m lot → lot.length = k → (∀ i ∈ lot, i ∈ pool) → Pot l (n + 5) s → Fr [l] st s → Q (lotD lot) s) :
    wp (m_law_some ns [.loc l, .loc p, .int k]) st fun a s => wp (bSortX [a]) s fun a s => wp (bTuple [a]) s Q := by
  have hlt := hp.lt
  refine p_some ns hp (by omega) hpool (by simpa using hk.2) (by simp; omega) fun ys r s1 hper hyl o1 f1 hl1 hs1 => ?_
  obtain ⟨zs, rfl⟩ : ∃ zs : List Int, ys = zs.map .int := by
    have : ∀ y ∈ ys, ∃ i : Int, y = .int i := fun y hy => by
      have : y ∈ pool.map D.int := hper.mem_iff.mp (List.mem_append_left _ hy)
      obtain ⟨i, _, rfl⟩ := List.mem_map.mp this
      exact ⟨i, rfl⟩
    clear hper hyl hs1
    induction ys with
    | nil => exact ⟨[], rfl⟩
    | cons y ys ih =>
      obtain ⟨zs, rfl⟩ := ih fun z hz => this z (by simp [hz])
      obtain ⟨i, rfl⟩ := this y (by simp)
      exact ⟨i :: zs, rfl⟩
  have hzm : ∀ z ∈ zs, z ∈ pool := fun z hz => by
    have : D.int z ∈ pool.map D.int := hper.mem_iff.mp (List.mem_append_left _ (List.mem_map_of_mem hz))
    obtain ⟨i, hi, e⟩ := List.mem_map.mp this
    cases e
    exact hi
  have hzn : zs.Nodup := by
    have hpn : (pool.map D.int).Nodup := List.pairwise_map.mpr (hnd.imp fun h e => h (D.int.inj e))
    have := hper.nodup_iff.mpr hpn
    have h2 : (zs.map D.int).Pairwise (· ≠ ·) := (List.nodup_append.mp this).1
    exact (List.pairwise_map.mp h2).imp fun h e => h (by rw [e])
  have hzl : zs.length = k := by simpa using hyl
  rw [wp_sortI hs1, wp_bTuple_new]
  have hil : (isort zs).length = k := by rw [(isort_perm zs).length_eq, hzl]
  refine q (isort zs) _ ⟨fun e => by rw [e] at hil; simp at hil; omega, fun i hi => hmem i (hzm i ((isort_perm zs).mem_iff.mp hi)), isort_asc hzn, by omega⟩ hil (fun i hi => hzm i ((isort_perm zs).mem_iff.mp hi)) (o1.fr (S := []) (Fr.new _) (by simp) (by omega)) (f1.trans (Fr.new _))
theorem rg_nodup (m : Int) : (rg m).Nodup := by
  unfold rg
  exact List.pairwise_map.mpr ((List.nodup_range).imp fun h e => h (by omega))
theorem rg_mem {m i : Int} (h : i ∈ rg m) : 0 ≤ i ∧ i < m := by
  unfold rg at h
  obtain ⟨j, hj, rfl⟩ := List.mem_map.mp h
  have := List.mem_range.mp hj
  omega
theorem rg_length {m : Int} : (rg m).length = m.toNat := by simp [rg]
/-- who is still to come -/
structure goodS (m : Int) (s : List Int) : Prop where
  ne : s ≠ []
  mem : ∀ i ∈ s, 0 ≤ i ∧ i < m
  nd : s.Nodup
  len : s.length ≤ 5
theorem goodS.rg {m : Int} (hm : 1 ≤ m ∧ m ≤ 5) : goodS m (rg m) := ⟨(rg_len hm).2, fun i h => rg_mem h, rg_nodup m, (rg_len hm).1⟩
theorem goodS.next {m : Int} (hm : 1 ≤ m ∧ m ≤ 5) {s lot : List Int} (h : goodS m s) : goodS m (nextS m s lot) := by
  unfold nextS
  split
  · exact .rg hm
  · rename_i e
    exact ⟨e, fun i hi => h.mem i ((List.mem_filter.mp hi).1), h.nd.filter _, Nat.le_trans (restS_len ..) h.len⟩
end Lk38
end
section
set_option Elab.async false
set_option linter.all false
set_option maxRecDepth 100000
namespace Lk38
open PySem L2 Pm
theorem erasF_app (m : Int) : ∀ (Ls : List (List Int)) (still : List Int) (lot : List Int) (rest : List Int), (∀ r, erasF m still (Ls ++ r) = erasF m rest r) → lot.all (fun w => decide (w ∈ rest)) = true → ∀ r, erasF m still ((Ls ++ [lot]) ++ r) = erasF m (nextS m rest lot) r := by
  intro Ls still lot rest h hl r
  rw [List.append_assoc, h, List.singleton_append, erasF, hl, Bool.true_and]
/-- lots of a kind -/
structure Drawn (m : Int) (its : Str) (Ls : List (List Int)) : Prop where
  good : ∀ l ∈ Ls, goodL m l
  kind : kindB its m (lotsD Ls) = true
theorem p_drawn_eras (ns : List Int) {m : Int} (hm : 1 ≤ m ∧ m ≤ 5) {l n k : Nat} {st : Sto} {Q : D → Sto → Prop} (hp : Pot l n st) (hn : n ≤ 600000) (hk : k ≤ 12)
    (q : ∀ Ls s, Ls.length = k → (∀ l ∈ Ls, goodL m l) → erasB m Ls = true → Pot l (n + 200) s → Fr [l] st s → Q (lotsD Ls) s) : wp (m_law_drawn_eras ns [.loc l, .int m, .int k]) st Q := by
  have hlt := hp.lt
  have e0 : m_law_drawn_eras ns = runB 7 (t_law_drawn_eras_1 ns) := rfl
  rw [e0]
  simp [runB_eq, startE, t_law_drawn_eras_1, e_rgT hm, t_law_drawn_eras_2]
  refine ⟨okR_small (by omega) (by omega), ?_⟩
  simp only [rngI]
  refine wp_forL (fun i ρ s => ∃ still, (∃ v5 v6, ρ = [some (.loc l), some (.int m), some (.int k), some (.loc st.length), some (lotD still), v5, v6]) ∧ i ≤ k ∧ ∃ Ls : List (List Int), Ls.length = i ∧ goodS m still ∧ (∀ l ∈ Ls, goodL m l) ∧ (∀ r, erasF m (rg m) (Ls ++ r) = erasF m still r) ∧ s[st.length]? = some (.lst (Ls.map lotD)) ∧ Pot l (n + 10 * i) s ∧ Fr [l] st s) _ 0 _ _
    ⟨rg m, ⟨_, _, rfl⟩, by omega, [], rfl, .rg hm, by simp, by simp, by simp, hp.fr (S := []) (Fr.new _) (by simp) (Nat.le_refl _), Fr.new _⟩ (fun j x ρ s hj hI => ?_) fun ρ s hI => ?_
  · obtain ⟨still, ⟨v5, v6, rfl⟩, hik, Ls, hLl, hS, hG, hE, hA, o, f⟩ := hI
    rw [Nat.zero_add] at hLl o hik
    have hj1 : j < k := by
      have := (List.getElem?_eq_some_iff.mp hj).1
      simpa using this
    have hs1 : st.length < s.length := (List.getElem?_eq_some_iff.mp hA).1
    have hsl : 0 < still.length := List.length_pos_iff.mpr hS.ne
    have h5 := hS.len
    refine ⟨rfl, _, by simp; rfl, ?_⟩
    simp [t_law_drawn_eras_2_1, bList]
    refine p_take ns (o.fr (S := []) (Fr.new _) (by simp) (Nat.le_refl _)) (by omega) (by omega) fun p s2 hp2 o2 f2 => ?_
    obtain ⟨p, rfl⟩ : ∃ z : Nat, p = (z : Int) := ⟨p.toNat, by omega⟩
    rw [opAdd_int, wp_ret, show (1 : Int) + (p : Int) = ((1 + p : Nat) : Int) by omega]
    have g2 : s2[s.length]? = some (.lst (still.map .int)) := f2.at (by simp) (by simp; omega)
    refine p_lot ns (k := 1 + p) (m := m) (pool := still) o2 (by omega) g2 (by omega) h5 hS.nd hS.mem fun lot s3 hL hLk hLm o3 f3 => ?_
    have ff : Fr [l] s s3 := ((Fr.new _).trans f2).trans f3
    have gA := ff.at hA (by simp; omega)
    simp [t_law_drawn_eras_2_2]
    rw [wp_isL gA, wp_append gA (by simp; omega)]
    simp [t_law_drawn_eras_2_3]
    refine (p_law_left ns hm h5).ap fun s4 r4 => ?_
    have hal : lot.all (fun w => decide (w ∈ still)) = true := List.all_eq_true.mpr fun w hw => decide_eq_true (hLm w hw)
    have hl3 := ff.1
    have hf4 := r4.1
    simp at hf4
    refine ⟨nextS m still lot, by simp, by omega, Ls ++ [lot], by simp [hLl], hS.next hm, fun z hz => ?_, erasF_app m Ls (rg m) lot still hE hal, ?_, ?_, ?_⟩
    · rcases List.mem_append.mp hz with hz | hz
      · exact hG z hz
      · cases List.mem_singleton.mp hz
        exact hL
    · refine r4.at ?_ (by simp)
      rw [List.getElem?_set_self (by omega)]
      simp
    · exact ((o3.fr (S := [st.length]) (n' := n + 10 * (j + 1)) Fr.set (by simp; omega) (by omega)).fr r4 (by simp) (Nat.le_refl _))
    · exact ((f.trans ff).setNew (Nat.le_refl _)).trans (Fr.up r4)
  · obtain ⟨still, ⟨v5, v6, rfl⟩, hik, Ls, hLl, hS, hG, hE, hA, o, f⟩ := hI
    refine ⟨rfl, ?_⟩
    simp [t_law_drawn_eras_3]
    rw [wp_bTuple hA]
    have hE0 := hE []
    rw [List.append_nil] at hE0
    simp at hLl o
    exact q Ls s hLl hG (by unfold erasB; rw [hE0]; rfl) (o.fr (S := []) Fr.refl (by simp) (by omega)) f
end Lk38
end
section
set_option Elab.async false
set_option linter.all false
set_option maxRecDepth 100000
namespace Pm
open PySem L2
theorem wp_lcFil {ok : Sto → Bool} {p : Pat} {t : MT} {e : ME} {ρ : En} {st : Sto} {Q : List D → Sto → Prop} (g : D → Bool) (xs : List D) (hok : ∀ s, Fr [] st s → ok s = true) (hl : xs.length ≤ 100000)
    (h : ∀ x ∈ xs, ∀ s, Fr [] st s → ∃ ρ1, bindP p x ρ = some ρ1 ∧ wp (t ρ1) s fun k s' => k = g x ∧ Fr [] s s' ∧ wp (e ρ1) s' fun y s'' => y = x ∧ Fr [] s' s'') (q : ∀ st', Fr [] st st' → Q (xs.filter g) st') : wp (lcL ok p t e ρ xs []) st Q := by
  refine wp_lcL (fun i a s => Fr [] st s ∧ i ≤ xs.length ∧ a.length ≤ i ∧ a = (xs.take i).filter g) xs 0 [] st ⟨Fr.refl, Nat.zero_le _, Nat.le_refl _, by simp⟩ (fun j x a s hj ⟨fr, hi, hn, ea⟩ => ⟨hok s fr, ?_⟩) fun a s ⟨fr, hi, hn, ea⟩ => ⟨hok s fr, ?_⟩
  · have hj1 : j < xs.length := (List.getElem?_eq_some_iff.mp hj).1
    obtain ⟨ρ1, h1, h2⟩ := h x (List.mem_of_getElem? hj) s fr
    refine ⟨ρ1, h1, ?_⟩
    have tk : xs.take (0 + j + 1) = xs.take (0 + j) ++ [x] := by
      rw [Nat.zero_add, List.take_add_one, hj]; rfl
    refine wp_mono h2 fun k s' ⟨ek, fr', h3⟩ => ?_
    subst ek
    cases eg : g x with
    | false =>
      rw [if_neg (by simp)]
      exact ⟨fr.trans fr', by omega, by omega, by rw [tk, List.filter_append, ea]; simp [eg]⟩
    | true =>
      rw [if_pos rfl]
      refine wp_mono h3 fun y s'' ⟨ey, fr''⟩ => ⟨Nat.lt_of_le_of_lt (show a.length ≤ 99999 by omega) (by rw [sizeLine_eq]; decide), (fr.trans fr').trans fr'', by omega, by simp; omega, by rw [tk, List.filter_append, ea, ey]; simp [eg]⟩
  · rw [ea]
    simp only [Nat.zero_add, List.take_length]
    exact q s fr
theorem wp_notInL {a : Int} {ls : List Int} {l : Nat} {st : Sto} {Q : D → Sto → Prop} (h : st[l]? = some (.lst (ls.map .int))) : wp (opNotIn (.int a) (.loc l)) st Q = Q (.bl (!decide (a ∈ ls))) st := by
  show wp (bnd (obj l) fun o => match o with
    | .lst xs => if flatD (.int a) = true ∧ xs.all flatD = true then ret (D.bl (if true = true then !inD (.int a) xs else inD (.int a) xs)) else no
    | .dct kvs => _
    | .ins _ _ => no) st Q = _
  rw [wp_bnd, wp_obj h]
  simp only
  rw [if_pos ⟨rfl, flats_int ls⟩, if_pos trivial, inD_int]
  rfl
end Pm
end
section
set_option Elab.async false
set_option linter.all false
set_option maxRecDepth 100000
namespace Lk38
open PySem L2 Pm
/-! ### checks -/
theorem e_check_many (ns : List Int) {m : Int} (hm : 1 ≤ m ∧ m ≤ 5) : m_check_many ns [.int m] = ret .non := by
  simp [m_check_many, b_check_many, runB_eq, startE, e_is_within, hm]
theorem p_check_lots (ns : List Int) {m : Int} (hm : 1 ≤ m ∧ m ≤ 5) {its : Str} {v : D} {st : Sto} (h : okV st v) (hk : kindB its m v = true) {Q : D → Sto → Prop} (q : ∀ s, Fr [] st s → Q .non s) : wp (m_check_lots ns [.str its, .int m, v]) st Q := by
  simp [m_check_lots, b_check_lots, runB_eq, startE]
  refine p_is_of_kind ns hm h fun s fr => ?_
  rw [hk]
  simp
  exact q s fr
theorem cut_last {xs : List D} {x : D} : cutD (xs ++ [x]) (some (-1)) none = [x] := by
  simp [cutD, HT.sIx]
  rw [show (-1 + ((xs.length : Int) + 1)).toNat = xs.length by omega]
  simp
end Lk38
end
section
set_option Elab.async false
set_option linter.all false
set_option maxRecDepth 100000
namespace Lk38
open PySem L2 Pm
def t_numbers_left_3_3 (ns : List Int) : MS := (setS (.nm 3) (ifE (tstB (bin (rd 4) (rd 3) opEq)) (rd 0) (bin (rd 3) (rd 4) opSub)))
def t_numbers_left_3_2 (ns : List Int) : MS := (seqS (dropS (meth (rd 2) (conA (rd 3) nilA) mAppend)) (t_numbers_left_3_3 ns))
def t_numbers_left_3_1 (ns : List Int) : MS := (seqS (ifS (orT (notT (tstV (calE (conA (rd 4) nilA) (ofLen 1 (m_is_integer ns))))) (notT (tstB (chn (kon (.int 1)) (rd 4) (rd 3) opLe opLe)))) (retS (kon .non)) nxS) (t_numbers_left_3_2 ns))
def t_numbers_left_4 (ns : List Int) : MS := (retS (rd 2))
def t_numbers_left_3 (ns : List Int) : MS := (seqS (forS (iterA (rd 1)) (.nm 4) (t_numbers_left_3_1 ns)) (t_numbers_left_4 ns))
def t_numbers_left_2 (ns : List Int) : MS := (seqS (setS (.nm 3) (rd 0)) (t_numbers_left_3 ns))
def t_numbers_left_1 (ns : List Int) : MS := (seqS (setS (.nm 2) (lstE nilA)) (t_numbers_left_2 ns))
theorem e_t_numbers_left (ns : List Int) : b_numbers_left ns = t_numbers_left_1 ns := rfl
def t_deeds_for_sizes_6 (ns : List Int) : MS := (retS (bin (bin (kon (.int 3)) (rd 3) opMul) (bin (rd 0) (bin (rd 1) (una (kon (.int 1)) opNeg) (opIx ns)) opSub) opSub))
def t_deeds_for_sizes_5 (ns : List Int) : MS := (seqS (setS (.nm 3) (bin (rd 3) (bin (bin (kon (.int 2)) (rd 0) opMul) (appA (conA (rd 4) nilA) (bLen ns)) opMul) opAdd)) (t_deeds_for_sizes_6 ns))
def t_deeds_for_sizes_4 (ns : List Int) : MS := (seqS (setS (.nm 4) (lcE (zipI (sli (rd 1) noP (som (una (kon (.int 1)) opNeg)) (opSl ns)) (rd 2)) (.tp [(.nm 5), (.nm 6)]) (tstB (bin (rd 5) (rd 6) opEq)) (rd 5) [5, 6])) (t_deeds_for_sizes_5 ns))
def t_deeds_for_sizes_3 (ns : List Int) : MS := (seqS (setS (.nm 3) (bin (bin (appA (conA (rd 1) nilA) bSumX) (bin (kon (.int 2)) (appA (conA (rd 2) nilA) bSumX) opMul) opAdd) (appA (conA (sli (rd 2) noP (som (una (kon (.int 1)) opNeg)) (opSl ns)) nilA) bSumX) opAdd)) (t_deeds_for_sizes_4 ns))
def t_deeds_for_sizes_2 (ns : List Int) : MS := (seqS (setS (.nm 2) (calE (conA (rd 0) (conA (rd 1) nilA)) (ofLen 2 (m_numbers_left ns)))) (t_deeds_for_sizes_3 ns))
def t_deeds_for_sizes_1 (ns : List Int) : MS := (seqS (ifS (tstB (bin (appA (conA (rd 1) nilA) (bLen ns)) (kon (.int 0)) opEq)) (retS (kon (.int 0))) nxS) (t_deeds_for_sizes_2 ns))
theorem e_t_deeds_for_sizes (ns : List Int) : b_deeds_for_sizes ns = t_deeds_for_sizes_1 ns := rfl
def t_deeds_of_3 (ns : List Int) : MS := (retS (calE (conA (rd 0) (conA (rd 1) nilA)) (ofLen 2 (m_deeds_for_sizes ns))))
def t_deeds_of_2 (ns : List Int) : MS := (seqS (ifS (orT (notT (tstV (una (rd 1) (isi "tuple")))) (tstB (bin (calE (conA (rd 0) (conA (rd 1) nilA)) (ofLen 2 (m_numbers_left ns))) (kon .non) opIs))) nevS nxS) (t_deeds_of_3 ns))
def t_deeds_of_1 (ns : List Int) : MS := (seqS (ifS (orT (notT (tstV (calE (conA (rd 0) nilA) (ofLen 1 (m_is_integer ns))))) (tstB (bin (rd 0) (kon (.int 1)) opLtX))) nevS nxS) (t_deeds_of_2 ns))
theorem e_t_deeds_of (ns : List Int) : b_deeds_of ns = t_deeds_of_1 ns := rfl
def t_least_deeds_3 (ns : List Int) : MS := (retS (calE (conA (rd 0) (conA (lcE (iterA (rd 1)) (.nm 2) yesT (appA (conA (rd 2) nilA) (bLen ns)) [2]) nilA)) (ofLen 2 (m_deeds_for_sizes ns))))
def t_least_deeds_2 (ns : List Int) : MS := (seqS (dropS (calE (conA (kon (.str "eras")) (conA (rd 0) (conA (rd 1) nilA))) (ofLen 3 (m_check_lots ns)))) (t_least_deeds_3 ns))
def t_least_deeds_1 (ns : List Int) : MS := (seqS (dropS (calE (conA (rd 0) nilA) (ofLen 1 (m_check_many ns)))) (t_least_deeds_2 ns))
theorem e_t_least_deeds (ns : List Int) : b_least_deeds ns = t_least_deeds_1 ns := rfl
def t_law_number_2_3 (ns : List Int) : MS := (setS (.nm 3) (ifE (tstB (bin (rd 3) (rd 5) opEq)) (rd 0) (bin (rd 3) (rd 5) opSub)))
def t_law_number_2_2 (ns : List Int) : MS := (seqS (ifS (tstB (bin (rd 4) (bin (appA (conA (rd 1) nilA) (bLen ns)) (kon (.int 1)) opSub) opLtX)) (seqS (setS (.nm 2) (bin (rd 2) (rd 3) opAdd)) (ifS (tstB (bin (rd 3) (rd 5) opEq)) (setS (.nm 2) (bin (rd 2) (bin (kon (.int 2)) (rd 0) opMul) opAdd)) nxS)) nxS) (t_law_number_2_3 ns))
def t_law_number_2_1 (ns : List Int) : MS := (seqS (setS (.nm 2) (bin (bin (rd 2) (rd 5) opAdd) (bin (kon (.int 2)) (rd 3) opMul) opAdd)) (t_law_number_2_2 ns))
def t_law_number_3 (ns : List Int) : MS := (retS (ifE (tstB (bin (appA (conA (rd 1) nilA) (bLen ns)) (kon (.int 0)) opEq)) (kon (.int 0)) (bin (bin (kon (.int 3)) (rd 2) opMul) (bin (rd 0) (bin (rd 1) (una (kon (.int 1)) opNeg) (opIx ns)) opSub) opSub)))
def t_law_number_2 (ns : List Int) : MS := (seqS (forS (enuI (rd 1)) (.tp [(.nm 4), (.nm 5)]) (t_law_number_2_1 ns)) (t_law_number_3 ns))
def t_law_number_1 (ns : List Int) : MS := (seqS (parS 2 3 (conA (kon (.int 0)) (conA (rd 0) nilA))) (t_law_number_2 ns))
theorem e_t_law_number (ns : List Int) : b_law_number ns = t_law_number_1 ns := rfl
def t_law_great_sizes_2_4 (ns : List Int) : MS := (setS (.nm 3) (ifE (tstB (bin (rd 3) (rd 5) opEq)) (rd 1) (bin (rd 3) (rd 5) opSub)))
def t_law_great_sizes_2_3 (ns : List Int) : MS := (seqS (dropS (meth (rd 2) (conA (rd 5) nilA) mAppend)) (t_law_great_sizes_2_4 ns))
def t_law_great_sizes_2_2 (ns : List Int) : MS := (seqS (setS (.nm 5) (appA (conA (rd 5) (conA (rd 3) nilA)) bMin)) (t_law_great_sizes_2_3 ns))
def t_law_great_sizes_2_1 (ns : List Int) : MS := (seqS (setS (.nm 5) (calE (conA (rd 0) (conA (lstE (conA (kon (.int 1)) (conA (rd 3) (conA (bin (kon (.int 1)) (bin (rd 3) (kon (.int 2)) opFdiv) opAdd) (conA (appA (conA (kon (.int 1)) (conA (bin (rd 3) (kon (.int 1)) opSub) nilA)) bMax) (conA (appA (conA (kon (.int 1)) (conA (bin (rd 3) (kon (.int 3)) opFdiv) nilA)) bMax) nilA)))))) nilA)) (ofLen 2 (m_law_of ns)))) (t_law_great_sizes_2_2 ns))
def t_law_great_sizes_3 (ns : List Int) : MS := (retS (appA (conA (rd 2) nilA) bTuple))
def t_law_great_sizes_2 (ns : List Int) : MS := (seqS (forS (rng1 (calE (conA (rd 0) (conA (kon (.int 12)) nilA)) (ofLen 2 (m_law_take ns)))) (.nm 4) (t_law_great_sizes_2_1 ns)) (t_law_great_sizes_3 ns))
def t_law_great_sizes_1 (ns : List Int) : MS := (seqS (parS 2 3 (conA (lstE nilA) (conA (rd 1) nilA))) (t_law_great_sizes_2 ns))
theorem e_t_law_great_sizes (ns : List Int) : b_law_great_sizes ns = t_law_great_sizes_1 ns := rfl
def t_law_right_13 (ns : List Int) : MS := (retS (andV (bin (una (lcE (rng1 (kon (.int 4))) (.nm 13) yesT (bin (bin (rd 9) (bin (rd 13) (kon (.int 1)) opAdd) (opIx ns)) (bin (rd 9) (rd 13) (opIx ns)) opSub) [13]) oLenSet) (kon (.int 1)) opEq) (bin (appA (conA (calE (conA (rd 7) (conA (tupE nilA) nilA)) (ofLen 2 (m_deeds_of ns))) nilA) bRepr) (kon (.str "0")) opEq)))
def t_law_right_12 (ns : List Int) : MS := (seqS (setS (.nm 9) (lcE (rng2 (kon (.int 1)) (kon (.int 6))) (.nm 10) yesT (calE (conA (rd 7) (conA (bin (tupE (conA (rd 7) nilA)) (rd 10) opRep) nilA)) (ofLen 2 (m_deeds_of ns))) [10])) (t_law_right_13 ns))
def t_law_right_11 (ns : List Int) : MS := (seqS (ifS (tstB (bin (appA (conA (calE (conA (rd 7) (conA (rd 8) nilA)) (ofLen 2 (m_deeds_of ns))) nilA) bRepr) (appA (conA (calE (conA (rd 7) (conA (rd 8) nilA)) (ofLen 2 (m_law_number ns))) nilA) bRepr) opNe)) (retS (kon (.bl false))) nxS) (t_law_right_12 ns))
def t_law_right_10 (ns : List Int) : MS := (seqS (setS (.nm 8) (calE (conA (rd 0) (conA (rd 7) nilA)) (ofLen 2 (m_law_great_sizes ns)))) (t_law_right_11 ns))
def t_law_right_9 (ns : List Int) : MS := (seqS (setS (.nm 7) (calE (conA (rd 0) (conA (lstE (conA (kon (.int 1)) (conA (kon (.int 2)) (conA (kon (.int 7)) (conA (kon (.int 1000)) (conA (bin (bin (kon (.int 10)) (kon (.int 9)) opPow) (kon (.int 1)) opAdd) (conA (bin (kon (.int 10)) (kon (.int 30)) opPow) nilA))))))) nilA)) (ofLen 2 (m_law_of ns)))) (t_law_right_10 ns))
def t_law_right_8 (ns : List Int) : MS := (seqS (ifS (tstB (bin (appA (conA (calE (conA (rd 1) (conA (rd 6) nilA)) (ofLen 2 (m_least_deeds ns))) nilA) bRepr) (appA (conA (rd 4) nilA) bRepr) opNe)) (retS (kon (.bl false))) nxS) (t_law_right_9 ns))
def t_law_right_7 (ns : List Int) : MS := (seqS (setS (.nm 6) (appA (conA (lcE (iterA (rd 2)) (.nm 11) yesT (appA (conA (appA (conA (lcE (iterA (rd 11)) (.nm 12) yesT (bin (rd 5) (rd 12) (opIx ns)) [12]) nilA) bSortX) nilA) bTuple) [11]) nilA) bTuple)) (t_law_right_8 ns))
def t_law_right_6 (ns : List Int) : MS := (seqS (setS (.nm 5) (calE (conA (rd 0) (conA (una (rd 1) bRg1) (conA (rd 1) nilA))) (ofLen 3 (m_law_some ns)))) (t_law_right_7 ns))
def t_law_right_5 (ns : List Int) : MS := (seqS (ifS (orT (tstB (bin (appA (conA (kwE [0, 1] 2 (conA (rd 1) (conA (rd 2) nilA)) (m_least_deeds ns)) nilA) bRepr) (appA (conA (rd 4) nilA) bRepr) opNe)) (tstB (bin (appA (conA (kwE [0, 1] 2 (conA (rd 1) (conA (rd 3) nilA)) (m_deeds_of ns)) nilA) bRepr) (appA (conA (rd 4) nilA) bRepr) opNe))) (retS (kon (.bl false))) nxS) (t_law_right_6 ns))
def t_law_right_4 (ns : List Int) : MS := (seqS (setS (.nm 4) (calE (conA (rd 1) (conA (rd 3) nilA)) (ofLen 2 (m_law_number ns)))) (t_law_right_5 ns))
def t_law_right_3 (ns : List Int) : MS := (seqS (setS (.nm 3) (appA (conA (lcE (iterA (rd 2)) (.nm 11) yesT (appA (conA (rd 11) nilA) (bLen ns)) [11]) nilA) bTuple)) (t_law_right_4 ns))
def t_law_right_2 (ns : List Int) : MS := (seqS (setS (.nm 2) (calE (conA (rd 0) (conA (rd 1) (conA (calE (conA (rd 0) (conA (kon (.int 12)) nilA)) (ofLen 2 (m_law_take ns))) nilA))) (ofLen 3 (m_law_drawn_eras ns)))) (t_law_right_3 ns))
def t_law_right_1 (ns : List Int) : MS := (seqS (setS (.nm 1) (bin (kon (.int 1)) (calE (conA (rd 0) (conA (kon (.int 5)) nilA)) (ofLen 2 (m_law_take ns))) opAdd)) (t_law_right_2 ns))
theorem e_t_law_right (ns : List Int) : b_law_right ns = t_law_right_1 ns := rfl
/-! ### a sequence, a list or a tuple -/
def IsSq (st : Sto) (v : D) (xs : List D) : Prop := v = .tup xs ∨ ∃ p, v = .loc p ∧ st[p]? = some (.lst xs)
theorem IsSq.fr {st st' : Sto} {v : D} {xs : List D} (h : IsSq st v xs) (f : Fr [] st st') : IsSq st' v xs := by
  rcases h with h | ⟨p, h1, h2⟩
  · exact .inl h
  · exact .inr ⟨p, h1, f.at h2 (by simp)⟩
theorem IsSq.new {st : Sto} {xs : List D} : IsSq (st ++ [.lst xs]) (.loc st.length) xs := .inr ⟨_, rfl, by simp⟩
theorem wp_seqQ {st : Sto} {v : D} {xs : List D} {Q : Itm → Sto → Prop} (h : IsSq st v xs) (q : ∀ ok, (∀ s, IsSq s v xs → ok s = true) → Q ⟨xs, ok⟩ st) : wp (seqA v) st Q := by
  rcases h with rfl | ⟨p, rfl, h2⟩
  · exact q _ fun _ _ => rfl
  · rw [wp_seqA h2]
    refine q _ fun s hs => ?_
    rcases hs with e | ⟨p', e, h⟩
    · cases e
    · cases e
      exact decide_eq_true h
theorem wp_lenQ {ns : List Int} {st : Sto} {v : D} {xs : List D} {Q : D → Sto → Prop} (h : IsSq st v xs) : wp (bLen ns [v]) st Q = Q (.int xs.length) st := by
  rcases h with rfl | ⟨p, rfl, h2⟩
  · rfl
  · show wp (bnd (obj p) _) st Q = _
    rw [wp_bnd, wp_obj h2]
    rfl
theorem wp_sumQ {st : Sto} {v : D} {ss : List Int} {Q : D → Sto → Prop} (h : IsSq st v (ss.map .int)) : wp (bSumX [v]) st Q = Q (.int ss.sum) st := by
  rcases h with rfl | ⟨p, rfl, h2⟩
  · simp [bSumX, intsOf_ints]
  · simp [bSumX]
    rw [wp_lst h2]
    simp [intsOf_ints]
theorem cut_init (xs : List D) : cutD xs none (some (-1)) = xs.dropLast := by
  simp [cutD, HT.sIx]
  rw [List.dropLast_eq_take]
  cases xs with
  | nil => simp
  | cons a xs => simp; congr 1; omega
theorem wp_slQ {ns : List Int} {st : Sto} {v : D} {xs : List D} {Q : D → Sto → Prop} (h : IsSq st v xs) (q : ∀ v' st', Fr [] st st' → IsSq st' v' xs.dropLast → Q v' st') : wp (opSl ns v none (some (-1))) st Q := by
  rcases h with rfl | ⟨p, rfl, h2⟩
  · show Q (.tup (cutD xs none (some (-1)))) st
    rw [cut_init]
    exact q _ _ Fr.refl (.inl rfl)
  · show wp (bnd (lst p) fun xs => alloc (cutD xs none (some (-1)))) st Q
    rw [wp_bnd, wp_lst h2, cut_init]
    exact q _ _ (Fr.new _) .new
theorem wp_zipQ {st : Sto} {v w : D} {xs ys : List D} {Q : Itm → Sto → Prop} (h1 : IsSq st v xs) (h2 : IsSq st w ys) (q : ∀ ok, (∀ s, IsSq s v xs → IsSq s w ys → ok s = true) → Q ⟨zipL xs ys, ok⟩ st) : wp (zipD v w) st Q := by
  have dl : ∀ {p : Nat} {zs : List D} {s : Sto}, IsSq s (.loc p) zs → decide (s[p]? = some (O.lst zs)) = true := fun h => by
    rcases h with e | ⟨p', e, h⟩
    · cases e
    · cases e
      exact decide_eq_true h
  rcases h1 with rfl | ⟨p, rfl, h1⟩
  · rcases h2 with rfl | ⟨p', rfl, h2⟩
    · exact q _ fun _ _ _ => rfl
    · show wp (bnd (lst p') _) st Q
      rw [wp_bnd, wp_lst h2]
      exact q _ fun s _ b => dl b
  · rcases h2 with rfl | ⟨p', rfl, h2⟩
    · show wp (bnd (lst p) _) st Q
      rw [wp_bnd, wp_lst h1]
      exact q _ fun s a _ => by rw [dl a]; rfl
    · show wp (bnd (lst p) _) st Q
      rw [wp_bnd, wp_lst h1, wp_bnd, wp_lst h2]
      exact q _ fun s a b => by rw [dl a, dl b]; rfl
theorem wp_ixQ {ns : List Int} {st : Sto} {v : D} {xs : List D} {i : Int} {Q : D → Sto → Prop} (h : IsSq st v xs) : wp (opIx ns v (.int i)) st Q = wp (ofO (atI xs i)) st Q := by
  rcases h with rfl | ⟨p, rfl, h2⟩
  · rfl
  · rw [opIx_loc, wp_bnd, wp_obj h2]
theorem at_last {ss : List Int} (h : ss ≠ []) : atI (ss.map D.int) (-1) = some (.int (ss.getLast?.getD 0)) := by
  obtain ⟨l, a, rfl⟩ : ∃ l a, ss = l ++ [a] := ⟨ss.dropLast, ss.getLast h, (List.dropLast_concat_getLast h).symm⟩
  unfold atI ixN
  simp
  rw [if_pos (by omega)]
  simp
  rw [show (-1 + ((l.length : Int) + 1)).toNat = l.length by omega]
  simp
/-! ### the number of deeds -/
def nxt (m left s : Int) : Int := if s = left then m else left - s
def aheadF (m : Int) : Int → List Int → List Int
  | _, [] => []
  | left, s :: r => left :: aheadF m (nxt m left s) r
def okS (m : Int) : Int → List Int → Prop
  | _, [] => True
  | left, s :: r => (1 ≤ s ∧ s ≤ left) ∧ okS m (nxt m left s) r
def dueF (m : Int) : Int → List Int → Int
  | _, [] => 0
  | left, [s] => s + 2 * left
  | left, s :: s2 :: r => s + 2 * left + left + (if s = left then 2 * m else 0) + dueF m (nxt m left s) (s2 :: r)
def num (m : Int) (ss : List Int) : Int := if ss = [] then 0 else 3 * dueF m m ss - (m - ss.getLast?.getD 0)
def ended (xs ys : List Int) : Nat := ((xs.zip ys).filter fun p => decide (p.1 = p.2)).length
theorem ahead_len (m : Int) : ∀ (ss : List Int) (left : Int), (aheadF m left ss).length = ss.length
  | [], _ => rfl
  | s :: r, left => by simp [aheadF, ahead_len m r]
theorem ahead_ne {m left : Int} {ss : List Int} (h : ss ≠ []) : aheadF m left ss ≠ [] := fun e => h (by
  have := congrArg List.length e
  rw [ahead_len] at this
  exact List.eq_nil_of_length_eq_zero this)
theorem due_eq (m : Int) : ∀ (ss : List Int) (left : Int), ss ≠ [] → dueF m left ss = ss.sum + 2 * (aheadF m left ss).sum + (aheadF m left ss).dropLast.sum + 2 * m * (ended ss.dropLast (aheadF m left ss) : Nat)
  | [], _, h => absurd rfl h
  | [s], left, _ => by simp [dueF, aheadF, ended]
  | s :: s2 :: r, left, _ => by
    have ih := due_eq m (s2 :: r) (nxt m left s) (by simp)
    have hd : (aheadF m left (s :: s2 :: r)).dropLast = left :: (aheadF m (nxt m left s) (s2 :: r)).dropLast := by
      rw [aheadF, List.dropLast_cons_of_ne_nil (ahead_ne (by simp))]
    have hs : (s :: s2 :: r).dropLast = s :: (s2 :: r).dropLast := rfl
    have he : (ended (s :: s2 :: r).dropLast (aheadF m left (s :: s2 :: r)) : Int) = (if s = left then 1 else 0) + (ended (s2 :: r).dropLast (aheadF m (nxt m left s) (s2 :: r)) : Nat) := by
      rw [hs, aheadF]
      unfold ended
      rw [List.zip_cons_cons, List.filter_cons]
      by_cases e : s = left
      · simp [e]; omega
      · simp [e]
    have ha : (aheadF m left (s :: s2 :: r)).sum = left + (aheadF m (nxt m left s) (s2 :: r)).sum := by
      rw [aheadF, List.sum_cons]
    have hz : (s :: s2 :: r).sum = s + (s2 :: r).sum := List.sum_cons
    have hd2 : (aheadF m left (s :: s2 :: r)).dropLast.sum = left + (aheadF m (nxt m left s) (s2 :: r)).dropLast.sum := by rw [hd, List.sum_cons]
    rw [dueF, ih, hd2, he, ha, hz]
    generalize (s2 :: r).sum = a1
    generalize (aheadF m (nxt m left s) (s2 :: r)).sum = a2
    generalize (aheadF m (nxt m left s) (s2 :: r)).dropLast.sum = a3
    generalize (ended (s2 :: r).dropLast (aheadF m (nxt m left s) (s2 :: r)) : Int) = a4
    by_cases e : s = left
    · simp only [if_pos e, Int.mul_add, Int.mul_one]
      omega
    · simp only [if_neg e, Int.mul_add, Int.mul_zero]
      omega
theorem p_numbers_left (ns : List Int) {m : Int} {v : D} {ss : List Int} {st : Sto} {Q : D → Sto → Prop} (hv : IsSq st v (ss.map .int)) (hk : okS m m ss) (hl : ss.length ≤ 100) (q : ∀ p s, Fr [] st s → s[p]? = some (.lst ((aheadF m m ss).map .int)) → Q (.loc p) s) : wp (m_numbers_left ns [.int m, v]) st Q := by
  have e0 : m_numbers_left ns = runB 5 (t_numbers_left_1 ns) := rfl
  rw [e0]
  simp [runB_eq, startE, t_numbers_left_1, t_numbers_left_2, t_numbers_left_3]
  refine wp_seqQ (hv.fr (Fr.new _)) fun ok hok => ?_
  refine wp_forL (fun i ρ s => ∃ left acc, (∃ v4, ρ = [some (.int m), some v, some (.loc st.length), some (.int left), v4]) ∧ acc.length = i ∧ i ≤ ss.length ∧ s[st.length]? = some (.lst (acc.map .int)) ∧ okS m left (ss.drop i) ∧ acc ++ aheadF m left (ss.drop i) = aheadF m m ss ∧ Fr [] st s) _ 0 _ _
    ⟨m, [], ⟨_, rfl⟩, rfl, by omega, by simp, by simpa using hk, by simp, Fr.new _⟩ (fun j x ρ s hj hI => ?_) fun ρ s hI => ?_
  · obtain ⟨left, acc, ⟨v4, rfl⟩, h1, h2, h3, h4, h5, h6⟩ := hI
    rw [Nat.zero_add] at h1 h4 h5 h2
    have hj1 : j < ss.length := by
      have := (List.getElem?_eq_some_iff.mp hj).1
      simpa using this
    have hx : x = .int ss[j] := by
      rw [List.getElem?_map, List.getElem?_eq_getElem hj1] at hj
      simpa using hj.symm
    subst hx
    have hd : ss.drop j = ss[j] :: ss.drop (j + 1) := List.drop_eq_getElem_cons hj1
    rw [hd] at h4 h5
    obtain ⟨⟨k1, k2⟩, h4⟩ := h4
    refine ⟨hok s (hv.fr h6), _, by simp; rfl, ?_⟩
    simp [t_numbers_left_3_1, e_is_integer, k1, k2, t_numbers_left_3_2]
    rw [wp_isL h3, wp_append h3 (by simp; omega)]
    simp [t_numbers_left_3_3, opEq_int]
    have hF : st.length < s.length := (List.getElem?_eq_some_iff.mp h3).1
    have step : ∀ left', left' = nxt m left ss[j] → ∃ left1 acc1, left1 = left' ∧ acc1.length = j + 1 ∧ j + 1 ≤ ss.length ∧ (s.set st.length (.lst (acc.map .int ++ [.int left])))[st.length]? = some (.lst (acc1.map .int)) ∧ okS m left1 (ss.drop (j + 1)) ∧ acc1 ++ aheadF m left1 (ss.drop (j + 1)) = aheadF m m ss ∧ Fr [] st (s.set st.length (.lst (acc.map .int ++ [.int left]))) := fun left' e => by
      subst e
      refine ⟨_, acc ++ [left], rfl, by simp [h1], by omega, ?_, h4, ?_, h6.setNew (Nat.le_refl _)⟩
      · rw [List.getElem?_set_self hF]
        simp
      · rw [← h5, aheadF]
        simp
    by_cases e : ss[j] = left
    · simp [e]
      obtain ⟨a, b, e1, z⟩ := step m (by unfold nxt; rw [if_pos e])
      subst e1
      exact ⟨b, by simpa using z⟩
    · simp [e]
      obtain ⟨a, b, e1, z⟩ := step (left - ss[j]) (by unfold nxt; rw [if_neg e])
      rw [e1] at z
      exact ⟨b, by simpa using z⟩
  · obtain ⟨left, acc, ⟨v4, rfl⟩, h1, h2, h3, h4, h5, h6⟩ := hI
    refine ⟨hok s (hv.fr h6), ?_⟩
    simp [t_numbers_left_4]
    simp at h1 h5
    refine q _ s h6 ?_
    rw [h3, ← h5]
    simp [aheadF]
def eqP : D → Option D
  | .tup [.int a, .int b] => if a = b then some (.int a) else none
  | _ => none
theorem zip_ended : ∀ (xs ys : List Int), ((zipL (xs.map D.int) (ys.map D.int)).filterMap eqP).length = ended xs ys := fun xs ys => by
  unfold zipL ended
  rw [List.zip_map, List.map_map, List.filterMap_map]
  induction xs.zip ys with
  | nil => rfl
  | cons p r ih =>
    obtain ⟨a, b⟩ := p
    by_cases e : a = b
    · simp [eqP, e] at ih ⊢
      exact ih
    · simp [eqP, e] at ih ⊢
      exact ih
theorem p_deeds_for_sizes (ns : List Int) {m : Int} {v : D} {ss : List Int} {st : Sto} {Q : D → Sto → Prop} (hv : IsSq st v (ss.map .int)) (hk : okS m m ss) (hl : ss.length ≤ 100) (q : ∀ s, Fr [] st s → Q (.int (num m ss)) s) : wp (m_deeds_for_sizes ns [.int m, v]) st Q := by
  have e0 : m_deeds_for_sizes ns = runB 7 (t_deeds_for_sizes_1 ns) := rfl
  rw [e0]
  simp [runB_eq, startE, t_deeds_for_sizes_1]
  rw [wp_lenQ hv]
  simp [opEq_int]
  by_cases e : ss = []
  · have := q st Fr.refl
    simpa [e, num] using this
  · simp [e, t_deeds_for_sizes_2]
    refine p_numbers_left ns hv hk hl fun p s1 f1 g1 => ?_
    have hv1 := hv.fr f1
    have hp1 : IsSq s1 (.loc p) ((aheadF m m ss).map .int) := .inr ⟨p, rfl, g1⟩
    simp [t_deeds_for_sizes_3]
    rw [wp_sumQ hv1, wp_sumQ hp1, opMul_int (.inl (by decide))]
    simp
    refine wp_slQ hp1 fun v' s2 f2 hv' => ?_
    rw [← List.map_dropLast] at hv'
    rw [wp_sumQ hv']
    simp [t_deeds_for_sizes_4]
    refine wp_slQ (hv1.fr f2) fun v'' s3 f3 hv'' => ?_
    have hp3 := (hp1.fr f2).fr f3
    rw [← List.map_dropLast] at hv''
    refine wp_zipQ hv'' hp3 fun ok hok => ?_
    refine pu_lcLok eqP _ (fun s fr => hok s (hv''.fr fr) (hp3.fr fr)) (by rw [zipL_len]; simp; omega) (fun x hx => ?_) fun s4 f4 => ?_
    · obtain ⟨a, ha, b, hb, rfl⟩ := zip_mem hx
      obtain ⟨a, _, rfl⟩ := List.mem_map.mp ha
      obtain ⟨b, _, rfl⟩ := List.mem_map.mp hb
      refine ⟨_, by simp; rfl, ?_⟩
      by_cases e : a = b
      · refine .inr ⟨.int a, by simp [eqP, e], ?_, ?_⟩
        · simp [wipeE, opEq_int, e]
          exact .ret'
        · simp [wipeE]
          exact .ret'
      · refine .inl ⟨by simp [eqP, e], ?_⟩
        simp [wipeE, opEq_int, e]
        exact .ret'
    · have hen : ended ss.dropLast (aheadF m m ss) ≤ 100 := by
        unfold ended
        refine Nat.le_trans (List.length_filter_le ..) ?_
        rw [List.length_zip]
        simp
        omega
      have hle : ((zipL (ss.map D.int).dropLast ((aheadF m m ss).map D.int)).filterMap eqP).length = ended ss.dropLast (aheadF m m ss) := by rw [← List.map_dropLast]; exact zip_ended _ _
      simp [t_deeds_for_sizes_5]
      rw [opMul_int (.inl (by decide))]
      simp
      rw [hle, opMul_int (.inr (by omega))]
      simp [t_deeds_for_sizes_6]
      rw [opMul_int (.inl (by decide))]
      simp
      rw [wp_ixQ ((((hv1.fr f2).fr f3).fr f4).fr (Fr.new _)), at_last e]
      simp
      unfold num at q
      rw [if_neg e, due_eq m ss m e] at q
      exact q _ ((((f1.trans f2).trans f3).trans f4).trans (Fr.new _))
end Lk38
end
section
set_option Elab.async false
set_option linter.all false
set_option maxRecDepth 100000
namespace Lk38
open PySem L2 Pm
theorem p_deeds_of (ns : List Int) {m : Int} (hm : 1 ≤ m) {ss : List Int} {st : Sto} {Q : D → Sto → Prop} (hk : okS m m ss) (hl : ss.length ≤ 100) (q : ∀ s, Fr [] st s → Q (.int (num m ss)) s) : wp (m_deeds_of ns [.int m, .tup (ss.map .int)]) st Q := by
  have e0 : m_deeds_of ns = runB 2 (t_deeds_of_1 ns) := rfl
  rw [e0]
  have h1 : ¬ m < 1 := by omega
  simp [runB_eq, startE, t_deeds_of_1, e_is_integer, opLtX_int, h1, t_deeds_of_2, isT]
  refine p_numbers_left ns (.inl rfl) hk hl fun p s1 f1 g1 => ?_
  have eI : opIs (.loc p) .non = ret (.bl false) := rfl
  rw [eI]
  simp [t_deeds_of_3]
  exact p_deeds_for_sizes ns (.inl rfl) hk hl fun s f => q s (f1.trans f)
theorem p_least (ns : List Int) {m : Int} (hm : 1 ≤ m ∧ m ≤ 5) {Ls : List (List Int)} {st : Sto} {Q : D → Sto → Prop} (hl : Ls.length ≤ 50) (hg : ∀ l ∈ Ls, goodL m l) (he : erasB m Ls = true) (hk : okS m m (Ls.map fun l => (l.length : Int))) (q : ∀ s, Fr [] st s → Q (.int (num m (Ls.map fun l => (l.length : Int)))) s) : wp (m_least_deeds ns [.int m, lotsD Ls]) st Q := by
  have e0 : m_least_deeds ns = runB 3 (t_least_deeds_1 ns) := rfl
  rw [e0]
  simp [runB_eq, startE, t_least_deeds_1, e_check_many ns hm, t_least_deeds_2]
  have hkind : kindB "eras" m (lotsD Ls) = true := by
    rw [kind_yes (lots_good hg), if_neg (by decide), if_neg (by decide), if_neg (by decide)]
    exact he
  have hv : okV st (lotsD Ls) := ⟨fun x hx => by
    obtain ⟨l, hl', rfl⟩ := List.mem_map.mp hx
    refine ⟨fun y hy => ?_, ?_⟩
    · obtain ⟨i, _, rfl⟩ := List.mem_map.mp hy
      rfl
    · have := (hg l hl').len
      simp
      omega, by simpa using hl⟩
  refine p_check_lots ns hm hv hkind fun s1 f1 => ?_
  simp [t_least_deeds_3, seqA]
  refine pu_lcL (fun d => match d with
    | .tup ys => some (.int ys.length)
    | _ => none) _ [] (by simp; omega) (fun x hx => ?_) s1 _ fun s2 f2 => ?_
  · obtain ⟨l, hl', rfl⟩ := List.mem_map.mp hx
    refine ⟨_, by simp; rfl, .inr ⟨_, rfl, ?_, ?_⟩⟩
    · simp
      exact .ret'
    · simp [wipeE]
      exact .ret'
  · have e1 : ([] : List D) ++ (Ls.map lotD).filterMap (fun d => match d with
      | .tup ys => some (.int ys.length)
      | _ => none) = (Ls.map fun l => (l.length : Int)).map D.int := by
      rw [List.nil_append, List.filterMap_map, List.map_map, ← List.filterMap_eq_map]
      congr 1
      funext l
      simp [lotD]
    rw [e1]
    refine p_deeds_for_sizes ns .new hk (by simp; omega) fun s3 f3 => ?_
    exact q s3 (((f1.trans f2).trans (Fr.new _)).trans f3)
theorem enu_get {ss : List Int} {j : Nat} {x : D} (h : ((ss.map D.int).zipIdx.map fun p => D.tup [.int (p.2 : Nat), p.1])[j]? = some x) : ∃ hj : j < ss.length, x = .tup [.int (j : Nat), .int ss[j]] := by
  have hj : j < ss.length := by
    have := (List.getElem?_eq_some_iff.mp h).1
    simpa using this
  rw [enumD_get (by simpa using hj)] at h
  refine ⟨hj, ?_⟩
  simpa using h.symm
theorem p_law_number (ns : List Int) {m : Int} {ss : List Int} {st : Sto} {Q : D → Sto → Prop} (hl : ss.length ≤ 100) (q : Q (.int (num m ss)) st) : wp (m_law_number ns [.int m, .tup (ss.map .int)]) st Q := by
  have e0 : m_law_number ns = runB 6 (t_law_number_1 ns) := rfl
  rw [e0]
  simp [runB_eq, startE, t_law_number_1, t_law_number_2]
  refine wp_forL (fun i ρ s => ∃ ch left, (∃ v4 v5, ρ = [some (.int m), some (.tup (ss.map .int)), some (.int ch), some (.int left), v4, v5]) ∧ i ≤ ss.length ∧ ch + dueF m left (ss.drop i) = dueF m m ss ∧ s = st) _ 0 _ _
    ⟨0, m, ⟨_, _, rfl⟩, by omega, by simp, rfl⟩ (fun j x ρ s hj hI => ?_) fun ρ s hI => ?_
  · obtain ⟨ch, left, ⟨v4, v5, rfl⟩, h1, h2, rfl⟩ := hI
    rw [Nat.zero_add] at h1 h2
    obtain ⟨hj1, rfl⟩ := enu_get hj
    have hd : ss.drop j = ss[j] :: ss.drop (j + 1) := List.drop_eq_getElem_cons hj1
    rw [hd] at h2
    refine ⟨rfl, _, by simp; rfl, ?_⟩
    simp [t_law_number_2_1]
    rw [opMul_int (.inl (by decide))]
    simp [t_law_number_2_2, opLtX_int, opEq_int]
    generalize hs : ss[j] = sz at h2
    have fin : ∀ ch' left', left' = nxt m left sz → ch' = ch + sz + 2 * left + (if (j : Int) < ss.length - 1 then left + (if sz = left then 2 * m else 0) else 0) → ch' + dueF m left' (ss.drop (j + 1)) = dueF m m ss := fun ch' left' e1 e2 => by
      subst e1 e2
      by_cases hlast : (j : Int) < ss.length - 1
      · rw [if_pos hlast]
        obtain ⟨s2, r, e3⟩ : ∃ s2 r, ss.drop (j + 1) = s2 :: r := ⟨_, _, List.drop_eq_getElem_cons (by omega)⟩
        rw [e3] at h2 ⊢
        rw [dueF] at h2
        omega
      · rw [if_neg hlast]
        have e3 : ss.drop (j + 1) = [] := List.drop_eq_nil_of_le (by omega)
        rw [e3] at h2 ⊢
        simp [dueF] at h2 ⊢
        omega
    by_cases hlast : (j : Int) < ss.length - 1
    · simp [hlast]
      by_cases e : left = sz
      · subst e
        have f := fin (ch + left + 2 * left + left + 2 * m) m (by unfold nxt; rw [if_pos rfl]) (by rw [if_pos hlast, if_pos rfl]; omega)
        simp
        rw [opMul_int (.inl (by decide))]
        simp [t_law_number_2_3, opEq_int]
        exact ⟨_, _, ⟨rfl, rfl⟩, by omega, f⟩
      · have f := fin (ch + sz + 2 * left + left) (left - sz) (by unfold nxt; rw [if_neg (fun z => e z.symm)]) (by rw [if_pos hlast, if_neg (fun z => e z.symm)]; omega)
        simp [e, t_law_number_2_3, opEq_int]
        exact ⟨_, _, ⟨rfl, rfl⟩, by omega, f⟩
    · simp [hlast, t_law_number_2_3, opEq_int]
      by_cases e : left = sz
      · subst e
        have f := fin (ch + left + 2 * left) m (by unfold nxt; rw [if_pos rfl]) (by rw [if_neg hlast]; omega)
        simp
        exact ⟨_, _, ⟨rfl, rfl⟩, by omega, f⟩
      · have f := fin (ch + sz + 2 * left) (left - sz) (by unfold nxt; rw [if_neg (fun z => e z.symm)]) (by rw [if_neg hlast]; omega)
        simp [e]
        exact ⟨_, _, ⟨rfl, rfl⟩, by omega, f⟩
  · obtain ⟨ch, left, ⟨v4, v5, rfl⟩, h1, h2, rfl⟩ := hI
    refine ⟨rfl, ?_⟩
    simp [dueF] at h2
    simp [t_law_number_3, opEq_int]
    unfold num at q
    by_cases e : ss = []
    · rw [if_pos e] at q
      simpa [e] using q
    · rw [if_neg e] at q
      simp [e]
      rw [opMul_int (.inl (by decide)), at_last e]
      simp
      rw [h2]
      exact q
end Lk38
end
section
set_option Elab.async false
set_option linter.all false
set_option maxRecDepth 100000
namespace Lk38
open PySem L2 Pm
/-! ### sizes of eras -/
theorem rest_len {still lot : List Int} (h1 : still.Nodup) (h2 : lot.Nodup) (h : ∀ w ∈ lot, w ∈ still) : (restS still lot).length + lot.length = still.length := by
  have hp : (still.filter fun w => decide (w ∈ lot)).Perm lot := (List.perm_ext_iff_of_nodup (h1.filter _) h2).mpr fun w => by
    rw [List.mem_filter]
    exact ⟨fun z => by simpa using z.2, fun z => ⟨h w z, by simpa using z⟩⟩
  have e := List.length_eq_countP_add_countP (fun w => decide (w ∈ lot)) (l := still)
  rw [List.countP_eq_length_filter, List.countP_eq_length_filter, hp.length_eq] at e
  have e2 : (still.filter fun a => decide ¬ decide (a ∈ lot) = true) = restS still lot := by
    unfold restS
    congr 1
    funext a
    by_cases z : a ∈ lot <;> simp [z]
  rw [e2] at e
  omega
theorem goodL.nd {m : Int} {l : List Int} (h : goodL m l) : l.Nodup := h.asc.imp fun h e => by omega
theorem eras_sizes {m : Int} (hm : 1 ≤ m ∧ m ≤ 5) : ∀ (Ls : List (List Int)) (still : List Int), goodS m still → (∀ l ∈ Ls, goodL m l) → erasF m still Ls = true → okS m (still.length : Nat) (Ls.map fun l => (l.length : Int))
  | [], _, _, _, _ => trivial
  | l :: Ls, still, hS, hg, he => by
    rw [erasF, Bool.and_eq_true] at he
    have hl := hg l (by simp)
    have hsub : ∀ w ∈ l, w ∈ still := fun w hw => by simpa using List.all_eq_true.mp he.1 w hw
    have hr := rest_len hS.nd hl.nd hsub
    have hlen : 0 < l.length := List.length_pos_iff.mpr hl.ne
    refine ⟨show 1 ≤ (l.length : Int) ∧ (l.length : Int) ≤ (still.length : Nat) by omega, ?_⟩
    have ih := eras_sizes hm Ls (nextS m still l) (hS.next hm) (fun l' h => hg l' (by simp [h])) he.2
    have e : nxt m (still.length : Nat) (l.length : Nat) = ((nextS m still l).length : Nat) := by
      unfold nxt nextS
      by_cases z : restS still l = []
      · rw [if_pos z, if_pos (by rw [z] at hr; simp at hr; omega), rg_length]
        omega
      · have : 0 < (restS still l).length := List.length_pos_iff.mpr z
        rw [if_neg z, if_neg (by omega)]
        omega
    rw [e]
    exact ih
/-! ### other numbers of walkers -/
structure Ren (m : Int) (f : Int → Int) : Prop where
  into : ∀ i, 0 ≤ i ∧ i < m → 0 ≤ f i ∧ f i < m
  inj : ∀ i j, 0 ≤ i ∧ i < m → 0 ≤ j ∧ j < m → f i = f j → i = j
  onto : ∀ j, 0 ≤ j ∧ j < m → ∃ i, (0 ≤ i ∧ i < m) ∧ f i = j
def renL (f : Int → Int) (l : List Int) : List Int := isort (l.map f)
theorem ren_mem {f : Int → Int} {l : List Int} {w : Int} : w ∈ renL f l ↔ ∃ i ∈ l, f i = w := by
  unfold renL
  rw [(isort_perm _).mem_iff, List.mem_map]
theorem Ren.good {m : Int} {f : Int → Int} (h : Ren m f) {l : List Int} (g : goodL m l) : goodL m (renL f l) := by
  have hl : (renL f l).length = l.length := by unfold renL; rw [(isort_perm _).length_eq, List.length_map]
  refine ⟨fun e => ?_, fun i hi => ?_, ?_, by rw [hl]; exact g.len⟩
  · rw [e] at hl
    exact g.ne (List.eq_nil_of_length_eq_zero hl.symm)
  · obtain ⟨j, hj, rfl⟩ := ren_mem.mp hi
    exact h.into j (g.mem j hj)
  · refine isort_asc ?_
    have hn := g.nd
    have hm := g.mem
    exact List.pairwise_map.mpr (hn.imp_of_mem fun {a b} ha hb hne e => hne (h.inj a b (hm a ha) (hm b hb) e))
theorem Ren.eras {m : Int} (hm : 1 ≤ m ∧ m ≤ 5) {f : Int → Int} (h : Ren m f) : ∀ (Ls : List (List Int)) (still still' : List Int), (∀ l ∈ Ls, goodL m l) → (∀ w ∈ still, 0 ≤ w ∧ w < m) → (∀ w ∈ still', 0 ≤ w ∧ w < m) → (∀ w, 0 ≤ w ∧ w < m → (w ∈ still ↔ f w ∈ still')) → erasF m still Ls = true → erasF m still' (Ls.map (renL f)) = true
  | [], _, _, _, _, _, _, _ => rfl
  | l :: Ls, still, still', hg, h1, h2, h3, he => by
    rw [erasF, Bool.and_eq_true] at he
    rw [List.map_cons, erasF, Bool.and_eq_true]
    have hl := hg l (by simp)
    have r1 : ∀ w, 0 ≤ w ∧ w < m → (w ∈ restS still l ↔ f w ∈ restS still' (renL f l)) := fun w hw => by
      unfold restS
      rw [List.mem_filter, List.mem_filter, h3 w hw]
      have : w ∈ l ↔ f w ∈ renL f l := ⟨fun z => ren_mem.mpr ⟨w, z, rfl⟩, fun z => by
        obtain ⟨i, hi, e⟩ := ren_mem.mp z
        rw [← h.inj i w (hl.mem i hi) hw e]
        exact hi⟩
      simp [this]
    have n0 : ∀ w ∈ nextS m still l, 0 ≤ w ∧ w < m := fun w hw => by
      unfold nextS at hw
      split at hw
      · exact rg_mem hw
      · exact h1 w (List.mem_filter.mp hw).1
    have n1 : ∀ w ∈ nextS m still' (renL f l), 0 ≤ w ∧ w < m := fun w hw => by
      unfold nextS at hw
      split at hw
      · exact rg_mem hw
      · exact h2 w (List.mem_filter.mp hw).1
    have em : restS still l = [] ↔ restS still' (renL f l) = [] := by
      constructor
      · intro z
        refine List.eq_nil_iff_forall_not_mem.mpr fun w hw => ?_
        obtain ⟨i, hi, rfl⟩ := h.onto w (h2 w (List.mem_filter.mp hw).1)
        have := (r1 i hi).mpr hw
        rw [z] at this
        cases this
      · intro z
        refine List.eq_nil_iff_forall_not_mem.mpr fun w hw => ?_
        have := (r1 w (h1 w (List.mem_filter.mp hw).1)).mp hw
        rw [z] at this
        cases this
    have n2 : ∀ w, 0 ≤ w ∧ w < m → (w ∈ nextS m still l ↔ f w ∈ nextS m still' (renL f l)) := fun w hw => by
      unfold nextS
      by_cases z : restS still l = []
      · rw [if_pos z, if_pos (em.mp z)]
        have mr : ∀ w, 0 ≤ w ∧ w < m → w ∈ rg m := fun w hw => by
          unfold rg
          exact List.mem_map.mpr ⟨w.toNat, List.mem_range.mpr (by omega), by omega⟩
        exact ⟨fun _ => mr _ (h.into w hw), fun _ => mr w hw⟩
      · rw [if_neg z, if_neg fun q => z (em.mpr q)]
        exact r1 w hw
    refine ⟨List.all_eq_true.mpr fun w hw => ?_, Ren.eras hm h Ls _ _ (fun l' q => hg l' (by simp [q])) n0 n1 n2 he.2⟩
    obtain ⟨i, hi, rfl⟩ := ren_mem.mp hw
    have := List.all_eq_true.mp he.1 i hi
    exact decide_eq_true ((h3 i (hl.mem i hi)).mp (by simpa using this))
theorem ren_of {m : Int} {zs : List Int} (h : zs.Perm (rg m)) : Ren m fun i => zs.getD i.toNat 0 := by
  have hl : zs.length = m.toNat := by rw [h.length_eq, rg_length]
  have hn : zs.Nodup := h.nodup_iff.mpr (rg_nodup m)
  have at_ : ∀ i, 0 ≤ i ∧ i < m → ∃ q : i.toNat < zs.length, zs.getD i.toNat 0 = zs[i.toNat] := fun i hi => ⟨by omega, by rw [List.getD_eq_getElem?_getD, List.getElem?_eq_getElem (by omega)]; rfl⟩
  refine ⟨fun i hi => ?_, fun i j hi hj e => ?_, fun j hj => ?_⟩
  · obtain ⟨q, e⟩ := at_ i hi
    rw [e]
    exact rg_mem (h.mem_iff.mp (List.getElem_mem q))
  · obtain ⟨q, e1⟩ := at_ i hi
    obtain ⟨q', e2⟩ := at_ j hj
    simp only [e1, e2] at e
    have hp := List.pairwise_iff_getElem.mp hn
    rcases Nat.lt_trichotomy i.toNat j.toNat with z | z | z
    · exact absurd e (hp _ _ q q' z)
    · omega
    · exact absurd e.symm (hp _ _ q' q z)
  · have hj' : j ∈ zs := h.mem_iff.mpr (by
      unfold rg
      exact List.mem_map.mpr ⟨j.toNat, List.mem_range.mpr (by omega), by omega⟩)
    obtain ⟨k, hk, e⟩ := List.getElem_of_mem hj'
    refine ⟨(k : Int), by omega, ?_⟩
    obtain ⟨q, e1⟩ := at_ (k : Int) (by omega)
    rw [e1]
    simpa using e
/-! ### bounds -/
theorem due_bound {m : Int} (hm : 1 ≤ m) : ∀ (ss : List Int) (left : Int), 1 ≤ left ∧ left ≤ m → okS m left ss → 0 ≤ dueF m left ss ∧ dueF m left ss ≤ 6 * m * (ss.length : Nat)
  | [], _, _, _ => by simp [dueF]
  | [s], left, hl, h => by
    obtain ⟨h1, _⟩ := h
    simp [dueF]
    omega
  | s :: s2 :: r, left, hl, h => by
    obtain ⟨h1, h2⟩ := h
    have hn : 1 ≤ nxt m left s ∧ nxt m left s ≤ m := by
      unfold nxt
      split <;> omega
    obtain ⟨i1, i2⟩ := due_bound hm (s2 :: r) (nxt m left s) hn h2
    have e : 6 * m * (((s :: s2 :: r).length : Nat) : Int) = 6 * m * (((s2 :: r).length : Nat) : Int) + 6 * m := by
      rw [show (((s :: s2 :: r).length : Nat) : Int) = (((s2 :: r).length : Nat) : Int) + 1 by simp, Int.mul_add, Int.mul_one]
    rw [e, dueF]
    split <;> omega
theorem last_ok {m : Int} : ∀ (ss : List Int) (left : Int), ss ≠ [] → 1 ≤ left ∧ left ≤ m → okS m left ss → 1 ≤ ss.getLast?.getD 0 ∧ ss.getLast?.getD 0 ≤ m
  | [], _, h, _, _ => absurd rfl h
  | [s], left, _, hl, h => by
    obtain ⟨h1, _⟩ := h
    simp
    omega
  | s :: s2 :: r, left, _, hl, h => by
    obtain ⟨h1, h2⟩ := h
    have hn : 1 ≤ nxt m left s ∧ nxt m left s ≤ m := by
      unfold nxt
      split <;> omega
    have := last_ok (s2 :: r) (nxt m left s) (by simp) hn h2
    rw [List.getLast?_cons_cons]
    exact this
theorem num_small {m : Int} (hm : 1 ≤ m ∧ m ≤ 10 ^ 30) {ss : List Int} (hl : ss.length ≤ 12) (h : okS m m ss) : (num m ss).natAbs < 10 ^ 40 := by
  unfold num
  by_cases e : ss = []
  · rw [if_pos e]; decide
  · rw [if_neg e]
    obtain ⟨h1, h2⟩ := due_bound hm.1 ss m (by omega) h
    obtain ⟨h3, h4⟩ := last_ok ss m e (by omega) h
    have h5 : 6 * m * (ss.length : Nat) ≤ 6 * m * 12 := Int.mul_le_mul_of_nonneg_left (by omega) (by omega)
    have e1 : (10 : Int) ^ 30 = 1000000000000000000000000000000 := by decide
    have e2 : 10 ^ 40 = 10000000000000000000000000000000000000000 := by decide
    rw [e1] at hm
    rw [e2]
    omega
theorem log2_40 {a : Int} (h : a.natAbs < 10 ^ 40) : a.natAbs.log2 < 1920 := by
  rcases Nat.eq_zero_or_pos a.natAbs with z | z
  · rw [z]; decide
  · exact (Nat.log2_lt (by omega)).mpr (Nat.lt_of_lt_of_le (Nat.lt_of_lt_of_le h (show 10 ^ 40 ≤ 2 ^ 140 by decide)) (Nat.pow_le_pow_right (by decide) (by decide)))
theorem sh40 {i : Int} (h : i.natAbs < 10 ^ 40) : Sh 1 41 (.int i) := ⟨.int i, fun st n hn => by
  obtain ⟨m, rfl⟩ : ∃ m, n = m + 1 := ⟨n - 1, by omega⟩
  rfl, by simp only [PyData.showable]; exact decide_eq_true (log2_40 h), rfl, by simp [PyData.depth], by
  show (Str.ofString (toString i)).length ≤ 41
  rw [ofStr_len]
  exact int_text_length_le10 (by decide) h⟩
theorem repr_num {m : Int} (hm : 1 ≤ m ∧ m ≤ 10 ^ 30) {ss : List Int} (hl : ss.length ≤ 12) (h : okS m m ss) : ∃ t : Str, bRepr [.int (num m ss)] = ret (.str t) := (sh40 (num_small hm hl h)).repr (by decide) (by decide)
theorem repr0 : bRepr [.int 0] = ret (.str "0") := by
  obtain ⟨t, ht⟩ := (sh40 (i := 0) (by decide)).repr (by decide) (by decide)
  have : t = "0" := by
    have e := congrFun ht []
    have e2 : bRepr [.int 0] [] = .ok (.str "0") [] := by rfl
    rw [e2] at e
    cases e
    rfl
  rw [ht, this]
end Lk38
end
section
set_option Elab.async false
set_option linter.all false
set_option maxRecDepth 100000
namespace Lk38
open PySem L2 Pm
theorem p_of (ns : List Int) {l m n : Nat} {st : Sto} {xs : List D} {Q : D → Sto → Prop} (hp : Pot l n st) (hn : n ≤ 1000000) (hx : st[m]? = some (.lst xs)) (hml : m ≠ l) (h1 : 0 < xs.length ∧ xs.length < 2 ^ 24)
    (q : ∀ x s', x ∈ xs → Pot l (n + 1) s' → Fr [l] st s' → Q x s') : wp (m_law_of ns [.loc l, .loc m]) st Q := of_spec (e_take ns) sm hp hn hx hml h1 q
theorem okS_app {m left s : Int} {acc : List Int} (h : ∀ r, okS m left r → okS m m (acc ++ r)) (hs : 1 ≤ s ∧ s ≤ left) : ∀ r, okS m (nxt m left s) r → okS m m ((acc ++ [s]) ++ r) := fun r hr => by
  rw [List.append_assoc]
  exact h _ ⟨hs, hr⟩
theorem p_great (ns : List Int) {m : Int} (hm : 1 ≤ m) {l n : Nat} {st : Sto} {Q : D → Sto → Prop} (hp : Pot l n st) (hn : n ≤ 600000)
    (q : ∀ ss s, okS m m ss → ss.length ≤ 12 → Pot l (n + 100) s → Fr [l] st s → Q (.tup (ss.map .int)) s) : wp (m_law_great_sizes ns [.loc l, .int m]) st Q := by
  have hlt := hp.lt
  have e0 : m_law_great_sizes ns = runB 6 (t_law_great_sizes_1 ns) := rfl
  rw [e0]
  simp [runB_eq, startE, t_law_great_sizes_1, t_law_great_sizes_2]
  refine p_take ns (hp.fr (S := []) (Fr.new _) (by simp) (Nat.le_refl _)) (by omega) (by omega) fun k s0 hk o0 f0 => ?_
  obtain ⟨k, rfl⟩ : ∃ z : Nat, k = (z : Int) := ⟨k.toNat, by omega⟩
  simp
  refine ⟨okR_small (by omega) (by omega), ?_⟩
  simp only [rngI]
  have gF : s0[st.length]? = some (.lst []) := f0.at (by simp) (by simp; omega)
  refine wp_forL (fun i ρ s => ∃ left acc, (∃ v4 v5, ρ = [some (.loc l), some (.int m), some (.loc st.length), some (.int left), v4, v5]) ∧ i ≤ k ∧ acc.length = i ∧ (1 ≤ left ∧ left ≤ m) ∧ (∀ r, okS m left r → okS m m (acc ++ r)) ∧ s[st.length]? = some (.lst (acc.map .int)) ∧ Pot l (n + 1 + 2 * i) s ∧ Fr [l] st s) _ 0 _ _
    ⟨m, [], ⟨_, _, rfl⟩, by omega, rfl, by omega, fun r h => h, gF, o0, (Fr.new _).trans f0⟩ (fun j x ρ s hj hI => ?_) fun ρ s hI => ?_
  · obtain ⟨left, acc, ⟨v4, v5, rfl⟩, hik, hal, hl, hok, hA, o, f⟩ := hI
    rw [Nat.zero_add] at hik hal o
    have hj1 : j < k := by
      have := (List.getElem?_eq_some_iff.mp hj).1
      simpa using this
    have hs1 : st.length < s.length := (List.getElem?_eq_some_iff.mp hA).1
    have hls := o.lt
    refine ⟨rfl, _, by simp; rfl, ?_⟩
    simp [t_law_great_sizes_2_1]
    rw [opFdiv_int (by decide) (by decide), opFdiv_int (by decide) (by decide)]
    simp
    refine ⟨small_line (by decide), ?_⟩
    refine p_of ns (o.fr (S := []) (Fr.new _) (by simp) (Nat.le_refl _)) (by omega) (by simp; rfl) (by omega) (by simp) fun x s2 hx o2 f2 => ?_
    have hxi : ∃ z : Int, x = .int z ∧ 1 ≤ z := by
      simp at hx
      rcases hx with rfl | rfl | rfl | rfl | rfl
      · exact ⟨_, rfl, by omega⟩
      · exact ⟨_, rfl, by omega⟩
      · exact ⟨_, rfl, by omega⟩
      · exact ⟨_, rfl, by split <;> omega⟩
      · exact ⟨_, rfl, by split <;> omega⟩
    obtain ⟨z, rfl, hz⟩ := hxi
    simp [t_law_great_sizes_2_2, t_law_great_sizes_2_3]
    have ff : Fr [l] s s2 := (Fr.new _).trans f2
    have gA := ff.at hA (by simp; omega)
    rw [wp_isL gA, wp_append gA (by simp; omega)]
    have hl2 := ff.1
    generalize hw : (if left < z then left else z) = w
    simp [t_law_great_sizes_2_4, opEq_int]
    have hw1 : 1 ≤ w ∧ w ≤ left := by
      rw [← hw]
      split <;> omega
    have fin : ∀ left', left' = nxt m left w → (∃ left1 acc1, left1 = left' ∧ j + 1 ≤ k ∧ acc1.length = j + 1 ∧ (1 ≤ left1 ∧ left1 ≤ m) ∧ (∀ r, okS m left1 r → okS m m (acc1 ++ r)) ∧ (s2.set st.length (.lst (acc.map .int ++ [.int w])))[st.length]? = some (.lst (acc1.map .int)) ∧ Pot l (n + 1 + 2 * (j + 1)) (s2.set st.length (.lst (acc.map .int ++ [.int w]))) ∧ Fr [l] st (s2.set st.length (.lst (acc.map .int ++ [.int w])))) := fun left' e => by
      subst e
      refine ⟨_, acc ++ [w], rfl, by omega, by simp [hal], by unfold nxt; split <;> omega, okS_app hok hw1, ?_, ?_, (f.trans ff).setNew (Nat.le_refl _)⟩
      · rw [List.getElem?_set_self (by omega)]
        simp
      · exact o2.fr (S := [st.length]) Fr.set (by simp; omega) (by omega)
    by_cases e : left = w
    · subst e
      simp
      obtain ⟨a, b, e1, z1, z⟩ := fin m (by unfold nxt; rw [if_pos rfl])
      rw [e1] at z
      exact ⟨z1, b, by simpa using z⟩
    · simp [e]
      obtain ⟨a, b, e1, z1, z⟩ := fin (left - w) (by unfold nxt; rw [if_neg fun z => e z.symm])
      rw [e1] at z
      exact ⟨z1, b, by simpa using z⟩
  · obtain ⟨left, acc, ⟨v4, v5, rfl⟩, hik, hal, hl, hok, hA, o, f⟩ := hI
    refine ⟨rfl, ?_⟩
    simp [t_law_great_sizes_3]
    rw [wp_bTuple hA]
    simp at hal o
    have := hok [] trivial
    rw [List.append_nil] at this
    exact q acc s this (by omega) (o.fr (S := []) Fr.refl (by simp) (by omega)) f
/-! ### the end of the law -/
theorem okS_rep {m : Int} (hm : 1 ≤ m) : ∀ k : Nat, okS m m (List.replicate k m)
  | 0 => trivial
  | k + 1 => ⟨by omega, by
    have : nxt m m m = m := by unfold nxt; rw [if_pos rfl]
    rw [this]
    exact okS_rep hm k⟩
theorem due_rep {m : Int} : ∀ k : Nat, dueF m m (List.replicate (k + 1) m) = 3 * m + 6 * m * (k : Nat)
  | 0 => by simp [dueF]; omega
  | k + 1 => by
    have ih := due_rep (m := m) k
    have : nxt m m m = m := by unfold nxt; rw [if_pos rfl]
    rw [List.replicate_succ] at ih
    rw [List.replicate_succ, List.replicate_succ, dueF, this, ih, if_pos rfl, show ((k + 1 : Nat) : Int) = (k : Int) + 1 by omega, Int.mul_add, Int.mul_one]
    omega
theorem num_rep {m : Int} (k : Nat) : num m (List.replicate (k + 1) m) = 9 * m + 18 * m * (k : Nat) := by
  unfold num
  rw [if_neg (by simp), due_rep]
  have e : (List.replicate (k + 1) m).getLast?.getD 0 = m := by
    rw [List.getLast?_replicate]
    simp
  rw [e]
  have : 18 * m * (k : Nat) = 3 * (6 * m * (k : Nat)) := by
    rw [← Int.mul_assoc, ← Int.mul_assoc]
    congr 1
  omega
end Lk38
end
section
set_option Elab.async false
set_option linter.all false
set_option maxRecDepth 100000
namespace Lk38
open PySem L2 Pm
theorem opRep_one {m : Int} {k : Nat} (h : 1 ≤ k ∧ k ≤ 5) : opRep (.tup [.int m]) (.int k) = ret (.tup ((List.replicate k m).map .int)) := by
  have e : repL k [D.int m] = (List.replicate k m).map .int := by
    unfold repL
    rw [List.map_replicate]
    induction k with
    | zero => rfl
    | succ k ih =>
      rw [List.replicate_succ, List.flatten_cons]
      cases k with
      | zero => rfl
      | succ k => rw [ih (by omega), List.replicate_succ (n := k + 1)]; rfl
  show (if (k : Int) = 1 then ret (D.tup [.int m]) else if [D.int m] ≠ [] ∧ 2 ≤ (k : Int) ∧ (k : Int) ≤ 1000 ∧ [D.int m].length ≤ 1000 then ret (.tup (repL (k : Int).toNat [.int m])) else no) = _
  by_cases h1 : (k : Int) = 1
  · have : k = 1 := by omega
    subst this
    rfl
  · rw [if_neg h1, if_pos ⟨by simp, by omega, by omega, by simp⟩]
    simp only [Int.toNat_natCast]
    rw [e]
def toldL (m : Int) : List Int := [9 * m, 9 * m + 18 * m, 9 * m + 18 * m * 2, 9 * m + 18 * m * 3, 9 * m + 18 * m * 4]
theorem p_told (ns : List Int) {m : Int} (hm : 1 ≤ m) {l : Nat} {a b c d e f g h i j k n : Option D} {st : Sto} {Q : Fl × En → Sto → Prop} (q : ∀ s y, Fr [] st s → Q (.rt (.bl true), y) s) : wp (t_law_right_12 ns [some (.loc l), a, b, c, d, e, f, some (.int m), g, h, i, j, k, n]) st Q := by
  simp [t_law_right_12]
  refine ⟨⟨okR_small (by omega) (by omega), okR_small (by omega) (by omega)⟩, ?_⟩
  simp only [rngI]
  refine wp_lcMap (fun d => match d with
    | .int k => .int (num m (List.replicate k.toNat m))
    | _ => .non) _ (fun _ _ => rfl) (by simp) (fun x hx s fr => ?_) fun s1 f1 => ?_
  · obtain ⟨t, ht, rfl⟩ := List.mem_map.mp hx
    have ht := List.mem_range.mp ht
    have ht5 : t < 5 := ht
    refine ⟨_, by simp; rfl, ?_⟩
    simp [wipeE]
    refine ⟨small_line (by decide), ?_⟩
    rw [show (1 : Int) + (t : Int) = ((1 + t : Nat) : Int) by omega, opRep_one (by omega)]
    simp only [wp_ret]
    refine p_deeds_of ns hm (okS_rep hm _) (by simp; omega) fun s' f' => ⟨by simp [show (1 + (t : Int)).toNat = 1 + t by omega], f'⟩
  · have e : (((List.range (6 - 1 : Int).toNat).map fun i : Nat => D.int (1 + (i : Int))).map fun d => match d with
      | .int k => D.int (num m (List.replicate k.toNat m))
      | _ => .non) = (toldL m).map .int := by
      show [D.int (num m (List.replicate 1 m)), D.int (num m (List.replicate 2 m)), D.int (num m (List.replicate 3 m)), D.int (num m (List.replicate 4 m)), D.int (num m (List.replicate 5 m))] = _
      rw [num_rep 0, num_rep 1, num_rep 2, num_rep 3, num_rep 4]
      simp [toldL]
    rw [e]
    simp [t_law_right_13]
    refine ⟨okR_small (by omega) (by omega), ?_⟩
    simp only [rngI]
    have g1 : (s1 ++ [O.lst ((toldL m).map .int)])[s1.length]? = some (.lst ((toldL m).map .int)) := by simp
    refine wp_lcMap (fun _ => .int (18 * m)) _ (fun _ _ => rfl) (by simp) (fun x hx s fr => ?_) fun s2 f2 => ?_
    · obtain ⟨t, ht, rfl⟩ := List.mem_map.mp hx
      have ht := List.mem_range.mp ht
      have ht4 : t < 4 := ht
      refine ⟨_, by simp; rfl, ?_⟩
      have g2 := fr.at g1 (by simp)
      simp [wipeE]
      rw [opIx_loc, wp_bnd, wp_obj g2]
      have c4 : t = 0 ∨ t = 1 ∨ t = 2 ∨ t = 3 := by omega
      rcases c4 with rfl | rfl | rfl | rfl
      · simp [toldL, atI, ixN]
        rw [opIx_loc, wp_bnd, wp_obj g2]
        simp [toldL, atI, ixN]
        exact ⟨by omega, Fr.refl⟩
      · simp [toldL, atI, ixN]
        rw [opIx_loc, wp_bnd, wp_obj g2]
        simp [toldL, atI, ixN]
        exact ⟨by omega, Fr.refl⟩
      · simp [toldL, atI, ixN]
        rw [opIx_loc, wp_bnd, wp_obj g2]
        simp [toldL, atI, ixN]
        exact ⟨by omega, Fr.refl⟩
      · simp [toldL, atI, ixN]
        rw [opIx_loc, wp_bnd, wp_obj g2]
        simp [toldL, atI, ixN]
        exact ⟨by omega, Fr.refl⟩
    · have e2 : (((List.range (4 - 0 : Int).toNat).map fun i : Nat => D.int (0 + (i : Int))).map fun _ => D.int (18 * m)) = [18 * m, 18 * m, 18 * m, 18 * m].map D.int := rfl
      rw [e2]
      have e3 : ∀ Q : D → Sto → Prop, wp (oLenSet (.loc s2.length)) (s2 ++ [.lst ([18 * m, 18 * m, 18 * m, 18 * m].map D.int)]) Q = Q (.int 1) (s2 ++ [.lst ([18 * m, 18 * m, 18 * m, 18 * m].map D.int)]) := fun Q => by
        unfold oLenSet
        simp only [wp_bnd, wp_lst_new, intsOf_ints]
        simp [uniq]
      rw [e3]
      simp [opEq_int]
      refine p_deeds_of ns (ss := []) hm trivial (by simp) fun s3 f3 => ?_
      rw [show num m [] = 0 from rfl, repr0]
      simp [opEq_str]
      exact q _ _ ((((f1.trans (Fr.new _)).trans f2).trans (Fr.new _)).trans f3)
end Lk38
end
section
set_option Elab.async false
set_option linter.all false
set_option maxRecDepth 100000
namespace Lk38
open PySem L2 Pm
theorem p_ends (ns : List Int) {l n : Nat} {a b c d e f g h i j k o u : Option D} {st : Sto} {Q : Fl × En → Sto → Prop} (hp : Pot l n st) (hn : n ≤ 500000) (q : ∀ s y, Fr [l] st s → Q (.rt (.bl true), y) s) : wp (t_law_right_9 ns [some (.loc l), a, b, c, d, e, f, g, h, i, j, k, o, u]) st Q := by
  have hlt := hp.lt
  have c9 : CPowB 10 9 := by
    have h1 : Builtin.Int.intBits (10 : Int) ≤ 4 := intBits_le_iff.mpr (by decide)
    exact ⟨by decide, by omega⟩
  have c30 : CPowB 10 30 := by
    have h1 : Builtin.Int.intBits (10 : Int) ≤ 4 := intBits_le_iff.mpr (by decide)
    exact ⟨by decide, by omega⟩
  have e30 : opPow (.int 10) (.int 30) = ret (.int 1000000000000000000000000000000) := by rw [opPow_int c30]; rfl
  have e9 : opPow (.int 10) (.int 9) = ret (.int 1000000000) := by rw [opPow_int c9]; rfl
  simp [t_law_right_9, e9, e30]
  refine ⟨small_line (by decide), ?_⟩
  refine p_of ns (hp.fr (S := []) (Fr.new _) (by simp) (Nat.le_refl _)) (by omega) (by simp; rfl) (by omega) (by simp) fun x s2 hx o2 f2 => ?_
  obtain ⟨m, rfl, hm⟩ : ∃ z : Int, x = .int z ∧ 1 ≤ z ∧ z ≤ 10 ^ 30 := by
    simp at hx
    rcases hx with rfl | rfl | rfl | rfl | rfl | rfl
    · exact ⟨_, rfl, by decide⟩
    · exact ⟨_, rfl, by decide⟩
    · exact ⟨_, rfl, by decide⟩
    · exact ⟨_, rfl, by decide⟩
    · exact ⟨_, rfl, by decide⟩
    · exact ⟨_, rfl, by decide⟩
  simp [t_law_right_10]
  refine p_great ns hm.1 o2 (by omega) fun ss s3 hok hl o3 f3 => ?_
  simp [t_law_right_11]
  have H := fun Q hq => p_deeds_of ns (st := s3) (Q := Q) hm.1 hok (by omega) hq
  refine H _ fun s4 f4 => ?_
  obtain ⟨t, ht⟩ := repr_num hm hl hok
  rw [ht]
  simp
  refine p_law_number ns (by omega) ?_
  rw [ht]
  simp [opNe_str]
  refine p_told ns hm.1 fun s5 y f5 => ?_
  exact q s5 y (((((Fr.new _).trans f2).trans f3).trans f4.up).trans f5.up)
structure goodE (Ls : List (List Int)) (m : Int) : Prop where
  good : ∀ l ∈ Ls, goodL m l
  eras : erasB m Ls = true
  len : Ls.length ≤ 12
abbrev sizeL (Ls : List (List Int)) : List Int := Ls.map fun l => (l.length : Int)
theorem p_due (ns : List Int) {m : Int} (hm : 1 ≤ m ∧ m ≤ 5) {Ls : List (List Int)} (hE : goodE Ls m) (hok : okS m m (sizeL Ls)) {l : Nat} {a b c d e f g h i j : Option D} {st : Sto} {Q : Fl × En → Sto → Prop}
    (q : ∀ s, Fr [] st s → wp (t_law_right_6 ns [some (.loc l), some (.int m), some (lotsD Ls), some (.tup ((sizeL Ls).map .int)), some (.int (num m (sizeL Ls))), b, c, d, e, f, g, h, i, j]) s Q) :
    wp (t_law_right_4 ns [some (.loc l), some (.int m), some (lotsD Ls), some (.tup ((sizeL Ls).map .int)), a, b, c, d, e, f, g, h, i, j]) st Q := by
  have hm30 : 1 ≤ m ∧ m ≤ 10 ^ 30 := ⟨hm.1, Int.le_trans hm.2 (by decide)⟩
  have hll : (sizeL Ls).length ≤ 12 := by have := hE.len; simpa using this
  obtain ⟨t, ht⟩ := repr_num hm30 hll hok
  have e0 : t_law_right_4 ns = seqS (setS (.nm 4) (calE (conA (rd 1) (conA (rd 3) nilA)) (ofLen 2 (m_law_number ns)))) (t_law_right_5 ns) := rfl
  rw [e0]
  simp
  have H := fun Q q => p_law_number ns (m := m) (ss := sizeL Ls) (st := st) (Q := Q) (by omega) q
  rw [List.map_map] at H
  refine H _ ?_
  simp [t_law_right_5, permL]
  refine p_least ns hm (by have := hE.len; omega) hE.good hE.eras hok fun s1 f1 => ?_
  rw [ht]
  simp [opNe_str]
  have H2 := fun Q q => p_deeds_of ns (m := m) (ss := sizeL Ls) (st := s1) (Q := Q) hm.1 hok (by omega) q
  rw [List.map_map] at H2
  refine H2 _ fun s2 f2 => ?_
  rw [ht]
  simp [opNe_str]
  have := q s2 (f1.trans f2)
  rw [List.map_map] at this
  exact this
theorem ren_len (f : Int → Int) (l : List Int) : (renL f l).length = l.length := by
  unfold renL
  rw [(isort_perm _).length_eq, List.length_map]
theorem ren_sizes (f : Int → Int) (Ls : List (List Int)) : sizeL (Ls.map (renL f)) = sizeL Ls := by
  unfold sizeL
  rw [List.map_map]
  refine List.map_congr_left fun l _ => ?_
  simp [ren_len]
def intOfD : D → Int
  | .int i => i
  | _ => 0
def intsOf' : D → List Int
  | .tup ys => ys.filterMap fun y => match y with
    | .int i => some i
    | _ => none
  | _ => []
theorem intsOf_lot (l : List Int) : intsOf' (lotD l) = l := by
  simp [intsOf', lotD]
  induction l with
  | nil => rfl
  | cons a l ih => simp [ih]
theorem intsE {ys : List D} (h : ∀ y ∈ ys, ∃ i, y = D.int i) : ∃ zs : List Int, ys = zs.map .int := by
  induction ys with
  | nil => exact ⟨[], rfl⟩
  | cons y ys ih =>
    obtain ⟨zs, rfl⟩ := ih fun z hz => h z (by simp [hz])
    obtain ⟨s, rfl⟩ := h y (by simp)
    exact ⟨s :: zs, rfl⟩
theorem p_others (ns : List Int) {m : Int} (hm : 1 ≤ m ∧ m ≤ 5) {Ls : List (List Int)} (hE : goodE Ls m) (hok : okS m m (sizeL Ls)) {l n : Nat} {a b c d e f g h i j : Option D} {st : Sto} {Q : Fl × En → Sto → Prop} (hp : Pot l n st) (hn : n ≤ 400000)
    (q : ∀ s n' (a b c d e f g h i j k o u : Option D), Pot l n' s → n' ≤ 500000 → Fr [l] st s → wp (t_law_right_9 ns [some (.loc l), a, b, c, d, e, f, g, h, i, j, k, o, u]) s Q) :
    wp (t_law_right_6 ns [some (.loc l), some (.int m), some (lotsD Ls), a, some (.int (num m (sizeL Ls))), b, c, d, e, f, g, h, i, j]) st Q := by
  have hlt := hp.lt
  have hm30 : 1 ≤ m ∧ m ≤ 10 ^ 30 := ⟨hm.1, Int.le_trans hm.2 (by decide)⟩
  have hll : (sizeL Ls).length ≤ 12 := by have := hE.len; simpa using this
  obtain ⟨t, ht⟩ := repr_num hm30 hll hok
  have e0 : t_law_right_6 ns = seqS (setS (.nm 5) (calE (conA (rd 0) (conA (una (rd 1) bRg1) (conA (rd 1) nilA))) (ofLen 3 (m_law_some ns)))) (t_law_right_7 ns) := rfl
  rw [e0]
  generalize hN : num m (sizeL Ls) = N at ht
  simp
  rw [wp_rg1 hm]
  have em : m = ((m.toNat : Nat) : Int) := by omega
  have g0 : (st ++ [O.lst ((rg m).map .int)])[st.length]? = some (.lst ((rg m).map .int)) := by simp
  have H := fun Q q => p_some ns (k := m.toNat) (Q := Q) (hp.fr (S := []) (Fr.new [O.lst ((rg m).map .int)]) (by simp) (Nat.le_refl _)) (by omega) g0 (by simp [rg_length]) (by simp [rg_length]; omega) q
  rw [← em] at H
  refine H _ fun ys r s1 hper hyl o1 f1 hl1 hs1 => ?_
  have hr : r = [] := by
    have := hper.length_eq
    simp [rg_length] at this
    exact List.eq_nil_of_length_eq_zero (by omega)
  subst hr
  rw [List.append_nil] at hper
  obtain ⟨zs, rfl⟩ : ∃ zs : List Int, ys = zs.map .int := intsE fun y hy => by
    obtain ⟨i, _, rfl⟩ := List.mem_map.mp (hper.mem_iff.mp hy)
    exact ⟨i, rfl⟩
  have hz : zs.Perm (rg m) := by
    have := hper.map intOfD
    rw [List.map_map, List.map_map] at this
    simpa [Function.comp_def, intOfD] using this
  have R := ren_of hz
  generalize hf : (fun i : Int => zs.getD i.toNat 0) = f at R
  have hzl : zs.length = m.toNat := by simpa using hyl
  have ea : ∀ i, 0 ≤ i ∧ i < m → atI (zs.map D.int) i = some (.int (f i)) := fun i hi => by
    unfold atI ixN
    rw [if_pos hi.1, if_pos (by simp; omega), ← hf]
    simp
    rw [List.getElem?_eq_getElem (by omega)]
    rfl
  generalize hP : (st ++ [O.lst ((rg m).map D.int)]).length + 1 = P at hs1
  simp [t_law_right_7, seqA]
  refine wp_lcMap (fun d => lotD (renL f (intsOf' d))) _ (fun _ _ => rfl) (by have := hE.len; simp; omega) (fun x hx s fr => ?_) fun s2 f2 => ?_
  · obtain ⟨lot, hl', rfl⟩ := List.mem_map.mp hx
    have hg := hE.good lot hl'
    refine ⟨_, by simp; rfl, ?_⟩
    have g1 := fr.at hs1 (by simp)
    simp [wipeE, seqA]
    refine wp_lcMap (fun d => match d with
      | .int i => .int (f i)
      | _ => .non) _ (fun _ _ => rfl) (by have := hg.len; simp; omega) (fun x hx s' fr' => ?_) fun s3 f3 => ?_
    · obtain ⟨i, hi, rfl⟩ := List.mem_map.mp hx
      refine ⟨_, by simp; rfl, ?_⟩
      have g2 := fr'.at g1 (by simp)
      simp
      rw [opIx_loc, wp_bnd, wp_obj g2]
      simp only [ea i (hg.mem i hi)]
      exact ⟨rfl, Fr.refl⟩
    · have e1 : ((lot.map D.int).map fun d => match d with
        | .int i => D.int (f i)
        | _ => .non) = (lot.map f).map D.int := by
        rw [List.map_map, List.map_map]
        rfl
      rw [e1]
      simp only [wp_bSortX_new]
      rw [wp_bTuple (xs := (isort (lot.map f)).map .int) (by simp)]
      exact ⟨by rw [intsOf_lot]; rfl, (f3.trans (Fr.new _)).trans (Fr.new _)⟩
  · have e2 : (Ls.map lotD).map (fun d => lotD (renL f (intsOf' d))) = (Ls.map (renL f)).map lotD := by
      rw [List.map_map, List.map_map]
      refine List.map_congr_left fun l _ => ?_
      show lotD (renL f (intsOf' (lotD l))) = lotD (renL f l)
      rw [intsOf_lot]
    rw [e2]
    have e8 : t_law_right_8 ns = seqS (ifS (tstB (bin (appA (conA (calE (conA (rd 1) (conA (rd 6) nilA)) (ofLen 2 (m_least_deeds ns))) nilA) bRepr) (appA (conA (rd 4) nilA) bRepr) opNe)) (retS (kon (.bl false))) nxS) (t_law_right_9 ns) := rfl
    rw [e8]
    have L : ∀ (st : Sto) (Q : D → Sto → Prop), (∀ s, Fr [] st s → Q (.int N) s) → wp (m_least_deeds ns [.int m, .tup ((Ls.map (renL f)).map lotD)]) st Q := fun st Q q => p_least ns hm (Ls := Ls.map (renL f)) (by have := hE.len; simp; omega) (fun l' hl' => by
      obtain ⟨l0, h0, rfl⟩ := List.mem_map.mp hl'
      exact R.good (hE.good l0 h0)) (R.eras hm Ls (rg m) (rg m) hE.good (fun w hw => rg_mem hw) (fun w hw => rg_mem hw) (fun w hw => by
        have mr : ∀ w, 0 ≤ w ∧ w < m → w ∈ rg m := fun w hw => by
          unfold rg
          exact List.mem_map.mpr ⟨w.toNat, List.mem_range.mpr (by omega), by omega⟩
        exact ⟨fun _ => mr _ (R.into w hw), fun _ => mr w hw⟩) hE.eras) (by
          show okS m m (sizeL (Ls.map (renL f)))
          rw [ren_sizes]
          exact hok) fun s fs => by
            show Q (.int (num m (sizeL (Ls.map (renL f))))) s
            rw [ren_sizes, hN]
            exact q s fs
    generalize (Ls.map (renL f)).map lotD = other at L
    simp
    refine L _ _ fun s3 f3 => ?_
    rw [ht]
    simp [opNe_str]
    refine q s3 _ _ _ _ _ _ _ _ _ _ _ _ _ _ (o1.fr ((f2.trans (Fr.new _)).trans f3) (by simp) (Nat.le_refl _)) (by omega) ?_
    exact ((((Fr.new _).trans f1).trans f2.up).trans (Fr.new _)).trans f3.up
theorem wp_runB {n : Nat} {b : MS} {ds : List D} {ρ : En} {st : Sto} {Q : D → Sto → Prop} (h : startE n ds = ρ) (q : wp (b ρ) st fun y s => wp (fin y) s Q) : wp (runB n b ds) st Q := by
  rw [runB_eq, wp_bnd, h]
  exact q
theorem seg1 (ns : List Int) (T : MS) {l n : Nat} {st : Sto} {Q : Fl × En → Sto → Prop} (hp : Pot l n st) (hn : n ≤ 1000) (q : ∀ m s, (1 ≤ m ∧ m ≤ 5) → Pot l (n + 1) s → Fr [l] st s → wp (T [some (.loc l), some (.int m), none, none, none, none, none, none, none, none, none, none, none, none]) s Q) :
    wp (seqS (setS (.nm 1) (bin (kon (.int 1)) (calE (conA (rd 0) (conA (kon (.int 5)) nilA)) (ofLen 2 (m_law_take ns))) opAdd)) T [some (.loc l), none, none, none, none, none, none, none, none, none, none, none, none, none]) st Q := by
  simp
  refine p_take ns hp (by omega) (by decide) fun h s1 hh o1 f1 => ?_
  simp
  exact q _ s1 (by omega) o1 f1
theorem seg2 (ns : List Int) (T : MS) {m : Int} (hm : 1 ≤ m ∧ m ≤ 5) {l n : Nat} {st : Sto} {Q : Fl × En → Sto → Prop} (hp : Pot l n st) (hn : n ≤ 1000) (q : ∀ Ls s, goodE Ls m → Pot l (n + 300) s → Fr [l] st s → wp (T [some (.loc l), some (.int m), some (lotsD Ls), none, none, none, none, none, none, none, none, none, none, none]) s Q) :
    wp (seqS (setS (.nm 2) (calE (conA (rd 0) (conA (rd 1) (conA (calE (conA (rd 0) (conA (kon (.int 12)) nilA)) (ofLen 2 (m_law_take ns))) nilA))) (ofLen 3 (m_law_drawn_eras ns)))) T [some (.loc l), some (.int m), none, none, none, none, none, none, none, none, none, none, none, none]) st Q := by
  simp
  refine p_take ns hp (by omega) (by decide) fun k s2 hk o2 f2 => ?_
  obtain ⟨k, rfl⟩ : ∃ z : Nat, k = (z : Int) := ⟨k.toNat, by omega⟩
  refine p_drawn_eras ns hm o2 (by omega) (by omega) fun Ls s3 hLl hG hE o3 f3 => ?_
  exact q Ls s3 ⟨hG, hE, by omega⟩ (o3.fr (S := []) Fr.refl (by simp) (by omega)) (f2.trans f3)
theorem seg3 (ns : List Int) (T : MS) {m : Int} {Ls : List (List Int)} (hE : goodE Ls m) {l : Nat} {st : Sto} {Q : Fl × En → Sto → Prop} (q : ∀ s, Fr [] st s → wp (T [some (.loc l), some (.int m), some (lotsD Ls), some (.tup ((sizeL Ls).map .int)), none, none, none, none, none, none, none, none, none, none]) s Q) :
    wp (seqS (setS (.nm 3) (appA (conA (lcE (iterA (rd 2)) (.nm 11) yesT (appA (conA (rd 11) nilA) (bLen ns)) [11]) nilA) bTuple)) T [some (.loc l), some (.int m), some (lotsD Ls), none, none, none, none, none, none, none, none, none, none, none]) st Q := by
  simp [seqA]
  have hLl := hE.len
  refine pu_lcL (fun d => match d with
    | .tup ys => some (.int ys.length)
    | _ => none) _ [] (by simp; omega) (fun x hx => ?_) st _ fun s4 f4 => ?_
  · obtain ⟨l, hl', rfl⟩ := List.mem_map.mp hx
    refine ⟨_, by simp; rfl, .inr ⟨_, rfl, ?_, ?_⟩⟩
    · simp
      exact .ret'
    · simp [wipeE]
      exact .ret'
  have e1 : ([] : List D) ++ (Ls.map lotD).filterMap (fun d => match d with
      | .tup ys => some (.int ys.length)
      | _ => none) = (Ls.map fun l => (l.length : Int)).map D.int := by
    rw [List.nil_append, List.filterMap_map, List.map_map, ← List.filterMap_eq_map]
    congr 1
    funext l
    simp [lotD]
  rw [e1]
  exact q _ (f4.trans (Fr.new _))
theorem start14 (d : D) : startE 14 [d] = [some d, none, none, none, none, none, none, none, none, none, none, none, none, none] := rfl
theorem right_spec (ns : List Int) {l : Nat} {st : Sto} (hp : Pot l 0 st) : wp (m_law_right ns [.loc l]) st fun r st' => r = .bl true ∧ Fr [l] st st' := by
  have e0 : m_law_right ns = runB 14 (t_law_right_1 ns) := rfl
  rw [e0]
  refine wp_runB (start14 _) ?_
  refine seg1 ns (t_law_right_2 ns) hp (by omega) fun m s1 hm o1 f1 => ?_
  refine seg2 ns (t_law_right_3 ns) hm o1 (by omega) fun Ls s2 hge o2 f2 => ?_
  have hok : okS m m (sizeL Ls) := by
    have := eras_sizes hm Ls (rg m) (.rg hm) hge.good hge.eras
    rw [rg_length] at this
    rw [show ((m.toNat : Nat) : Int) = m by omega] at this
    exact this
  refine seg3 ns (t_law_right_4 ns) hge fun s3 f3 => ?_
  refine p_due ns hm hge hok fun s4 f4 => ?_
  have o4 := o2.fr (f3.trans f4) (by simp) (Nat.le_refl _)
  refine p_others ns hm hge hok o4 (by omega) fun s5 n _ _ _ _ _ _ _ _ _ _ _ _ _ o5 hn f5 => ?_
  refine p_ends ns o5 hn fun s6 y f6 => ?_
  refine ⟨rfl, ?_⟩
  exact ((((f1.trans f2).trans f3.up).trans f4.up).trans f5).trans f6
end Lk38
end
section
set_option Elab.async false
set_option linter.all false
set_option maxRecDepth 100000
namespace Lk38
open PySem L2 Pm
theorem law_true (ns : List Int) (hn : ns.length ≤ 63) : ∃ st, m_law ns [.scr] [] = .ok (.bl true) st :=
  law_all (L := 2) (mp := m_law_pot ns) (mr := m_law_right ns) hn (by decide) rfl sm2 fun l st hp => right_spec ns hp
end Lk38
end
open PySem PySem.W PySem.Calls PyProof.Rows
set_option maxHeartbeats 0 in
theorem PySem.Challenge.cw_onestillview_k38_whole_fewest_deeds_by_t_holds : PySem.Challenge.rw_onestillview_k38_whole_fewest_deeds_by_t.Holds := by
  w_on; o_law
  refine HandSHeadRun.head_any (r := OpenLaw.row PySem.Challenge.rw_onestillview_k38_whole_fewest_deeds_by_t) (q := view (OpenLaw.row PySem.Challenge.rw_onestillview_k38_whole_fewest_deeds_by_t).prog [33]) (H := Lk38.hk) (ob := Lk38.ob) (M := 4000) (loose := Lk38.loose) (d := HandSHeadRun.topDef (OpenLaw.row PySem.Challenge.rw_onestillview_k38_whole_fewest_deeds_by_t).prog 33) (kwd := []) Lk38.ob_eq
    (by kernel_rfl) (fun s => by kernel_rfl) Lk38.run (by kernel_rfl) (by kernel_rfl) (by kernel_rfl) (by rfl) (by first | assumption | decide +kernel) (by decide +kernel) ⟨rfl, rfl, rfl, rfl, rfl, by decide +kernel⟩ ?hw ?hc
  case hw => w_witness2
  case hc =>
    refine Pm.walkG (l := PySem.Challenge.rw_onestillview_k38_whole_fewest_deeds_by_t) (n := 63) (k := 9) (x := "script") (m := Lk38.m_law) (CX := fun w => L2.CX (PySem.Challenge.rw_onestillview_k38_whole_fewest_deeds_by_t).prog w) rfl (by decide) (by kernel_rfl) ⟨rfl, by decide, by decide⟩ ?F Lk38.law_true (fun w H s e s' z => ?hx)
    case hx =>
      obtain ⟨_, _, _, _, _, _, _, _, _, _, _, _, z⟩ := z
      exact z.elim
    intro w mg fa h Y G hmg0
    obtain ⟨K, KX, c⟩ := Y
    have hmg : mg ("law" : PySem.Str) = some (.ref fa) := by
      have e : (HandSHeadRun.topDef (OpenLaw.row PySem.Challenge.rw_onestillview_k38_whole_fewest_deeds_by_t).prog 33).name = ("law" : PySem.Str) := by kernel_rfl
      rw [← e]
      exact hmg0
    obtain ⟨fd, hb, hF⟩ := Lk38.facts (P := (PySem.Challenge.rw_onestillview_k38_whole_fewest_deeds_by_t).prog) (w := w) KX G hmg c
    exact ⟨K, fd, fun _ => none, KX, hb, fun sa ns base b1 b2 => hF _ sa ns base b1 b2⟩
