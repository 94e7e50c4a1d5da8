import PyProof.Rows.All
import Wide.All
import OpenK.AllK
import Wide.FinOn
import HandS.ForMost
import HandS.ForExc
import HandS.IsInst
import HandS.Flow
import HandS.Style
import HandS.SortInts
import HandS.Conv
import HandS.RaiseMore
import KE.KSortedM
import PyProof.ReprRoads
import PyProof.CallFns
import HandS.Walk
import HandS.Exc
import HandS.WordsExc
import HandS.Defaults
import HandS.HeadEnd
import KE.GoesMore
import PyProof.FitsInt
import KE.IntBitsLaws
import HandS.Head0
import HandS.Head1
import HandS.Head2
import HandS.HeadHook1
import HandS.HeadHook2
import PySem.Challenge.RW_onestillview_k01_whole_places_and_what_i
section
set_option Elab.async false
set_option linter.all false
set_option maxRecDepth 100000
namespace Pm
open PySem PySem.Spec PyProof.Rows L2

/-- data: what a value is, without addresses; loc: an object that may change -/
inductive D where
  | non | bl (b : Bool) | int (i : Int) | str (s : Str) | tup (xs : List D) | loc (n : Nat) | scr

mutual
def D.deq : (a b : D) → Decidable (a = b)
  | .non, .non => Decidable.isTrue rfl
  | .bl a, .bl b => if h : a = b then Decidable.isTrue (by rw [h]) else isFalse (fun e => h (D.bl.inj e))
  | .int a, .int b => if h : a = b then Decidable.isTrue (by rw [h]) else isFalse (fun e => h (D.int.inj e))
  | .str a, .str b => if h : a = b then Decidable.isTrue (by rw [h]) else isFalse (fun e => h (D.str.inj e))
  | .tup a, .tup b => match D.deqs a b with
    | .isTrue h => Decidable.isTrue (by rw [h])
    | .isFalse h => isFalse (fun e => h (D.tup.inj e))
  | .loc a, .loc b => if h : a = b then Decidable.isTrue (by rw [h]) else isFalse (fun e => h (D.loc.inj e))
  | .scr, .scr => Decidable.isTrue rfl
  | .non, .bl _ => isFalse nofun | .non, .int _ => isFalse nofun | .non, .str _ => isFalse nofun | .non, .tup _ => isFalse nofun | .non, .loc _ => isFalse nofun | .non, .scr => isFalse nofun
  | .bl _, .non => isFalse nofun | .bl _, .int _ => isFalse nofun | .bl _, .str _ => isFalse nofun | .bl _, .tup _ => isFalse nofun | .bl _, .loc _ => isFalse nofun | .bl _, .scr => isFalse nofun
  | .int _, .non => isFalse nofun | .int _, .bl _ => isFalse nofun | .int _, .str _ => isFalse nofun | .int _, .tup _ => isFalse nofun | .int _, .loc _ => isFalse nofun | .int _, .scr => isFalse nofun
  | .str _, .non => isFalse nofun | .str _, .bl _ => isFalse nofun | .str _, .int _ => isFalse nofun | .str _, .tup _ => isFalse nofun | .str _, .loc _ => isFalse nofun | .str _, .scr => isFalse nofun
  | .tup _, .non => isFalse nofun | .tup _, .bl _ => isFalse nofun | .tup _, .int _ => isFalse nofun | .tup _, .str _ => isFalse nofun | .tup _, .loc _ => isFalse nofun | .tup _, .scr => isFalse nofun
  | .loc _, .non => isFalse nofun | .loc _, .bl _ => isFalse nofun | .loc _, .int _ => isFalse nofun | .loc _, .str _ => isFalse nofun | .loc _, .tup _ => isFalse nofun | .loc _, .scr => isFalse nofun
  | .scr, .non => isFalse nofun | .scr, .bl _ => isFalse nofun | .scr, .int _ => isFalse nofun | .scr, .str _ => isFalse nofun | .scr, .tup _ => isFalse nofun | .scr, .loc _ => isFalse nofun
def D.deqs : (a b : List D) → Decidable (a = b)
  | [], [] => Decidable.isTrue rfl
  | [], _ :: _ => isFalse nofun
  | _ :: _, [] => isFalse nofun
  | x :: xs, y :: ys => match D.deq x y with
    | .isTrue h => match D.deqs xs ys with
      | .isTrue h' => Decidable.isTrue (by rw [h, h'])
      | .isFalse h' => isFalse (fun e => h' (List.cons.inj e).2)
    | .isFalse h => isFalse (fun e => h (List.cons.inj e).1)
end
instance : DecidableEq D := D.deq

/-- what stands at a loc -/
inductive O where
  | lst (xs : List D)
  deriving DecidableEq
abbrev Sto := List O
inductive Res (α : Type) where
  | ok (a : α) (st : Sto)
  | exc (c : Str) (d : D) (st : Sto)
  | stuck
abbrev M (α : Type) := Sto → Res α
def ret {α : Type} (a : α) : M α := fun st => .ok a st
def bnd {α β : Type} (m : M α) (k : α → M β) : M β := fun st => match m st with
  | .ok a st' => k a st'
  | .exc c d st' => .exc c d st'
  | .stuck => .stuck
def no {α : Type} : M α := fun _ => .stuck
def raise {α : Type} (c : Str) (d : D) : M α := fun st => .exc c d st

/-- the context of a law: the written part, the script -/
structure Ct where
  K : PySem.W.Frag
  sa : Addr
  ns : List Int
  /-- the class of the program by its name -/
  cl : Str → Option Addr

section
variable (c : Ct) (bs : List Addr) (H : Hp)
mutual
inductive RD : V → D → Prop
  | non : RD .non .non
  | bl (b : Bool) : RD (.bl b) (.bl b)
  | int (i : Int) : RD (.int i) (.int i)
  | str (x : Str) : RD (.str x) (.str x)
  | tup {a : Addr} {vs : List V} {ds : List D} : SqT c.K H a vs → RDs vs ds → RD (.ref a) (.tup ds)
  | loc {a : Addr} {n : Nat} : bs[n]? = some a → RD (.ref a) (.loc n)
  | scr : RD (.ref c.sa) .scr
inductive RDs : List V → List D → Prop
  | nil : RDs [] []
  | cons {v : V} {d : D} {vs : List V} {ds : List D} : RD v d → RDs vs ds → RDs (v :: vs) (d :: ds)
end
def ROb (a : Addr) : O → Prop
  | .lst xs => ∃ vs, H a = some (.lst vs) ∧ RDs c bs H vs xs
/-- the script, to be read -/
def Scr : Prop := (∃ o, H c.sa = some (.frz o (.lst (c.ns.map V.int)))) ∨ ∀ H', SqL c.K H' c.sa (c.ns.map V.int)
structure Rel (st : Sto) : Prop where
  len : bs.length = st.length
  obj : ∀ (l : Nat) (a : Addr) (o : O), bs[l]? = some a → st[l]? = some o → ROb c bs H a o
  nd : bs.Nodup
  scr : Scr c H
end
def Imm : HO → Prop
  | .tup _ => True
  | .frz _ _ => True
  | _ => False
structure Ext (bs : List Addr) (H : Hp) (bs' : List Addr) (H' : Hp) : Prop where
  pre : ∃ t, bs' = bs ++ t
  keep : ∀ a o, H a = some o → (a ∉ bs ∨ Imm o) → H' a = some o
  fresh : ∀ a, a ∈ bs' → a ∉ bs → H a = none

section
variable {c : Ct} {bs bs1 bs2 : List Addr} {H H1 H2 : Hp}
theorem Ext.refl : Ext bs H bs H := ⟨⟨[], by simp⟩, fun _ _ h _ => h, fun a h n => absurd h n⟩
theorem Ext.trans (e1 : Ext bs H bs1 H1) (e2 : Ext bs1 H1 bs2 H2) : Ext bs H bs2 H2 := by
  refine ⟨?_, fun a o h q => ?_, fun a h n => ?_⟩
  · obtain ⟨t, rfl⟩ := e1.pre
    obtain ⟨u, rfl⟩ := e2.pre
    exact ⟨t ++ u, by simp⟩
  · have h1 := e1.keep a o h q
    refine e2.keep a o h1 ?_
    rcases q with q | q
    · refine .inl fun z => ?_
      have := e1.fresh a z q
      rw [this] at h
      cases h
    · exact .inr q
  · by_cases z : a ∈ bs1
    · exact e1.fresh a z n
    · have q := e2.fresh a h z
      cases e : H a with
      | none => rfl
      | some o =>
        rw [e1.keep a o e (.inl n)] at q
        cases q
theorem Ext.get (e : Ext bs H bs1 H1) {n : Nat} {a : Addr} (h : bs[n]? = some a) : bs1[n]? = some a := by
  obtain ⟨t, rfl⟩ := e.pre
  have hl : n < bs.length := by
    rcases List.getElem?_eq_some_iff.mp h with ⟨q, _⟩
    exact q
  rw [List.getElem?_append_left hl]
  exact h
theorem Ext.sqT (e : Ext bs H bs1 H1) {a : Addr} {vs : List V} (h : SqT c.K H a vs) : SqT c.K H1 a vs := by
  rcases h with (h | ⟨o, h⟩) | h
  · exact .inl (.inl (e.keep _ _ h (.inr trivial)))
  · exact .inl (.inr ⟨o, e.keep _ _ h (.inr trivial)⟩)
  · exact .inr h
theorem Ext.scr (e : Ext bs H bs1 H1) (h : Scr c H) : Scr c H1 := by
  rcases h with ⟨o, h⟩ | h
  · exact .inl ⟨o, e.keep _ _ h (.inr trivial)⟩
  · exact .inr h
theorem Scr.sq (h : Scr c H) : SqL c.K H c.sa (c.ns.map V.int) := by
  rcases h with ⟨o, h⟩ | h
  · exact .inl (.inr ⟨o, h⟩)
  · exact h H
/-- what a change leaves: tuples and places -/
structure Pre (c : Ct) (bs : List Addr) (H : Hp) (bs1 : List Addr) (H1 : Hp) : Prop where
  get : ∀ (n : Nat) (a : Addr), bs[n]? = some a → bs1[n]? = some a
  sqT : ∀ a vs, SqT c.K H a vs → SqT c.K H1 a vs
theorem Ext.mov (e : Ext bs H bs1 H1) : Pre c bs H bs1 H1 := ⟨fun _ _ => e.get, fun _ _ => e.sqT⟩
mutual
theorem RD.mono (m : Pre c bs H bs1 H1) : ∀ {v : V} {d : D}, RD c bs H v d → RD c bs1 H1 v d
  | _, _, .non => .non
  | _, _, .bl b => .bl b
  | _, _, .int i => .int i
  | _, _, .str x => .str x
  | _, _, .tup s r => .tup (m.sqT _ _ s) (RDs.mono m r)
  | _, _, .loc h => .loc (m.get _ _ h)
  | _, _, .scr => .scr
theorem RDs.mono (m : Pre c bs H bs1 H1) : ∀ {vs : List V} {ds : List D}, RDs c bs H vs ds → RDs c bs1 H1 vs ds
  | _, _, .nil => .nil
  | _, _, .cons r t => .cons (RD.mono m r) (RDs.mono m t)
end
theorem RD.ext (e : Ext bs H bs1 H1) {v : V} {d : D} (h : RD c bs H v d) : RD c bs1 H1 v d := h.mono e.mov
theorem RDs.ext (e : Ext bs H bs1 H1) {vs : List V} {ds : List D} (h : RDs c bs H vs ds) : RDs c bs1 H1 vs ds := h.mono e.mov
theorem RDs.length : ∀ {vs : List V} {ds : List D}, RDs c bs H vs ds → vs.length = ds.length
  | _, _, .nil => rfl
  | _, _, .cons _ t => by simp [RDs.length t]
theorem RDs.get : ∀ {vs : List V} {ds : List D} {i : Nat} {d : D}, RDs c bs H vs ds → ds[i]? = some d → ∃ v, vs[i]? = some v ∧ RD c bs H v d
  | _, _, _, _, .nil, e => by simp at e
  | _, _, 0, _, .cons r _, e => by simp at e; subst e; exact ⟨_, rfl, r⟩
  | _, _, i + 1, _, .cons _ t, e => by
    obtain ⟨v, h1, h2⟩ := RDs.get (i := i) t (by simpa using e)
    exact ⟨v, by simpa using h1, h2⟩
theorem RDs.getV : ∀ {vs : List V} {ds : List D} {i : Nat} {v : V}, RDs c bs H vs ds → vs[i]? = some v → ∃ d, ds[i]? = some d ∧ RD c bs H v d
  | _, _, _, _, .nil, e => by simp at e
  | _, _, 0, _, .cons r _, e => by simp at e; subst e; exact ⟨_, rfl, r⟩
  | _, _, i + 1, _, .cons _ t, e => by
    obtain ⟨v, h1, h2⟩ := RDs.getV (i := i) t (by simpa using e)
    exact ⟨v, by simpa using h1, h2⟩
theorem RDs.append : ∀ {vs ws : List V} {ds es : List D}, RDs c bs H vs ds → RDs c bs H ws es → RDs c bs H (vs ++ ws) (ds ++ es)
  | _, _, _, _, .nil, s => s
  | _, _, _, _, .cons r t, s => .cons r (RDs.append t s)
theorem RDs.set {v : V} {d : D} (r : RD c bs H v d) : ∀ {vs : List V} {ds : List D} (i : Nat), RDs c bs H vs ds → RDs c bs H (vs.set i v) (ds.set i d)
  | _, _, _, .nil => .nil
  | _, _, 0, .cons _ t => .cons r t
  | _, _, i + 1, .cons q t => .cons q (RDs.set r i t)
theorem RDs.take : ∀ {vs : List V} {ds : List D} (n : Nat), RDs c bs H vs ds → RDs c bs H (vs.take n) (ds.take n)
  | _, _, 0, _ => .nil
  | _, _, _ + 1, .nil => .nil
  | _, _, n + 1, .cons r t => .cons r (RDs.take n t)
theorem RDs.drop : ∀ {vs : List V} {ds : List D} (n : Nat), RDs c bs H vs ds → RDs c bs H (vs.drop n) (ds.drop n)
  | _, _, 0, r => r
  | _, _, _ + 1, .nil => .nil
  | _, _, n + 1, .cons r t => RDs.drop n t
theorem RDs.reverse : ∀ {vs : List V} {ds : List D}, RDs c bs H vs ds → RDs c bs H vs.reverse ds.reverse
  | _, _, .nil => .nil
  | _, _, .cons r t => by simp only [List.reverse_cons]; exact RDs.append (RDs.reverse t) (.cons r .nil)
theorem RDs.ints : ∀ (ns : List Int), RDs c bs H (ns.map V.int) (ns.map D.int)
  | [] => .nil
  | n :: ns => .cons (.int n) (RDs.ints ns)
theorem RDs.atI {vs : List V} {ds : List D} (r : RDs c bs H vs ds) {i : Int} {d : D} (h : L2.atI ds i = some d) : ∃ v, L2.atI vs i = some v ∧ RD c bs H v d := by
  unfold L2.atI at h ⊢
  rw [r.length]
  cases e : ixN ds.length i with
  | none => rw [e] at h; cases h
  | some j =>
    rw [e] at h
    exact r.get h
end
end Pm
end
section
set_option Elab.async false
set_option linter.all false
set_option maxRecDepth 100000
namespace Pm
open PySem PySem.Spec PyProof.Rows L2

/-! ### what is wanted behind a run -/
abbrev Wh := Str → D → List Addr → Hp → Prop
def Post {α : Type} (c : Ct) (ex : Wh) (r : Res α) (bs : List Addr) (H : Hp) (k : α → Sto → List Addr → Hp → Prop) : Prop :=
  match r with
  | .ok a st' => ∀ bs' H', Ext bs H bs' H' → Rel c bs' H' st' → k a st' bs' H'
  | .exc n d st' => ∀ bs' H', Ext bs H bs' H' → Rel c bs' H' st' → ex n d bs' H'
  | .stuck => False
section
variable {c : Ct} {ex : Wh} {α β : Type} {bs bs1 bs2 : List Addr} {H H1 H2 : Hp} {st : Sto}
theorem Post.far {r : Res α} {k : α → Sto → List Addr → Hp → Prop} (p : Post c ex r bs H k) (e : Ext bs H bs1 H1) : Post c ex r bs1 H1 k := by
  cases r with
  | ok a st' => exact fun b' H' e' rl => p b' H' (e.trans e') rl
  | exc n d st' => exact fun b' H' e' rl => p b' H' (e.trans e') rl
  | stuck => exact p
theorem Post.bnd {m : M α} {f : α → M β} {k : β → Sto → List Addr → Hp → Prop} (p : Post c ex (bnd m f st) bs H k) : Post c ex (m st) bs H fun a st1 bs1 H1 => Post c ex (f a st1) bs1 H1 k := by
  unfold Pm.bnd at p
  cases e : m st with
  | ok a st' =>
    rw [e] at p
    exact fun b' H' e' rl => Post.far p e'
  | exc n d st' =>
    rw [e] at p
    exact p
  | stuck =>
    rw [e] at p
    exact p
theorem Post.imp {r : Res α} {k k' : α → Sto → List Addr → Hp → Prop} (p : Post c ex r bs H k) (q : ∀ a st' bs' H', Ext bs H bs' H' → Rel c bs' H' st' → k a st' bs' H' → k' a st' bs' H') : Post c ex r bs H k' := by
  cases r with
  | ok a st' => exact fun b' H' e' rl => q _ _ _ _ e' rl (p b' H' e' rl)
  | exc n d st' => exact p
  | stuck => exact p
theorem Post.now {a : α} {k : α → Sto → List Addr → Hp → Prop} (p : Post c ex (ret a st) bs H k) (rl : Rel c bs H st) : k a st bs H := p bs H Ext.refl rl
theorem Post.of {a : α} {k : α → Sto → List Addr → Hp → Prop} (p : Post c ex (.ok a st) bs H k) (rl : Rel c bs H st) : k a st bs H := p bs H Ext.refl rl
theorem Post.at {a : α} {k : α → Sto → List Addr → Hp → Prop} (p : Post c ex (.ok a st) bs H k) (e : Ext bs H bs1 H1) (rl : Rel c bs1 H1 st) : k a st bs1 H1 := p bs1 H1 e rl
/-- only so -/
theorem Post.iff {p : Prop} [Decidable p] {m : M α} {k : α → Sto → List Addr → Hp → Prop} (q : Post c ex ((if p then m else no) st) bs H k) : p ∧ Post c ex (m st) bs H k := by
  by_cases h : p
  · rw [if_pos h] at q
    exact ⟨h, q⟩
  · rw [if_neg h] at q
    exact q.elim
end

/-! ### the slots -/
abbrev En := List (Option D)
structure RE (c : Ct) (bs : List Addr) (H : Hp) (ρ : En) (σ : L2.St) : Prop where
  len : σ.length = ρ.length
  val : ∀ (i : Nat) (d : D), ρ[i]? = some (some d) → ∃ v, σ[i]? = some (some v) ∧ RD c bs H v d
section
variable {c : Ct} {ex : Wh} {bs bs1 bs2 : List Addr} {H H1 H2 : Hp} {st : Sto} {ρ : En} {σ : L2.St}
theorem RE.ext (r : RE c bs H ρ σ) (e : Ext bs H bs1 H1) : RE c bs1 H1 ρ σ := ⟨r.len, fun i d h => let ⟨v, a, b⟩ := r.val i d h; ⟨v, a, b.ext e⟩⟩
theorem RE.set (r : RE c bs H ρ σ) {v : V} {d : D} (h : RD c bs H v d) (i : Nat) : RE c bs H (ρ.set i (some d)) (σ.set i (some v)) := by
  refine ⟨by rw [List.length_set, List.length_set, r.len], fun j e q => ?_⟩
  by_cases hj : i = j
  · subst hj
    have hl : i < ρ.length := by
      obtain ⟨z, _⟩ := List.getElem?_eq_some_iff.mp q
      rw [List.length_set] at z
      exact z
    rw [List.getElem?_set_self hl] at q
    cases q
    exact ⟨v, List.getElem?_set_self (by rw [r.len]; exact hl), h⟩
  · rw [List.getElem?_set_ne hj] at q ⊢
    exact r.val j e q
end

/-! ### readings -/
abbrev ME := En → M D
abbrev MT := En → M Bool
abbrev MA := En → M (List D)
inductive Fl where
  | nx | bk | ct | rt (d : D)
abbrev MS := En → M (Fl × En)
def tE (c : Ct) (ex : Wh) (f : ME) : TE := fun σ H Q => ∃ ρ st bs, Rel c bs H st ∧ RE c bs H ρ σ ∧ Post c ex (f ρ st) bs H fun d _ bs' H' => ∀ v, RD c bs' H' v d → Q v H'
def tT (c : Ct) (ex : Wh) (f : MT) : TT := fun σ H Q => ∃ ρ st bs, Rel c bs H st ∧ RE c bs H ρ σ ∧ Post c ex (f ρ st) bs H fun b _ _ H' => Q b H'
def tA (c : Ct) (ex : Wh) (f : MA) : TA := fun σ H Q => ∃ ρ st bs, Rel c bs H st ∧ RE c bs H ρ σ ∧ Post c ex (f ρ st) bs H fun ds _ bs' H' => ∀ vs, RDs c bs' H' vs ds → Q vs H'
def Fin (c : Ct) (E : Ends) (bs : List Addr) (H : Hp) (σ : L2.St) : Fl → Prop
  | .nx => E.nx σ H
  | .bk => E.bk σ H
  | .ct => E.ct σ H
  | .rt d => ∀ v, RD c bs H v d → E.rt v H
def tS (c : Ct) (ex : Wh) (f : MS) : TS := fun E σ H => ∃ ρ st bs, Rel c bs H st ∧ RE c bs H ρ σ ∧ Post c ex (f ρ st) bs H fun x _ bs' H' => ∀ σ', RE c bs' H' x.2 σ' → Fin c E bs' H' σ' x.1

theorem PE_imp {X : Cx} {e : Expr} {t t' : TE} (h : PE X e t) (i : ∀ σ H Q, t' σ H Q → t σ H Q) : PE X e t' := ⟨fun pins s σ H Q I q => h.run pins s σ H Q I (i σ H Q q)⟩
theorem PT_imp {X : Cx} {e : Expr} {t t' : TT} (h : PT X e t) (i : ∀ σ H Q, t' σ H Q → t σ H Q) : PT X e t' := ⟨fun pins s σ H Q I q => h.run pins s σ H Q I (i σ H Q q)⟩
theorem PW_imp {X : Cx} {e : Expr} {t t' : TT} (h : PW X e t) (i : ∀ σ H Q, t' σ H Q → t σ H Q) : PW X e t' := ⟨fun wh pins s σ H Q I q => h.run wh pins s σ H Q I (i σ H Q q)⟩
theorem PA_imp {X : Cx} {es : List Expr} {t t' : TA} (h : PA X es t) (i : ∀ σ H Q, t' σ H Q → t σ H Q) : PA X es t' := ⟨fun pos pins s σ H Q I q => h.run pos pins s σ H Q I (i σ H Q q)⟩
theorem PS_imp {X : Cx} {e : Stmt} {t t' : TS} (h : PS X e t) (i : ∀ E σ H, t' E σ H → t E σ H) : PS X e t' := ⟨fun pins s σ H E I q => h.run pins s σ H E I (i E σ H q)⟩
theorem PSs_imp {X : Cx} {e : List Stmt} {t t' : TS} (h : PSs X e t) (i : ∀ E σ H, t' E σ H → t E σ H) : PSs X e t' := ⟨fun pins s σ H E I q => h.run pins s σ H E I (i E σ H q)⟩
theorem PG_imp {X : Cx} {e : Expr} {t t' : TG} (h : PG X e t) (i : ∀ v σ H Q, t' v σ H Q → t v σ H Q) : PG X e t' := ⟨fun pins s σ H v u Q I r q => h.run pins s σ H v u Q I r (i v σ H Q q)⟩
theorem PGs_imp {X : Cx} {e : List Expr} {t t' : TGs} (h : PGs X e t) (i : ∀ v σ H Q, t' v σ H Q → t v σ H Q) : PGs X e t' := ⟨fun pins s σ H v u Q I r q => h.run pins s σ H v u Q I r (i v σ H Q q)⟩

/-! ### names, constants -/
def rd (i : Nat) : ME := fun ρ => match ρ[i]? with
  | some (some d) => ret d
  | _ => no
def kon (d : D) : ME := fun _ => ret d
section
variable {X : Cx} {c : Ct} {ex : Wh} {pos : Pos}
theorem tE_rd {i : Nat} {σ : L2.St} {H : Hp} {Q : VK} (h : tE c ex (rd i) σ H Q) : tVar i σ H Q := by
  obtain ⟨ρ, st, bs, rl, re, p⟩ := h
  unfold rd at p
  cases e : ρ[i]? with
  | none =>
    rw [e] at p
    exact p.elim
  | some o =>
    rw [e] at p
    cases o with
    | none => exact p.elim
    | some d =>
      obtain ⟨v, hv, r⟩ := re.val i d e
      exact ⟨v, hv, p.now rl v r⟩
theorem md_var (i : Nat) {x : Str} (hN : X.N[i]? = some x := by rfl) (hv : Vis X.env.scope x := by first | exact Or.inl rfl | exact Or.inr (Or.inl rfl) | exact Or.inr (Or.inr rfl)) (hd : (x == ("__debug__" : Str)) = false := by decide)
    (hcd : (x == ("__classdict__" : Str)) = false := by decide) : PE X (.Name x pos) (tE c ex (rd i)) := PE_imp (pe_var hN hv hd hcd) fun _ _ _ => tE_rd
theorem tE_kon {d : D} {v : V} (r : ∀ bs H, RD c bs H v d) {σ : L2.St} {H : Hp} {Q : VK} (h : tE c ex (kon d) σ H Q) : tC v σ H Q := by
  obtain ⟨ρ, st, bs, rl, re, p⟩ := h
  exact p.now rl v (r _ _)
theorem md_int {i : Int} {j} : PE X (.Constant (.int i) j pos) (tE c ex (kon (.int i))) := PE_imp pe_int fun _ _ _ => tE_kon fun _ _ => .int i
theorem md_bl {b : Bool} {j} : PE X (.Constant (.bool b) j pos) (tE c ex (kon (.bl b))) := PE_imp pe_bl fun _ _ _ => tE_kon fun _ _ => .bl b
theorem md_non {j} : PE X (.Constant .none j pos) (tE c ex (kon .non)) := PE_imp pe_non fun _ _ _ => tE_kon fun _ _ => .non
theorem md_str {x : Str} {j} : PE X (.Constant (.str x) j pos) (tE c ex (kon (.str x))) := PE_imp pe_str fun _ _ _ => tE_kon fun _ _ => .str x
/-- a module's constant -/
theorem md_glob {x : Str} {v : V} {u : Value} {d : D} (hg : Gl X x) (hm : X.mg x = some u) (r : RelV v u) (rd : ∀ bs H, RD c bs H v d) (hd : (x == ("__debug__" : Str)) = false := by decide) : PE X (.Name x pos) (tE c ex (kon d)) :=
  PE_imp (pe_glob hg hm r hd) fun _ _ _ => tE_kon rd

/-! ### two and one -/
def bin (f g : ME) (op : D → D → M D) : ME := fun ρ => bnd (f ρ) fun x => bnd (g ρ) fun y => op x y
def una (f : ME) (op : D → M D) : ME := fun ρ => bnd (f ρ) op
def S2 (c : Ct) (ex : Wh) (g : D → D → M D) (r : R2) : Prop := ∀ x y d e bs H st Q, RD c bs H x d → RD c bs H y e → Rel c bs H st → Post c ex (g d e st) bs H (fun z _ bs' H' => ∀ v, RD c bs' H' v z → Q v H') → r x y H Q
def S1 (c : Ct) (ex : Wh) (g : D → M D) (r : V → Hp → VK → Prop) : Prop := ∀ x d bs H st Q, RD c bs H x d → Rel c bs H st → Post c ex (g d st) bs H (fun z _ bs' H' => ∀ v, RD c bs' H' v z → Q v H') → r x H Q
theorem tE_bnd {f : ME} {g : D → ME} {σ : L2.St} {H : Hp} {Q : VK} (h : tE c ex (fun ρ => bnd (f ρ) fun x => g x ρ) σ H Q) :
    ∃ ρ st bs, Rel c bs H st ∧ RE c bs H ρ σ ∧ Post c ex (f ρ st) bs H fun d st1 bs1 H1 => Post c ex (g d ρ st1) bs1 H1 fun z _ bs' H' => ∀ v, RD c bs' H' v z → Q v H' := by
  obtain ⟨ρ, st, bs, rl, re, p⟩ := h
  exact ⟨ρ, st, bs, rl, re, p.bnd⟩
theorem tE_bin {f g : ME} {op : D → D → M D} {r : R2} (s : S2 c ex op r) {σ : L2.St} {H : Hp} {Q : VK} (h : tE c ex (bin f g op) σ H Q) : tOp r (tE c ex f) (tE c ex g) σ H Q := by
  obtain ⟨ρ, st, bs, rl, re, p⟩ := h
  refine ⟨ρ, st, bs, rl, re, p.bnd.imp fun d st1 bs1 H1 e1 rl1 p1 v rv => ?_⟩
  refine ⟨ρ, st1, bs1, rl1, re.ext e1, p1.bnd.imp fun d2 st2 bs2 H2 e2 rl2 p2 w rw' => ?_⟩
  exact s _ _ _ _ _ _ _ _ (rv.ext e2) rw' rl2 p2
theorem md_bin {op : Operator} {r : R2} {g : D → D → M D} {a b : Expr} {fa fb : ME} (ho : OpR X (binaryOp op) r) (s : S2 c ex g r) (ha : PE X a (tE c ex fa)) (hb : PE X b (tE c ex fb)) : PE X (.BinOp a op b pos) (tE c ex (bin fa fb g)) :=
  PE_imp (pe_op ho ha hb) fun _ _ _ => tE_bin s
theorem tE_una {f : ME} {op : D → M D} {r : V → Hp → VK → Prop} (s : S1 c ex op r) {σ : L2.St} {H : Hp} {Q : VK} (h : tE c ex (una f op) σ H Q) : tUn r (tE c ex f) σ H Q := by
  obtain ⟨ρ, st, bs, rl, re, p⟩ := h
  exact ⟨ρ, st, bs, rl, re, p.bnd.imp fun d st1 bs1 H1 e1 rl1 p1 v rv => s _ _ _ _ _ _ rv rl1 p1⟩
theorem md_una {op : UnaryOp} {r : V → Hp → VK → Prop} {g : D → M D} {a : Expr} {fa : ME} (ho : UnR X (unaryOp op) r) (s : S1 c ex g r) (ha : PE X a (tE c ex fa)) : PE X (.UnaryOp op a pos) (tE c ex (una fa g)) :=
  PE_imp (pe_un ho ha) fun _ _ _ => tE_una s
theorem S2.orL {g : D → D → M D} {r r' : R2} (h : S2 c ex g r) : S2 c ex g (fun x y H Q => r x y H Q ∨ r' x y H Q) := fun x y d e bs H st Q a b l p => .inl (h x y d e bs H st Q a b l p)
/-- by the two values -/
theorem S2.or {p : D → D → Bool} {g1 g2 : D → D → M D} {r r' : R2} (h : S2 c ex g1 r) (h' : S2 c ex g2 r') : S2 c ex (fun d e => if p d e then g1 d e else g2 d e) (fun x y H Q => r x y H Q ∨ r' x y H Q) := fun x y d e bs H st Q a b l q => by
  by_cases z : p d e = true
  · have q' : Post c ex (g1 d e st) bs H (fun z _ bs' H' => ∀ v, RD c bs' H' v z → Q v H') := by
      simpa only [if_pos z] using q
    exact .inl (h x y d e bs H st Q a b l q')
  · have q' : Post c ex (g2 d e st) bs H (fun z _ bs' H' => ∀ v, RD c bs' H' v z → Q v H') := by
      simpa only [if_neg z] using q
    exact .inr (h' x y d e bs H st Q a b l q')
end
/-- two ints -/
def opI (C : Int → Int → Bool) (g : Int → Int → D) : D → D → M D
  | .int i, .int j => if C i j then ret (g i j) else no
  | _, _ => no
def opI0 (g : Int → Int → D) : D → D → M D
  | .int i, .int j => ret (g i j)
  | _, _ => no
section
variable {c : Ct} {ex : Wh}
theorem s2_I0 {g : Int → Int → D} {k : Int → Int → V} (hk : ∀ i j bs H, RD c bs H (k i j) (g i j)) : S2 c ex (opI0 g) (rI0 k) := by
  intro x y d e bs H st Q rx ry rl p
  cases rx with
  | int i =>
    cases ry with
    | int j => exact ⟨i, j, rfl, rfl, p.now rl _ (hk i j bs H)⟩
    | _ => exact p.elim
  | _ => exact p.elim
theorem s2_I {C : Int → Int → Bool} {C' : Int → Int → Prop} (hC : ∀ i j, C i j = true → C' i j) {g : Int → Int → D} {k : Int → Int → V} (hk : ∀ i j bs H, RD c bs H (k i j) (g i j)) : S2 c ex (opI C g) (rI C' k) := by
  intro x y d e bs H st Q rx ry rl p
  cases rx with
  | int i =>
    cases ry with
    | int j =>
      obtain ⟨h, p⟩ := Post.iff (m := ret (g i j)) p
      exact ⟨i, j, rfl, rfl, hC i j h, p.now rl _ (hk i j bs H)⟩
    | _ => exact p.elim
  | _ => exact p.elim
end
end Pm
end
section
set_option Elab.async false
set_option linter.all false
set_option maxRecDepth 100000
namespace Pm
open PySem PySem.Spec PyProof.Rows L2

/-! ### changes of the heap -/
section
variable {c : Ct} {ex : Wh} {bs : List Addr} {H : Hp} {st : Sto} {p a : Addr} {o : HO} {vs : List V} {xs : List D} {l : Nat}
theorem Rel.here (rl : Rel c bs H st) (h : a ∈ bs) : ∃ o, H a = some o ∧ ¬ Imm o := by
  obtain ⟨i, hi, e⟩ := List.getElem_of_mem h
  have e1 : bs[i]? = some a := by rw [List.getElem?_eq_getElem hi, e]
  have hi2 : i < st.length := by rw [← rl.len]; exact hi
  have q := rl.obj i a st[i] e1 (List.getElem?_eq_getElem hi2)
  cases e2 : st[i] with
  | lst xs =>
    rw [e2] at q
    obtain ⟨vs, q, _⟩ := q
    exact ⟨_, q, fun z => z⟩
theorem ROb.same {c : Ct} {bs bs' : List Addr} {H H' : Hp} (m : Pre c bs H bs' H') (e : H' a = H a) {o : O} (h : ROb c bs H a o) : ROb c bs' H' a o := by
  cases o with
  | lst xs =>
    obtain ⟨vs, q, r⟩ := h
    exact ⟨vs, e.trans q, r.mono m⟩
/-- a new object that nothing tells of -/
theorem Rel.fresh (rl : Rel c bs H st) (hp : H p = none) (o : HO) : Ext bs H bs (upd H p o) ∧ Rel c bs (upd H p o) st := by
  have e : Ext bs H bs (upd H p o) := ⟨⟨[], by simp⟩, fun b u h _ => by rw [upd_ne (ne_of_none h hp)]; exact h, fun b h n => absurd h n⟩
  refine ⟨e, ⟨rl.len, fun l b u h1 h2 => ?_, rl.nd, e.scr rl.scr⟩⟩
  obtain ⟨w, hw, _⟩ := rl.here (List.mem_of_getElem? h1)
  exact (rl.obj l b u h1 h2).same e.mov (upd_ne (ne_of_none hw hp))
/-- a new list -/
theorem Rel.alloc (rl : Rel c bs H st) (hp : H p = none) (r : RDs c bs H vs xs) : Ext bs H (bs ++ [p]) (upd H p (.lst vs)) ∧ Rel c (bs ++ [p]) (upd H p (.lst vs)) (st ++ [.lst xs]) := by
  have nb : p ∉ bs := fun z => by
    obtain ⟨w, hw, _⟩ := rl.here z
    rw [hp] at hw
    cases hw
  have e : Ext bs H (bs ++ [p]) (upd H p (.lst vs)) := ⟨⟨[p], rfl⟩, fun b u h _ => by rw [upd_ne (ne_of_none h hp)]; exact h, fun b h n => by
    rcases List.mem_append.mp h with z | z
    · exact absurd z n
    · rw [List.mem_singleton.mp z]
      exact hp⟩
  refine ⟨e, ⟨by simp [rl.len], fun l b u h1 h2 => ?_, ?_, e.scr rl.scr⟩⟩
  · by_cases hl : l < bs.length
    · rw [List.getElem?_append_left hl] at h1
      rw [List.getElem?_append_left (by rw [← rl.len]; exact hl)] at h2
      obtain ⟨w, hw, _⟩ := rl.here (List.mem_of_getElem? h1)
      exact (rl.obj l b u h1 h2).same e.mov (upd_ne (ne_of_none hw hp))
    · have el : l = bs.length := by
        obtain ⟨z, _⟩ := List.getElem?_eq_some_iff.mp h1
        simp at z
        omega
      subst el
      rw [List.getElem?_append_right (Nat.le_refl _)] at h1
      rw [List.getElem?_append_right (by rw [rl.len]; exact Nat.le_refl _)] at h2
      simp at h1
      simp [rl.len] at h2
      subst h1 h2
      exact ⟨vs, upd_same, r.mono e.mov⟩
  · rw [List.nodup_append]
    exact ⟨rl.nd, by simp, fun x hx y hy => by rw [List.mem_singleton.mp hy]; exact fun z => nb (z ▸ hx)⟩
/-- a list that changes -/
theorem Rel.put (rl : Rel c bs H st) (hb : bs[l]? = some a) {ys : List D} (hl : st[l]? = some (.lst ys)) (r : RDs c bs H vs xs) : Ext bs H bs (upd H a (.lst vs)) ∧ Rel c bs (upd H a (.lst vs)) (st.set l (.lst xs)) := by
  obtain ⟨ws, hw, _⟩ := rl.obj l a _ hb hl
  have e : Ext bs H bs (upd H a (.lst vs)) := ⟨⟨[], by simp⟩, fun b u h q => by
    have n : b ≠ a := fun z => by
      subst z
      rcases q with q | q
      · exact q (List.mem_of_getElem? hb)
      · rw [hw] at h
        cases h
        exact q
    rw [upd_ne n]
    exact h, fun b h n => absurd h n⟩
  refine ⟨e, ⟨by simp [rl.len], fun k b u h1 h2 => ?_, rl.nd, e.scr rl.scr⟩⟩
  by_cases hk : l = k
  · subst hk
    rw [hb] at h1
    cases h1
    obtain ⟨z, _⟩ := List.getElem?_eq_some_iff.mp hl
    rw [List.getElem?_set_self z] at h2
    cases h2
    exact ⟨vs, upd_same, r.mono e.mov⟩
  · rw [List.getElem?_set_ne hk] at h2
    have n : b ≠ a := fun z => by
      subst z
      exact hk ((List.getElem?_inj (List.getElem?_eq_some_iff.mp hb).1 rl.nd).mp (hb.trans h1.symm))
    exact (rl.obj k b u h1 h2).same e.mov (upd_ne n)
end
def alloc (xs : List D) : M D := fun st => .ok (.loc st.length) (st ++ [.lst xs])
def lst (l : Nat) : M (List D) := fun st => match st[l]? with
  | some (.lst xs) => .ok xs st
  | _ => .stuck
def put (l : Nat) (xs : List D) : M Unit := fun st => .ok () (st.set l (.lst xs))
section
variable {c : Ct} {ex : Wh} {bs : List Addr} {H : Hp} {st : Sto} {p a : Addr} {o : HO} {vs : List V} {xs : List D} {l : Nat} {α : Type}
theorem post_alloc {k : D → Sto → List Addr → Hp → Prop} (q : Post c ex (alloc xs st) bs H k) (rl : Rel c bs H st) (hp : H p = none) (r : RDs c bs H vs xs) :
    k (.loc st.length) (st ++ [.lst xs]) (bs ++ [p]) (upd H p (.lst vs)) ∧ RD c (bs ++ [p]) (upd H p (.lst vs)) (.ref p) (.loc st.length) := by
  obtain ⟨e, rl'⟩ := rl.alloc hp r
  exact ⟨Post.at (st := st ++ [.lst xs]) q e rl', .loc (by rw [← rl.len]; simp)⟩
theorem post_lst {k : List D → Sto → List Addr → Hp → Prop} {f : List D → M α} {k' : α → Sto → List Addr → Hp → Prop} (q : Post c ex (bnd (lst l) f st) bs H k') (rl : Rel c bs H st) {v : V} (r : RD c bs H v (.loc l)) :
    ∃ a vs xs, v = .ref a ∧ bs[l]? = some a ∧ st[l]? = some (.lst xs) ∧ H a = some (.lst vs) ∧ RDs c bs H vs xs ∧ Post c ex (f xs st) bs H k' := by
  cases r with
  | @loc a n h =>
    unfold Pm.bnd Pm.lst at q
    cases e : st[l]? with
    | none => rw [e] at q; exact q.elim
    | some o =>
      cases o with
      | lst xs =>
        rw [e] at q
        obtain ⟨vs, h1, h2⟩ := rl.obj l a _ h e
        exact ⟨a, vs, xs, rfl, h, rfl, h1, h2, q⟩
theorem post_put {k : Unit → Sto → List Addr → Hp → Prop} {ys : List D} {f : Unit → M α} {k' : α → Sto → List Addr → Hp → Prop} (q : Post c ex (bnd (put l xs) f st) bs H k') (rl : Rel c bs H st) (hb : bs[l]? = some a) (hl : st[l]? = some (.lst ys)) (r : RDs c bs H vs xs) :
    Rel c bs (upd H a (.lst vs)) (st.set l (.lst xs)) ∧ Ext bs H bs (upd H a (.lst vs)) ∧ Post c ex (f () (st.set l (.lst xs))) bs (upd H a (.lst vs)) k' := by
  obtain ⟨e, rl'⟩ := rl.put hb hl r
  exact ⟨rl', e, Post.far (show Post c ex (f () (st.set l (.lst xs))) bs H k' from q) e⟩
end

/-! ### arithmetic -/
def opMul : D → D → M D := opI (fun i j => decide ((-(2 ^ 64) < i ∧ i < 2 ^ 64) ∨ (-(2 ^ 64) < j ∧ j < 2 ^ 64))) fun i j => .int (i * j)
def opSub : D → D → M D := opI0 fun i j => .int (i - j)
def opMod : D → D → M D := opI (fun _ j => decide (0 < j)) fun i j => .int (i % j)
def opFdiv : D → D → M D := opI (fun _ j => decide (0 < j ∧ j < 1073741824)) fun i j => .int (i / j)
def CPowB (i j : Int) : Prop := 0 ≤ j ∧ (Builtin.Int.intBits i : Int) * j ≤ 2 ^ 27
instance (i j : Int) : Decidable (CPowB i j) := by unfold CPowB; infer_instance
def opPow : D → D → M D := opI (fun i j => decide (CPowB i j)) fun i j => .int (i ^ j.toNat)
theorem op_powB {X : Cx} : OpR X (binaryOp .Pow) (rI CPowB fun i j => .int (i ^ j.toNat)) := L2.opI (C := CPowB) (g := fun i j => i ^ j.toNat) fun i j t u s Q E hc q => PyProof.Rows.pow_int hc.1 hc.2 q
def opNeg : D → M D
  | .int i => ret (.int (-i))
  | _ => no
/-- +: ints, texts, tuples, lists -/
def opAdd : D → D → M D
  | .int i, .int j => ret (.int (i + j))
  | .str x, .str y => if x.length + y.length ≤ sizeLine then ret (.str (x ++ y)) else no
  | .loc l, .loc m => bnd (lst l) fun xs => bnd (lst m) fun ys => if xs.length + ys.length ≤ sizeLine then alloc (xs ++ ys) else no
  | .tup xs, .tup ys => if xs ≠ [] ∧ xs.length + ys.length ≤ sizeLine then ret (.tup (xs ++ ys)) else no
  | _, _ => no
def rAddA (K : PySem.W.Frag) : R2 := fun x y H Q => rI0 (fun i j => .int (i + j)) x y H Q ∨ (∃ i j, x = .str i ∧ y = .str j ∧ i.length + j.length ≤ sizeLine ∧ Q (.str (i ++ j)) H) ∨ rCat x y H Q ∨ rCatT K x y H Q
theorem op_addA {X : Cx} : OpR X (binaryOp .Add) (rAddA X.K) := op_add.or (op_add_str.or (op_cat.or op_catT))
section
variable {X : Cx} {c : Ct} {ex : Wh} {pos : Pos} {a b : Expr} {fa fb : ME}
theorem s2_add : S2 c ex opAdd (rAddA c.K) := by
  intro x y d e bs H st Q rx ry rl p
  cases rx with
  | int i =>
    cases ry with
    | int j => exact .inl ⟨i, j, rfl, rfl, p.now rl _ (.int _)⟩
    | _ => exact p.elim
  | str i =>
    cases ry with
    | str j =>
      obtain ⟨h, p⟩ := Post.iff (m := ret _) p
      exact .inr (.inl ⟨i, j, rfl, rfl, h, p.now rl _ (.str _)⟩)
    | _ => exact p.elim
  | @loc a1 l h1 =>
    cases ry with
    | @loc a2 m h2 =>
      obtain ⟨a1', vs, xs, e1, hb1, hl1, hv1, r1, p⟩ := post_lst (k := fun _ _ _ _ => True) p rl (RD.loc h1)
      cases e1
      obtain ⟨a2', ws, ys, e2, hb2, hl2, hv2, r2, p⟩ := post_lst (k := fun _ _ _ _ => True) p rl (RD.loc h2)
      cases e2
      obtain ⟨h, p⟩ := Post.iff (m := alloc _) p
      refine .inr (.inr (.inl ⟨a1, a2, vs, ws, rfl, rfl, hv1, hv2, by rw [r1.length, r2.length]; exact h, fun q hq => ?_⟩))
      obtain ⟨k, r⟩ := post_alloc p rl hq (r1.append r2)
      exact k _ r
    | _ => exact p.elim
  | @tup a1 vs xs s1 r1 =>
    cases ry with
    | @tup a2 ws ys s2 r2 =>
      obtain ⟨⟨h0, h⟩, p⟩ := Post.iff (m := ret _) p
      have hv : vs ≠ [] := fun z => by
        subst z
        cases r1
        exact h0 rfl
      refine .inr (.inr (.inr ⟨a1, a2, vs, ws, rfl, rfl, s1, s2, hv, by rw [r1.length, r2.length]; exact h, fun z => ?_, fun _ q hq => ?_⟩))
      · subst z
        cases r2
        rw [List.append_nil] at p
        exact p.now rl _ (.tup s1 r1)
      · obtain ⟨e, rl'⟩ := rl.fresh hq (.tup (vs ++ ws))
        exact p.at e rl' _ (.tup (SqT.of upd_same) ((r1.append r2).ext e))
    | _ => exact p.elim
  | _ => cases ry <;> exact p.elim
theorem md_add (hK : X.K = c.K) (ha : PE X a (tE c ex fa)) (hb : PE X b (tE c ex fb)) : PE X (.BinOp a .Add b pos) (tE c ex (bin fa fb opAdd)) := md_bin op_addA (by rw [hK]; exact s2_add) ha hb
theorem md_sub (ha : PE X a (tE c ex fa)) (hb : PE X b (tE c ex fb)) : PE X (.BinOp a .Sub b pos) (tE c ex (bin fa fb opSub)) := md_bin op_sub (s2_I0 fun _ _ _ _ => .int _) ha hb
theorem md_mul (ha : PE X a (tE c ex fa)) (hb : PE X b (tE c ex fb)) : PE X (.BinOp a .Mult b pos) (tE c ex (bin fa fb opMul)) := md_bin op_mul (s2_I (fun _ _ h => of_decide_eq_true h) fun _ _ _ _ => .int _) ha hb
theorem md_mod (ha : PE X a (tE c ex fa)) (hb : PE X b (tE c ex fb)) : PE X (.BinOp a .Mod b pos) (tE c ex (bin fa fb opMod)) := md_bin op_mod (s2_I (fun _ _ h => of_decide_eq_true h) fun _ _ _ _ => .int _) ha hb
theorem md_fdiv (ha : PE X a (tE c ex fa)) (hb : PE X b (tE c ex fb)) : PE X (.BinOp a .FloorDiv b pos) (tE c ex (bin fa fb opFdiv)) := md_bin op_fdiv (s2_I (fun _ _ h => of_decide_eq_true h) fun _ _ _ _ => .int _) ha hb
theorem md_pow (ha : PE X a (tE c ex fa)) (hb : PE X b (tE c ex fb)) : PE X (.BinOp a .Pow b pos) (tE c ex (bin fa fb opPow)) := md_bin op_powB (s2_I (fun _ _ h => of_decide_eq_true h) fun _ _ _ _ => .int _) ha hb
theorem s1_neg : S1 c ex opNeg (rU fun i => .int (-i)) := by
  intro x d bs H st Q rx rl p
  cases rx with
  | int i => exact ⟨i, rfl, p.now rl _ (.int _)⟩
  | _ => exact p.elim
theorem md_neg (ha : PE X a (tE c ex fa)) : PE X (.UnaryOp .USub a pos) (tE c ex (una fa opNeg)) := md_una un_neg s1_neg ha
end
end Pm
end
section
set_option Elab.async false
set_option linter.all false
set_option maxRecDepth 100000
namespace Pm
open PySem PySem.Spec PyProof.Rows L2

/-! ### truth, and, or, not, if -/
def tru : D → M Bool
  | .non => ret false
  | .bl b => ret b
  | .int i => ret (i != 0)
  | .str y => if y.length ≤ sizeLine then ret ((y.length : Int) != 0) else no
  | .tup xs => ret (!xs.isEmpty)
  | .loc l => bnd (lst l) fun xs => ret (!xs.isEmpty)
  | .scr => no
def asB : D → M Bool
  | .bl b => ret b
  | _ => no
section
variable {X : Cx} {c : Ct} {ex : Wh} {pos : Pos} {a b e : Expr} {fa fb f g : ME} {ta tb t : MT} {bs : List Addr} {H : Hp} {st : Sto} {rest : List Expr}
theorem RDs.isEmpty {vs : List V} {ds : List D} (r : RDs c bs H vs ds) : vs.isEmpty = ds.isEmpty := by cases r <;> rfl
theorem tru_ok' {v : V} {d : D} {k : Bool → Sto → List Addr → Hp → Prop} (r : RD c bs H v d) (rl : Rel c bs H st) (p : Post c ex (tru d st) bs H k) : ∃ q, TruV c.K v H q ∧ k q st bs H := by
  cases r with
  | non => exact ⟨false, rfl, p.now rl⟩
  | bl q => exact ⟨q, rfl, p.now rl⟩
  | int i => exact ⟨_, rfl, p.now rl⟩
  | str y =>
    obtain ⟨h, p⟩ := Post.iff (m := ret _) p
    exact ⟨_, ⟨h, rfl⟩, p.now rl⟩
  | tup s r => exact ⟨_, .inr (.inl ⟨_, s, by rw [r.isEmpty]⟩), p.now rl⟩
  | loc h =>
    obtain ⟨a, vs, xs, e, hb, hl, hv, r, p⟩ := post_lst (k := fun _ _ _ _ => True) p rl (RD.loc h)
    cases e
    exact ⟨_, .inl ⟨_, SqL.of hv, by rw [r.isEmpty]⟩, p.now rl⟩
  | scr => exact p.elim
def tstV (f : ME) : MT := fun ρ => bnd (f ρ) tru
def tstB (f : ME) : MT := fun ρ => bnd (f ρ) asB
theorem tT_V {σ : L2.St} {Q : Bool → Hp → Prop} (h : tT c ex (tstV f) σ H Q) : tE c ex f σ H fun x H' => ∃ k, TruV c.K x H' k ∧ Q k H' := by
  obtain ⟨ρ, st, bs, rl, re, p⟩ := h
  exact ⟨ρ, st, bs, rl, re, p.bnd.imp fun d st1 bs1 H1 e1 rl1 p1 v rv => tru_ok' rv rl1 p1⟩
theorem mt_tru (hK : X.K = c.K) (h : PE X a (tE c ex f)) (he : ∀ whole, isTrue a X.env whole = (do let v ← whole; standAt a.pos; holding [v] (truthy v)) := by intro _; rfl) : PT X a (tT c ex (tstV f)) :=
  PT_imp (pt_truth h he) fun σ H Q q => by rw [hK]; exact tT_V q
theorem tT_B {σ : L2.St} {Q : Bool → Hp → Prop} (h : tT c ex (tstB f) σ H Q) : tE c ex f σ H fun x H' => ∃ k, x = .bl k ∧ Q k H' := by
  obtain ⟨ρ, st, bs, rl, re, p⟩ := h
  refine ⟨ρ, st, bs, rl, re, p.bnd.imp fun d st1 bs1 H1 e1 rl1 p1 v rv => ?_⟩
  cases rv with
  | bl k => exact ⟨k, rfl, p1.now rl1⟩
  | _ => exact p1.elim
/-- a test whose value is a bool -/
theorem mt_val (h : PE X a (tE c ex f)) (he : ∀ whole, isTrue a X.env whole = (do let v ← whole; standAt a.pos; holding [v] (truthy v)) := by intro _; rfl) : PT X a (tT c ex (tstB f)) :=
  PT_imp (pt_val h he) fun σ H Q q => tT_B q
def notT (t : MT) : MT := fun ρ => bnd (t ρ) fun k => ret (!k)
def andT (t u : MT) : MT := fun ρ => bnd (t ρ) fun k => if k = true then u ρ else ret false
def orT (t u : MT) : MT := fun ρ => bnd (t ρ) fun k => if k = true then ret true else u ρ
theorem mt_not (h : PT X a (tT c ex t)) : PT X (.UnaryOp .Not a pos) (tT c ex (notT t)) := PT_imp (pt_not h) fun σ H Q q => by
  obtain ⟨ρ, st, bs, rl, re, p⟩ := q
  exact ⟨ρ, st, bs, rl, re, p.bnd.imp fun d st1 bs1 H1 e1 rl1 p1 => p1.now rl1⟩
theorem mw_and1 (h : PT X a (tT c ex t)) : PW X (.BoolOp .And [a] pos) (tT c ex t) := pw_and1 h
theorem mw_or1 (h : PT X a (tT c ex t)) : PW X (.BoolOp .Or [a] pos) (tT c ex t) := pw_or1 h
theorem mw_and (ha : PT X a (tT c ex ta)) (hb : PW X (.BoolOp .And (b :: rest) pos) (tT c ex tb)) : PW X (.BoolOp .And (a :: b :: rest) pos) (tT c ex (andT ta tb)) := PW_imp (pw_and ha hb) fun σ H Q q => by
  obtain ⟨ρ, st, bs, rl, re, p⟩ := q
  refine ⟨ρ, st, bs, rl, re, p.bnd.imp fun k st1 bs1 H1 e1 rl1 p1 => ?_⟩
  cases k with
  | true => exact iteT ⟨ρ, st1, bs1, rl1, re.ext e1, p1⟩
  | false => exact iteF (p1.now rl1)
theorem mw_or (ha : PT X a (tT c ex ta)) (hb : PW X (.BoolOp .Or (b :: rest) pos) (tT c ex tb)) : PW X (.BoolOp .Or (a :: b :: rest) pos) (tT c ex (orT ta tb)) := PW_imp (pw_or ha hb) fun σ H Q q => by
  obtain ⟨ρ, st, bs, rl, re, p⟩ := q
  refine ⟨ρ, st, bs, rl, re, p.bnd.imp fun k st1 bs1 H1 e1 rl1 p1 => ?_⟩
  cases k with
  | true => exact iteT (p1.now rl1)
  | false => exact iteF ⟨ρ, st1, bs1, rl1, re.ext e1, p1⟩
/-- .. as values -/
def andV (f g : ME) : ME := fun ρ => bnd (f ρ) fun x => bnd (tru x) fun k => if k = true then g ρ else ret x
def orV (f g : ME) : ME := fun ρ => bnd (f ρ) fun x => bnd (tru x) fun k => if k = true then ret x else g ρ
def notV (f : ME) : ME := fun ρ => bnd (f ρ) fun x => bnd (tru x) fun k => ret (.bl (!k))
theorem md_one {op} (h : PE X a (tE c ex f)) : PE X (.BoolOp op [a] pos) (tE c ex f) := pe_one h
theorem md_and (hK : X.K = c.K) (ha : PE X a (tE c ex fa)) (hb : PE X (.BoolOp .And (b :: rest) pos) (tE c ex fb)) : PE X (.BoolOp .And (a :: b :: rest) pos) (tE c ex (andV fa fb)) := PE_imp (pe_andT ha hb) fun σ H Q q => by
  obtain ⟨ρ, st, bs, rl, re, p⟩ := q
  refine ⟨ρ, st, bs, rl, re, p.bnd.imp fun d st1 bs1 H1 e1 rl1 p1 v rv => ?_⟩
  obtain ⟨k, hk, p2⟩ := tru_ok' rv rl1 p1.bnd
  rw [hK]
  refine ⟨k, hk, ?_⟩
  cases k with
  | true => exact iteT ⟨ρ, st1, bs1, rl1, re.ext e1, p2⟩
  | false => exact iteF (p2.now rl1 v rv)
theorem md_or (hK : X.K = c.K) (ha : PE X a (tE c ex fa)) (hb : PE X (.BoolOp .Or (b :: rest) pos) (tE c ex fb)) : PE X (.BoolOp .Or (a :: b :: rest) pos) (tE c ex (orV fa fb)) := PE_imp (pe_orT ha hb) fun σ H Q q => by
  obtain ⟨ρ, st, bs, rl, re, p⟩ := q
  refine ⟨ρ, st, bs, rl, re, p.bnd.imp fun d st1 bs1 H1 e1 rl1 p1 v rv => ?_⟩
  obtain ⟨k, hk, p2⟩ := tru_ok' rv rl1 p1.bnd
  rw [hK]
  refine ⟨k, hk, ?_⟩
  cases k with
  | true => exact iteT (p2.now rl1 v rv)
  | false => exact iteF ⟨ρ, st1, bs1, rl1, re.ext e1, p2⟩
theorem md_not (hK : X.K = c.K) (ha : PE X a (tE c ex fa)) : PE X (.UnaryOp .Not a pos) (tE c ex (notV fa)) := PE_imp (pe_notT ha) fun σ H Q q => by
  obtain ⟨ρ, st, bs, rl, re, p⟩ := q
  refine ⟨ρ, st, bs, rl, re, p.bnd.imp fun d st1 bs1 H1 e1 rl1 p1 v rv => ?_⟩
  obtain ⟨k, hk, p2⟩ := tru_ok' rv rl1 p1.bnd
  rw [hK]
  exact ⟨k, hk, p2.now rl1 _ (.bl _)⟩
def ifE (t : MT) (f g : ME) : ME := fun ρ => bnd (t ρ) fun k => if k = true then f ρ else g ρ
theorem md_if {x : Expr} (ht : PT X x (tT c ex t)) (ha : PE X a (tE c ex fa)) (hb : PE X b (tE c ex fb)) : PE X (.IfExp x a b pos) (tE c ex (ifE t fa fb)) := PE_imp (pe_ifExp ht ha hb) fun σ H Q q => by
  obtain ⟨ρ, st, bs, rl, re, p⟩ := q
  refine ⟨ρ, st, bs, rl, re, p.bnd.imp fun k st1 bs1 H1 e1 rl1 p1 => ?_⟩
  cases k with
  | true => exact iteT ⟨ρ, st1, bs1, rl1, re.ext e1, p1⟩
  | false => exact iteF ⟨ρ, st1, bs1, rl1, re.ext e1, p1⟩
end

/-! ### comparisons -/
def scD : D → D → Bool
  | .non, .non => true | .non, .int _ => true | .int _, .non => true | .non, .bl _ => true | .bl _, .non => true | .non, .str _ => true | .str _, .non => true
  | .int _, .int _ => true | .bl _, .bl _ => true | .str _, .str _ => true
  | .int _, .str _ => true | .str _, .int _ => true | .bl _, .str _ => true | .str _, .bl _ => true
  | _, _ => false
def toPys (f : D → Option PyData) : List D → Option (List PyData)
  | [] => some []
  | x :: xs => match f x, toPys f xs with
    | some a, some as => some (a :: as)
    | _, _ => none
def toPy (st : Sto) : Nat → D → Option PyData
  | 0, _ => none
  | n + 1, d => match d with
    | .non => some .none
    | .bl b => some (.bool b)
    | .int i => some (.int i)
    | .str s => some (.str s)
    | .tup xs => (toPys (toPy st n) xs).map .tuple
    | .loc l => match st[l]? with
      | some (.lst xs) => (toPys (toPy st n) xs).map .list
      | _ => none
    | .scr => none
/-- data, to be compared or shown -/
def py (d : D) : M PyData := fun st => match toPy st 60 d with
  | some p => .ok p st
  | none => .stuck
def opEq : D → D → M D := fun d e => if scD d e then ret (.bl (decide (d = e))) else bnd (py d) fun p => bnd (py e) fun q => if SeqAt.shaped p && SeqAt.shaped q then ret (.bl (PyData.eqv p q)) else no
def opNe : D → D → M D := fun d e => if scD d e then ret (.bl (!decide (d = e))) else bnd (py d) fun p => bnd (py e) fun q => if SeqAt.shaped p && SeqAt.shaped q then ret (.bl (!PyData.eqv p q)) else no
section
variable {X : Cx} {c : Ct} {ex : Wh} {pos : Pos} {a b : Expr} {fa fb f g : ME} {bs : List Addr} {H : Hp} {st : Sto}
theorem dpAll_of {f : D → Option PyData} (h : ∀ d v p, f d = some p → RD c bs H v d → Dp c.K H v p) : ∀ (xs : List D) (vs : List V) (ps : List PyData), toPys f xs = some ps → RDs c bs H vs xs → DpAll c.K H vs ps
  | [], _, _, e, r => by
    cases r
    cases e
    exact .nil
  | x :: xs, _, ps, e, r => by
    cases r with
    | cons r1 r2 =>
      unfold toPys at e
      cases e1 : f x with
      | none => rw [e1] at e; cases e
      | some q =>
        cases e2 : toPys f xs with
        | none => rw [e1, e2] at e; cases e
        | some qs =>
          rw [e1, e2] at e
          cases e
          exact .cons (h _ _ _ e1 r1) (dpAll_of h xs _ _ e2 r2)
theorem dp_of (rl : Rel c bs H st) : ∀ (n : Nat) (d : D) (v : V) (p : PyData), toPy st n d = some p → RD c bs H v d → Dp c.K H v p
  | 0, _, _, _, e, _ => by cases e
  | n + 1, d, v, p, e, r => by
    cases r with
    | non => cases e; exact .non
    | bl b => cases e; exact .bl b
    | int i => cases e; exact .int i
    | str s => cases e; exact .str s
    | @tup a vs ds s r =>
      have e : (toPys (toPy st n) ds).map PyData.tuple = some p := e
      cases e1 : toPys (toPy st n) ds with
      | none => rw [e1] at e; cases e
      | some ps =>
        rw [e1] at e
        cases e
        exact .tup s (dpAll_of (fun d v p => dp_of rl n d v p) _ _ _ e1 r)
    | @loc a l h =>
      cases e1 : st[l]? with
      | none =>
        unfold toPy at e
        simp only [e1] at e
        cases e
      | some o =>
        unfold toPy at e
        simp only [e1] at e
        cases o with
        | lst xs =>
          obtain ⟨vs, hv, r⟩ := rl.obj l a _ h e1
          have e : (toPys (toPy st n) xs).map PyData.list = some p := e
          cases e2 : toPys (toPy st n) xs with
          | none => rw [e2] at e; cases e
          | some ps =>
            rw [e2] at e
            cases e
            exact .lst (SqL.of hv) (dpAll_of (fun d v p => dp_of rl n d v p) _ _ _ e2 r)
    | scr => cases e
theorem post_py {α : Type} {d : D} {f : PyData → M α} {k : α → Sto → List Addr → Hp → Prop} (q : Post c ex (bnd (py d) f st) bs H k) (rl : Rel c bs H st) {v : V} (r : RD c bs H v d) : ∃ p, toPy st 60 d = some p ∧ Dp c.K H v p ∧ Post c ex (f p st) bs H k := by
  unfold bnd py at q
  cases e : toPy st 60 d with
  | none => rw [e] at q; exact q.elim
  | some p =>
    rw [e] at q
    exact ⟨p, rfl, dp_of rl 60 d v p e r, q⟩
theorem scal_of {v w : V} {d e : D} (r : RD c bs H v d) (r' : RD c bs H w e) (h : scD d e = true) : scal v w = true ∧ decide (v = w) = decide (d = e) := by
  cases r <;> cases r' <;> first | (simp [scD] at h; done) | (refine ⟨rfl, ?_⟩; simp)
def rEqA (K : PySem.W.Frag) : R2 := fun x y H Q => rEq x y H Q ∨ rEqD K x y H Q
def rNeA (K : PySem.W.Frag) : R2 := fun x y H Q => rNe x y H Q ∨ rNeD K x y H Q
theorem s2_eq : S2 c ex opEq (rEqA c.K) := by
  intro x y d e bs H st Q rx ry rl p
  unfold opEq at p
  by_cases h : scD d e = true
  · rw [if_pos h] at p
    obtain ⟨h1, h2⟩ := scal_of rx ry h
    exact .inl ⟨h1, by rw [h2]; exact p.now rl _ (.bl _)⟩
  · rw [if_neg h] at p
    obtain ⟨u, _, du, p⟩ := post_py p rl rx
    obtain ⟨w, _, dw, p⟩ := post_py p rl ry
    obtain ⟨hs, p⟩ := Post.iff (m := ret _) p
    rw [Bool.and_eq_true] at hs
    exact .inr ⟨u, w, du, dw, hs.1, hs.2, p.now rl _ (.bl _)⟩
theorem s2_ne : S2 c ex opNe (rNeA c.K) := by
  intro x y d e bs H st Q rx ry rl p
  unfold opNe at p
  by_cases h : scD d e = true
  · rw [if_pos h] at p
    obtain ⟨h1, h2⟩ := scal_of rx ry h
    exact .inl ⟨h1, by rw [h2]; exact p.now rl _ (.bl _)⟩
  · rw [if_neg h] at p
    obtain ⟨u, _, du, p⟩ := post_py p rl rx
    obtain ⟨w, _, dw, p⟩ := post_py p rl ry
    obtain ⟨hs, p⟩ := Post.iff (m := ret _) p
    rw [Bool.and_eq_true] at hs
    exact .inr ⟨u, w, du, dw, hs.1, hs.2, p.now rl _ (.bl _)⟩
def opLt : D → D → M D := opI0 fun i j => .bl (decide (i < j))
def opLe : D → D → M D := opI0 fun i j => .bl (decide (i ≤ j))
def opGt : D → D → M D := opI0 fun i j => .bl (decide (j < i))
def opGe : D → D → M D := opI0 fun i j => .bl (decide (j ≤ i))
/-- a comparison's rule: its reading, its meaning -/
structure CO (X : Cx) (c : Ct) (ex : Wh) (op : CmpOp) (g : D → D → M D) : Prop where
  ex : ∃ r, OpR X (compareOp op) r ∧ S2 c ex g r
theorem co_eq (hK : X.K = c.K) (hu : X.A.units + 64 < cLine) : CO X c ex .Eq opEq := ⟨_, op_eq.or (op_eqD hu), by rw [hK]; exact s2_eq⟩
theorem co_ne (hK : X.K = c.K) (hu : X.A.units + 64 < cLine) : CO X c ex .NotEq opNe := ⟨_, op_ne.or (op_neD hu), by rw [hK]; exact s2_ne⟩
theorem co_lt : CO X c ex .Lt opLt := ⟨_, op_lt, s2_I0 fun _ _ _ _ => .bl _⟩
theorem co_le : CO X c ex .LtE opLe := ⟨_, op_le, s2_I0 fun _ _ _ _ => .bl _⟩
theorem co_gt : CO X c ex .Gt opGt := ⟨_, op_gt, s2_I0 fun _ _ _ _ => .bl _⟩
theorem co_ge : CO X c ex .GtE opGe := ⟨_, op_ge, s2_I0 fun _ _ _ _ => .bl _⟩
/-- is None -/
def opIs : D → D → M D
  | d, .non => ret (.bl (decide (d = .non)))
  | .bl a, .bl b => ret (.bl (decide (a = b)))
  | _, _ => no
def opIsNot : D → D → M D
  | d, .non => ret (.bl (!decide (d = .non)))
  | _, _ => no
theorem non_iff {v : V} {d : D} (r : RD c bs H v d) : decide (v = .non) = decide (d = .non) := by cases r <;> simp
theorem co_is : CO X c ex .Is opIs := ⟨_, op_isN.or op_isBl, by
  intro x y d e bs H st Q rx ry rl p
  cases ry with
  | non =>
    have p : Post c ex (ret (D.bl (decide (d = .non))) st) bs H (fun z _ bs' H' => ∀ v, RD c bs' H' v z → Q v H') := by cases d <;> exact p
    exact .inl ⟨rfl, by rw [non_iff rx]; exact p.now rl _ (.bl _)⟩
  | bl k =>
    cases rx with
    | bl j => exact .inr ⟨j, k, rfl, rfl, p.now rl _ (.bl _)⟩
    | _ => exact p.elim
  | _ => cases rx <;> exact p.elim⟩
theorem co_isnot : CO X c ex .IsNot opIsNot := ⟨_, op_notN, by
  intro x y d e bs H st Q rx ry rl p
  cases ry with
  | non =>
    have p : Post c ex (ret (D.bl (!decide (d = .non))) st) bs H (fun z _ bs' H' => ∀ v, RD c bs' H' v z → Q v H') := by cases d <;> exact p
    exact ⟨rfl, by rw [non_iff rx]; exact p.now rl _ (.bl _)⟩
  | _ => cases rx <;> exact p.elim⟩
theorem md_cmp {op : CmpOp} {g : D → D → M D} (h : CO X c ex op g) (ha : PE X a (tE c ex fa)) (hb : PE X b (tE c ex fb)) (hm : behindInMarks op b = false := by first | rfl | exact nomark _) : PE X (.Compare a [op] [b] pos) (tE c ex (bin fa fb g)) := by
  obtain ⟨r, ho, s⟩ := h.ex
  exact PE_imp (pe_cmpR ho ha hb hm) fun _ _ _ => tE_bin s
theorem mt_cmp {op : CmpOp} {g : D → D → M D} (h : CO X c ex op g) (ha : PE X a (tE c ex fa)) (hb : PE X b (tE c ex fb)) (hm : behindInMarks op b = false := by first | rfl | exact nomark _) : PT X (.Compare a [op] [b] pos) (tT c ex (tstB (bin fa fb g))) := by
  obtain ⟨r, ho, s⟩ := h.ex
  refine PT_imp (pt_cmpR ho ha hb hm) fun σ H Q q => ?_
  have q := tT_B q
  exact tE_bin s q
/-- a < b < c -/
def chn (f g h : ME) (op op' : D → D → M D) : ME := fun ρ => bnd (f ρ) fun x => bnd (g ρ) fun y => bnd (op x y) fun z => bnd (asB z) fun k => if k = true then bnd (h ρ) fun w => op' y w else ret (.bl false)
theorem tE_chn {h : ME} {g1 g2 : D → D → M D} {r r' : R2} (s : S2 c ex g1 r) (s' : S2 c ex g2 r') {σ : L2.St} {Q : VK} (q : tE c ex (chn f g h g1 g2) σ H Q) : tChain r r' (tE c ex f) (tE c ex g) (tE c ex h) σ H Q := by
  obtain ⟨ρ, st, bs, rl, re, p⟩ := q
  refine ⟨ρ, st, bs, rl, re, p.bnd.imp fun d st1 bs1 H1 e1 rl1 p1 v rv => ?_⟩
  refine ⟨ρ, st1, bs1, rl1, re.ext e1, p1.bnd.imp fun d2 st2 bs2 H2 e2 rl2 p2 w rw' => ?_⟩
  refine s _ _ _ _ _ _ _ _ (rv.ext e2) rw' rl2 (p2.bnd.imp fun z st3 bs3 H3 e3 rl3 p3 u ru => ?_)
  cases ru with
  | bl k =>
    have p4 := p3.bnd.now rl3
    refine ⟨k, rfl, ?_⟩
    cases k with
    | true => exact iteT ⟨ρ, st3, bs3, rl3, ((re.ext e1).ext e2).ext e3, p4.bnd.imp fun d5 st5 bs5 H5 e5 rl5 p5 w5 rw5 => s' _ _ _ _ _ _ _ _ ((rw'.ext e3).ext e5) rw5 rl5 p5⟩
    | false => exact iteF (p4.now rl3 _ (.bl _))
  | _ => exact p3.bnd.elim
theorem md_chain {op op' : CmpOp} {e : Expr} {h : ME} {g1 g2 : D → D → M D} (o : CO X c ex op g1) (o' : CO X c ex op' g2) (ha : PE X a (tE c ex f)) (hb : PE X b (tE c ex g)) (hc : PE X e (tE c ex h))
    (hm : lastMarks [op, op'] [b, e] = false := by with_unfolding_all rfl) : PE X (.Compare a [op, op'] [b, e] pos) (tE c ex (chn f g h g1 g2)) := by
  obtain ⟨r, ho, s⟩ := o.ex
  obtain ⟨r', ho', s'⟩ := o'.ex
  exact PE_imp (pe_chain ho ho' ha hb hc hm) fun _ _ _ => tE_chn s s'
theorem mt_chain {op op' : CmpOp} {e : Expr} {h : ME} {g1 g2 : D → D → M D} (o : CO X c ex op g1) (o' : CO X c ex op' g2) (ha : PE X a (tE c ex f)) (hb : PE X b (tE c ex g)) (hc : PE X e (tE c ex h))
    (hm : lastMarks [op, op'] [b, e] = false := by with_unfolding_all rfl) : PT X (.Compare a [op, op'] [b, e] pos) (tT c ex (tstB (chn f g h g1 g2))) := by
  obtain ⟨r, ho, s⟩ := o.ex
  obtain ⟨r', ho', s'⟩ := o'.ex
  refine PT_imp (pt_chain ho ho' ha hb hc hm) fun σ H Q q => ?_
  exact tE_chn s s' (tT_B q)
end
end Pm
end
section
set_option Elab.async false
set_option linter.all false
set_option maxRecDepth 100000
namespace Pm
open PySem PySem.Spec PyProof.Rows L2

/-! ### arguments, displays -/
def nilA : MA := fun _ => ret []
def conA (f : ME) (g : MA) : MA := fun ρ => bnd (f ρ) fun x => bnd (g ρ) fun xs => ret (x :: xs)
def tupE (g : MA) : ME := fun ρ => bnd (g ρ) fun xs => if xs.length ≤ sizeLine then ret (.tup xs) else no
def lstE (g : MA) : ME := fun ρ => bnd (g ρ) fun xs => if xs.length ≤ sizeLine then alloc xs else no
section
variable {X : Cx} {c : Ct} {ex : Wh} {pos : Pos} {a b e : Expr} {es : List Expr} {fa fb f : ME} {g : MA} {bs : List Addr} {H : Hp} {st : Sto}
theorem ma_nil : PA X [] (tA c ex nilA) := PA_imp pa_nil fun σ H Q q => by
  obtain ⟨ρ, st, bs, rl, re, p⟩ := q
  exact p.now rl [] .nil
theorem ma_cons (ha : PE X e (tE c ex f)) (hr : PA X es (tA c ex g)) (hs : starEach (e :: es) X.env = (false, eval e X.env) :: starEach es X.env := by rfl) : PA X (e :: es) (tA c ex (conA f g)) := PA_imp (pa_cons ha hr hs) fun σ H Q q => by
  obtain ⟨ρ, st, bs, rl, re, p⟩ := q
  refine ⟨ρ, st, bs, rl, re, p.bnd.imp fun d st1 bs1 H1 e1 rl1 p1 v rv => ?_⟩
  exact ⟨ρ, st1, bs1, rl1, re.ext e1, p1.bnd.imp fun ds st2 bs2 H2 e2 rl2 p2 vs rvs => p2.now rl2 _ (.cons (rv.ext e2) rvs)⟩
theorem md_tup {x1} (h : PA X es (tA c ex g)) : PE X (.Tuple es x1 pos) (tE c ex (tupE g)) := PE_imp (pe_tup h) fun σ H Q q => by
  obtain ⟨ρ, st, bs, rl, re, p⟩ := q
  refine ⟨ρ, st, bs, rl, re, p.bnd.imp fun ds st1 bs1 H1 e1 rl1 p1 vs rvs => ?_⟩
  obtain ⟨h, p1⟩ := Post.iff (m := ret _) p1
  refine ⟨by rw [rvs.length]; exact h, fun q hq => ?_⟩
  obtain ⟨e2, rl2⟩ := rl1.fresh hq (.tup vs)
  exact p1.at e2 rl2 _ (.tup (SqT.of upd_same) (rvs.ext e2))
theorem md_lst (h : PA X es (tA c ex g)) : PE X (.List es pos) (tE c ex (lstE g)) := PE_imp (pe_lst h) fun σ H Q q => by
  obtain ⟨ρ, st, bs, rl, re, p⟩ := q
  refine ⟨ρ, st, bs, rl, re, p.bnd.imp fun ds st1 bs1 H1 e1 rl1 p1 vs rvs => ?_⟩
  obtain ⟨h, p1⟩ := Post.iff (m := alloc _) p1
  refine ⟨by rw [rvs.length]; exact h, fun q hq => ?_⟩
  obtain ⟨k, r⟩ := post_alloc p1 rl1 hq rvs
  exact k _ r

/-! ### calls of built-ins, by values -/
def SC (c : Ct) (ex : Wh) (g : List D → M D) (r : List V → Hp → VK → Prop) : Prop := ∀ vs ds bs H st Q, RDs c bs H vs ds → Rel c bs H st → Post c ex (g ds st) bs H (fun z _ bs' H' => ∀ v, RD c bs' H' v z → Q v H') → r vs H Q
def appA (g : MA) (op : List D → M D) : ME := fun ρ => bnd (g ρ) op
/-- a built-in's rule, its meaning -/
structure CB (X : Cx) (c : Ct) (ex : Wh) (f : Value) (g : List D → M D) : Prop where
  ex : ∃ r, CallR X f r ∧ SC c ex g r
theorem tE_app {op : List D → M D} {r : List V → Hp → VK → Prop} (s : SC c ex op r) {σ : L2.St} {H : Hp} {Q : VK} (h : tE c ex (appA g op) σ H Q) : tCB r (tA c ex g) σ H Q := by
  obtain ⟨ρ, st, bs, rl, re, p⟩ := h
  exact ⟨ρ, st, bs, rl, re, p.bnd.imp fun ds st1 bs1 H1 e1 rl1 p1 vs rvs => s _ _ _ _ _ _ rvs rl1 p1⟩
theorem md_callB {x id : _} {p : Pos} {op : List D → M D} (h : CB X c ex (.builtin id) op) (hg : Gl X x) (hm : X.mg x = none) (hv : bootBuiltins x = some (.builtin id)) (ha : PA X (e :: es) (tA c ex g)) (hn : x ≠ "__name__" := by decide) (hdb : (x == ("__debug__" : Str)) = false := by decide)
    (he : starEach (e :: es) X.env = (false, eval e X.env) :: starEach es X.env := by rfl) (hpl : (backTo pos (starEach es X.env)).any (·.1) = false := by rfl) : PE X (.Call (.Name x p) (e :: es) [] pos) (tE c ex (appA g op)) := by
  obtain ⟨r, hc, s⟩ := h.ex
  exact PE_imp (pe_callB hc hg hm hv ha hn hdb he hpl) fun _ _ _ => tE_app s
theorem md_callTy {x T : _} {p : Pos} {op : List D → M D} (h : CB X c ex (.type T) op) (hg : Gl X x) (hm : X.mg x = none) (hv : bootBuiltins x = some (.type T)) (ha : PA X (e :: es) (tA c ex g)) (hn : x ≠ "__name__" := by decide) (hdb : (x == ("__debug__" : Str)) = false := by decide)
    (he : starEach (e :: es) X.env = (false, eval e X.env) :: starEach es X.env := by rfl) (hpl : (backTo pos (starEach es X.env)).any (·.1) = false := by rfl) : PE X (.Call (.Name x p) (e :: es) [] pos) (tE c ex (appA g op)) := by
  obtain ⟨r, hc, s⟩ := h.ex
  exact PE_imp (pe_callTy hc hg hm hv ha hn hdb he hpl) fun _ _ _ => tE_app s
end

def bLen (ns : List Int) : List D → M D
  | [.str y] => if y.length ≤ sizeLine then ret (.int y.length) else no
  | [.tup xs] => ret (.int xs.length)
  | [.loc l] => bnd (lst l) fun xs => ret (.int xs.length)
  | [.scr] => ret (.int ns.length)
  | _ => no
def bAbs : List D → M D
  | [.int i] => ret (.int (if i < 0 then -i else i))
  | _ => no
def bInt : List D → M D
  | [.int i] => ret (.int i)
  | [.bl k] => ret (.int (if k then 1 else 0))
  | _ => no
def bStr : List D → M D
  | [.int i] => if i.natAbs.log2 < 1920 then ret (.str (toString i)) else no
  | _ => no
def bMax : List D → M D
  | [.int i, .int j] => ret (.int (if j > i then j else i))
  | _ => no
def bMin : List D → M D
  | [.int i, .int j] => ret (.int (if j < i then j else i))
  | _ => no
/-- ints alone, bools alone -/
def intsOf : List D → Option (List Int)
  | [] => some []
  | .int i :: xs => (intsOf xs).map (i :: ·)
  | _ :: _ => none
def blsOf : List D → Option (List Bool)
  | [] => some []
  | .bl i :: xs => (blsOf xs).map (i :: ·)
  | _ :: _ => none
def bSum : List D → M D
  | [.loc l] => bnd (lst l) fun xs => match intsOf xs with
    | some ns => ret (.int ns.sum)
    | none => no
  | _ => no
def bAll : List D → M D
  | [.loc l] => bnd (lst l) fun xs => match blsOf xs with
    | some ks => ret (.bl (ks.all id))
    | none => no
  | _ => no
def bAny : List D → M D
  | [.loc l] => bnd (lst l) fun xs => match blsOf xs with
    | some ks => ret (.bl (ks.any id))
    | none => no
  | _ => no
def ins (n : Int) : List Int → List Int
  | [] => [n]
  | m :: r => if n ≤ m then n :: m :: r else m :: ins n r
def isort : List Int → List Int
  | [] => []
  | n :: r => ins n (isort r)
def bSorted : List D → M D
  | [.loc l] => bnd (lst l) fun xs => match intsOf xs with
    | some ns => alloc ((isort ns).map .int)
    | none => no
  | _ => no
def bTuple : List D → M D
  | [.loc l] => bnd (lst l) fun xs => ret (.tup xs)
  | [.tup xs] => ret (.tup xs)
  | _ => no
def bList (ns : List Int) : List D → M D
  | [.loc l] => bnd (lst l) fun xs => alloc xs
  | [.tup xs] => alloc xs
  | [.scr] => alloc (ns.map .int)
  | _ => no
def bRepr : List D → M D
  | [d] => bnd (py d) fun p => if p.showable = true ∧ p.hasDict = false ∧ p.depth ≤ 60 ∧ p.shown.length ≤ 100000 then ret (.str p.shown) else no
  | _ => no
theorem ins_perm (n : Int) : ∀ r : List Int, (ins n r).Perm (n :: r)
  | [] => .refl _
  | m :: r => by
    unfold ins
    split
    · exact .refl _
    · exact ((ins_perm n r).cons m).trans (.swap n m r)
theorem isort_perm : ∀ r : List Int, (isort r).Perm r
  | [] => .refl _
  | n :: r => (ins_perm n (isort r)).trans ((isort_perm r).cons n)
theorem ins_sorted (n : Int) : ∀ r : List Int, r.Pairwise (· ≤ ·) → (ins n r).Pairwise (· ≤ ·)
  | [], _ => by simp [ins]
  | m :: r, h => by
    unfold ins
    rw [List.pairwise_cons] at h
    split
    · rename_i hn
      rw [List.pairwise_cons, List.pairwise_cons]
      refine ⟨fun x hx => ?_, h⟩
      rcases List.mem_cons.mp hx with rfl | hx
      · exact hn
      · exact Int.le_trans hn (h.1 x hx)
    · rename_i hn
      rw [List.pairwise_cons]
      refine ⟨fun x hx => ?_, ins_sorted n r h.2⟩
      rcases List.mem_cons.mp ((ins_perm n r).mem_iff.mp hx) with rfl | hx
      · omega
      · exact h.1 x hx
theorem isort_sorted : ∀ r : List Int, (isort r).Pairwise (· ≤ ·)
  | [] => .nil
  | n :: r => ins_sorted n _ (isort_sorted r)
theorem intsOf_map : ∀ {xs : List D} {ns : List Int}, intsOf xs = some ns → xs = ns.map D.int
  | [], ns, h => by cases h; rfl
  | .int i :: xs, ns, h => by
    unfold intsOf at h
    cases e : intsOf xs with
    | none => rw [e] at h; cases h
    | some ms =>
      rw [e] at h
      cases h
      rw [intsOf_map e]
      rfl
  | .non :: _, _, h => by cases h
  | .bl _ :: _, _, h => by cases h
  | .str _ :: _, _, h => by cases h
  | .tup _ :: _, _, h => by cases h
  | .loc _ :: _, _, h => by cases h
  | .scr :: _, _, h => by cases h
theorem intsOf_ints (ns : List Int) : intsOf (ns.map D.int) = some ns := by
  induction ns with
  | nil => rfl
  | cons n r ih => simp [intsOf, ih]
theorem blsOf_map : ∀ {xs : List D} {ns : List Bool}, blsOf xs = some ns → xs = ns.map D.bl
  | [], ns, h => by cases h; rfl
  | .bl i :: xs, ns, h => by
    unfold blsOf at h
    cases e : blsOf xs with
    | none => rw [e] at h; cases h
    | some ms =>
      rw [e] at h
      cases h
      rw [blsOf_map e]
      rfl
  | .non :: _, _, h => by cases h
  | .int _ :: _, _, h => by cases h
  | .str _ :: _, _, h => by cases h
  | .tup _ :: _, _, h => by cases h
  | .loc _ :: _, _, h => by cases h
  | .scr :: _, _, h => by cases h
theorem blsOf_bls (ns : List Bool) : blsOf (ns.map D.bl) = some ns := by
  induction ns with
  | nil => rfl
  | cons n r ih => simp [blsOf, ih]
section
variable {X : Cx} {c : Ct} {ex : Wh} {bs : List Addr} {H : Hp} {st : Sto}
theorem RDs.toInts : ∀ {vs : List V} {ns : List Int}, RDs c bs H vs (ns.map D.int) → vs = ns.map V.int
  | _, [], .nil => rfl
  | _, n :: ns, .cons (.int _) t => by rw [RDs.toInts t]; rfl
theorem RDs.toBls : ∀ {vs : List V} {ns : List Bool}, RDs c bs H vs (ns.map D.bl) → vs = ns.map V.bl
  | _, [], .nil => rfl
  | _, n :: ns, .cons (.bl _) t => by rw [RDs.toBls t]; rfl
theorem cb_len (hK : X.K = c.K) : CB X c ex (.builtin "len") (bLen c.ns) := ⟨_, call_len, by
  intro vs ds bs H st Q r rl p
  cases r with
  | nil => exact p.elim
  | cons r t =>
    cases t with
    | cons _ _ => cases r <;> exact p.elim
    | nil =>
      cases r with
      | str y =>
        obtain ⟨h, p⟩ := Post.iff (m := ret _) p
        exact ⟨_, _, rfl, ⟨h, rfl⟩, p.now rl _ (.int _)⟩
      | tup s r => exact ⟨_, _, rfl, .inr ⟨_, by rw [hK]; exact s, rfl⟩, by rw [r.length]; exact p.now rl _ (.int _)⟩
      | loc h =>
        obtain ⟨a, vs, xs, e, hb, hl, hv, r, p⟩ := post_lst (k := fun _ _ _ _ => True) p rl (RD.loc h)
        cases e
        exact ⟨_, _, rfl, .inl ⟨_, SqL.of hv, rfl⟩, by rw [r.length]; exact p.now rl _ (.int _)⟩
      | scr => exact ⟨_, _, rfl, .inl ⟨_, by rw [hK]; exact rl.scr.sq, rfl⟩, by rw [List.length_map]; exact p.now rl _ (.int _)⟩
      | _ => exact p.elim⟩
theorem cb_abs : CB X c ex (.builtin "abs") bAbs := ⟨_, call_abs, by
  intro vs ds bs H st Q r rl p
  match ds, r, p with
  | [.int i], .cons (.int _) .nil, p => exact ⟨_, rfl, p.now rl _ (.int _)⟩⟩
theorem cb_int : CB X c ex (.type "int") bInt := ⟨_, call_int1, by
  intro vs ds bs H st Q r rl p
  match ds, r, p with
  | [.int i], .cons (.int _) .nil, p => exact .inl ⟨_, rfl, p.now rl _ (.int _)⟩
  | [.bl i], .cons (.bl _) .nil, p => exact .inr ⟨_, rfl, p.now rl _ (.int _)⟩⟩
theorem cb_str : CB X c ex (.type "str") bStr := ⟨_, call_str_int, by
  intro vs ds bs H st Q r rl p
  match ds, r, p with
  | [.int i], .cons (.int _) .nil, p =>
    obtain ⟨h, p⟩ := Post.iff (m := ret _) p
    exact ⟨_, rfl, h, p.now rl _ (.str _)⟩⟩
theorem cb_max (hc : X.calm = true) : CB X c ex (.builtin "max") bMax := ⟨_, call_max2 hc, by
  intro vs ds bs H st Q r rl p
  match ds, r, p with
  | [.int i, .int j], .cons (.int _) (.cons (.int _) .nil), p => exact ⟨_, _, rfl, p.now rl _ (.int _)⟩⟩
theorem cb_min (hc : X.calm = true) : CB X c ex (.builtin "min") bMin := ⟨_, call_min2 hc, by
  intro vs ds bs H st Q r rl p
  match ds, r, p with
  | [.int i, .int j], .cons (.int _) (.cons (.int _) .nil), p => exact ⟨_, _, rfl, p.now rl _ (.int _)⟩⟩
theorem cb_sum (hK : X.K = c.K) (hc : X.calm = true) : CB X c ex (.builtin "sum") bSum := ⟨_, cr_sum hc, by
  intro vs ds bs H st Q r rl p
  match ds, r, p with
  | [.loc l], .cons (.loc h) .nil, p =>
    obtain ⟨a, vs, xs, e, hb, hl, hv, r, p⟩ := post_lst (k := fun _ _ _ _ => True) p rl (RD.loc h)
    cases e
    cases e1 : intsOf xs with
    | none => simp only [e1] at p; exact p.elim
    | some ns =>
      simp only [e1] at p
      rw [intsOf_map e1] at r
      rw [r.toInts] at hv
      exact ⟨_, _, rfl, SqL.of hv, p.now rl _ (.int _)⟩⟩
theorem cb_all (hK : X.K = c.K) (hc : X.calm = true) : CB X c ex (.builtin "all") bAll := ⟨_, cr_all hc, by
  intro vs ds bs H st Q r rl p
  match ds, r, p with
  | [.loc l], .cons (.loc h) .nil, p =>
    obtain ⟨a, vs, xs, e, hb, hl, hv, r, p⟩ := post_lst (k := fun _ _ _ _ => True) p rl (RD.loc h)
    cases e
    cases e1 : blsOf xs with
    | none => simp only [e1] at p; exact p.elim
    | some ns =>
      simp only [e1] at p
      rw [blsOf_map e1] at r
      rw [r.toBls] at hv
      exact ⟨_, _, rfl, SqL.of hv, p.now rl _ (.bl _)⟩⟩
theorem cb_any (hK : X.K = c.K) (hc : X.calm = true) : CB X c ex (.builtin "any") bAny := ⟨_, cr_any hc, by
  intro vs ds bs H st Q r rl p
  match ds, r, p with
  | [.loc l], .cons (.loc h) .nil, p =>
    obtain ⟨a, vs, xs, e, hb, hl, hv, r, p⟩ := post_lst (k := fun _ _ _ _ => True) p rl (RD.loc h)
    cases e
    cases e1 : blsOf xs with
    | none => simp only [e1] at p; exact p.elim
    | some ns =>
      simp only [e1] at p
      rw [blsOf_map e1] at r
      rw [r.toBls] at hv
      exact ⟨_, _, rfl, SqL.of hv, p.now rl _ (.bl _)⟩⟩
theorem cb_sorted (hK : X.K = c.K) : CB X c ex (.builtin "sorted") bSorted := ⟨_, cr_sortedI, by
  intro vs ds bs H st Q r rl p
  match ds, r, p with
  | [.loc l], .cons (.loc h) .nil, p =>
    obtain ⟨a, vs, xs, e, hb, hl, hv, r, p⟩ := post_lst (k := fun _ _ _ _ => True) p rl (RD.loc h)
    cases e
    cases e1 : intsOf xs with
    | none => simp only [e1] at p; exact p.elim
    | some ns =>
      simp only [e1] at p
      rw [intsOf_map e1] at r
      rw [r.toInts] at hv
      refine ⟨_, _, rfl, SqL.of hv, fun ns' q hp hs hq => ?_⟩
      have e2 : ns' = isort ns := PySem.W.ksm_same (hp.trans (isort_perm ns).symm) hs (isort_sorted ns)
      subst e2
      obtain ⟨k, r⟩ := post_alloc p rl hq (RDs.ints _)
      exact k _ r⟩
theorem cb_tuple (hK : X.K = c.K) : CB X c ex (.type "tuple") bTuple := ⟨_, call_tuple_of, by
  intro vs ds bs H st Q r rl p
  match ds, r, p with
  | [.loc l], .cons (.loc h) .nil, p =>
    obtain ⟨a, vs, xs, e, hb, hl, hv, r, p⟩ := post_lst (k := fun _ _ _ _ => True) p rl (RD.loc h)
    cases e
    refine ⟨_, _, rfl, .inl ⟨SqL.of hv, fun q hq => ?_⟩⟩
    obtain ⟨e2, rl2⟩ := rl.fresh hq (.tup vs)
    exact p.at e2 rl2 _ (.tup (SqT.of upd_same) (r.ext e2))
  | [.tup xs], .cons (.tup s r) .nil, p => exact ⟨_, _, rfl, .inr ⟨by rw [hK]; exact s, p.now rl _ (.tup s r)⟩⟩⟩
theorem cb_list (hK : X.K = c.K) : CB X c ex (.type "list") (bList c.ns) := ⟨_, call_list_of, by
  intro vs ds bs H st Q r rl p
  match ds, r, p with
  | [.loc l], .cons (.loc h) .nil, p =>
    obtain ⟨a, vs, xs, e, hb, hl, hv, r, p⟩ := post_lst (k := fun _ _ _ _ => True) p rl (RD.loc h)
    cases e
    refine ⟨_, _, rfl, .inl (SqL.of hv), fun q hq => ?_⟩
    obtain ⟨k, r⟩ := post_alloc p rl hq r
    exact k _ r
  | [.tup xs], .cons (.tup s r) .nil, p =>
    refine ⟨_, _, rfl, .inr (by rw [hK]; exact s), fun q hq => ?_⟩
    obtain ⟨k, r⟩ := post_alloc p rl hq r
    exact k _ r
  | [.scr], .cons .scr .nil, p =>
    refine ⟨_, _, rfl, .inl (by rw [hK]; exact rl.scr.sq), fun q hq => ?_⟩
    obtain ⟨k, r⟩ := post_alloc p rl hq (RDs.ints _)
    exact k _ r⟩
end
end Pm
end
section
set_option Elab.async false
set_option linter.all false
set_option maxRecDepth 100000
namespace Pm
open PySem PySem.Spec PyProof.Rows L2

/-! ### repr of data -/
section
variable {X : Cx} {c : Ct} {ex : Wh} {bs : List Addr} {H : Hp} {st : Sto} {pos : Pos} {a b e : Expr} {es : List Expr} {fa fb f : ME} {g : MA}
def rRepr (K : PySem.W.Frag) : List V → Hp → VK → Prop := fun xs H Q => ∃ v p, xs = [v] ∧ Dp K H v p ∧ p.showable = true ∧ p.hasDict = false ∧ p.depth ≤ 60 ∧ p.shown.length ≤ 100000 ∧ Q (.str p.shown) H
theorem cr_repr (hg : X.A.guards = some []) (hu : X.A.units + 64 < cLine) : CallR X (.builtin "repr") (rRepr X.K) := by
  intro pins s σ H xs us Q I r h
  obtain ⟨v, p, rfl, hd, hs, hn, hdp, hz, q⟩ := h
  obtain ⟨u, rfl, r1⟩ := vals1 r
  have hz' : p.shown.length ≤ sizeLine := Nat.le_trans hz (by rw [sizeLine_eq]; decide)
  have big : ∀ {y : Addr}, u = Value.ref y → wpAny (model X.prog X.w) X.A (call (.builtin "repr") [u]) (EP X pins σ Q) X.xe s := fun {y} e => by
    subst e
    obtain ⟨as, hr⟩ := Dp.reads I p v _ hd r1
    exact repr_of_reads' (h₀ := s.heap) hr hs (fun z => by rw [hn] at z; cases z) hg (by omega) (fun _ _ z => z) (fun h' w tk hk => ⟨.str p.shown, H, I.kept (t' := tk) hk, ⟨w, rfl⟩, q⟩) hz'
  cases hd with
  | non => cases r1; exact PySem.P.repr_of_none ⟨.str _, H, I.tok _, ⟨_, rfl⟩, q⟩
  | bl b => cases r1; exact PySem.P.repr_of_bool ⟨.str _, H, I.tok _, ⟨_, rfl⟩, by cases b <;> exact q⟩
  | int i => obtain ⟨t, rfl⟩ := r1; exact PySem.P.repr_of_int (of_decide_eq_true hs) ⟨.str _, H, I.tok _, ⟨_, rfl⟩, q⟩
  | str x => obtain ⟨t, rfl⟩ := r1; exact PySem.P.repr_of_str (⟨.str _, H, I.tok _, ⟨_, rfl⟩, q⟩) hz'
  | lst _ _ => exact big r1
  | tup _ _ => exact big r1
theorem cb_repr (hK : X.K = c.K) (hg : X.A.guards = some []) (hu : X.A.units + 64 < cLine) : CB X c ex (.builtin "repr") bRepr := ⟨_, cr_repr hg hu, by
  intro vs ds bs H st Q r rl p
  match ds, r, p with
  | [d], .cons r .nil, p =>
    obtain ⟨u, _, hd, p⟩ := post_py p rl r
    obtain ⟨⟨h1, h2, h3, h4⟩, p⟩ := Post.iff (m := ret _) p
    exact ⟨_, u, rfl, by rw [hK]; exact hd, h1, h2, h3, h4, p.now rl _ (.str _)⟩⟩

/-! ### isinstance -/
def isT (t T : String) : Bool := t == T || (t == "bool" && T == "int")
def okT (T : String) : Bool := ["NoneType", "bool", "int", "str", "tuple", "list"].all fun t => kitB t T == some (isT t T)
def isi (T : String) : D → M D
  | .non => ret (.bl (isT "NoneType" T))
  | .bl _ => ret (.bl (isT "bool" T))
  | .int _ => ret (.bl (isT "int" T))
  | .str _ => ret (.bl (isT "str" T))
  | .tup _ => ret (.bl (isT "tuple" T))
  | .loc l => bnd (lst l) fun _ => ret (.bl (isT "list" T))
  | .scr => no
theorem tyT {t T : String} (h : okT T = true) (ht : t ∈ ["NoneType", "bool", "int", "str", "tuple", "list"]) : PySem.W.kitOne c.K (.type t) (.type T) = some (isT t T) :=
  kit_ty (eq_of_beq (List.all_eq_true.mp h t ht))
theorem isi_ok {T : String} (hT : okT T = true) {v : V} {d : D} {Q : VK} (r : RD c bs H v d) (rl : Rel c bs H st) (p : Post c ex (isi T d st) bs H (fun z _ bs' H' => ∀ v, RD c bs' H' v z → Q v H')) : rIsi c.K [v, .ty T] H Q := by
  have fin : ∀ (t : String) (ht : t ∈ ["NoneType", "bool", "int", "str", "tuple", "list"]), TyX c.K H v (.type t) → Post c ex (ret (D.bl (isT t T)) st) bs H (fun z _ bs' H' => ∀ v, RD c bs' H' v z → Q v H') → rIsi c.K [v, .ty T] H Q := fun t ht ty p =>
    ⟨v, .ty T, .type t, .type T, isT t T, rfl, .ty T, ty, tyT hT ht, p.now rl _ (.bl _)⟩
  cases r with
  | non => exact fin "NoneType" (by simp) (.base .non) p
  | bl b => exact fin "bool" (by simp) (.base (.bl b)) p
  | int i => exact fin "int" (by simp) (.base (.int i)) p
  | str x => exact fin "str" (by simp) (.base (.str x)) p
  | @tup a vs ds s r =>
    refine fin "tuple" (by simp) ?_ p
    rcases s with (s | ⟨o, s⟩) | ⟨o, its, n, hk, hc, _⟩
    · exact .base (.tup s)
    · exact .fTuple s
    · exact .kTuple hk hc
  | loc h =>
    obtain ⟨a, vs, xs, e, hb, hl, hv, r, p⟩ := post_lst (k := fun _ _ _ _ => True) p rl (RD.loc h)
    cases e
    exact fin "list" (by simp) (.base (.lst hv)) p
  | scr => exact p.elim
theorem md_isi {T x : _} {p1 p2 : Pos} (hK : X.K = c.K) (hT : okT T = true) (hg : Gl X "isinstance") (hm : X.mg "isinstance" = none) (hv : bootBuiltins "isinstance" = some (.builtin "isinstance")) (ha : PE X a (tE c ex f)) (hg2 : Gl X x) (hm2 : X.mg x = none) (hv2 : bootBuiltins x = some (.type T))
    (hn : x ≠ "__name__" := by decide) (hdb : (x == ("__debug__" : Str)) = false := by decide)
    (he : starEach [a, .Name x p2] X.env = (false, eval a X.env) :: starEach [.Name x p2] X.env := by rfl) (he2 : starEach [.Name x p2] X.env = (false, eval (.Name x p2) X.env) :: starEach [] X.env := by rfl) (hpl : (backTo pos (starEach [.Name x p2] X.env)).any (·.1) = false := by rfl) :
    PE X (.Call (.Name "isinstance" p1) [a, .Name x p2] [] pos) (tE c ex (una f (isi T))) :=
  PE_imp (pe_callB call_isi hg hm hv (pa_cons ha (pa_cons (pe_bltn (v := .ty T) hg2 hm2 hv2 rfl hn hdb) pa_nil he2) he) (by decide) (by decide) he hpl) fun σ H Q q => by
    obtain ⟨ρ, st, bs, rl, re, p⟩ := q
    refine ⟨ρ, st, bs, rl, re, p.bnd.imp fun d st1 bs1 H1 e1 rl1 p1 v rv => ?_⟩
    rw [hK]
    exact isi_ok hT rv rl1 p1

/-! ### items, slices -/
def ofO (o : Option D) : M D := match o with
  | some d => ret d
  | none => no
def opIx (ns : List Int) : D → D → M D
  | .tup xs, .int i => ofO (atI xs i)
  | .loc l, .int i => bnd (lst l) fun xs => ofO (atI xs i)
  | .scr, .int i => ofO (atI (ns.map D.int) i)
  | .str z, .int i => if z.length ≤ sizeLine then ofO ((atI z.cps.toList i).map fun k => .str ⟨#[k]⟩) else no
  | _, _ => no
theorem post_ofO {o : Option D} {k : D → Sto → List Addr → Hp → Prop} (p : Post c ex (ofO o st) bs H k) (rl : Rel c bs H st) : ∃ d, o = some d ∧ k d st bs H := by
  cases o with
  | none => exact p.elim
  | some d => exact ⟨d, rfl, p.now rl⟩
theorem s2_ix : S2 c ex (opIx c.ns) (rIx c.K) := by
  intro x y d e bs H st Q rx ry rl p
  cases rx with
  | @tup a vs xs s r =>
    cases ry with
    | int i =>
      obtain ⟨d, e, q⟩ := post_ofO p rl
      obtain ⟨v, h1, h2⟩ := r.atI e
      exact .inr (.inl ⟨_, _, _, _, rfl, rfl, s, h1, q _ h2⟩)
    | _ => exact p.elim
  | loc h =>
    cases ry with
    | int i =>
      obtain ⟨a, vs, xs, e, hb, hl, hv, r, p⟩ := post_lst (k := fun _ _ _ _ => True) p rl (RD.loc h)
      cases e
      obtain ⟨d, e, q⟩ := post_ofO p rl
      obtain ⟨v, h1, h2⟩ := r.atI e
      exact .inl ⟨_, _, _, _, rfl, rfl, SqL.of hv, h1, q _ h2⟩
    | _ => exact p.elim
  | scr =>
    cases ry with
    | int i =>
      obtain ⟨d, e, q⟩ := post_ofO p rl
      obtain ⟨v, h1, h2⟩ := (RDs.ints (c := c) (bs := bs) (H := H) c.ns).atI e
      exact .inl ⟨_, _, _, _, rfl, rfl, rl.scr.sq, h1, q _ h2⟩
    | _ => exact p.elim
  | str z =>
    cases ry with
    | int i =>
      obtain ⟨h, p⟩ := Post.iff (m := ofO _) p
      obtain ⟨d, e, q⟩ := post_ofO p rl
      cases e1 : atI z.cps.toList i with
      | none => rw [e1] at e; cases e
      | some k =>
        rw [e1] at e
        cases e
        exact .inr (.inr ⟨_, _, _, rfl, rfl, h, e1, q _ (.str _)⟩)
    | _ => exact p.elim
  | _ => cases ry <;> exact p.elim
theorem md_ix (hK : X.K = c.K) (ha : PE X a (tE c ex fa)) (hb : PE X b (tE c ex fb)) (hs : PlainIx b := by intro _ _; rfl) : PE X (.Subscript a b pos) (tE c ex (bin fa fb (opIx c.ns))) :=
  PE_imp (pe_ix ix_seq ha hb hs) fun _ _ _ q => tE_bin (by rw [hK]; exact s2_ix) q
/-- the ends of a slice -/
abbrev MO := En → M (Option Int)
def noP : MO := fun _ => ret none
def som (f : ME) : MO := fun ρ => bnd (f ρ) fun x => match x with
  | .int i => ret (some i)
  | _ => no
def tO (c : Ct) (ex : Wh) (f : MO) : TO := fun σ H Q => ∃ ρ st bs, Rel c bs H st ∧ RE c bs H ρ σ ∧ Post c ex (f ρ st) bs H fun o _ _ H' => Q o H'
theorem PO_imp {X : Cx} {e : Option Expr} {t t' : TO} (h : PO X e t) (i : ∀ σ H Q, t' σ H Q → t σ H Q) : PO X e t' := ⟨fun pins s σ H Q I q => h.run pins s σ H Q I (i σ H Q q)⟩
theorem mo_none : PO X none (tO c ex noP) := PO_imp po_none fun σ H Q q => by
  obtain ⟨ρ, st, bs, rl, re, p⟩ := q
  exact p.now rl
theorem mo_some (h : PE X e (tE c ex f)) : PO X (some e) (tO c ex (som f)) := PO_imp (po_some h) fun σ H Q q => by
  obtain ⟨ρ, st, bs, rl, re, p⟩ := q
  refine ⟨ρ, st, bs, rl, re, p.bnd.imp fun d st1 bs1 H1 e1 rl1 p1 v rv => ?_⟩
  cases rv with
  | int i => exact ⟨i, rfl, p1.now rl1⟩
  | _ => exact p1.elim
def cutD {α : Type} (xs : List α) (lo hi : Option Int) : List α := (xs.drop (HT.sIx xs.length 0 lo)).take (HT.sIx xs.length xs.length hi - HT.sIx xs.length 0 lo)
theorem RDs.cut {vs : List V} {xs : List D} (r : RDs c bs H vs xs) (lo hi : Option Int) : RDs c bs H (cutV vs lo hi) (cutD xs lo hi) := by
  unfold cutV cutD
  rw [r.length]
  exact (r.drop _).take _
def opSl (ns : List Int) : D → Option Int → Option Int → M D
  | .tup xs, lo, hi => if ¬ (HT.sIx xs.length 0 lo = 0 ∧ HT.sIx xs.length xs.length hi = xs.length) then ret (.tup (cutD xs lo hi)) else no
  | .loc l, lo, hi => bnd (lst l) fun xs => alloc (cutD xs lo hi)
  | .scr, lo, hi => alloc (cutD (ns.map D.int) lo hi)
  | .str z, lo, hi => if z.length ≤ sizeLine then ret (.str (cutS z lo hi)) else no
  | _, _, _ => no
def sli (f : ME) (g h : MO) (op : D → Option Int → Option Int → M D) : ME := fun ρ => bnd (f ρ) fun x => bnd (g ρ) fun lo => bnd (h ρ) fun hi => op x lo hi
def rSlA (K : PySem.W.Frag) : V → Option Int → Option Int → Hp → VK → Prop := fun x lo hi H Q => rSlL K x lo hi H Q ∨ rSlT K x lo hi H Q ∨ rSlS x lo hi H Q
theorem s3_sl {x : V} {d : D} {lo hi : Option Int} {Q : VK} (rx : RD c bs H x d) (rl : Rel c bs H st) (p : Post c ex (opSl c.ns d lo hi st) bs H (fun z _ bs' H' => ∀ v, RD c bs' H' v z → Q v H')) : rSlA c.K x lo hi H Q := by
  cases rx with
  | @tup a1 vs xs s r =>
    obtain ⟨h, p⟩ := Post.iff (m := ret _) p
    refine .inr (.inl ⟨_, vs, rfl, s, by rw [r.length]; exact h, fun q hq => ?_⟩)
    obtain ⟨e, rl'⟩ := rl.fresh hq (.tup (cutV vs lo hi))
    exact p.at e rl' _ (.tup (SqT.of upd_same) ((r.cut lo hi).ext e))
  | loc h =>
    obtain ⟨a, vs, xs, e, hb, hl, hv, r, p⟩ := post_lst (k := fun _ _ _ _ => True) p rl (RD.loc h)
    cases e
    refine .inl ⟨_, vs, rfl, SqL.of hv, fun q hq => ?_⟩
    obtain ⟨k, r⟩ := post_alloc p rl hq (r.cut lo hi)
    exact k _ r
  | scr =>
    refine .inl ⟨_, _, rfl, rl.scr.sq, fun q hq => ?_⟩
    obtain ⟨k, r⟩ := post_alloc p rl hq ((RDs.ints c.ns).cut lo hi)
    exact k _ r
  | str z =>
    obtain ⟨h, p⟩ := Post.iff (m := ret _) p
    exact .inr (.inr ⟨z, rfl, h, p.now rl _ (.str _)⟩)
  | _ => exact p.elim
theorem md_sl {lo hi : Option Expr} {g h : MO} {p2 : Pos} (hK : X.K = c.K) (ha : PE X a (tE c ex f)) (hl : PO X lo (tO c ex g)) (hh : PO X hi (tO c ex h)) : PE X (.Subscript a (.Slice lo hi none p2) pos) (tE c ex (sli f g h (opSl c.ns))) :=
  PE_imp (pe_slice (sl_list.or (sl_tup.or sl_str)) ha hl hh) fun σ H Q q => by
    obtain ⟨ρ, st, bs, rl, re, p⟩ := q
    refine ⟨ρ, st, bs, rl, re, p.bnd.imp fun d st1 bs1 H1 e1 rl1 p1 v rv => ?_⟩
    refine ⟨ρ, st1, bs1, rl1, re.ext e1, p1.bnd.imp fun lo st2 bs2 H2 e2 rl2 p2 => ?_⟩
    refine ⟨ρ, st2, bs2, rl2, (re.ext e1).ext e2, p2.bnd.imp fun hi st3 bs3 H3 e3 rl3 p3 => ?_⟩
    rw [hK]
    exact s3_sl ((rv.ext e2).ext e3) rl3 p3

/-! ### list(range(..)) -/
def bRg1 : D → M D
  | .int n => if -(2 ^ 62) ≤ n ∧ n ≤ 2 ^ 24 then alloc ((List.range n.toNat).map fun i => .int (0 + (i : Nat))) else no
  | _ => no
theorem RDs.mapI (f : Nat → Int) : ∀ l : List Nat, RDs c bs H (l.map fun i => V.int (f i)) (l.map fun i => D.int (f i))
  | [] => .nil
  | _ :: l => .cons (.int _) (RDs.mapI f l)
theorem md_listRg {p p' : Pos} (hc : X.calm = true) (hg : Gl X "list") (hm : X.mg "list" = none) (hg' : Gl X "range") (hm' : X.mg "range" = none) (ha : PE X a (tE c ex f))
    (na : starEach [a] X.env = (false, eval a X.env) :: starEach [] X.env := by rfl) (na' : starEach [.Call (.Name "range" p') [a] [] pos] X.env = (false, eval (.Call (.Name "range" p') [a] [] pos) X.env) :: starEach [] X.env := by rfl) {pos2 : Pos} :
    PE X (.Call (.Name "list" p) [.Call (.Name "range" p') [a] [] pos] [] pos2) (tE c ex (una f bRg1)) :=
  PE_imp (pe_listRg hc hg hm (prg_1 hg' hm' ha na) na') fun σ H Q q => by
    obtain ⟨ρ, st, bs, rl, re, p⟩ := q
    refine ⟨ρ, st, bs, rl, re, p.bnd.imp fun d st1 bs1 H1 e1 rl1 p1 v rv => ?_⟩
    cases rv with
    | int n =>
      obtain ⟨⟨h1, h2⟩, p1⟩ := Post.iff (m := alloc _) p1
      refine ⟨n, rfl, ⟨by decide, by decide, h1, by omega, by omega⟩, fun q hq => ?_⟩
      have e : rgV 0 n = (List.range n.toNat).map fun i => V.int (0 + (i : Nat)) := by
        unfold rgV
        rw [Int.sub_zero]
      rw [e]
      obtain ⟨k, r⟩ := post_alloc p1 rl1 hq (RDs.mapI (fun i => 0 + (i : Nat)) _)
      exact k _ r
    | _ => exact p1.elim
end
end Pm
end
section
set_option Elab.async false
set_option linter.all false
set_option maxRecDepth 100000
namespace Pm
open PySem PySem.Spec PyProof.Rows L2

/-! ### patterns of targets -/
inductive Pat where
  | nm (i : Nat) | tp (ps : List Pat)
mutual
def gP (K : PySem.W.Frag) : Pat → TG
  | .nm i => gName i
  | .tp ps => gTup K ps.length (gPs K ps)
def gPs (K : PySem.W.Frag) : List Pat → TGs
  | [] => gNil
  | p :: ps => gCons (gP K p) (gPs K ps)
def slots : Pat → List Nat
  | .nm i => [i]
  | .tp ps => slotss ps
def slotss : List Pat → List Nat
  | [] => []
  | p :: ps => slots p ++ slotss ps
/-- what a pattern binds -/
def bindP : Pat → D → En → Option En
  | .nm i, d, ρ => some (ρ.set i (some d))
  | .tp ps, .tup xs, ρ => bindPs ps xs ρ
  | .tp _, _, _ => none
def bindPs : List Pat → List D → En → Option En
  | [], [], ρ => some ρ
  | p :: ps, x :: xs, ρ => (bindP p x ρ).bind fun ρ' => bindPs ps xs ρ'
  | _, _, _ => none
end
section
variable {X : Cx} {c : Ct} {ex : Wh} {bs : List Addr} {H : Hp} {st : Sto} {pos : Pos} {es : List Expr} {e : Expr}
theorem mg_name {i : Nat} {x : Str} (hN : X.N.Nodup) (hi : X.N[i]? = some x := by rfl) (hx : Loc X.env.scope x := by first | exact Or.inl rfl | exact Or.inr rfl) (hf : X.fn x = true ∨ X.env.scope.names.lookup x = some .local := by first | exact .inl rfl | exact .inr rfl) : PG X (.Name x pos) (gP c.K (.nm i)) := by
  unfold gP
  exact pg_name hN hi hx hf
theorem mg_nil : PGs X [] (gPs c.K []) := by
  unfold gPs
  exact pgs_nil
theorem mg_cons {p : Pat} {ps : List Pat} (h1 : PG X e (gP c.K p)) (h2 : PGs X es (gPs c.K ps)) (hs : (assignEach (e :: es) X.env).map (·.2) = assign e X.env :: (assignEach es X.env).map (·.2) := by rfl) : PGs X (e :: es) (gPs c.K (p :: ps)) := by
  unfold gPs
  exact pgs_cons h1 h2 hs
theorem mg_tup {k : Nat} {ps : List Pat} (hK : X.K = c.K) (hc : X.calm = true) (h : PGs X es (gPs c.K ps)) (hn : (assignEach es X.env).length = ps.length := by rfl) (hst : (assignEach es X.env).findIdx? (·.1) = none := by rfl) : PG X (.Tuple es k pos) (gP c.K (.tp ps)) := by
  unfold gP
  rw [← hK] at h ⊢
  exact pg_tup hc h hn hst
theorem wipe_out_set : ∀ {vs : List Nat} {i : Nat} {v : Option V} {σ : L2.St}, i ∉ vs → wipe (σ.set i v) vs = (wipe σ vs).set i v
  | [], _, _, _, _ => rfl
  | w :: vs, i, v, σ, h => by
    unfold wipe
    rw [wipe_out_set fun z => h (List.mem_cons_of_mem _ z), List.set_comm _ _ fun z => h (by rw [z]; exact List.mem_cons_self)]
theorem wipe_set : ∀ {vs : List Nat} {i : Nat} {v : Option V}, i ∈ vs → ∀ σ : L2.St, wipe (σ.set i v) vs = wipe σ vs
  | [], _, _, h, _ => by cases h
  | w :: vs, i, v, h, σ => by
    unfold wipe
    by_cases hw : i ∈ vs
    · rw [wipe_set hw]
    · have hi : i = w := by
        rcases List.mem_cons.mp h with q | q
        · exact q
        · exact absurd q hw
      subst hi
      rw [wipe_out_set hw, List.set_set]
mutual
theorem bindP_ok : ∀ (p : Pat) (d : D) (v : V) (ρ ρ' : En) (σ : L2.St) (Q : L2.St → Hp → Prop), RD c bs H v d → RE c bs H ρ σ → bindP p d ρ = some ρ' → (∀ σ', RE c bs H ρ' σ' → (∀ vs : List Nat, (∀ i ∈ slots p, i ∈ vs) → wipe σ' vs = wipe σ vs) → Q σ' H) → gP c.K p v σ H Q
  | .nm i, d, v, ρ, ρ', σ, Q, r, re, e, q => by
    unfold bindP at e
    cases e
    unfold gP gName
    refine q _ (re.set r i) fun vs hv => ?_
    exact wipe_set (hv i (by unfold slots; simp)) σ
  | .tp ps, .tup xs, v, ρ, ρ', σ, Q, r0, re, e, q => by
    cases r0 with
    | tup s r =>
    unfold bindP at e
    unfold gP gTup
    have hl : xs.length = ps.length := bindPs_len ps xs ρ ρ' e
    refine ⟨_, _, rfl, s, by rw [r.length, hl], bindPs_ok ps xs _ ρ ρ' σ Q r re e fun σ' a b => q σ' a fun vs hv => b vs fun i hi => hv i (by unfold slots; exact hi)⟩
  | .tp _, .non, _, _, _, _, _, _, _, e, _ => by unfold bindP at e; cases e
  | .tp _, .bl _, _, _, _, _, _, _, _, e, _ => by unfold bindP at e; cases e
  | .tp _, .int _, _, _, _, _, _, _, _, e, _ => by unfold bindP at e; cases e
  | .tp _, .str _, _, _, _, _, _, _, _, e, _ => by unfold bindP at e; cases e
  | .tp _, .loc _, _, _, _, _, _, _, _, e, _ => by unfold bindP at e; cases e
  | .tp _, .scr, _, _, _, _, _, _, _, e, _ => by unfold bindP at e; cases e
theorem bindPs_ok : ∀ (ps : List Pat) (xs : List D) (vs : List V) (ρ ρ' : En) (σ : L2.St) (Q : L2.St → Hp → Prop), RDs c bs H vs xs → RE c bs H ρ σ → bindPs ps xs ρ = some ρ' → (∀ σ', RE c bs H ρ' σ' → (∀ ws : List Nat, (∀ i ∈ slotss ps, i ∈ ws) → wipe σ' ws = wipe σ ws) → Q σ' H) → gPs c.K ps vs σ H Q
  | [], [], _, ρ, ρ', σ, Q, .nil, re, e, q => by
    unfold bindPs at e
    cases e
    unfold gPs gNil
    exact ⟨rfl, q σ re fun _ _ => rfl⟩
  | p :: ps, x :: xs, _, ρ, ρ', σ, Q, .cons r t, re, e, q => by
    unfold bindPs at e
    cases e1 : bindP p x ρ with
    | none => rw [e1] at e; cases e
    | some ρ1 =>
      rw [e1] at e
      have e : bindPs ps xs ρ1 = some ρ' := e
      unfold gPs gCons
      refine ⟨_, _, rfl, bindP_ok p x _ ρ ρ1 σ _ r re e1 fun σ1 re1 w1 => bindPs_ok ps xs _ ρ1 ρ' σ1 Q t re1 e fun σ2 re2 w2 => q σ2 re2 fun ws hw => ?_⟩
      rw [w2 ws fun i hi => hw i (by unfold slotss; exact List.mem_append_right _ hi), w1 ws fun i hi => hw i (by unfold slotss; exact List.mem_append_left _ hi)]
  | [], _ :: _, _, _, _, _, _, _, _, e, _ => by unfold bindPs at e; cases e
  | _ :: _, [], _, _, _, _, _, _, _, e, _ => by unfold bindPs at e; cases e
theorem bindPs_len : ∀ (ps : List Pat) (xs : List D) (ρ ρ' : En), bindPs ps xs ρ = some ρ' → xs.length = ps.length
  | [], [], _, _, _ => rfl
  | p :: ps, x :: xs, ρ, ρ', e => by
    unfold bindPs at e
    cases e1 : bindP p x ρ with
    | none => rw [e1] at e; cases e
    | some ρ1 =>
      rw [e1] at e
      simp [bindPs_len ps xs ρ1 ρ' e]
  | [], _ :: _, _, _, e => by unfold bindPs at e; cases e
  | _ :: _, [], _, _, e => by unfold bindPs at e; cases e
end
end

/-! ### statements -/
def nxS : MS := fun ρ => ret (.nx, ρ)
def bkS : MS := fun ρ => ret (.bk, ρ)
def ctS : MS := fun ρ => ret (.ct, ρ)
def seqS (f g : MS) : MS := fun ρ => bnd (f ρ) fun x => match x.1 with
  | .nx => g x.2
  | _ => ret x
def retS (f : ME) : MS := fun ρ => bnd (f ρ) fun d => ret (.rt d, ρ)
def retN : MS := fun ρ => ret (.rt .non, ρ)
def dropS (f : ME) : MS := fun ρ => bnd (f ρ) fun _ => ret (.nx, ρ)
def ifS (t : MT) (f g : MS) : MS := fun ρ => bnd (t ρ) fun k => if k = true then f ρ else g ρ
def ofE (o : Option En) : M En := match o with
  | some ρ => ret ρ
  | none => no
def setS (p : Pat) (f : ME) : MS := fun ρ => bnd (f ρ) fun d => bnd (ofE (bindP p d ρ)) fun ρ' => ret (.nx, ρ')
section
variable {X : Cx} {c : Ct} {ex : Wh} {bs : List Addr} {H : Hp} {st : Sto} {pos : Pos} {es : List Expr} {e : Expr} {f : ME} {s : Stmt} {ss : List Stmt} {m n : MS} {t : MT}
theorem tS_nx {E : Ends} {σ : L2.St} (q : tS c ex nxS E σ H) : E.nx σ H := by
  obtain ⟨ρ, st, bs, rl, re, p⟩ := q
  exact p.now rl σ re
theorem mss_nil : PSs X [] (tS c ex nxS) := PSs_imp pss_nil fun _ _ _ q => tS_nx q
theorem ms_pass : PS X (.Pass pos) (tS c ex nxS) := PS_imp ps_pass fun _ _ _ q => tS_nx q
theorem ms_doc {x j} {pos' : Pos} : PS X (.Expr (.Constant (.str x) j pos) pos') (tS c ex nxS) := PS_imp ps_doc fun _ _ _ q => tS_nx q
theorem ms_break : PS X (.Break pos) (tS c ex bkS) := PS_imp ps_break fun E σ H q => by
  obtain ⟨ρ, st, bs, rl, re, p⟩ := q
  exact p.now rl σ re
theorem ms_continue : PS X (.Continue pos) (tS c ex ctS) := PS_imp ps_continue fun E σ H q => by
  obtain ⟨ρ, st, bs, rl, re, p⟩ := q
  exact p.now rl σ re
theorem mss_one (h : PS X s (tS c ex m)) : PSs X [s] (tS c ex m) := pss_one h
theorem tS_seq {E : Ends} {σ : L2.St} (q : tS c ex (seqS m n) E σ H) : tSeq (tS c ex m) (tS c ex n) E σ H := by
  obtain ⟨ρ, st, bs, rl, re, p⟩ := q
  refine ⟨ρ, st, bs, rl, re, p.bnd.imp fun x st1 bs1 H1 e1 rl1 p1 σ1 re1 => ?_⟩
  obtain ⟨fl, ρ1⟩ := x
  cases fl with
  | nx => exact ⟨ρ1, st1, bs1, rl1, re1, p1⟩
  | bk => exact p1.now rl1 σ1 re1
  | ct => exact p1.now rl1 σ1 re1
  | rt d => exact p1.now rl1 σ1 re1
theorem mss_cons (h1 : PS X s (tS c ex m)) (h2 : PSs X ss (tS c ex n)) : PSs X (s :: ss) (tS c ex (seqS m n)) := PSs_imp (pss_cons h1 h2) fun _ _ _ q => tS_seq q
theorem ms_ret (h : PE X e (tE c ex f)) : PS X (.Return (some e) pos) (tS c ex (retS f)) := PS_imp (ps_ret h) fun E σ H q => by
  obtain ⟨ρ, st, bs, rl, re, p⟩ := q
  exact ⟨ρ, st, bs, rl, re, p.bnd.imp fun d st1 bs1 H1 e1 rl1 p1 v rv => p1.now rl1 σ (re.ext e1) v rv⟩
theorem ms_retN : PS X (.Return none pos) (tS c ex retN) := PS_imp ps_retN fun E σ H q => by
  obtain ⟨ρ, st, bs, rl, re, p⟩ := q
  exact p.now rl σ re .non .non
theorem ms_expr (h : PE X e (tE c ex f)) (hs : swapsWith e none pos.line X.env = pure false := by rfl) : PS X (.Expr e pos) (tS c ex (dropS f)) := PS_imp (ps_expr h hs) fun E σ H q => by
  obtain ⟨ρ, st, bs, rl, re, p⟩ := q
  exact ⟨ρ, st, bs, rl, re, p.bnd.imp fun d st1 bs1 H1 e1 rl1 p1 v rv => p1.now rl1 σ (re.ext e1)⟩
theorem ms_if {x : Expr} {a b : List Stmt} (ht : PT X x (tT c ex t)) (ha : PSs X a (tS c ex m)) (hb : PSs X b (tS c ex n)) : PS X (.If x a b pos) (tS c ex (ifS t m n)) := PS_imp (ps_if ht ha hb) fun E σ H q => by
  obtain ⟨ρ, st, bs, rl, re, p⟩ := q
  refine ⟨ρ, st, bs, rl, re, p.bnd.imp fun k st1 bs1 H1 e1 rl1 p1 => ?_⟩
  cases k with
  | true => exact iteT ⟨ρ, st1, bs1, rl1, re.ext e1, p1⟩
  | false => exact iteF ⟨ρ, st1, bs1, rl1, re.ext e1, p1⟩
theorem tS_set {p : Pat} {E : Ends} {σ : L2.St} (q : tS c ex (setS p f) E σ H) : tAsg (tE c ex f) (gP c.K p) E σ H := by
  obtain ⟨ρ, st, bs, rl, re, p1⟩ := q
  refine ⟨ρ, st, bs, rl, re, p1.bnd.imp fun d st1 bs1 H1 e1 rl1 p2 v rv => ?_⟩
  cases e2 : bindP p d ρ with
  | none => rw [e2] at p2; exact p2.bnd.elim
  | some ρ' =>
    rw [e2] at p2
    exact bindP_ok p d v ρ ρ' σ _ rv (re.ext e1) e2 fun σ' re' _ => Post.now (Post.now p2.bnd rl1) rl1 σ' re'
theorem ms_set {i : Nat} {x : Str} {pos' : Pos} (hN : X.N.Nodup) (h : PE X e (tE c ex f)) (hi : X.N[i]? = some x := by rfl) (hx : Loc X.env.scope x := by first | exact Or.inl rfl | exact Or.inr rfl) (hs : swapsWith e (some (.Name x pos')) pos.line X.env = pure false := by rfl)
    (hf : X.fn x = true ∨ X.env.scope.names.lookup x = some .local := by first | exact .inl rfl | exact .inr rfl) : PS X (.Assign [.Name x pos'] e pos) (tS c ex (setS (.nm i) f)) :=
  PS_imp (ps_set hN hi hx h hs hf) fun E σ H q => by
    have q := tS_set q
    unfold gP at q
    exact q
theorem ms_asg {p : Pat} {tg : Expr} (h : PE X e (tE c ex f)) (hg : PG X tg (gP c.K p)) (hs : swapsWithSole [tg] e pos.line X.env = pure false := by rfl) (hw : swappedStores [tg] e X.env = pure none := by rfl) (h1 : (assignEach [tg] X.env).map (·.2) = [assign tg X.env] := by rfl) :
    PS X (.Assign [tg] e pos) (tS c ex (setS p f)) := PS_imp (ps_asg h hg hs hw h1) fun E σ H q => tS_set q
/-- a, b = x, y -/
def parS (i j : Nat) (g : MA) : MS := fun ρ => bnd (g ρ) fun ds => match ds with
  | [d, e] => ret (.nx, (ρ.set i (some d)).set j (some e))
  | _ => no
theorem ms_par {i j : Nat} {x y : Str} {a b : Expr} {g : MA} {px py pt : Pos} {kt k2 pt2} (hc : X.calm = true) (hN : X.N.Nodup) (hij : i ≠ j) (ha : PA X [a, b] (tA c ex g)) (hi : X.N[i]? = some x := by rfl) (hj : X.N[j]? = some y := by rfl)
    (hx : X.env.scope.names.lookup x = some .local := by rfl) (hy : X.env.scope.names.lookup y = some .local := by rfl) (hw : swappedStores [.Tuple [.Name x px, .Name y py] kt pt] (.Tuple [a, b] k2 pt2) X.env = pure (some [x, y]) := by rfl) (hs : swapsWithSole [.Tuple [.Name x px, .Name y py] kt pt] (.Tuple [a, b] k2 pt2) pos.line X.env = pure false := by rfl) :
    PS X (.Assign [.Tuple [.Name x px, .Name y py] kt pt] (.Tuple [a, b] k2 pt2) pos) (tS c ex (parS i j g)) := PS_imp (ps_par hc hN hi hj hij hx hy ha hw hs) fun E σ H q => by
  obtain ⟨ρ, st, bs, rl, re, p⟩ := q
  refine ⟨ρ, st, bs, rl, re, p.bnd.imp fun ds st1 bs1 H1 e1 rl1 p1 vs rvs => ?_⟩
  match ds, rvs, p1 with
  | [d, e], .cons r1 (.cons r2 .nil), p1 => exact ⟨_, _, rfl, p1.now rl1 _ (((re.ext e1).set r1 i).set r2 j)⟩
/-- xs[i] = v -/
def setI : D → D → D → M Unit
  | .loc l, .int i, d => bnd (lst l) fun xs => match ixN xs.length i with
    | some j => put l (xs.set j d)
    | none => no
  | _, _, _ => no
def subS (fv fo fi : ME) : MS := fun ρ => bnd (fv ρ) fun v => bnd (fo ρ) fun o => bnd (fi ρ) fun i => bnd (setI o i v) fun _ => ret (.nx, ρ)
theorem ms_sub {o i : Expr} {fv fo fi : ME} {p2 : Pos} (hv : PE X e (tE c ex fv)) (ho : PE X o (tE c ex fo)) (hi : PE X i (tE c ex fi)) (ha : ∀ v, assign (.Subscript o i p2) X.env v = (do { let ov ← holding [v] (eval o X.env); let iv ← holding [v, ov] (eval i X.env); standAt p2; holding [v, ov, iv] (setItem ov iv v); release [v, ov, iv] [] }) := by intro _; rfl) (hs : swapsWithSole [.Subscript o i p2] e pos.line X.env = pure false := by rfl) (hw : swappedStores [.Subscript o i p2] e X.env = pure none := by rfl)
    (h1 : (assignEach [.Subscript o i p2] X.env).map (·.2) = [assign (.Subscript o i p2) X.env] := by rfl) : PS X (.Assign [.Subscript o i p2] e pos) (tS c ex (subS fv fo fi)) :=
  PS_imp (ps_asg hv (pg_sub ho hi set_list ha) hs hw h1) fun E σ H q => by
    obtain ⟨ρ, st, bs, rl, re, p⟩ := q
    refine ⟨ρ, st, bs, rl, re, p.bnd.imp fun d st1 bs1 H1 e1 rl1 p1 v rv => ?_⟩
    refine ⟨ρ, st1, bs1, rl1, re.ext e1, p1.bnd.imp fun o st2 bs2 H2 e2 rl2 p2 vo rvo => ?_⟩
    refine ⟨ρ, st2, bs2, rl2, (re.ext e1).ext e2, p2.bnd.imp fun i st3 bs3 H3 e3 rl3 p3 vi rvi => ?_⟩
    have rvo := rvo.ext e3
    have rv := (rv.ext e2).ext e3
    cases rvo with
    | loc h =>
      cases rvi with
      | int k =>
        obtain ⟨a, vs, xs, ee, hb, hl, hv, r, p4⟩ := post_lst (k := fun _ _ _ _ => True) p3.bnd rl3 (RD.loc h)
        cases ee
        cases e5 : ixN xs.length k with
        | none => simp only [e5] at p4; exact p4.elim
        | some j =>
          simp only [e5] at p4
          obtain ⟨e6, rl6⟩ := rl3.put hb hl (r.set rv j)
          have p7 := Post.at (st := st3.set _ _) p4 e6 rl6
          exact ⟨_, _, _, _, rfl, rfl, hv, by rw [r.length]; exact e5, Post.now p7 rl6 σ ((((re.ext e1).ext e2).ext e3).ext e6)⟩
      | _ => exact p3.bnd.elim
    | _ => cases rvi <;> exact p3.bnd.elim
end

/-! ### methods of lists -/
def SM (c : Ct) (ex : Wh) (T : String) (g : D → List D → M D) (r : V → List V → Hp → VK → Prop) : Prop := ∀ x d bs H st, RD c bs H x d → Rel c bs H st → (∀ ds k, Post c ex (g d ds st) bs H k → True) → True
def mAppend : D → List D → M D
  | .loc l, [d] => bnd (lst l) fun xs => if xs.length < sizeLine then bnd (put l (xs ++ [d])) fun _ => ret .non else no
  | _, _ => no
def mPop : D → List D → M D
  | .loc l, [] => bnd (lst l) fun xs => match xs[xs.length - 1]? with
    | some d => bnd (put l xs.dropLast) fun _ => ret d
    | none => no
  | _, _ => no
def mExtend : D → List D → M D
  | .loc l, [.loc m] => bnd (lst l) fun xs => bnd (lst m) fun ys => if xs.length + ys.length ≤ sizeLine then bnd (put l (xs ++ ys)) fun _ => ret .non else no
  | _, _ => no
def isL : D → M Unit
  | .loc l => bnd (lst l) fun _ => ret ()
  | _ => no
def meth (fo : ME) (g : MA) (op : D → List D → M D) : ME := fun ρ => bnd (fo ρ) fun o => bnd (isL o) fun _ => bnd (g ρ) fun ds => op o ds
def meth0 (fo : ME) (op : D → List D → M D) : ME := fun ρ => bnd (fo ρ) fun o => bnd (isL o) fun _ => op o []
section
variable {X : Cx} {c : Ct} {ex : Wh} {bs : List Addr} {H : Hp} {st : Sto} {pos apos : Pos} {o e : Expr} {es : List Expr} {fo : ME} {g : MA}
theorem post_isL {α : Type} {d : D} {f : Unit → M α} {k : α → Sto → List Addr → Hp → Prop} (q : Post c ex (bnd (isL d) f st) bs H k) (rl : Rel c bs H st) {v : V} (r : RD c bs H v d) : (∃ a xs l, v = .ref a ∧ SqL c.K H a xs ∧ d = .loc l) ∧ Post c ex (f () st) bs H k := by
  cases r with
  | @loc a l h =>
    have q1 : Post c ex (bnd (bnd (lst l) fun _ => ret ()) f st) bs H k := q
    unfold bnd lst at q1
    cases e : st[l]? with
    | none => rw [e] at q1; exact q1.elim
    | some o =>
      cases o with
      | lst xs =>
        rw [e] at q1
        obtain ⟨vs, h1, h2⟩ := rl.obj l a _ h e
        exact ⟨⟨a, vs, _, rfl, SqL.of h1, rfl⟩, q1⟩
  | _ => exact q.elim
theorem md_append (hK : X.K = c.K) (ho : PE X o (tE c ex fo)) (ha : PA X [e] (tA c ex g)) (hbase : attributeBase o "append" X.env (eval o X.env) = eval o X.env := by rfl)
    (hfew : ((backTo pos (starEach [e] X.env)).all (fun x => !x.1) && (backToKw pos (keywordEach [] X.env)).all (fun x => x.1.isSome) && decide ([e].length + ([] : List Keyword).length + (if ([] : List Keyword).isEmpty then 0 else 1) < 30)) = true := by rfl)
    (hline : (apos.endLine == pos.line) = true := by rfl) (hs : starEach [e] X.env = (false, eval e X.env) :: starEach [] X.env := by rfl) (hplain : (backTo pos (starEach [] X.env)).any (·.1) = false := by rfl) :
    PE X (.Call (.Attribute o "append" apos) [e] [] pos) (tE c ex (meth fo g mAppend)) :=
  PE_imp (pe_bm PySem.F.plainAttrs_list PySem.F.slot_list_append PySem.F.type_list_append mt_append ho ha hbase hfew hline hs hplain) fun σ H Q q => by
    obtain ⟨ρ, st, bs, rl, re, p⟩ := q
    refine ⟨ρ, st, bs, rl, re, p.bnd.imp fun d st1 bs1 H1 e1 rl1 p1 v rv => ?_⟩
    obtain ⟨⟨a, xs, l, rfl, sl, rfl⟩, p1⟩ := post_isL p1 rl1 rv
    refine ⟨.inl ⟨rfl, xs, by rw [hK]; exact sl⟩, ρ, st1, bs1, rl1, re.ext e1, p1.bnd.imp fun ds st2 bs2 H2 e2 rl2 p2 vs rvs => ?_⟩
    have rv := rv.ext e2
    cases rv with
    | loc h =>
      match ds, rvs, p2 with
      | [d], .cons r .nil, p2 =>
        obtain ⟨a, ws, ys, ee, hb, hl, hv, r5, p4⟩ := post_lst (k := fun _ _ _ _ => True) p2 rl2 (RD.loc h)
        cases ee
        obtain ⟨hz, p5⟩ := Post.iff (m := bnd _ _) p4
        obtain ⟨rl6, e6, p6⟩ := post_put (k := fun _ _ _ _ => True) p5 rl2 hb hl (r5.append (.cons r .nil))
        exact ⟨_, _, _, rfl, rfl, hv, by rw [r5.length]; exact hz, p6.now rl6 _ .non⟩
theorem md_extend (hK : X.K = c.K) (ho : PE X o (tE c ex fo)) (ha : PA X [e] (tA c ex g)) (hbase : attributeBase o "extend" X.env (eval o X.env) = eval o X.env := by rfl)
    (hfew : ((backTo pos (starEach [e] X.env)).all (fun x => !x.1) && (backToKw pos (keywordEach [] X.env)).all (fun x => x.1.isSome) && decide ([e].length + ([] : List Keyword).length + (if ([] : List Keyword).isEmpty then 0 else 1) < 30)) = true := by rfl)
    (hline : (apos.endLine == pos.line) = true := by rfl) (hs : starEach [e] X.env = (false, eval e X.env) :: starEach [] X.env := by rfl) (hplain : (backTo pos (starEach [] X.env)).any (·.1) = false := by rfl) :
    PE X (.Call (.Attribute o "extend" apos) [e] [] pos) (tE c ex (meth fo g mExtend)) :=
  PE_imp (pe_bm PySem.F.plainAttrs_list PySem.F.slot_list_extend PySem.F.type_list_extend mt_extend ho ha hbase hfew hline hs hplain) fun σ H Q q => by
    obtain ⟨ρ, st, bs, rl, re, p⟩ := q
    refine ⟨ρ, st, bs, rl, re, p.bnd.imp fun d st1 bs1 H1 e1 rl1 p1 v rv => ?_⟩
    obtain ⟨⟨a, xs, l, rfl, sl, rfl⟩, p1⟩ := post_isL p1 rl1 rv
    refine ⟨.inl ⟨rfl, xs, by rw [hK]; exact sl⟩, ρ, st1, bs1, rl1, re.ext e1, p1.bnd.imp fun ds st2 bs2 H2 e2 rl2 p2 vs rvs => ?_⟩
    have rv := rv.ext e2
    cases rv with
    | loc h =>
      match ds, rvs, p2 with
      | [.loc m], .cons (.loc h') .nil, p2 =>
        obtain ⟨a, ws, ys, ee, hb, hl, hv, r5, p4⟩ := post_lst (k := fun _ _ _ _ => True) p2 rl2 (RD.loc h)
        cases ee
        obtain ⟨a', ws', ys', ee', hb', hl', hv', r5', p4⟩ := post_lst (k := fun _ _ _ _ => True) p4 rl2 (RD.loc h')
        cases ee'
        obtain ⟨hz, p5⟩ := Post.iff (m := bnd _ _) p4
        obtain ⟨rl6, e6, p6⟩ := post_put (k := fun _ _ _ _ => True) p5 rl2 hb hl (r5.append r5')
        exact ⟨_, _, _, _, rfl, rfl, hv, hv', by rw [r5.length, r5'.length]; exact hz, p6.now rl6 _ .non⟩
theorem md_pop (hK : X.K = c.K) (ho : PE X o (tE c ex fo)) (hbase : attributeBase o "pop" X.env (eval o X.env) = eval o X.env := by rfl) (hline : (apos.endLine == pos.line) = true := by rfl) :
    PE X (.Call (.Attribute o "pop" apos) [] [] pos) (tE c ex (meth0 fo mPop)) :=
  PE_imp (pe_bm0 PySem.F.plainAttrs_list PySem.F.slot_list_pop PySem.F.type_list_pop mt_pop ho hbase hline) fun σ H Q q => by
    obtain ⟨ρ, st, bs, rl, re, p⟩ := q
    refine ⟨ρ, st, bs, rl, re, p.bnd.imp fun d st1 bs1 H1 e1 rl1 p1 v rv => ?_⟩
    obtain ⟨⟨a, xs, l, rfl, sl, rfl⟩, p1⟩ := post_isL p1 rl1 rv
    refine ⟨.inl ⟨rfl, xs, by rw [hK]; exact sl⟩, ?_⟩
    cases rv with
    | loc h =>
      obtain ⟨a, ws, ys, ee, hb, hl, hv, r5, p4⟩ := post_lst (k := fun _ _ _ _ => True) p1 rl1 (RD.loc h)
      cases ee
      cases e5 : ys[ys.length - 1]? with
      | none => simp only [e5] at p4; exact p4.elim
      | some d =>
        simp only [e5] at p4
        obtain ⟨y, hy, ry⟩ := r5.get e5
        have r6 : RDs c bs1 H1 ws.dropLast ys.dropLast := by
          rw [List.dropLast_eq_take, List.dropLast_eq_take, r5.length]
          exact r5.take _
        obtain ⟨rl6, e6, p6⟩ := post_put (k := fun _ _ _ _ => True) p4 rl1 hb hl r6
        exact ⟨_, _, _, rfl, rfl, hv, by rw [r5.length]; exact hy, p6.now rl6 _ (ry.ext e6)⟩
end
end Pm
end
section
set_option Elab.async false
set_option linter.all false
set_option maxRecDepth 100000
namespace Pm
open PySem PySem.Spec PyProof.Rows L2

/-! ### what is walked -/
structure Itm where
  xs : List D
  ok : Sto → Bool
abbrev MI := En → M Itm
/-- J walks it, from here on -/
def Wk (c : Ct) (it : Itm) (bs0 : List Addr) (H0 : Hp) (J : It) : Prop :=
  Walk J it.xs.length (fun H => ∃ st bs, Ext bs0 H0 bs H ∧ Rel c bs H st ∧ it.ok st = true)
    (fun i H v H' => ∀ st bs, Ext bs0 H0 bs H → Rel c bs H st → it.ok st = true → Ext bs H bs H' ∧ Rel c bs H' st ∧ ∃ d, it.xs[i]? = some d ∧ RD c bs H' v d)
def tI (c : Ct) (ex : Wh) (f : MI) : TI := fun σ H R => ∃ ρ st bs, Rel c bs H st ∧ RE c bs H ρ σ ∧ Post c ex (f ρ st) bs H fun it _ bs' H' => ∀ J, Wk c it bs' H' J → R J H'
theorem PI_imp {X : Cx} {tg e : Expr} {t t' : TI} (h : PI X tg e t) (i : ∀ σ H R, t' σ H R → t σ H R) : PI X tg e t' := ⟨fun pins s σ H R I q => h.run pins s σ H R I (i σ H R q)⟩

/-! ### for -/
def forL (ok : Sto → Bool) (p : Pat) (body : MS) : List D → MS
  | [], ρ => fun st => if ok st = true then .ok (.nx, ρ) st else .stuck
  | x :: r, ρ => fun st => if ok st = true then
      (bnd (ofE (bindP p x ρ)) fun ρ1 => bnd (body ρ1) fun y => match y.1 with
        | .nx => forL ok p body r y.2
        | .ct => forL ok p body r y.2
        | .bk => ret (.nx, y.2)
        | .rt d => ret (.rt d, y.2)) st
    else .stuck
def forS (it : MI) (p : Pat) (body : MS) : MS := fun ρ => bnd (it ρ) fun I => forL I.ok p body I.xs ρ
section
variable {X : Cx} {c : Ct} {ex : Wh} {pos : Pos} {iter tg : Expr} {bd : List Stmt} {it : MI} {p : Pat} {body : MS}
theorem ms_for (hp : PassesOwn (model X.prog X.w) X.A X.env X.xe) (hc : X.calm = true) (hi : PI X tg iter (tI c ex it)) (hg : PG X tg (gP c.K p)) (hb : PSs X bd (tS c ex body)) (hs : ∀ x, foldedSetIterable iter X.env x = pure x := by intro _; rfl) :
    PS X (.For tg iter bd [] pos) (tS c ex (forS it p body)) := PS_imp (ps_for hp hc hi hg hb hs) fun E σ H q => by
  obtain ⟨ρ, st, bs, rl, re, q⟩ := q
  refine ⟨ρ, st, bs, rl, re, q.bnd.imp fun I st1 bs1 H1 e1 rl1 q1 J wk => ?_⟩
  refine for_it wk (fun i σ H => ∃ ρ st bs, Ext bs1 H1 bs H ∧ Rel c bs H st ∧ RE c bs H ρ σ ∧ Post c ex (forL I.ok p body (I.xs.drop i) ρ st) bs H fun x _ bs' H' => ∀ σ', RE c bs' H' x.2 σ' → Fin c E bs' H' σ' x.1)
    ⟨ρ, st1, bs1, Ext.refl, rl1, re.ext e1, q1⟩ (fun i σ H hi ⟨ρ, st, bs, e, rl, re, q⟩ => ⟨st, bs, e, rl, ?_⟩) (fun i v σ H H' hi ⟨ρ, st, bs, e, rl, re, q⟩ y => ?_) (fun σ H ⟨ρ, st, bs, e, rl, re, q⟩ => ?_)
  · cases e5 : I.xs.drop i with
    | nil =>
      rw [e5] at q
      unfold forL at q
      by_cases h : I.ok st = true
      · exact h
      · rw [if_neg h] at q; exact q.elim
    | cons x r =>
      rw [e5] at q
      unfold forL at q
      by_cases h : I.ok st = true
      · exact h
      · rw [if_neg h] at q; exact q.elim
  · have e5 : I.xs.drop i = I.xs[i] :: I.xs.drop (i + 1) := List.drop_eq_getElem_cons hi
    rw [e5] at q
    unfold forL at q
    by_cases h : I.ok st = true
    · rw [if_pos h] at q
      obtain ⟨e6, rl6, d, hd, rd6⟩ := y st bs e rl h
      rw [List.getElem?_eq_getElem hi] at hd
      cases hd
      cases e8 : bindP p I.xs[i] ρ with
      | none => rw [e8] at q; exact q.bnd.elim
      | some ρ1 =>
        rw [e8] at q
        have q2 : Post c ex (bnd (body ρ1) (fun y => match y.1 with
          | .nx => forL I.ok p body (I.xs.drop (i + 1)) y.2
          | .ct => forL I.ok p body (I.xs.drop (i + 1)) y.2
          | .bk => ret (.nx, y.2)
          | .rt d => ret (.rt d, y.2)) st) bs H fun x _ bs' H' => ∀ σ', RE c bs' H' x.2 σ' → Fin c E bs' H' σ' x.1 := q
        refine bindP_ok p _ v ρ ρ1 σ _ rd6 (re.ext e6) e8 fun σ2 re2 _ => ?_
        refine ⟨ρ1, st, bs, rl6, re2, (q2.bnd.far e6).imp fun y st7 bs7 H7 e9 rl7 q7 σ7 re7 => ?_⟩
        obtain ⟨fl, ρ7⟩ := y
        cases fl with
        | nx => exact ⟨ρ7, st7, bs7, (e.trans e6).trans e9, rl7, re7, q7⟩
        | ct => exact ⟨ρ7, st7, bs7, (e.trans e6).trans e9, rl7, re7, q7⟩
        | bk => exact q7.now rl7 σ7 re7
        | rt d => exact q7.now rl7 σ7 re7
    · rw [if_neg h] at q; exact q.elim
  · rw [List.drop_length] at q
    unfold forL at q
    by_cases h : I.ok st = true
    · rw [if_pos h] at q
      exact Post.of q rl σ re
    · rw [if_neg h] at q; exact q.elim
end

/-! ### what is walked: tuples, lists, ranges -/
section
variable {X : Cx} {c : Ct} {ex : Wh} {pos : Pos} {tg e a b : Expr} {f g : ME} {bs : List Addr} {H : Hp} {st : Sto}
def seqI : D → M Itm
  | .tup xs => ret ⟨xs, fun _ => true⟩
  | .loc l => bnd (lst l) fun xs => ret ⟨xs, fun st => decide (st[l]? = some (.lst xs))⟩
  | _ => no
def iter (f : ME) : MI := fun ρ => bnd (f ρ) seqI
theorem wk_tup {a : Addr} {vs : List V} {xs : List D} (s : SqT c.K H a vs) (r : RDs c bs H vs xs) : Wk c ⟨xs, fun _ => true⟩ bs H (Itt c.K a) := by
  refine ⟨fun i H' hi ⟨st, bs', e, _, _⟩ => ?_, fun H' ⟨st, bs', e, _, _⟩ => ?_, fun i H' v H2 hi ⟨st0, bs0, e0, _, _⟩ y st bs' e rl _ => ?_⟩
  · have hi : i < vs.length := by rw [r.length]; exact hi
    exact ⟨vs, vs[i], e.sqT s, List.getElem?_eq_getElem hi⟩
  · exact ⟨vs, e.sqT s, by rw [r.length]; exact Nat.le_refl _⟩
  · obtain ⟨rfl, y⟩ := y
    obtain ⟨d, hd, rd⟩ := r.getV (y vs (e.sqT s))
    exact ⟨Ext.refl, rl, d, hd, rd.ext e⟩
theorem wk_loc {a : Addr} {l : Nat} {xs : List D} (hb : bs[l]? = some a) : Wk c ⟨xs, fun st => decide (st[l]? = some (.lst xs))⟩ bs H (Itl c.K a) := by
  have at_ : ∀ {H' : Hp} {bs' : List Addr} {st : Sto}, Ext bs H bs' H' → Rel c bs' H' st → decide (st[l]? = some (O.lst xs)) = true → ∃ vs, SqL c.K H' a vs ∧ RDs c bs' H' vs xs := fun {H' bs' st} e rl h => by
    obtain ⟨vs, hv, r⟩ := rl.obj l a _ (e.get hb) (of_decide_eq_true h)
    exact ⟨vs, SqL.of hv, r⟩
  refine ⟨fun i H' hi ⟨st, bs', e, rl, h⟩ => ?_, fun H' ⟨st, bs', e, rl, h⟩ => ?_, fun i H' v H2 hi ⟨st0, bs0, e0, _, _⟩ y st bs' e rl h => ?_⟩
  · obtain ⟨vs, s, r⟩ := at_ e rl h
    have hi : i < vs.length := by rw [r.length]; exact hi
    exact ⟨vs, vs[i], s, List.getElem?_eq_getElem hi⟩
  · obtain ⟨vs, s, r⟩ := at_ e rl h
    exact ⟨vs, s, by rw [r.length]; exact Nat.le_refl _⟩
  · obtain ⟨rfl, y⟩ := y
    obtain ⟨vs, s, r⟩ := at_ e rl h
    obtain ⟨d, hd, rd⟩ := r.getV (y vs s)
    exact ⟨Ext.refl, rl, d, hd, rd⟩
/-- a tuple, a list, a text -/
def rSeqI (K : PySem.W.Frag) (te : TE) : TI := fun σ H R => te σ H fun x H1 => (∃ a, x = .ref a ∧ (∃ xs, SqL K H1 a xs) ∧ R (Itl K a) H1) ∨ (∃ a, x = .ref a ∧ (∃ xs, SqT K H1 a xs) ∧ R (Itt K a) H1) ∨ ∃ z, x = .str z ∧ R (Its z) H1
theorem pi_seq {te : TE} (he : PE X e te) : PI X tg e (rSeqI X.K te) := by
  refine ⟨fun pins s σ H R I q => ?_⟩
  refine thn (he.run pins s σ H _ I q) fun u s1 ⟨x, H1, I1, r1, q1⟩ => ?_
  rcases q1 with ⟨a, rfl, ⟨xs, hs⟩, hr⟩ | ⟨a, rfl, ⟨xs, hs⟩, hr⟩ | ⟨z, rfl, hr⟩
  · cases r1
    obtain ⟨its, rv, p, hz⟩ := I1.list hs
    exact wpAny_pyIter_list p.isList (pi_one (tk := s1.toks) I1 _ (turn_list a _) ⟨_, Heap.get?_push_size _ rfl, rfl, rfl⟩ hr)
  · cases r1
    obtain ⟨its, rv, p, hz⟩ := I1.tuple hs
    exact wpAny_pyIter_tuple (show s1.heap.IsTuple a its.toArray from p) (pi_one (tk := s1.toks) I1 _ (turn_tuple a _) ⟨_, Heap.get?_push_size _ rfl, rfl, rfl⟩ hr)
  · obtain ⟨t, rfl⟩ := r1
    cases ha : z.cps.all (· < 128)
    · exact wpAny_pyIter_wide ha (pi_one (tk := s1.toks) I1 _ (turn_str _ z t "str_iterator" (.inr rfl)) ⟨_, Heap.get?_push_size _ rfl, rfl, rfl⟩ hr)
    · exact wpAny_pyIter_ascii ha (pi_one (tk := s1.toks) I1 _ (turn_str _ z t "str_ascii_iterator" (.inl rfl)) ⟨_, Heap.get?_push_size _ rfl, rfl, rfl⟩ hr)
def signs (z : Str) : List D := z.cps.toList.map fun k => .str ⟨#[k]⟩
def seqA : D → M Itm
  | .tup xs => ret ⟨xs, fun _ => true⟩
  | .loc l => bnd (lst l) fun xs => ret ⟨xs, fun st => decide (st[l]? = some (.lst xs))⟩
  | .str z => ret ⟨signs z, fun _ => true⟩
  | _ => no
def iterA (f : ME) : MI := fun ρ => bnd (f ρ) seqA
theorem wk_str {z : Str} : Wk c ⟨signs z, fun _ => true⟩ bs H (Its z) := by
  have hl : (signs z).length = z.cps.size := by unfold signs; simp
  refine ⟨fun i H' hi _ => ?_, fun H' _ => ?_, fun i H' v H2 hi _ y st bs' e rl _ => ?_⟩
  · show i < z.cps.size
    rw [← hl]; exact hi
  · show z.cps.size ≤ (signs z).length
    rw [hl]; exact Nat.le_refl _
  · obtain ⟨rfl, k, hk, rfl⟩ := y
    exact ⟨Ext.refl, rl, .str ⟨#[k]⟩, by unfold signs; rw [List.getElem?_map, Array.getElem?_toList, hk]; rfl, .str _⟩
theorem mi_seq (hK : X.K = c.K) (h : PE X e (tE c ex f)) : PI X tg e (tI c ex (iterA f)) := PI_imp (pi_seq h) fun σ H R q => by
  obtain ⟨ρ, st, bs, rl, re, p⟩ := q
  refine ⟨ρ, st, bs, rl, re, p.bnd.imp fun d st1 bs1 H1 e1 rl1 p1 v rv => ?_⟩
  rw [hK]
  cases rv with
  | tup s r => exact .inr (.inl ⟨_, rfl, ⟨_, s⟩, p1.now rl1 _ (wk_tup s r)⟩)
  | loc h =>
    obtain ⟨a, vs, xs, ee, hb, hl, hv, r, p2⟩ := post_lst (k := fun _ _ _ _ => True) p1 rl1 (RD.loc h)
    cases ee
    exact .inl ⟨_, rfl, ⟨_, SqL.of hv⟩, p2.now rl1 _ (wk_loc hb)⟩
  | str z => exact .inr (.inr ⟨_, rfl, p1.now rl1 _ wk_str⟩)
  | _ => exact p1.elim
def rngI (lo hi : Int) : Itm := ⟨(List.range (hi - lo).toNat).map fun i => .int (lo + (i : Nat)), fun _ => true⟩
theorem wk_rng {lo : Int} {n : Nat} : Wk c ⟨(List.range n).map fun i => .int (lo + (i : Nat)), fun _ => true⟩ bs H (Itr lo n) := by
  refine ⟨fun i H' hi _ => ?_, fun H' _ => ?_, fun i H' v H2 hi _ y st bs' e rl _ => ?_⟩
  · show i < n
    simpa using hi
  · show n ≤ _
    simp
  · obtain ⟨rfl, rfl⟩ := y
    have hi : i < n := by simpa using hi
    exact ⟨Ext.refl, rl, .int (lo + i), by simp [hi], .int _⟩
def okR (i : Int) : Bool := decide (-(2 ^ 62) ≤ i ∧ i < 2 ^ 62)
def rng1 (f : ME) : MI := fun ρ => bnd (f ρ) fun d => match d with
  | .int j => if okR j then ret (rngI 0 j) else no
  | _ => no
def rng2 (f g : ME) : MI := fun ρ => bnd (f ρ) fun d => bnd (g ρ) fun d' => match d, d' with
  | .int i, .int j => if okR i && okR j then ret (rngI i j) else no
  | _, _ => no
theorem mi_rng1 {p : Pos} (hg : Gl X "range") (hm : X.mg "range" = none) (ha : PE X a (tE c ex f)) (hs : starEach [a] X.env = (false, eval a X.env) :: starEach [] X.env := by rfl) (hs2 : starEach [a] X.env = [(false, eval a X.env)] := by rfl) : PI X tg (.Call (.Name "range" p) [a] [] pos) (tI c ex (rng1 f)) :=
  PI_imp (pi_range1 hg hm (pa_cons ha pa_nil hs) hs2) fun σ H R q => by
    obtain ⟨ρ, st, bs, rl, re, p⟩ := q
    refine ⟨ρ, st, bs, rl, re, p.bnd.imp fun d st1 bs1 H1 e1 rl1 p1 v rv => ?_⟩
    cases rv with
    | int j =>
      obtain ⟨h, p1⟩ := Post.iff (m := ret _) p1
      have h := of_decide_eq_true h
      refine ⟨j, rfl, h.1, h.2, p1.now rl1 _ ?_⟩
      have := wk_rng (c := c) (lo := 0) (n := j.toNat) (bs := bs1) (H := H1)
      unfold rngI
      rw [Int.sub_zero]
      exact this
    | _ => exact p1.elim
theorem mi_rng2 {p : Pos} (hg : Gl X "range") (hm : X.mg "range" = none) (ha : PE X a (tE c ex f)) (hb : PE X b (tE c ex g)) (hs : starEach [a, b] X.env = (false, eval a X.env) :: starEach [b] X.env := by rfl) (hs2 : starEach [b] X.env = (false, eval b X.env) :: starEach [] X.env := by rfl)
    (hs3 : starEach [a, b] X.env = [(false, eval a X.env), (false, eval b X.env)] := by rfl) (hs4 : starEach [b] X.env = [(false, eval b X.env)] := by rfl) : PI X tg (.Call (.Name "range" p) [a, b] [] pos) (tI c ex (rng2 f g)) :=
  PI_imp (pi_range2 hg hm (pa_cons ha (pa_cons hb pa_nil hs2) hs) hs3 hs4) fun σ H R q => by
    obtain ⟨ρ, st, bs, rl, re, p⟩ := q
    refine ⟨ρ, st, bs, rl, re, p.bnd.imp fun d st1 bs1 H1 e1 rl1 p1 v rv => ?_⟩
    refine ⟨ρ, st1, bs1, rl1, re.ext e1, p1.bnd.imp fun d2 st2 bs2 H2 e2 rl2 p2 v2 rv2 => ?_⟩
    have rv := rv.ext e2
    cases rv with
    | int i =>
      cases rv2 with
      | int j =>
        obtain ⟨h, p2⟩ := Post.iff (m := ret _) p2
        rw [Bool.and_eq_true] at h
        have h1 := of_decide_eq_true h.1
        have h2 := of_decide_eq_true h.2
        exact ⟨i, j, rfl, ⟨h1.1, h1.2, h2.1, h2.2⟩, p2.now rl2 _ wk_rng⟩
      | _ => exact p2.elim
    | _ => cases rv2 <;> exact p2.elim
end
end Pm
end
section
set_option Elab.async false
set_option linter.all false
set_option maxRecDepth 100000
namespace Pm
open PySem PySem.Spec PyProof.Rows L2

/-! ### an object that nothing tells of, hidden -/
def hid (H : Hp) (a : Addr) : Hp := fun b => if b = a then none else H b
section
variable {c : Ct} {ex : Wh} {α : Type} {bs bs' : List Addr} {H H' : Hp} {st : Sto} {q : Addr} {vs : List V}
theorem hid_same : hid H q q = none := if_pos rfl
theorem hid_ne {b : Addr} (h : b ≠ q) : hid H q b = H b := if_neg h
theorem upd_hid {o : HO} (h : H q = some o) : upd (hid H q) q o = H := by
  funext b
  by_cases e : b = q
  · rw [e, upd_same, h]
  · rw [upd_ne e, hid_ne e]
theorem hid_upd {o : HO} : hid (upd H q o) q = hid H q := by
  funext b
  by_cases e : b = q
  · rw [e, hid_same, hid_same]
  · rw [hid_ne e, hid_ne e, upd_ne e]
theorem hid_none (h : H q = none) : hid H q = H := by
  funext b
  by_cases e : b = q
  · rw [e, hid_same, h]
  · rw [hid_ne e]
theorem hid_ext (h : q ∉ bs) : Ext bs (hid H q) bs H := by
  refine ⟨⟨[], by simp⟩, fun b o e _ => ?_, fun b h n => absurd h n⟩
  by_cases z : b = q
  · rw [z, hid_same] at e; cases e
  · rw [hid_ne z] at e; exact e
theorem hid_pre (h : H q = some (.lst vs)) : Pre c bs H bs (hid H q) := by
  refine ⟨fun _ _ h => h, fun a ws s => ?_⟩
  rcases s with (s | ⟨o, s⟩) | s
  · exact .inl (.inl (by rw [hid_ne (ne_of s h (by intro z; cases z))]; exact s))
  · exact .inl (.inr ⟨o, by rw [hid_ne (ne_of s h (by intro z; cases z))]; exact s⟩)
  · exact .inr s
theorem Rel.hid (rl : Rel c bs H st) (h : H q = some (.lst vs)) (nb : q ∉ bs) : Rel c bs (hid H q) st := by
  refine ⟨rl.len, fun l b o h1 h2 => ?_, rl.nd, ?_⟩
  · have n : b ≠ q := fun z => nb (z ▸ List.mem_of_getElem? h1)
    exact (rl.obj l b o h1 h2).same (hid_pre h) (hid_ne n)
  · rcases rl.scr with ⟨o, e⟩ | e
    · exact .inl ⟨o, by rw [hid_ne (ne_of e h (by intro z; cases z))]; exact e⟩
    · exact .inr e
theorem Ext.hid (e : Ext bs H bs' H') (h : H q = some (.lst vs)) (nb : q ∉ bs) : Ext bs (hid H q) bs' (hid H' q) ∧ H' q = some (.lst vs) ∧ q ∉ bs' := by
  refine ⟨⟨e.pre, fun a o h1 h2 => ?_, fun a h1 h2 => ?_⟩, e.keep q _ h (.inl nb), fun z => ?_⟩
  · by_cases y : a = q
    · rw [y, hid_same] at h1; cases h1
    · rw [hid_ne y] at h1 ⊢
      exact e.keep a o h1 h2
  · by_cases y : a = q
    · rw [y]; exact hid_same
    · rw [hid_ne y]; exact e.fresh a h1 h2
  · have := e.fresh q z nb
    rw [h] at this; cases this
/-- no exception -/
def exF : Wh := fun _ _ _ _ => False
def nox (m : M α) : M α := fun st => match m st with
  | .exc _ _ _ => .stuck
  | r => r
theorem Post.nox {m : M α} {k : α → Sto → List Addr → Hp → Prop} (p : Post c ex (nox m st) bs H k) : Post c exF (m st) bs H k := by
  unfold Pm.nox at p
  cases e : m st with
  | ok a st' => rw [e] at p; exact p
  | exc n d st' => rw [e] at p; exact p.elim
  | stuck => rw [e] at p; exact p
theorem Post.hide {r : Res α} {k : α → Sto → List Addr → Hp → Prop} (p : Post c exF r bs (hid H q) k) (h : H q = some (.lst vs)) (nb : q ∉ bs) : Post c exF r bs H fun a st' bs' H' => k a st' bs' (hid H' q) := by
  cases r with
  | ok a st' =>
    intro b' H' e rl
    obtain ⟨e2, h2, n2⟩ := e.hid h nb
    exact p b' (Pm.hid H' q) e2 (rl.hid h2 n2)
  | exc n d st' =>
    intro b' H' e rl
    obtain ⟨e2, h2, n2⟩ := e.hid h nb
    exact p b' (Pm.hid H' q) e2 (rl.hid h2 n2)
  | stuck => exact p
end

/-! ### [e for x in xs if t] -/
def wipeE (ρ : En) : List Nat → En
  | [] => ρ
  | v :: vs => (wipeE ρ vs).set v none
theorem wipe_RE {c : Ct} {bs : List Addr} {H : Hp} {ρ : En} {σ : L2.St} (r : RE c bs H ρ σ) : ∀ vs : List Nat, RE c bs H (wipeE ρ vs) (wipe σ vs)
  | [] => r
  | v :: vs => by
    have ih := wipe_RE r vs
    unfold wipeE wipe
    refine ⟨by rw [List.length_set, List.length_set, ih.len], fun i d e => ?_⟩
    by_cases hi : v = i
    · subst hi
      by_cases hv : v < (wipeE ρ vs).length
      · rw [List.getElem?_set_self hv] at e; cases e
      · rw [List.getElem?_eq_none (by simpa using hv)] at e; cases e
    · rw [List.getElem?_set_ne hi] at e ⊢
      exact ih.val i d e
def yesT : MT := fun _ => ret true
def lcL (ok : Sto → Bool) (p : Pat) (t : MT) (e : ME) (ρ : En) : List D → List D → M (List D)
  | [], acc => fun st => if ok st = true then .ok acc st else .stuck
  | x :: r, acc => fun st => if ok st = true then
      (bnd (ofE (bindP p x ρ)) fun ρ1 => bnd (nox (t ρ1)) fun k => if k = true then bnd (nox (e ρ1)) fun y => if acc.length < sizeLine then lcL ok p t e ρ r (acc ++ [y]) else no else lcL ok p t e ρ r acc) st
    else .stuck
def lcE (it : MI) (p : Pat) (t : MT) (e : ME) (vs : List Nat) : ME := fun ρ => bnd (it ρ) fun I => bnd (lcL I.ok p t e (wipeE ρ vs) I.xs []) alloc
section
variable {X : Cx} {c : Ct} {ex : Wh} {it : MI} {p : Pat} {t : MT} {e : ME} {vs : List Nat} {H : Hp}
theorem lcL_ok {ok : Sto → Bool} {ρ : En} {xs acc : List D} {st : Sto} {bs : List Addr} {k : List D → Sto → List Addr → Hp → Prop} (q : Post c ex (lcL ok p t e ρ xs acc st) bs H k) : ok st = true := by
  cases xs with
  | nil =>
    unfold lcL at q
    by_cases h : ok st = true
    · exact h
    · rw [if_neg h] at q; exact q.elim
  | cons x r =>
    unfold lcL at q
    by_cases h : ok st = true
    · exact h
    · rw [if_neg h] at q; exact q.elim
theorem wipe_wipe : ∀ (σ : L2.St) (vs : List Nat), wipe (wipe σ vs) vs = wipe σ vs
  | _, [] => rfl
  | σ, v :: vs => by
    show wipe ((wipe σ vs).set v none) (v :: vs) = (wipe σ vs).set v none
    rw [wipe_set List.mem_cons_self]
    show (wipe (wipe σ vs) vs).set v none = _
    rw [wipe_wipe σ vs]
theorem rel_show {bs : List Addr} {st : Sto} {D : Addr} (rl : Rel c bs (hid H D) st) (nb : D ∉ bs) : Rel c bs H st := by
  have e3 := hid_ext (H := H) nb
  refine ⟨rl.len, fun l b o h1 h2 => ?_, rl.nd, e3.scr rl.scr⟩
  have n : b ≠ D := fun z => nb (z ▸ List.mem_of_getElem? h1)
  exact (rl.obj l b o h1 h2).same e3.mov (hid_ne n).symm
theorem tE_lc (hs : ∀ i ∈ slots p, i ∈ vs) {σ : L2.St} {Q : VK} (q : tE c ex (lcE it p t e vs) σ H Q) : tLc (tI c ex it) (gP c.K p) (tT c exF t) (tE c exF e) vs σ H Q := by
  obtain ⟨ρ, st, bs, rl, re, q⟩ := q
  refine ⟨ρ, st, bs, rl, re, q.bnd.imp fun I st1 bs1 H1 e1 rl1 q1 J wk => ?_⟩
  intro D hD
  have reW := wipe_RE (re.ext e1) vs
  refine lc_it wk (fun i H => ∃ st bs acc vacc, Ext bs1 H1 bs (hid H D) ∧ Rel c bs (hid H D) st ∧ D ∉ bs ∧ H D = some (.lst vacc) ∧ RDs c bs (hid H D) vacc acc ∧ Post c ex (lcL I.ok p t e (wipeE ρ vs) (I.xs.drop i) acc st) bs (hid H D) fun a st1 bs1 H1 => Post c ex (alloc a st1) bs1 H1 fun d _ bs' H' => ∀ v, RD c bs' H' v d → Q v H')
    ?_ (fun i H hi ⟨st, bs, acc, vacc, ee, rl, nb, hv, rr, q⟩ => ?_) (fun i v H H' hi ⟨st, bs, acc, vacc, ee, rl, nb, hv, rr, q⟩ y => ?_) (fun H ⟨st, bs, acc, vacc, ee, rl, nb, hv, rr, q⟩ => ?_)
  · have z : hid (upd H1 D (.lst [])) D = H1 := by rw [hid_upd, hid_none hD]
    refine ⟨st1, bs1, [], [], by rw [z]; exact Ext.refl, by rw [z]; exact rl1, fun h => ?_, upd_same, .nil, by rw [z]; exact q1.bnd⟩
    obtain ⟨o, ho, _⟩ := rl1.here h
    rw [hD] at ho; cases ho
  · exact ⟨st, bs, ee.trans (hid_ext nb), rel_show rl nb, lcL_ok q⟩
  · have e3 := hid_ext (H := H) nb
    have rlH : Rel c bs H st := rel_show rl nb
    have hok := lcL_ok q
    obtain ⟨e6, rl6, d, hd, rd6⟩ := y st bs (ee.trans e3) rlH hok
    rw [List.getElem?_eq_getElem hi] at hd
    cases hd
    have e5 : I.xs.drop i = I.xs[i] :: I.xs.drop (i + 1) := List.drop_eq_getElem_cons hi
    rw [e5] at q
    unfold lcL at q
    rw [if_pos hok] at q
    cases e8 : bindP p I.xs[i] (wipeE ρ vs) with
    | none => rw [e8] at q; exact q.bnd.elim
    | some ρ1 =>
      rw [e8] at q
      obtain ⟨e6', hv6, nb6⟩ := e6.hid hv nb
      have q3 := Post.now q.bnd rl
      have q4 := (q3.bnd.far e6').nox
      refine bindP_ok p _ v _ ρ1 (wipe σ vs) _ rd6 (((reW.ext ee).ext e3).ext e6) e8 fun σ2 re2 w2 => ⟨?_, ?_⟩
      · rw [w2 vs hs]
        exact wipe_wipe σ vs
      · refine ⟨ρ1, st, bs, rl6, re2, (q4.hide hv6 nb6).imp fun k st7 bs7 H7 e7 rl7 q7 => ?_⟩
        obtain ⟨e7', hv7, nb7⟩ := e7.hid hv6 nb6
        have ee7 := (ee.trans e6').trans e7'
        have rr7 := (rr.ext e6').ext e7'
        cases k with
        | false => exact iteF ⟨st7, bs7, acc, vacc, ee7, rl7.hid hv7 nb7, nb7, hv7, rr7, q7⟩
        | true =>
          refine iteT ?_
          have q8 := q7.bnd.nox
          refine ⟨ρ1, st7, bs7, rl7, re2.ext e7, (q8.hide hv7 nb7).imp fun y st9 bs9 H9 e9 rl9 q9 v9 rv9 => ?_⟩
          obtain ⟨e9', hv9, nb9⟩ := e9.hid hv7 nb7
          obtain ⟨hz, q10⟩ := Post.iff (m := lcL _ _ _ _ _ _ _) q9
          have rr9 := rr7.ext e9'
          refine ⟨vacc, hv9, by rw [rr9.length]; exact hz, ?_⟩
          have z : hid (upd H9 D (.lst (vacc ++ [v9]))) D = hid H9 D := hid_upd
          refine ⟨st9, bs9, acc ++ [y], vacc ++ [v9], by rw [z]; exact ee7.trans e9', by rw [z]; exact rl9.hid hv9 nb9, nb9, upd_same, by rw [z]; exact rr9.append (.cons (rv9.mono (hid_pre hv9)) .nil), by rw [z]; exact q10⟩
  · rw [List.drop_length] at q
    have hok := lcL_ok q
    unfold lcL at q
    rw [if_pos hok] at q
    have q3 := Post.of q rl
    obtain ⟨k, r⟩ := post_alloc q3 rl hid_same rr
    rw [upd_hid hv] at k r
    exact k _ r
/-- [e for x in xs if t] -/
theorem md_lc {elt tg iter : Expr} {ifs : List Expr} {scope : Scope} {own : List (Str × Nat)} {pos : Pos} (hc : X.calm = true) (hN : X.N.Nodup) (hi : PI X tg iter (tI c ex it)) (ok : BlkOk X.N X.env.scope scope own)
    (hg : ∀ (s : Shared) (H : Hp) (C : Addr) (cl : List (Str × Addr)) (fp : List Addr), PG (X.blk s H scope (compEnvC scope cl C X.env) fp) tg (gP c.K p)) (ht : ∀ (s : Shared) (H : Hp) (C : Addr) (cl : List (Str × Addr)) (fp : List Addr), PTs (X.blk s H scope (compEnvC scope cl C X.env) fp) ifs (tT c exF t))
    (he : ∀ (s : Shared) (H : Hp) (C : Addr) (cl : List (Str × Addr)) (fp : List Addr), PE (X.blk s H scope (compEnvC scope cl C X.env) fp) elt (tE c exF e)) (hs : ∀ x, foldedSetIterable iter X.env x = pure x := by intro _; rfl) (hsl : ∀ i ∈ slots p, i ∈ vs := by decide) (hvs : own.map (·.2) = vs := by rfl) :
    PE X (.ListComp elt [⟨tg, iter, ifs, 0⟩] scope pos) (tE c ex (lcE it p t e vs)) :=
  PE_imp (pe_lc hc hN hi ok hg ht he hs) fun σ H Q q => by rw [hvs]; exact tE_lc hsl q
theorem mts_nil : PTs X [] (tT c ex yesT) := ⟨fun pins s σ H Q I q => by
  obtain ⟨ρ, st, bs, rl, re, p⟩ := q
  exact pts_nil.run pins s σ H Q I (p.now rl)⟩
theorem mts_one {a : Expr} (h : PT X a (tT c ex t)) : PTs X [a] (tT c ex t) := pts_one h
/-- name = [..] -/
theorem ms_setLc {i : Nat} {y : Str} {py : Pos} {elt tg iter : Expr} {ifs : List Expr} {scope : Scope} {own : List (Str × Nat)} {pos spos : Pos} (hc : X.calm = true) (hN : X.N.Nodup) (hi : PI X tg iter (tI c ex it)) (ok : BlkOk X.N X.env.scope scope own)
    (hg : ∀ (s : Shared) (H : Hp) (C : Addr) (cl : List (Str × Addr)) (fp : List Addr), PG (X.blk s H scope (compEnvC scope cl C X.env) fp) tg (gP c.K p)) (ht : ∀ (s : Shared) (H : Hp) (C : Addr) (cl : List (Str × Addr)) (fp : List Addr), PTs (X.blk s H scope (compEnvC scope cl C X.env) fp) ifs (tT c exF t))
    (he : ∀ (s : Shared) (H : Hp) (C : Addr) (cl : List (Str × Addr)) (fp : List Addr), PE (X.blk s H scope (compEnvC scope cl C X.env) fp) elt (tE c exF e))
    (hsw : swapsWith (.ListComp elt [⟨tg, iter, ifs, 0⟩] scope pos) (some (.Name y py)) spos.line X.env = pure true) (hy : X.N[i]? = some y := by rfl) (hyl : X.env.scope.names.lookup y = some .local := by rfl) (hs : ∀ x, foldedSetIterable iter X.env x = pure x := by intro _; rfl) (hsl : ∀ i ∈ slots p, i ∈ vs := by decide) (hvs : own.map (·.2) = vs := by rfl) :
    PS X (.Assign [.Name y py] (.ListComp elt [⟨tg, iter, ifs, 0⟩] scope pos) spos) (tS c ex (setS (.nm i) (lcE it p t e vs))) :=
  PS_imp (ps_setLc hc hN hy hyl hsw hi ok hg ht he hs) fun E σ H q => by
    have q := tS_set q
    unfold gP at q
    rw [hvs]
    exact tE_lc hsl q
end
end Pm
end
section
set_option Elab.async false
set_option linter.all false
set_option maxRecDepth 100000
namespace Pm
open PySem PySem.Spec PyProof.Rows L2

/-! ### defs, where no repr is running -/
structure FnG (P : Program) (w : World) (K : PySem.W.Frag) (mg : Str → Option Value) (base : Heap) (CX : CXT) (k : Nat) (f : Addr) (fd : FuncData) (ps : List Str) (sp : Sp) : Prop where
  ln : ∀ vs H Q E, sp vs H Q E → vs.length = ps.length
  go : ∀ (A : Around) (out : List Env) (s : Shared) (H : Hp) (ar : Args) (us : List Value) (vs : List V) (Q : VK) (E : XK), Room k A → A.guards = some [] → Env0 P w K mg base A out s H → BindsTo s fd ar (ps.zip us) → Vals vs us → sp vs H Q E → codeAny (model P w) A (.call (.ref f) ar) (CR CX out P w H s Q E) s
theorem FnOk.gu {P : Program} {w : World} {K : PySem.W.Frag} {mg : Str → Option Value} {base : Heap} {CX : CXT} {k : Nat} {f : Addr} {fd : FuncData} {ps : List Str} {sp : Sp} (F : FnOk P w K mg base CX k f fd ps sp) : FnG P w K mg base CX k f fd ps sp :=
  ⟨F.len, fun A out s H ar us vs Q E hr _ => F.run A out s H ar us vs Q E hr⟩
theorem FnG.mono {P : Program} {w : World} {K : PySem.W.Frag} {mg : Str → Option Value} {base : Heap} {CX : CXT} {j k : Nat} {f : Addr} {fd : FuncData} {ps : List Str} {sp : Sp} (F : FnG P w K mg base CX j f fd ps sp) (h : j ≤ k) : FnG P w K mg base CX k f fd ps sp :=
  ⟨F.ln, fun A out s H ar us vs Q E hr => F.go A out s H ar us vs Q E (hr.mono h)⟩
section
variable {X : Cx} {CX : CXT} {k : Nat} {f : Addr} {fd : FuncData} {ps : List Str} {sp : Sp} {dvs : List V} {ds : List Value} {E : XK} {x : Str} {p pos : Pos} {e : Expr} {es : List Expr} {t : TA}
theorem gRun {pins : List (Addr × Obj)} {σ : L2.St} {H : Hp} {s : Shared} {Q : VK} {us : List Value} {vs : List V} (F : FnG X.prog X.w X.K X.mg X.base CX k f fd ps sp) (hr : Room k X.A) (hgd : X.A.guards = some []) (hb : Binds X.K fd ps ds) (hd : Vals dvs ds) (hx : Passes CX X E)
    (I : Inv X pins σ H s) (r : Vals vs us) (h : sp (vs ++ dvs) H Q E) : wpAny (model X.prog X.w) X.A (call (.ref f) us) (EP X pins σ Q) X.xe s := by
  have r2 := r.append hd
  have hl : (us ++ ds).length = ps.length := r2.length.symm.trans (F.ln _ _ _ _ h)
  have run := F.go X.A X.stack s H ⟨us, []⟩ (us ++ ds) (vs ++ dvs) Q E hr hgd I.env0 (hb s us I.kIn hl) r2 h
  refine wpAny_call (codeAny_mono run fun r s' hq => ?_)
  match r, hq with
  | .error e, hq => exact hx pins σ H s e s' I hq
  | .ok (.ret u), hq => exact I.after hq
theorem pe_callG (F : FnG X.prog X.w X.K X.mg X.base CX k f fd ps sp) (hr : Room k X.A) (hgd : X.A.guards = some []) (hg : Gl X x) (hm : X.mg x = some (.ref f)) (hk : PySem.W.keepIn X.K (.ref f) = true) (hb : Binds X.K fd ps ds) (hd : Vals dvs ds) (hx : Passes CX X E)
    (ha : PA X (e :: es) t) (hdb : (x == ("__debug__" : Str)) = false := by decide) (he : starEach (e :: es) X.env = (false, eval e X.env) :: starEach es X.env := by rfl) (hpl : (backTo pos (starEach es X.env)).any (·.1) = false := by rfl) :
    PE X (.Call (.Name x p) (e :: es) [] pos) (tCall sp dvs E t) := ⟨fun pins s σ H Q I h =>
  wpAny_Call_Name_kw (ld_glob I hg hm (PySem.W.callWith_K (h₀ := X.base) I.ok.mod.kin hk (thn (ha.run pos pins s σ H _ I h) fun us s1 ⟨vs, H1, I1, r, q⟩ => ⟨I1.kIn, gRun F hr hgd hb hd hx I1 r q⟩) he hpl) hdb)⟩
theorem pe_callG0 (F : FnG X.prog X.w X.K X.mg X.base CX k f fd ps sp) (hr : Room k X.A) (hgd : X.A.guards = some []) (hg : Gl X x) (hm : X.mg x = some (.ref f)) (hk : PySem.W.keepIn X.K (.ref f) = true) (hb : Binds X.K fd ps ds) (hd : Vals dvs ds) (hx : Passes CX X E)
    (hdb : (x == ("__debug__" : Str)) = false := by decide) : PE X (.Call (.Name x p) [] [] pos) (tCall sp dvs E tNil) := ⟨fun pins s σ H Q I h =>
  wpAny_Call_Name_kw (ld_glob I hg hm (PySem.W.callWith_K0 I.kIn hk (gRun (us := []) F hr hgd hb hd hx I .nil h)) hdb)⟩
end

/-! ### a def by its meaning -/
def startE (n : Nat) (ds : List D) : En := ds.map some ++ List.replicate (n - ds.length) none
def runB (n : Nat) (b : MS) : List D → M D := fun ds => bnd (b (startE n ds)) fun x => match x.1 with
  | .nx => ret .non
  | .rt d => ret d
  | _ => no
def spM (c : Ct) (wx : XK → Wh) (n : Nat) (m : List D → M D) : Sp := fun vs H Q E => vs.length = n ∧ ∃ ds st bs, Rel c bs H st ∧ RDs c bs H vs ds ∧ Post c (wx E) (m ds st) bs H fun d _ bs' H' => ∀ v, RD c bs' H' v d → Q v H'
theorem start_RE {c : Ct} {bs : List Addr} {H : Hp} {vs : List V} {ds : List D} (N : List Str) (r : RDs c bs H vs ds) : RE c bs H (startE N.length ds) (L2.start N vs) := by
  unfold startE L2.start
  refine ⟨by simp [r.length], fun i d h => ?_⟩
  by_cases hi : i < ds.length
  · rw [List.getElem?_append_left (by simpa using hi), List.getElem?_map] at h
    cases e : ds[i]? with
    | none => rw [e] at h; cases h
    | some d' =>
      rw [e] at h
      cases h
      obtain ⟨v, h1, h2⟩ := r.get e
      exact ⟨v, by rw [List.getElem?_append_left (by simpa [r.length] using hi), List.getElem?_map, h1]; rfl, h2⟩
  · rw [List.getElem?_append_right (by simpa using hi), List.getElem?_replicate] at h
    split at h <;> cases h
section
variable {P : Program} {w : World} {K : PySem.W.Frag} {mg : Str → Option Value} {base : Heap} {CX : CXT} {k : Nat} {f : Addr} {fd : FuncData} {N ps : List Str} {c : Ct} {wx : XK → Wh} {b : MS} {x qual : Str} {params : Arguments} {body : List Stmt} {scope : Scope} {dvs : List V} {kws : List (Str × V)}
theorem fnG_of {sp : Sp} (F : FunD K x qual params body scope dvs kws f fd) (S : FnScope N ps scope) (hln : ∀ vs H Q E, sp vs H Q E → vs.length = ps.length)
    (hb : ∀ (cdv : Value) (A : Around) (out : List Env) (s : Shared) (H : Hp) (vs : List V) (Q : VK) (E : XK), Room k (A.deeper (envOfC qual scope s.heap.objs.size f cdv)) → A.guards = some [] → sp vs H Q E →
      ∃ t, PSs (cxOf CX P w K mg base N qual scope f cdv A out s H E) body t ∧ t { nx := fun _ H' => Q .non H', rt := Q } (L2.start N vs) H) : FnG P w K mg base CX (k + 1) f fd ps sp := by
  obtain ⟨oc, od, dV, kV, doc, pm, an, cdv, ct, osl, rfl, lk, hcd, _, _⟩ := F.ex
  refine ⟨hln, fun A out s H ar us vs Q E hr hgd e0 hbd r hsp => ?_⟩
  have hl := hln _ _ _ _ hsp
  have kk : ∀ (b : Addr) (o : Obj), base.get? b = some o → s.heap.get? b = some o := fun b o e => (e0.bs b o e).1
  have KX : K.In s.heap := e0.mod.kin.keeps kk
  have lim := e0.mod.nolimit.keeps kk
  refine codeAny_call_function hr.depth (KX _ _ lk) rfl S.co S.gen rfl (PySem.W.codeRec_of KX hcd) (hbd _ _ _ _ ?_)
  refine wpAny_newFunctionEnv_cells S.kind (fun ⟨n, v⟩ hy => ?_) fun env he s1 hx => ?_
  · rcases S.par n (List.of_mem_zip hy).1 with z | z
    · exact .inl z
    · exact .inr ⟨z, PySem.W.cellsFrom_some _ _ _ (.inl z)⟩
  · subst he
    refine ⟨lim.keeps hx.toInCall.keep, codeAny_func ?_⟩
    obtain ⟨t, ht, hq⟩ := hb cdv A out s H vs Q E (hr.deeper _) hgd hsp
    have I : Inv (cxOf CX P w K mg base N qual scope f cdv A out s H E) [] (L2.start N vs) H s1 := inv_start S hr.hd e0 hl r hx
    refine wpAny_mono (ht.run [] s1 (L2.start N vs) H _ I hq) (fun fl s' hs => ?_) fun _ _ z => z
    match fl, hs with
    | .ret u, ⟨v, _, H', J, rv, q⟩ => exact ⟨v, H', J.os, J.bare, J.base, J.hok, rv, q⟩
    | .next, ⟨_, H', J, q⟩ => exact ⟨V.non, H', J.os, J.bare, J.base, J.hok, rfl, q⟩
    | .brk, ⟨_, _, _, q⟩ => exact False.elim q
    | .cont, ⟨_, _, _, q⟩ => exact False.elim q
/-- THE RULE: a def of the text, by its body's meaning -/
theorem fn_m (F : FunD K x qual params body scope dvs kws f fd) (S : FnScope N ps scope) (hb : ∀ (cdv : Value) (A : Around) (out : List Env) (s : Shared) (H : Hp) (E : XK), Room k (A.deeper (envOfC qual scope s.heap.objs.size f cdv)) → A.guards = some [] →
      PSs (cxOf CX P w K mg base N qual scope f cdv A out s H E) body (tS c (wx E) b)) : FnG P w K mg base CX (k + 1) f fd ps (spM c wx ps.length (runB N.length b)) := by
  refine fnG_of F S (fun vs H Q E h => h.1) fun cdv A out s H vs Q E hr hgd h => ⟨_, hb cdv A out s H E hr hgd, ?_⟩
  obtain ⟨_, ds, st, bs, rl, r, p⟩ := h
  refine ⟨startE N.length ds, st, bs, rl, start_RE N r, p.bnd.imp fun y st1 bs1 H1 e1 rl1 p1 σ1 re1 => ?_⟩
  obtain ⟨fl, ρ1⟩ := y
  cases fl with
  | nx => exact p1.now rl1 _ .non
  | rt d => exact fun v rv => p1.now rl1 v rv
  | bk => exact p1.elim
  | ct => exact p1.elim
end
/-- a call of a def -/
def calE (g : MA) (m : List D → M D) : ME := fun ρ => bnd (g ρ) m
section
variable {X : Cx} {CX : CXT} {k n : Nat} {f : Addr} {fd : FuncData} {ps : List Str} {E : XK} {x : Str} {p pos : Pos} {e : Expr} {es : List Expr} {c : Ct} {wx : XK → Wh} {ex : Wh} {g : MA} {m : List D → M D}
theorem RDs.len2 {bs : List Addr} {H : Hp} {vs : List V} {ds : List D} (r : RDs c bs H vs ds) : vs.length = ds.length := r.length
/-- as many as it takes -/
def ofLen (n : Nat) (m : List D → M D) : List D → M D := fun ds => if ds.length = n then m ds else no
theorem md_call (F : FnG X.prog X.w X.K X.mg X.base CX k f fd ps (spM c wx n m)) (hr : Room k X.A) (hgd : X.A.guards = some []) (hg : Gl X x) (hm : X.mg x = some (.ref f)) (hk : PySem.W.keepIn X.K (.ref f) = true) (hb : Binds X.K fd ps []) (hx : Passes CX X E) (hE : wx E = ex)
    (ha : PA X (e :: es) (tA c ex g)) (hdb : (x == ("__debug__" : Str)) = false := by decide) (he : starEach (e :: es) X.env = (false, eval e X.env) :: starEach es X.env := by rfl) (hpl : (backTo pos (starEach es X.env)).any (·.1) = false := by rfl) :
    PE X (.Call (.Name x p) (e :: es) [] pos) (tE c ex (calE g (ofLen n m))) := PE_imp (pe_callG F hr hgd hg hm hk hb .nil hx ha hdb he hpl) fun σ H Q q => by
  obtain ⟨ρ, st, bs, rl, re, q⟩ := q
  refine ⟨ρ, st, bs, rl, re, q.bnd.imp fun ds st1 bs1 H1 e1 rl1 q1 vs rvs => ?_⟩
  obtain ⟨hn, q1⟩ := Post.iff (m := m ds) q1
  subst hE
  rw [List.append_nil]
  exact ⟨by rw [rvs.length]; exact hn, ds, st1, bs1, rl1, rvs, q1⟩
theorem md_call0 (F : FnG X.prog X.w X.K X.mg X.base CX k f fd ps (spM c wx 0 m)) (hr : Room k X.A) (hgd : X.A.guards = some []) (hg : Gl X x) (hm : X.mg x = some (.ref f)) (hk : PySem.W.keepIn X.K (.ref f) = true) (hb : Binds X.K fd ps []) (hx : Passes CX X E) (hE : wx E = ex)
    (hdb : (x == ("__debug__" : Str)) = false := by decide) : PE X (.Call (.Name x p) [] [] pos) (tE c ex (calE nilA m)) := PE_imp (pe_callG0 F hr hgd hg hm hk hb .nil hx hdb) fun σ H Q q => by
  obtain ⟨ρ, st, bs, rl, re, q⟩ := q
  subst hE
  refine q.bnd.now rl |> fun q1 => ?_
  exact ⟨rfl, [], st, bs, rl, .nil, q1⟩
end
/-- what is never reached -/
def nevS : MS := fun _ => no
theorem ms_never {X : Cx} {c : Ct} {ex : Wh} {s : Stmt} : PS X s (tS c ex nevS) := PS_imp ps_never fun E σ H q => by
  obtain ⟨ρ, st, bs, rl, re, p⟩ := q
  exact p.elim
end Pm
end
section
set_option Elab.async false
set_option linter.all false
set_option maxRecDepth 100000
set_option maxHeartbeats 2000000
namespace Pm
open PySem PySem.Spec PyProof.Rows L2

/-! ### the law's end, where the caller has no repr running -/
theorem endG {P : Program} {w : World} {K : PySem.W.Frag} {mg mb : Str → Option Value} {CX : CXT} {k : Nat} {fa a : Addr} {fd : FuncData} {x : Str} {sp : Sp} {s1 : Shared} {vs : List Value} {ns : List Int} (KX : K.In s1.heap) (hns : s1.heap.Ns mainGlobals mg)
    (hb : s1.heap.Ns builtinsNs mb) (hbb : ∀ x : Str, x ≠ "__name__" → mb x = bootBuiltins x) (hlim : s1.heap.NoLimit) (hg : s1.gens = #[]) (ha : s1.heap.get? a = some { cls := .type "list", data := .seq vs.toArray }) (hi : IntsAre vs ns) (hl : ns.length ≤ sizeLine) (hr : Room k callerA)
    (F : ∀ base : Heap, K.In base → base.Ns mainGlobals mg → FnG P w K mg base CX k fa fd [x] sp) (hbind : ∀ (s : Shared) (u : Value), BindsTo s fd ⟨[u], []⟩ [(x, u)]) (hsp : ∀ H : Hp, (∀ o, H a = some o → ∃ ob, o = .frz ob (.lst (ns.map V.int))) → (∀ b, b ≠ a → H b = none) → SqL K H a (ns.map V.int) → ((H a = none) → ∀ H', SqL K H' a (ns.map V.int)) → sp [.ref a] H (fun v _ => v = .bl true) fun _ _ _ => False)
    (hCX : ∀ H e s', CX [] H s1 (fun _ _ _ => False) e s' → False) :
    codeAny (model P w) callerA (.call (.ref fa) ⟨[.ref a], []⟩) (fun r s' => r = .ok (.ret (.bool true)) ∧ OldK s1.heap s'.heap ∧ s'.os = s1.os ∧ AllBare s'.gens) s1 := by
  have rv := vals_ints hi
  have hv := hi.length
  have main : ∀ H : Hp, (∀ o, H a = some o → ∃ ob, o = HO.frz ob (.lst (ns.map V.int))) → (∀ b, b ≠ a → H b = none) → SqL K H a (ns.map V.int) → ((H a = none) → ∀ H', SqL K H' a (ns.map V.int)) → HOk P w H s1.heap → (H a ≠ none → K.lookup a = none) →
      codeAny (model P w) callerA (.call (.ref fa) ⟨[.ref a], []⟩) (fun r s' => r = .ok (.ret (.bool true)) ∧ OldK s1.heap s'.heap ∧ s'.os = s1.os ∧ AllBare s'.gens) s1 := by
    intro H hf hA hS hS2 hok hK
    have only : ∀ {b : Addr} {u : HO}, H b = some u → b = a := fun {b u} e => Classical.byContradiction fun n => by rw [hA b n] at e; cases e
    have dn : ∀ {b : Addr} {o : Obj} {es : Array DictEntry} {ep : Nat}, s1.heap.get? b = some o → o.data = .dict es ep → H b = none := fun {b o es ep} e d => by
      cases q : H b with
      | none => rfl
      | some u =>
        have z := only q
        subst z
        rw [ha] at e; cases e; cases d
    have nsK : ∀ {b : Addr} {m : Str → Option Value}, s1.heap.Ns b m → (hidT s1.heap H).Ns b m := fun {b m} ⟨o, es, ep, e, d, r⟩ => ⟨o, es, ep, hidT_get e (dn e d), d, r⟩
    have hKb : K.In (hidT s1.heap H) := fun b o e => hidT_get (KX b o e) (by
      cases q : H b with
      | none => rfl
      | some u =>
        have z := only q
        subst z
        rw [hK (by rw [q]; simp)] at e; cases e)
    have hM : Mod K mg (hidT s1.heap H) := ⟨hKb, nsK hns, ⟨mb, nsK hb, hbb⟩, let ⟨mc, h1, h2⟩ := hlim; ⟨mc, nsK h1, h2⟩⟩
    have e0 : Env0 P w K mg (hidT s1.heap H) callerA [] s1 H := ⟨rfl, hM, fun b o e => of_hidT e, Nat.le_of_eq (hidT_size _ _), trivial, (fun b hb => by cases hb), hok, .of_eq hg⟩
    have run := (F _ hKb (nsK hns)).go callerA [] s1 H ⟨[.ref a], []⟩ [.ref a] [.ref a] _ _ hr rfl e0 (hbind s1 (.ref a)) (.cons rfl .nil) (hsp H hf hA hS hS2)
    refine codeAny_mono run fun r s' h => ?_
    match r, h with
    | .error e, h => exact (hCX H e s' h).elim
    | .ok (.ret u), ⟨v, H', os, bare, un, hok', r', q⟩ =>
      have q : v = .bl true := q
      subst q
      have r' : u = Value.bool true := r'
      subst r'
      refine ⟨rfl, OldK.of_keep fun b o e => ?_, os, bare⟩
      cases q : H b with
      | none => exact un.keep b o e q (fun z => nomatch z) (by simp)
      | some u =>
        have z := only q
        subst z
        obtain ⟨ob, rfl⟩ := hf u q
        have z2 := un.frzs b ob _ q
        have e1 := (hok b _ q).1
        have e2 := (hok' b _ z2).1
        rw [e] at e1; cases e1
        exact e2
  cases hk : K.lookup a with
  | some o =>
    have e := KX a o hk
    rw [ha] at e
    cases e
    have sq : ∀ H' : Hp, SqL K H' a (ns.map V.int) := fun H' => .inr ⟨_, vs.toArray, _, hk, rfl, rfl, rfl, by rw [List.size_toArray, hv]; exact hl, by simpa using rv⟩
    exact main (fun _ => none) (fun o z => by cases z) (fun _ _ => rfl) (sq _) (fun _ => sq) (fun b u z => by cases z) fun z => absurd rfl z
  | none =>
    have at_ : (fun b => if b = a then some (HO.frz { cls := .type "list", data := .seq vs.toArray } (.lst (ns.map V.int))) else none) a = some (HO.frz { cls := .type "list", data := .seq vs.toArray } (.lst (ns.map V.int))) := if_pos rfl
    refine main (fun b => if b = a then some (HO.frz { cls := .type "list", data := .seq vs.toArray } (.lst (ns.map V.int))) else none) (fun o z => ?_) (fun b n => if_neg n) (.inl (.inr ⟨_, at_⟩)) (fun z => ?_) (fun b u z => ?_) fun _ => hk
    · have z := at_.symm.trans z
      cases z
      exact ⟨_, rfl⟩
    · have z := at_.symm.trans z
      cases z
    · by_cases hb : b = a
      · have z := (if_pos hb).symm.trans z
        cases z
        subst hb
        exact ⟨ha, by rw [List.length_map]; exact hl, vs, _, rv, ha⟩
      · have z := (if_neg hb).symm.trans z
        cases z
/-- a law by its meaning -/
theorem walkG {l : PySem.W.OpenLaw} {n k : Nat} {q : Program} {loose : List Str} {XP : (Str → Option Value) → Heap → Prop} {YP : World → Heap → Prop} {d : DefRec} {CX : World → CXT} {x : Str} {m : List Int → List D → M D} (hn : l.most = some n) (hn2 : n ≤ sizeLine) (hdf : d.params.defaults = []) (hr : Room k callerA)
    (F : ∀ (w : World) (mg : Str → Option Value) (fa : Addr) (h : Heap), YP w h → h.Ns mainGlobals mg → mg d.name = some (.ref fa) → ∃ (K : PySem.W.Frag) (fd : FuncData) (cl : Str → Option Addr), K.In h ∧ (∀ (s : Shared) (u : Value), BindsTo s fd ⟨[u], []⟩ [(x, u)]) ∧
        ∀ (sa : Addr) (ns : List Int) (base : Heap), K.In base → base.Ns mainGlobals mg → FnG l.prog w K mg base (CX w) k fa fd [x] (spM ⟨K, sa, ns, cl⟩ (fun _ => exF) 1 (m ns)))
    (hm : ∀ ns : List Int, ns.length ≤ n → ∃ st, m ns [.scr] [] = .ok (.bl true) st) (hCX : ∀ (w : World) (H : Hp) (s : Shared) (e : Value) (s' : Shared), CX w [] H s (fun _ _ _ => False) e s' → False) : PySem.W.WalkO q loose XP YP l.row.toRowW d [] (fun f vs => PySem.call f vs) := by
  refine Att.attach_call hn hdf fun w s0 s1 mg mb fa o pm cd doc a vs ns G Y ho hd hcd hmg hobj hints hlen hg => ?_
  obtain ⟨K, fd, cl, KX, hb, hF⟩ := F w mg fa _ Y G.T.g hmg
  refine endG KX G.T.g G.T.b G.T.builtins G.T.nolimit hg hobj hints (Nat.le_trans hlen hn2) hr (hF a ns) hb (fun H hf hA hS hS2 => ?_) fun H e s' => hCX w H s1 e s'
  obtain ⟨st, e⟩ := hm ns hlen
  refine ⟨rfl, [.scr], [], [], ⟨rfl, fun l a o h => by simp at h, List.nodup_nil, ?_⟩, .cons .scr .nil, ?_⟩
  · cases q : H a with
    | none => exact .inr (hS2 q)
    | some o =>
      obtain ⟨ob, rfl⟩ := hf o q
      exact .inl ⟨ob, q⟩
  · rw [e]
    intro bs' H' _ _ v r
    cases r
    rfl
end Pm
end
section
set_option Elab.async false
set_option linter.all false
set_option maxRecDepth 100000
namespace Pm
open PySem PySem.Spec PyProof.Rows L2
/-! ### keywords -/
def permL {α : Type} (ix : List Nat) (zs : List α) : List α := ix.filterMap fun i => zs[i]?
theorem permL_vals {vs : List V} {us : List Value} (r : Vals vs us) : ∀ ix : List Nat, Vals (permL ix vs) (permL ix us)
  | [] => .nil
  | i :: ix => by
    unfold permL
    rw [List.filterMap_cons, List.filterMap_cons]
    cases e : vs[i]? with
    | none =>
      rw [Vals.none_of r e]
      exact permL_vals r ix
    | some v =>
      obtain ⟨u, hu, rv⟩ := r.get e
      rw [hu]
      exact .cons rv (permL_vals r ix)
theorem permL_RDs {c : Ct} {bs : List Addr} {H : Hp} {vs : List V} {ds : List D} (r : RDs c bs H vs ds) : ∀ ix : List Nat, RDs c bs H (permL ix vs) (permL ix ds)
  | [] => .nil
  | i :: ix => by
    unfold permL
    rw [List.filterMap_cons, List.filterMap_cons]
    cases e : ds[i]? with
    | none =>
      have e2 : vs[i]? = none := by
        rw [List.getElem?_eq_none_iff] at e ⊢
        rw [r.length]; exact e
      rw [e2]
      exact permL_RDs r ix
    | some d =>
      obtain ⟨v, hv, rv⟩ := r.get e
      rw [hv]
      exact .cons rv (permL_RDs r ix)
/-- how keywords alone bind -/
def KB (K : PySem.W.Frag) (fd : FuncData) (ps ks : List Str) (ix : List Nat) : Prop := ∀ (s : Shared) (ws : List Value), K.In s.heap → ws.length = ks.length → BindsTo s fd ⟨[], ks.zip ws⟩ (ps.zip (permL ix ws))
theorem kb_of {K : PySem.W.Frag} {x qual : Str} {params : Arguments} {body : List Stmt} {scope : Scope} {kws : List (Str × V)} {f : Addr} {fd : FuncData} {ps ks : List Str} {ix : List Nat} (F : FunD K x qual params body scope [] kws f fd)
    (h : ∀ (kV doc pm : Value) (an : Option Addr) (cdv ct : Value) (ws : List Value), ws.length = ks.length → bindArgs (PySem.W.fnOf x qual params body scope .none kV doc pm an cdv ct) ⟨[], ks.zip ws⟩ = pure (ps.zip (permL ix ws))) : KB K fd ps ks ix := by
  obtain ⟨oc, od, dV, kV, doc, pm, an, cdv, ct, osl, rfl, lk, hcd, hD, hK⟩ := F.ex
  rcases hD with ⟨_, rfl⟩ | ⟨e, _⟩
  · exact fun s ws _ hl => .of_eq (h kV doc pm an cdv ct ws hl)
  · exact absurd rfl e
section
variable {X : Cx} {CX : CXT} {k n : Nat} {f : Addr} {fd : FuncData} {ps ks : List Str} {ix : List Nat} {sp : Sp} {E : XK} {x : Str} {p pos kpos : Pos} {e : Expr} {kws : List Keyword} {c : Ct} {wx : XK → Wh} {ex : Wh} {f1 : ME} {g : MA} {m : List D → M D} {nm : Option Str}
theorem mk_nil : PK X [] (tA c ex nilA) := ⟨fun pos pins s σ H Q I q => by
  obtain ⟨ρ, st, bs, rl, re, p⟩ := q
  exact pk_nil.run pos pins s σ H Q I (p.now rl [] .nil)⟩
theorem mk_cons (ha : PE X e (tE c ex f1)) (hr : PK X kws (tA c ex g)) : PK X (⟨nm, e, kpos⟩ :: kws) (tA c ex (conA f1 g)) := ⟨fun pos pins s σ H Q I q => by
  refine (pk_cons ha hr).run pos pins s σ H Q I ?_
  obtain ⟨ρ, st, bs, rl, re, p⟩ := q
  refine ⟨ρ, st, bs, rl, re, p.bnd.imp fun d st1 bs1 H1 e1 rl1 p1 v rv => ?_⟩
  exact ⟨ρ, st1, bs1, rl1, re.ext e1, p1.bnd.imp fun ds st2 bs2 H2 e2 rl2 p2 vs rvs => p2.now rl2 _ (.cons (rv.ext e2) rvs)⟩⟩
def kwE (ix : List Nat) (nk : Nat) (g : MA) (m : List D → M D) : ME := fun ρ => bnd (g ρ) fun zs => if zs.length = nk then m (permL ix zs) else no
theorem md_callK0 (F : FnG X.prog X.w X.K X.mg X.base CX k f fd ps (spM c wx n m)) (hr : Room k X.A) (hgd : X.A.guards = some []) (hg : Gl X x) (hm : X.mg x = some (.ref f)) (hk : PySem.W.keepIn X.K (.ref f) = true) (hb : KB X.K fd ps ks ix) (hx : Passes CX X E) (hE : wx E = ex)
    (hkw : PK X kws (tA c ex g)) (hix : ∀ zs : List D, zs.length = ks.length → (permL ix zs).length = n) (hn : n = ps.length) (hall : (backToKw pos (keywordEach kws X.env)).all (·.1.isSome) = true := by rfl) (hks : (backToKw pos (keywordEach kws X.env)).filterMap (·.1) = ks := by rfl) (hdb : (x == ("__debug__" : Str)) = false := by decide)
    (hpl : (backToKw pos (keywordEach kws X.env)).any (·.1.isNone) = false := by rfl) :
    PE X (.Call (.Name x p) [] kws pos) (tE c ex (kwE ix ks.length g m)) := ⟨fun pins s σ H Q I q => by
  refine wpAny_Call_Name_kw (ld_glob I hg hm ?_ hdb)
  obtain ⟨ρ, st, bs, rl, re, q⟩ := q
  have rd : tA c ex g σ H fun zs H1 => zs.length = ks.length ∧ spM c wx n m (permL ix zs) H1 Q E := by
    refine ⟨ρ, st, bs, rl, re, q.bnd.imp fun ds st1 bs1 H1 e1 rl1 q1 vs rvs => ?_⟩
    obtain ⟨hl, q1⟩ := Post.iff (m := m (permL ix ds)) q1
    have r2 := permL_RDs rvs ix
    subst hE
    exact ⟨by rw [rvs.length]; exact hl, by rw [r2.length]; exact hix ds hl, permL ix ds, st1, bs1, rl1, r2, q1⟩
  refine PySem.W.callWith_KW0 (h₀ := X.base) I.ok.mod.kin hk hall (thn (hkw.run pos pins s σ H _ I rd) fun ws s2 ⟨zs, H2, I2, rz, hz, q2⟩ => ⟨I2.kIn, ?_⟩) (by rw [hpl]; rfl)
  rw [hks]
  have r2 := permL_vals rz ix
  have hw : ws.length = ks.length := by rw [← rz.length]; exact hz
  have run := F.go X.A X.stack s2 H2 ⟨[], ks.zip ws⟩ (permL ix ws) (permL ix zs) Q E hr hgd I2.env0 (hb s2 ws I2.kIn hw) r2 q2
  refine wpAny_call (codeAny_mono run fun r s' hq => ?_)
  match r, hq with
  | .error e, hq => exact hx pins σ H2 s2 e s' I2 hq
  | .ok (.ret u), hq => exact I2.after hq⟩
end
end Pm
end
section
set_option Elab.async false
set_option linter.all false
set_option maxRecDepth 100000
namespace PySem
open AutoSeq1 (wpAny_loadPart')
theorem pm_enumT (l : Addr) (items : Array Value) (n : Nat) (dct : Option Addr) (sl : Array (Option Value)) : Meets (Builtin.«enumerate.__new__» ⟨[.type "enumerate", .ref l], []⟩) (fun _ R s => s.heap.get? l = some { cls := .type "tuple", dict := dct, data := .seq items n, slots := sl } ∧
      R (.ok (.ret (.ref (s.heap.push { cls := .type "tuple_iterator", data := .fields #[.ref l, .int 0 0] }).objs.size))) { s with heap := (s.heap.push { cls := .type "tuple_iterator", data := .fields #[.ref l, .int 0 0] }).push { cls := .type "enumerate", data := .fields #[.none, .bool false, .ref s.heap.objs.size, rawInt 0, .none, .none] } }) := .of_wp fun prog w A R s h => by
  obtain ⟨hp, g, d, tk, os⟩ := s; obtain ⟨hl, h⟩ := h
  have hsub := sub_enumerate
  have hT : Heap.IsTuple (Shared.heap ⟨hp, g, d, tk, os⟩) l items := ⟨_, hl, rfl, n, rfl⟩
  wp_walk using wpAny_loadPart' hl
  refine wpAny_stack_any fun st => wpAny_pure ?_
  split
  · rename_i c _ _ _ _ _
    cases (c == Value.type "enumerate")
    · wp_walk using wpAny_loadPart' hl, wpAny_pyIter_tuple hT
      exact ⟨_, rfl, h⟩
    · wp_walk using wpAny_loadPart' hl, wpAny_pyIter_tuple hT
      exact ⟨_, rfl, h⟩
  · wp_walk using wpAny_loadPart' hl, wpAny_pyIter_tuple hT
    exact ⟨_, rfl, h⟩
end PySem
namespace PySem
section
variable {prog : Program} {w : World} {A : Around} {E : Value → Shared → Prop} {s : Shared}
theorem pm_call_enumT {l : Addr} {items : Array Value} {Q : Value → Shared → Prop} (hL : s.heap.IsTuple l items) (h : ∀ h', IsEnum h' (s.heap.objs.size + 1) s.heap.objs.size 0 .none → h'.IsTupleIter s.heap.objs.size l 0 → (∀ b o, s.heap.get? b = some o → h'.get? b = some o) → Q (.ref (s.heap.objs.size + 1)) { s with heap := h' }) :
    wpAny (model prog w) A (call (.type "enumerate") [.ref l]) Q E s := by
  obtain ⟨⟨c, dct, dt, sl⟩, hl, hc, n, hd⟩ := hL
  have hc : c = .type "tuple" := hc
  have hd : dt = .seq items n := hd
  subst hc hd
  refine callType_new F.called_enumerate (by decide) (F.typeCall_enumerate_1 _) (F.newCall_enumerate_1 _) (fun obj => F.args_object_init_2 obj _) F.entry_enumerate_new (pm_enumT l items n dct sl) ⟨hl, ?_⟩
  have hz : (s.heap.push { cls := .type "tuple_iterator", data := .fields #[.ref l, .int 0 0] }).objs.size = s.heap.objs.size + 1 := Heap.size_push ..
  show _ ∧ _
  rw [hz]
  have he : IsEnum ((s.heap.push { cls := .type "tuple_iterator", data := .fields #[.ref l, .int 0 0] }).push { cls := .type "enumerate", data := .fields #[.none, .bool false, .ref s.heap.objs.size, rawInt 0, .none, .none] }) (s.heap.objs.size + 1) s.heap.objs.size 0 .none := by
    have z := Heap.get?_push_size (s.heap.push { cls := .type "tuple_iterator", data := .fields #[.ref l, .int 0 0] }) (o := { cls := .type "enumerate", data := .fields #[.none, .bool false, .ref s.heap.objs.size, rawInt 0, .none, .none] }) rfl
    rw [hz] at z
    exact z
  exact ⟨⟨_, he, rfl⟩, h _ he ⟨_, Heap.get?_push_of_some _ (Heap.get?_push_size _ rfl), rfl, rfl⟩ fun b o x => Heap.get?_push_of_some _ (Heap.get?_push_of_some _ x)⟩
end
end PySem
namespace Pm
open PySem PySem.Spec PyProof.Rows L2
/-- enumerate(tuple) -/
def ItT (K : PySem.W.Frag) (a : Addr) : It :=
  ⟨fun i H => ∃ xs x, SqT K H a xs ∧ xs[i]? = some x, fun i H v H' => ∃ T x, v = .ref T ∧ H T = none ∧ H' = upd H T (.tup [.int (i : Nat), x]) ∧ ∀ xs, SqT K H a xs → xs[i]? = some x, fun i H => ∃ xs, SqT K H a xs ∧ xs.length = i⟩
theorem turnT {P : Program} {w : World} {K : PySem.W.Frag} {el : List Expr} {kk : Nat} {tp : Pos} (a e it : Addr) : Turn P w K (.Tuple el kk tp) (ItT K a) [e, it] e fun i h => (∃ old, IsEnum h e it ((i : Nat) : Int) old) ∧ h.IsTupleIter it a i ∧ e ≠ it ∧ a ≠ it ∧ a ≠ e where
  mem := List.mem_cons_self
  obj := fun i h z b hb => by
    obtain ⟨⟨old, he⟩, ⟨o, ho, hc, hd⟩, _⟩ := z
    rcases List.mem_cons.mp hb with rfl | hb
    · exact ⟨_, he, fun v q => nomatch q⟩
    · rw [List.mem_singleton.mp hb]
      exact ⟨o, ho, fun v q => by rw [hd] at q; cases q⟩
  keep := fun i h h' z k => by
    obtain ⟨⟨old, he⟩, hi, r⟩ := z
    exact ⟨⟨old, k e (by simp) _ he⟩, hi.at fun o q => k it (by simp) o q, r⟩
  item := by
    intro X hP hw hK hc i pins s σ H E I hf z hg
    subst hP hw hK
    obtain ⟨⟨old, he⟩, hit, hne, hai, hae⟩ := z
    obtain ⟨xs, x, hq, hx⟩ := hg
    obtain ⟨its, rv, p, hz⟩ := I.tuple hq
    obtain ⟨u, hu, ru⟩ := rv.get hx
    have hel := Heap.lt_size he
    have hil : it < s.heap.objs.size := by
      obtain ⟨_, q, _⟩ := hit
      exact Heap.lt_size q
    have dr : Draws X.prog X.w X.A.in1 it [it, a] its.toArray.size _ _ := Draws.tuple (A := X.A.in1) (I.ok.hd hc) it a hai its.toArray
    have hlt : i < its.toArray.size := by
      rw [List.size_toArray]
      exact (List.getElem?_eq_some_iff.mp hu).1
    refine wpAny_pyNext_enum_itemD dr he ⟨hit, p⟩ hlt hne (by simp [hne, Ne.symm hae]) fun y h1 tk hy ho hst hT hsz hk => ?_
    have ey : y = u := by
      rw [List.getElem?_toArray, hu] at hy
      exact (Option.some.inj hy).symm
    subst ey
    refine ⟨_, rfl, wpAny_letOwnedTupleGo_enum (s := { s with heap := h1, toks := tk + 1 }) ho fun h2 he2 sb => ?_⟩
    have hT2 := (sb.2 _ (Nat.ne_of_gt hel)).trans hT
    have nw : ObjOk X.prog X.w (upd H s.heap.objs.size (.tup [.int (i : Nat), x])) h2 s.heap.objs.size (.tup [.int (i : Nat), x]) := ⟨(by decide : 2 ≤ sizeLine), [.int i tk, y], .cons ⟨_, rfl⟩ (.cons ru .nil), ⟨_, hT2, rfl, _, rfl⟩⟩
    have I1 : Inv X pins σ (upd H s.heap.objs.size (.tup [.int (i : Nat), x])) { s with heap := h2, toks := tk + 1 } :=
      I.turnedNew (ch := [e, it]) (fun b ob hb q => by
        have n1 : b ≠ e := fun z => hb (by simp [z])
        have n2 : b ≠ it := fun z => hb (by simp [z])
        exact (sb.2 b n1).trans (hk b ob n1 n2 q)) hf (Nat.le_refl _) nw
    refine ⟨.ref s.heap.objs.size, _, I1, rfl, ⟨_, x, rfl, I.hok.fresh (Nat.le_refl _), rfl, fun ys hy => by rw [I.tuple_inj hy hq]; exact hx⟩, ⟨⟨y, ?_⟩, hst.1.at fun o q => (sb.2 it (Ne.symm hne)).trans q, hne, hai, hae⟩, fun b hb => ?_⟩
    · rw [show ((i + 1 : Nat) : Int) = (i : Int) + 1 by omega]
      exact he2
    · have hb' : b < s.heap.objs.size := by
        rcases List.mem_cons.mp hb with rfl | hb
        · exact hel
        · rw [List.mem_singleton.mp hb]; exact hil
      rw [upd_ne (Nat.ne_of_lt hb')]
      exact (hf b hb).1
  done := by
    intro X hP hw hK hc i pins s σ H E I hf z hg
    subst hP hw hK
    obtain ⟨⟨old, he⟩, hit, hne, hai, hae⟩ := z
    obtain ⟨xs, hq, hx⟩ := hg
    obtain ⟨its, rv, p, hz⟩ := I.tuple hq
    obtain ⟨f0, f1, f2, f3, f4, f5⟩ := hf it (by simp)
    have dr : Draws X.prog X.w X.A.in1 it [it, a] its.toArray.size _ _ := Draws.tuple (A := X.A.in1) (I.ok.hd hc) it a hai its.toArray
    have en : i = its.toArray.size := by rw [List.size_toArray, ← rv.length]; exact hx.symm
    rw [en] at hit
    exact wpAny_pyNext_enum_endD dr he ⟨hit, p⟩ fun h1 eb => ⟨rfl, I.turned (t' := s.toks) (fun b o hb q => eb b o hb q) f0 f1 f3 f4 f5⟩
  self := fun A i s Q E z h => by
    obtain ⟨⟨_, he⟩, _⟩ := z
    exact wpAny_pyIter_enum he h
def iEnT (K : PySem.W.Frag) (ta : TA) : TI := fun σ H R => ta σ H fun vs H1 => ∃ a xs, vs = [.ref a] ∧ SqT K H1 a xs ∧ R (ItT K a) H1
theorem pi_enT {X : Cx} {e : Expr} {ta : TA} {p pos tp : Pos} {el : List Expr} {kk : Nat} (hg : Gl X "enumerate") (hm : X.mg "enumerate" = none) (ha : PA X [e] ta) (hs : starEach [e] X.env = [(false, eval e X.env)] := by rfl) : PI X (.Tuple el kk tp) (.Call (.Name "enumerate" p) [e] [] pos) (iEnT X.K ta) := by
  refine ⟨fun pins s σ H R I h => ?_⟩
  refine Call_ (ld_blt I hg hm boot_enumerate (PyProof.Rows.callWith_type1 (thn (ha.run pos pins s σ H _ I h) fun us s1 ⟨vs, H1, I1, r1, a, xs, ex, hq, q⟩ => ?_) hs rfl))
  subst ex
  cases r1 with
  | cons r rr =>
    cases rr
    cases r
    obtain ⟨its, rv, p', hz⟩ := I1.tuple hq
    have hlt : a < s1.heap.objs.size := p'.lt
    have n1 : a ≠ s1.heap.objs.size := Nat.ne_of_lt hlt
    have n2 : a ≠ s1.heap.objs.size + 1 := Nat.ne_of_lt (Nat.lt_succ_of_lt hlt)
    have n3 : s1.heap.objs.size + 1 ≠ s1.heap.objs.size := Nat.succ_ne_self _
    refine pm_call_enumT p' fun h1 he hit hk => wpAny_pyIter_enum he ?_
    have I2 : Inv X pins σ H1 { s1 with heap := h1 } := I1.kept (t' := s1.toks) hk
    have t0 : (∃ old, IsEnum h1 (s1.heap.objs.size + 1) s1.heap.objs.size (((0 : Nat) : Nat) : Int) old) ∧ h1.IsTupleIter s1.heap.objs.size a 0 ∧ s1.heap.objs.size + 1 ≠ s1.heap.objs.size ∧ a ≠ s1.heap.objs.size ∧ a ≠ s1.heap.objs.size + 1 := ⟨⟨.none, he⟩, hit, n3, n1, n2⟩
    refine ⟨s1.heap.objs.size + 1, [s1.heap.objs.size + 1, s1.heap.objs.size], _, _, H1, rfl, I2, turnT a (s1.heap.objs.size + 1) s1.heap.objs.size, t0, fun b hb => ?_, q⟩
    have hle : s1.heap.objs.size ≤ b := by
      rcases List.mem_cons.mp hb with rfl | hb
      · exact Nat.le_succ _
      · rw [List.mem_singleton.mp hb]
        exact Nat.le_refl _
    exact I1.fpOk hle (I1.hok.fresh hle)

/-! ### the meaning of enumerate -/
section
variable {X : Cx} {c : Ct} {ex : Wh} {pos tp : Pos} {e : Expr} {f : ME} {bs : List Addr} {H : Hp} {el : List Expr} {kk : Nat}
def enumD (xs : List D) : List D := (List.range xs.length).filterMap fun i => (xs[i]?).map fun x => .tup [.int (i : Nat), x]
theorem enumD_get {xs : List D} {i : Nat} (h : i < xs.length) : (xs.zipIdx.map fun p => D.tup [.int (p.2 : Nat), p.1])[i]? = some (.tup [.int (i : Nat), xs[i]]) := by
  simp [h]
def enuI (f : ME) : MI := fun ρ => bnd (f ρ) fun d => match d with
  | .tup xs => ret ⟨xs.zipIdx.map fun p => .tup [.int (p.2 : Nat), p.1], fun _ => true⟩
  | _ => no
theorem wk_enT {a : Addr} {vs : List V} {xs : List D} (s : SqT c.K H a vs) (r : RDs c bs H vs xs) : Wk c ⟨xs.zipIdx.map fun p => .tup [.int (p.2 : Nat), p.1], fun _ => true⟩ bs H (ItT c.K a) := by
  refine ⟨fun i H' hi ⟨st, bs', e, _, _⟩ => ?_, fun H' ⟨st, bs', e, _, _⟩ => ?_, fun i H' v H2 hi ⟨st0, bs0, e0, _, _⟩ y st bs' e rl _ => ?_⟩
  · have hi : i < vs.length := by rw [r.length]; simpa using hi
    exact ⟨vs, vs[i], e.sqT s, List.getElem?_eq_getElem hi⟩
  · exact ⟨vs, e.sqT s, by rw [r.length]; simp⟩
  · obtain ⟨T, x, rfl, hT, rfl, y⟩ := y
    obtain ⟨d, hd, rd⟩ := r.getV (y vs (e.sqT s))
    obtain ⟨e2, rl2⟩ := rl.fresh hT (.tup [.int (i : Nat), x])
    have hi2 : i < xs.length := by simpa using hi
    rw [List.getElem?_eq_getElem hi2] at hd
    cases hd
    exact ⟨e2, rl2, _, enumD_get hi2, .tup (SqT.of upd_same) (.cons (.int _) (.cons ((rd.ext e).ext e2) .nil))⟩
theorem mi_enu (hK : X.K = c.K) (hg : Gl X "enumerate") (hm : X.mg "enumerate" = none) (ha : PE X e (tE c ex f)) (hs : starEach [e] X.env = (false, eval e X.env) :: starEach [] X.env := by rfl) (hs2 : starEach [e] X.env = [(false, eval e X.env)] := by rfl) {p : Pos} :
    PI X (.Tuple el kk tp) (.Call (.Name "enumerate" p) [e] [] pos) (tI c ex (enuI f)) := PI_imp (pi_enT hg hm (pa_cons ha pa_nil hs) hs2) fun σ H R q => by
  obtain ⟨ρ, st, bs, rl, re, p⟩ := q
  refine ⟨ρ, st, bs, rl, re, p.bnd.imp fun d st1 bs1 H1 e1 rl1 p1 v rv => ?_⟩
  cases rv with
  | tup s r => exact ⟨_, _, rfl, by rw [hK]; exact s, by rw [hK]; exact p1.now rl1 _ (wk_enT s r)⟩
  | _ => exact p1.elim
end
end Pm
end
section
set_option Elab.async false
set_option linter.all false
set_option maxRecDepth 100000
namespace Pm
open PySem PySem.Spec PyProof.Rows L2
abbrev wF : XK → Wh := fun _ => exF
/-- a def that may be called: its meaning -/
structure Cal (P : Program) (w : World) (K : PySem.W.Frag) (mg : Str → Option Value) (base : Heap) (c : Ct) (x : Str) (n k : Nat) (m : List D → M D) : Prop where
  ex : ∃ f fd ps, FnG P w K mg base (L2.CX P w) k f fd ps (spM c wF n m) ∧ mg x = some (.ref f) ∧ PySem.W.keepIn K (.ref f) = true ∧ Binds K fd ps []
/-- .. by keywords alone -/
structure CalK (P : Program) (w : World) (K : PySem.W.Frag) (mg : Str → Option Value) (base : Heap) (c : Ct) (x : Str) (n k : Nat) (m : List D → M D) (ks : List Str) (ix : List Nat) : Prop where
  ex : ∃ f fd ps, FnG P w K mg base (L2.CX P w) k f fd ps (spM c wF n m) ∧ mg x = some (.ref f) ∧ PySem.W.keepIn K (.ref f) = true ∧ KB K fd ps ks ix ∧ n = ps.length
section
variable {X : Cx} {j k n : Nat} {x : Str} {p pos : Pos} {e : Expr} {es : List Expr} {c : Ct} {g : MA} {m : List D → M D} {kws : List Keyword} {ks : List Str} {ix : List Nat}
theorem md_c (C : Cal X.prog X.w X.K X.mg X.base c x n j m) (hr : Room k X.A) (hj : j ≤ k) (hgd : X.A.guards = some []) (hg : Gl X x) (ha : PA X (e :: es) (tA c exF g)) (hdb : (x == ("__debug__" : Str)) = false := by decide)
    (he : starEach (e :: es) X.env = (false, eval e X.env) :: starEach es X.env := by rfl) (hpl : (backTo pos (starEach es X.env)).any (·.1) = false := by rfl) : PE X (.Call (.Name x p) (e :: es) [] pos) (tE c exF (calE g (ofLen n m))) := by
  obtain ⟨f, fd, ps, F, hm, hk, hb⟩ := C.ex
  exact md_call F (hr.mono hj) hgd hg hm hk hb passL rfl ha hdb he hpl
theorem md_c0 (C : Cal X.prog X.w X.K X.mg X.base c x 0 j m) (hr : Room k X.A) (hj : j ≤ k) (hgd : X.A.guards = some []) (hg : Gl X x) (hdb : (x == ("__debug__" : Str)) = false := by decide) : PE X (.Call (.Name x p) [] [] pos) (tE c exF (calE nilA m)) := by
  obtain ⟨f, fd, ps, F, hm, hk, hb⟩ := C.ex
  exact md_call0 F (hr.mono hj) hgd hg hm hk hb passL rfl hdb
theorem md_ck (C : CalK X.prog X.w X.K X.mg X.base c x n j m ks ix) (hr : Room k X.A) (hj : j ≤ k) (hgd : X.A.guards = some []) (hg : Gl X x) (hkw : PK X kws (tA c exF g)) {nk : Nat} (hix : ∀ zs : List D, zs.length = nk → (permL ix zs).length = n) (hnk : ks.length = nk := by rfl) (hall : (backToKw pos (keywordEach kws X.env)).all (·.1.isSome) = true := by rfl) (hks : (backToKw pos (keywordEach kws X.env)).filterMap (·.1) = ks := by rfl)
    (hdb : (x == ("__debug__" : Str)) = false := by decide) (hpl : (backToKw pos (keywordEach kws X.env)).any (·.1.isNone) = false := by rfl) : PE X (.Call (.Name x p) [] kws pos) (tE c exF (kwE ix nk g m)) := by
  obtain ⟨f, fd, ps, F, hm, hk, hb, hn⟩ := C.ex
  subst hnk
  exact md_callK0 F (hr.mono hj) hgd hg hm hk hb passL rfl hkw hix hn hall hks hdb hpl
theorem md_gint {i : Int} {ex : Wh} (h : ∃ t, X.mg x = some (.int i t)) (hg : Gl X x) (hd : (x == ("__debug__" : Str)) = false := by decide) : PE X (.Name x pos) (tE c ex (kon (.int i))) := by
  obtain ⟨t, h⟩ := h
  exact md_glob (v := .int i) hg h ⟨t, rfl⟩ (fun _ _ => .int i) hd
end
section
variable {P : Program} {w : World} {K : PySem.W.Frag} {mg : Str → Option Value} {base : Heap} {k : Nat} {f : Addr} {fd : FuncData} {N ps ks : List Str} {ix : List Nat} {c : Ct} {b : MS} {x : Str} {st : Stmt}
abbrev FnP (K : PySem.W.Frag) (x : Str) (st : Stmt) (f : Addr) (fd : FuncData) : Prop := FunD K x x (defArgs st) (defBody st) (defScope st) [] [] f fd
theorem cal_of {n : Nat} {m : List D → M D} (F : FnP K x st f fd) (g : mg x = some (.ref f)) (hb : Binds K fd ps []) (G : FnG P w K mg base (L2.CX P w) k f fd ps (spM c wF n m)) : Cal P w K mg base c x n k m := ⟨f, fd, ps, G, g, F.kp, hb⟩
theorem calK_of {n : Nat} {m : List D → M D} (F : FnP K x st f fd) (g : mg x = some (.ref f)) (hb : KB K fd ps ks ix) (G : FnG P w K mg base (L2.CX P w) k f fd ps (spM c wF n m)) (hn : n = ps.length := by rfl) : CalK P w K mg base c x n k m ks ix := ⟨f, fd, ps, G, g, F.kp, hb, hn⟩
theorem pass_own {P : Program} {w : World} {K : PySem.W.Frag} {mg : Str → Option Value} {base : Heap} {N : List Str} {qual : Str} {scope : Scope} {f : Addr} {cd : Value} {A : Around} {out : List Env} {s : Shared} {H : Hp} {E : XK} :
    PassesOwn (model P w) (cxOf (L2.CX P w) P w K mg base N qual scope f cd A out s H E).A (cxOf (L2.CX P w) P w K mg base N qual scope f cd A out s H E).env (cxOf (L2.CX P w) P w K mg base N qual scope f cd A out s H E).xe := passes_of (X := cxOf (L2.CX P w) P w K mg base N qual scope f cd A out s H E) rfl
end
end Pm
end
section
set_option Elab.async false
set_option linter.all false
set_option maxRecDepth 100000
namespace Pm
open PySem L2

/-! ### the mathematics of meanings -/
def wp {α : Type} (m : M α) (st : Sto) (Q : α → Sto → Prop) : Prop := match m st with
  | .ok a st' => Q a st'
  | _ => False
section
variable {α β : Type} {m : M α} {f : α → M β} {st st' : Sto} {a : α} {l : Nat} {xs : List D}
@[simp] theorem wp_ret {Q : α → Sto → Prop} : wp (ret a) st Q = Q a st := rfl
@[simp] theorem wp_no {Q : α → Sto → Prop} : wp no st Q = False := rfl
@[simp] theorem wp_bnd {Q : β → Sto → Prop} : wp (bnd m f) st Q = wp m st fun a st' => wp (f a) st' Q := by
  unfold wp bnd
  cases m st <;> rfl
@[simp] theorem bnd_ret : bnd (ret a) f = f a := rfl
@[simp] theorem bnd_no : bnd (no : M α) f = no := rfl
@[simp] theorem bnd_bnd {γ : Type} {g : β → M γ} : bnd (bnd m f) g = bnd m fun x => bnd (f x) g := by
  funext st
  show bnd (bnd m f) g st = bnd m (fun x => bnd (f x) g) st
  unfold bnd
  cases m st <;> rfl
@[simp] theorem ret_ap : (ret a : M α) st = .ok a st := rfl
@[simp] theorem bnd_ite {p : Prop} [Decidable p] {m' : M α} : bnd (if p then m else m') f = if p then bnd m f else bnd m' f := by split <;> rfl
@[simp] theorem wp_ite {p : Prop} [Decidable p] {m' : M α} {Q : α → Sto → Prop} : wp (if p then m else m') st Q = if p then wp m st Q else wp m' st Q := by split <;> rfl
@[simp] theorem wp_alloc {Q : D → Sto → Prop} : wp (alloc xs) st Q = Q (.loc st.length) (st ++ [.lst xs]) := rfl
theorem wp_lst {Q : List D → Sto → Prop} (h : st[l]? = some (.lst xs)) : wp (lst l) st Q = Q xs st := by
  unfold wp lst
  rw [h]
@[simp] theorem wp_put {Q : Unit → Sto → Prop} : wp (put l xs) st Q = Q () (st.set l (.lst xs)) := rfl
@[simp] theorem wp_lst_new {Q : List D → Sto → Prop} : wp (lst st.length) (st ++ [.lst xs]) Q = Q xs (st ++ [.lst xs]) := wp_lst (by simp)
@[simp] theorem wp_nox {Q : α → Sto → Prop} : wp (nox m) st Q = wp m st Q := by
  unfold wp nox
  cases m st <;> rfl
theorem wp_mono {Q Q' : α → Sto → Prop} (h : wp m st Q) (i : ∀ a st', Q a st' → Q' a st') : wp m st Q' := by
  unfold wp at h ⊢
  cases e : m st with
  | ok a st' => rw [e] at h; exact i a st' h
  | exc => rw [e] at h; exact h
  | stuck => rw [e] at h; exact h
theorem wp_ok {Q : α → Sto → Prop} (h : wp m st Q) : ∃ a st', m st = .ok a st' ∧ Q a st' := by
  unfold wp at h
  cases e : m st with
  | ok a st' => rw [e] at h; exact ⟨a, st', rfl, h⟩
  | exc => rw [e] at h; exact h.elim
  | stuck => rw [e] at h; exact h.elim
/-- what stays -/
def Fr (S : List Nat) (st st' : Sto) : Prop := st.length ≤ st'.length ∧ ∀ k, k < st.length → k ∉ S → st'[k]? = st[k]?
theorem Fr.refl {S : List Nat} : Fr S st st := ⟨Nat.le_refl _, fun _ _ _ => rfl⟩
theorem Fr.trans {S : List Nat} {st'' : Sto} (a : Fr S st st') (b : Fr S st' st'') : Fr S st st'' := ⟨Nat.le_trans a.1 b.1, fun k h n => (b.2 k (Nat.lt_of_lt_of_le h a.1) n).trans (a.2 k h n)⟩
theorem Fr.mono {S S' : List Nat} (a : Fr S st st') (h : ∀ k ∈ S, k < st.length → k ∈ S') : Fr S' st st' := ⟨a.1, fun k hk n => a.2 k hk fun z => n (h k z hk)⟩
theorem Fr.new {S : List Nat} (g : Sto) : Fr S st (st ++ g) := ⟨by simp, fun k h _ => List.getElem?_append_left h⟩
theorem Fr.set {o : O} : Fr [l] st (st.set l o) := ⟨by simp, fun k _ n => List.getElem?_set_ne fun z => n (by simp [z])⟩
theorem Fr.at {S : List Nat} (a : Fr S st st') {o : O} (h : st[l]? = some o) (n : l ∉ S) : st'[l]? = some o := by
  rw [a.2 l (List.getElem?_eq_some_iff.mp h).1 n, h]
/-- a value, whatever stands -/
def Pu (m : M α) (a : α) : Prop := ∀ (st : Sto) (Q : α → Sto → Prop), (∀ st', Fr [] st st' → Q a st') → wp m st Q
theorem Pu.ret' : Pu (ret a) a := fun st Q q => q st Fr.refl
theorem Pu.bnd' {b : β} (h : Pu m a) (k : Pu (f a) b) : Pu (bnd m f) b := fun st Q q => by
  rw [wp_bnd]
  exact h st _ fun st1 r1 => k st1 _ fun st2 r2 => q st2 (r1.trans r2)
theorem Pu.of_eq {m' : M α} (e : m = m') (h : Pu m' a) : Pu m a := e ▸ h
theorem Pu.ok (h : Pu m a) (st : Sto) : ∃ st', m st = .ok a st' ∧ Fr [] st st' := by
  obtain ⟨a', st', e, q1, q2⟩ := wp_ok (h st (fun b st' => b = a ∧ Fr [] st st') fun st' r => ⟨rfl, r⟩)
  exact ⟨st', by rw [e, q1], q2⟩
end
/-! ### combinators, applied -/
section
variable {ρ : En} {f g h : ME} {t u : MT} {op op' : D → D → M D} {o1 : D → M D} {oA : List D → M D} {a : MA} {s s' : MS} {p : Pat} {n : Nat} {m : List D → M D} {it : MI}
@[simp] theorem ap_kon {d : D} : kon d ρ = ret d := rfl
@[simp] theorem ap_bin : bin f g op ρ = bnd (f ρ) fun x => bnd (g ρ) fun y => op x y := rfl
@[simp] theorem ap_una : una f o1 ρ = bnd (f ρ) o1 := rfl
@[simp] theorem ap_andV : andV f g ρ = bnd (f ρ) fun x => bnd (tru x) fun k => if k = true then g ρ else ret x := rfl
@[simp] theorem ap_orV : orV f g ρ = bnd (f ρ) fun x => bnd (tru x) fun k => if k = true then ret x else g ρ := rfl
@[simp] theorem ap_notV : notV f ρ = bnd (f ρ) fun x => bnd (tru x) fun k => ret (.bl (!k)) := rfl
@[simp] theorem ap_tstV : tstV f ρ = bnd (f ρ) tru := rfl
@[simp] theorem ap_tstB : tstB f ρ = bnd (f ρ) asB := rfl
@[simp] theorem ap_notT : notT t ρ = bnd (t ρ) fun k => ret (!k) := rfl
@[simp] theorem ap_andT : andT t u ρ = bnd (t ρ) fun k => if k = true then u ρ else ret false := rfl
@[simp] theorem ap_orT : orT t u ρ = bnd (t ρ) fun k => if k = true then ret true else u ρ := rfl
@[simp] theorem ap_ifE : ifE t f g ρ = bnd (t ρ) fun k => if k = true then f ρ else g ρ := rfl
@[simp] theorem ap_chn : chn f g h op op' ρ = bnd (f ρ) fun x => bnd (g ρ) fun y => bnd (op x y) fun z => bnd (asB z) fun k => if k = true then bnd (h ρ) fun w => op' y w else ret (.bl false) := rfl
@[simp] theorem ap_nilA : nilA ρ = ret [] := rfl
@[simp] theorem ap_conA : conA f a ρ = bnd (f ρ) fun x => bnd (a ρ) fun xs => ret (x :: xs) := rfl
@[simp] theorem ap_tupE : tupE a ρ = bnd (a ρ) fun xs => if xs.length ≤ sizeLine then ret (.tup xs) else no := rfl
@[simp] theorem ap_lstE : lstE a ρ = bnd (a ρ) fun xs => if xs.length ≤ sizeLine then alloc xs else no := rfl
@[simp] theorem ap_appA : appA a oA ρ = bnd (a ρ) oA := rfl
@[simp] theorem ap_calE : calE a m ρ = bnd (a ρ) m := rfl
@[simp] theorem ap_kwE {ix : List Nat} {nk : Nat} : kwE ix nk a m ρ = bnd (a ρ) fun zs => if zs.length = nk then m (permL ix zs) else no := rfl
@[simp] theorem ap_nxS : nxS ρ = ret (.nx, ρ) := rfl
@[simp] theorem ap_nevS : nevS ρ = no := rfl
@[simp] theorem ap_seqS : seqS s s' ρ = bnd (s ρ) fun x => match x.1 with
  | .nx => s' x.2
  | _ => ret x := rfl
@[simp] theorem ap_retS : retS f ρ = bnd (f ρ) fun d => ret (.rt d, ρ) := rfl
@[simp] theorem ap_dropS : dropS f ρ = bnd (f ρ) fun _ => ret (.nx, ρ) := rfl
@[simp] theorem ap_ifS : ifS t s s' ρ = bnd (t ρ) fun k => if k = true then s ρ else s' ρ := rfl
@[simp] theorem ap_setS : setS p f ρ = bnd (f ρ) fun d => bnd (ofE (bindP p d ρ)) fun ρ' => ret (.nx, ρ') := rfl
@[simp] theorem ap_parS {i j : Nat} : parS i j a ρ = bnd (a ρ) fun ds => match ds with
  | [d, e] => ret (.nx, (ρ.set i (some d)).set j (some e))
  | _ => no := rfl
@[simp] theorem ap_subS : subS f g h ρ = bnd (f ρ) fun v => bnd (g ρ) fun o => bnd (h ρ) fun i => bnd (setI o i v) fun _ => ret (.nx, ρ) := rfl
@[simp] theorem ap_forS : forS it p s ρ = bnd (it ρ) fun I => forL I.ok p s I.xs ρ := rfl
@[simp] theorem ap_lcE {vs : List Nat} : lcE it p t f vs ρ = bnd (it ρ) fun I => bnd (lcL I.ok p t f (wipeE ρ vs) I.xs []) alloc := rfl
@[simp] theorem ap_yesT : yesT ρ = ret true := rfl
@[simp] theorem ofE_some : ofE (some ρ) = ret ρ := rfl
@[simp] theorem ofE_none : ofE none = no := rfl
@[simp] theorem ofO_some {d : D} : ofO (some d) = ret d := rfl
@[simp] theorem ofLen_ok {ds : List D} (h : ds.length = n) : ofLen n m ds = m ds := if_pos h
@[simp] theorem ap_iterA : iterA f ρ = bnd (f ρ) seqA := rfl
@[simp] theorem ap_rng1 : rng1 f ρ = bnd (f ρ) fun d => match d with
  | .int j => if okR j then ret (rngI 0 j) else no
  | _ => no := rfl
@[simp] theorem ap_rng2 : rng2 f g ρ = bnd (f ρ) fun d => bnd (g ρ) fun d' => match d, d' with
  | .int i, .int j => if okR i && okR j then ret (rngI i j) else no
  | _, _ => no := rfl
@[simp] theorem ap_enuI : enuI f ρ = bnd (f ρ) fun d => match d with
  | .tup xs => ret ⟨xs.zipIdx.map fun p => .tup [.int (p.2 : Nat), p.1], fun _ => true⟩
  | _ => no := rfl
@[simp] theorem ap_sli {l u : MO} {op : D → Option Int → Option Int → M D} : sli f l u op ρ = bnd (f ρ) fun x => bnd (l ρ) fun lo => bnd (u ρ) fun hi => op x lo hi := rfl
@[simp] theorem ap_noP : noP ρ = ret none := rfl
@[simp] theorem ap_som : som f ρ = bnd (f ρ) fun x => match x with
  | .int i => ret (some i)
  | _ => no := rfl
@[simp] theorem ap_meth {om : D → List D → M D} : meth f a om ρ = bnd (f ρ) fun o => bnd (isL o) fun _ => bnd (a ρ) fun ds => om o ds := rfl
/-- the end of a def -/
def fin : Fl × En → M D := fun x => match x.1 with
  | .nx => ret .non
  | .rt d => ret d
  | _ => no
@[simp] theorem fin_rt {d : D} : fin (.rt d, ρ) = ret d := rfl
@[simp] theorem fin_nx : fin (.nx, ρ) = ret .non := rfl
theorem small_line {n : Nat} (h : n ≤ 100000) : n ≤ sizeLine := Nat.le_trans h (by rw [sizeLine_eq]; decide)
end
/-! ### loops -/
theorem wp_forL {ok : Sto → Bool} {p : Pat} {body : MS} {Q : Fl × En → Sto → Prop} (I : Nat → En → Sto → Prop) : ∀ (xs : List D) (i : Nat) (ρ : En) (st : Sto), I i ρ st →
    (∀ j x ρ st, xs[j]? = some x → I (i + j) ρ st → ok st = true ∧ ∃ ρ1, bindP p x ρ = some ρ1 ∧ wp (body ρ1) st fun y st' => match y.1 with
      | .nx => I (i + j + 1) y.2 st'
      | .ct => I (i + j + 1) y.2 st'
      | .bk => Q (.nx, y.2) st'
      | .rt d => Q (.rt d, y.2) st') →
    (∀ ρ st, I (i + xs.length) ρ st → ok st = true ∧ Q (.nx, ρ) st) → wp (forL ok p body xs ρ) st Q
  | [], i, ρ, st, h0, _, hd => by
    obtain ⟨h1, h2⟩ := hd ρ st h0
    unfold wp forL
    rw [if_pos h1]
    exact h2
  | x :: xs, i, ρ, st, h0, hs, hd => by
    obtain ⟨h1, ρ1, h2, h3⟩ := hs 0 x ρ st rfl h0
    have e : wp (forL ok p body (x :: xs) ρ) st Q = wp (bnd (body ρ1) fun y => match y.1 with
        | .nx => forL ok p body xs y.2
        | .ct => forL ok p body xs y.2
        | .bk => ret (.nx, y.2)
        | .rt d => ret (.rt d, y.2)) st Q := by
      have e1 : forL ok p body (x :: xs) ρ st = (bnd (body ρ1) fun y => match y.1 with
        | .nx => forL ok p body xs y.2
        | .ct => forL ok p body xs y.2
        | .bk => ret (.nx, y.2)
        | .rt d => ret (.rt d, y.2)) st := by
        show (if ok st = true then _ else _) = _
        rw [if_pos h1, h2]
        rfl
      unfold wp
      rw [e1]
    rw [e, wp_bnd]
    refine wp_mono h3 fun y st' q => ?_
    obtain ⟨fl, ρ2⟩ := y
    have next : I (i + 0 + 1) ρ2 st' → wp (forL ok p body xs ρ2) st' Q := fun q => wp_forL I xs (i + 1) ρ2 st' q (fun j y ρ st hj hI => by
      have z := hs (j + 1) y ρ st (by simpa using hj) (by rw [show i + (j + 1) = i + 1 + j by omega]; exact hI)
      rw [show i + (j + 1) + 1 = i + 1 + j + 1 by omega] at z
      exact z) fun ρ st hI => hd ρ st (by rw [show i + (x :: xs).length = i + 1 + xs.length by simp; omega]; exact hI)
    cases fl with
    | nx => exact next q
    | ct => exact next q
    | bk => exact q
    | rt d => exact q
/-- a comprehension, by an invariant -/
theorem wp_lcL {ok : Sto → Bool} {p : Pat} {t : MT} {e : ME} {ρ : En} {Q : List D → Sto → Prop} (I : Nat → List D → Sto → Prop) : ∀ (xs : List D) (i : Nat) (acc : List D) (st : Sto), I i acc st →
    (∀ j x acc st, xs[j]? = some x → I (i + j) acc st → ok st = true ∧ ∃ ρ1, bindP p x ρ = some ρ1 ∧ wp (t ρ1) st fun k st' => if k = true then wp (e ρ1) st' fun y st'' => acc.length < sizeLine ∧ I (i + j + 1) (acc ++ [y]) st'' else I (i + j + 1) acc st') →
    (∀ acc st, I (i + xs.length) acc st → ok st = true ∧ Q acc st) → wp (lcL ok p t e ρ xs acc) st Q
  | [], i, acc, st, h0, _, hd => by
    obtain ⟨h1, h2⟩ := hd acc st h0
    unfold wp lcL
    rw [if_pos h1]
    exact h2
  | x :: xs, i, acc, st, h0, hs, hd => by
    obtain ⟨h1, ρ1, h2, h3⟩ := hs 0 x acc st rfl h0
    have ee : wp (lcL ok p t e ρ (x :: xs) acc) st Q = wp (bnd (nox (t ρ1)) fun k => if k = true then bnd (nox (e ρ1)) fun y => if acc.length < sizeLine then lcL ok p t e ρ xs (acc ++ [y]) else no else lcL ok p t e ρ xs acc) st Q := by
      have e1 : lcL ok p t e ρ (x :: xs) acc st = (bnd (nox (t ρ1)) fun k => if k = true then bnd (nox (e ρ1)) fun y => if acc.length < sizeLine then lcL ok p t e ρ xs (acc ++ [y]) else no else lcL ok p t e ρ xs acc) st := by
        show (if ok st = true then _ else _) = _
        rw [if_pos h1, h2]
        rfl
      unfold wp
      rw [e1]
    have next : ∀ acc st', I (i + 0 + 1) acc st' → wp (lcL ok p t e ρ xs acc) st' Q := fun acc st' q => wp_lcL I xs (i + 1) acc st' q (fun j y acc st hj hI => by
      have z := hs (j + 1) y acc st (by simpa using hj) (by rw [show i + (j + 1) = i + 1 + j by omega]; exact hI)
      rw [show i + (j + 1) + 1 = i + 1 + j + 1 by omega] at z
      exact z) fun acc st hI => hd acc st (by rw [show i + (x :: xs).length = i + 1 + xs.length by simp; omega]; exact hI)
    rw [ee, wp_bnd, wp_nox]
    refine wp_mono h3 fun k st' q => ?_
    cases k with
    | false =>
      rw [if_neg (by simp)] at q ⊢
      exact next acc st' q
    | true =>
      rw [if_pos rfl] at q ⊢
      rw [wp_bnd, wp_nox]
      refine wp_mono q fun y st'' q => ?_
      rw [if_pos q.1]
      exact next _ _ q.2
/-- .. of values -/
theorem pu_lcL {p : Pat} {t : MT} {e : ME} {ρ : En} (g : D → Option D) (xs acc : List D) (hl : acc.length + xs.length ≤ 100000) (h : ∀ x ∈ xs, ∃ ρ1, bindP p x ρ = some ρ1 ∧ ((g x = none ∧ Pu (t ρ1) false) ∨ ∃ y, g x = some y ∧ Pu (t ρ1) true ∧ Pu (e ρ1) y)) :
    Pu (lcL (fun _ => true) p t e ρ xs acc) (acc ++ xs.filterMap g) := fun st Q q => by
  refine wp_lcL (fun i a s => Fr [] st s ∧ i ≤ xs.length ∧ a.length ≤ acc.length + i ∧ a = acc ++ (xs.take i).filterMap g) xs 0 acc st ⟨Fr.refl, Nat.zero_le _, by simp, by simp⟩ (fun j x a s hj ⟨fr, hi, hn, ea⟩ => ⟨rfl, ?_⟩) fun a s ⟨fr, hi, hn, ea⟩ => ⟨rfl, ?_⟩
  · have hj1 : j < xs.length := (List.getElem?_eq_some_iff.mp hj).1
    obtain ⟨ρ1, h1, h2⟩ := h x (List.mem_of_getElem? hj)
    refine ⟨ρ1, h1, ?_⟩
    have tk : xs.take (0 + j + 1) = xs.take (0 + j) ++ [x] := by
      rw [Nat.zero_add, List.take_add_one, hj]; rfl
    rcases h2 with ⟨g0, p0⟩ | ⟨y, g1, p1, p2⟩
    · refine p0 s _ fun s' fr' => ?_
      rw [if_neg (by simp)]
      exact ⟨fr.trans fr', by omega, by omega, by rw [tk, List.filterMap_append, ea]; simp [g0]⟩
    · refine p1 s _ fun s' fr' => ?_
      rw [if_pos rfl]
      refine p2 s' _ fun s'' fr'' => ⟨Nat.lt_of_le_of_lt (show a.length ≤ 99999 by omega) (by rw [sizeLine_eq]; decide), (fr.trans fr').trans fr'', by omega, by simp; omega, by rw [tk, List.filterMap_append, ea]; simp [g1]⟩
  · rw [ea]
    simp only [Nat.zero_add, List.take_length]
    exact q s fr
/-- tuple([..]) | all([..]) | .. -/
theorem pu_tup {α : Type} {m : M α} {xs : List D} {f : α → M (List D)} {a : α} (h : Pu m a) (h2 : Pu (f a) xs) : Pu (bnd m fun x => bnd (f x) fun ys => bnd (alloc ys) fun l => bTuple [l]) (.tup xs) := fun st Q q => by
  rw [wp_bnd]
  refine h st _ fun s1 r1 => ?_
  rw [wp_bnd]
  refine h2 s1 _ fun s2 r2 => ?_
  simp only [wp_bnd, wp_alloc, bTuple, wp_lst_new, wp_ret]
  exact q _ ((r1.trans r2).trans (Fr.new _))
end Pm
namespace Pm
open PySem L2
theorem decS {a b : Str} : decide (D.str a = D.str b) = decide (a = b) := by
  by_cases h : a = b
  · rw [h, decide_eq_true rfl, decide_eq_true rfl]
  · rw [decide_eq_false h, decide_eq_false fun z => h (D.str.inj z)]
theorem decI {a b : Int} : decide (D.int a = D.int b) = decide (a = b) := by
  by_cases h : a = b
  · rw [h, decide_eq_true rfl, decide_eq_true rfl]
  · rw [decide_eq_false h, decide_eq_false fun z => h (D.int.inj z)]
theorem opEq_str {a b : Str} : opEq (.str a) (.str b) = ret (.bl (decide (a = b))) := by
  show ret (D.bl (decide (D.str a = D.str b))) = _
  rw [decS]
theorem opEq_int {a b : Int} : opEq (.int a) (.int b) = ret (.bl (decide (a = b))) := by
  show ret (D.bl (decide (D.int a = D.int b))) = _
  rw [decI]
theorem opNe_str {a b : Str} : opNe (.str a) (.str b) = ret (.bl (!decide (a = b))) := by
  show ret (D.bl (!decide (D.str a = D.str b))) = _
  rw [decS]
theorem opNe_int {a b : Int} : opNe (.int a) (.int b) = ret (.bl (!decide (a = b))) := by
  show ret (D.bl (!decide (D.int a = D.int b))) = _
  rw [decI]
@[simp] theorem opAdd_int {a b : Int} : opAdd (.int a) (.int b) = ret (.int (a + b)) := rfl
@[simp] theorem opSub_int {a b : Int} : opSub (.int a) (.int b) = ret (.int (a - b)) := rfl
@[simp] theorem opNeg_int {a : Int} : opNeg (.int a) = ret (.int (-a)) := rfl
@[simp] theorem opLe_int {a b : Int} : opLe (.int a) (.int b) = ret (.bl (decide (a ≤ b))) := rfl
@[simp] theorem opLt_int {a b : Int} : opLt (.int a) (.int b) = ret (.bl (decide (a < b))) := rfl
@[simp] theorem opGt_int {a b : Int} : opGt (.int a) (.int b) = ret (.bl (decide (b < a))) := rfl
@[simp] theorem opGe_int {a b : Int} : opGe (.int a) (.int b) = ret (.bl (decide (b ≤ a))) := rfl
@[simp] theorem asB_bl {b : Bool} : asB (.bl b) = ret b := rfl
@[simp] theorem tru_bl {b : Bool} : tru (.bl b) = ret b := rfl
@[simp] theorem opIx_tup {ns : List Int} {xs : List D} {i : Int} : opIx ns (.tup xs) (.int i) = ofO (atI xs i) := rfl
theorem opMod_int {a b : Int} (h : 0 < b) : opMod (.int a) (.int b) = ret (.int (a % b)) := by
  show (if decide (0 < b) = true then _ else _) = _
  rw [if_pos (decide_eq_true h)]
theorem opFdiv_int {a b : Int} (h : 0 < b) (h2 : b < 1073741824) : opFdiv (.int a) (.int b) = ret (.int (a / b)) := by
  show (if decide (0 < b ∧ b < 1073741824) = true then _ else _) = _
  rw [if_pos (decide_eq_true ⟨h, h2⟩)]
theorem opMul_int {a b : Int} (h : (-(2 ^ 64) < a ∧ a < 2 ^ 64) ∨ (-(2 ^ 64) < b ∧ b < 2 ^ 64)) : opMul (.int a) (.int b) = ret (.int (a * b)) := by
  show (if decide _ = true then _ else _) = _
  rw [if_pos (decide_eq_true h)]
theorem runB_eq {n : Nat} {b : MS} {ds : List D} : runB n b ds = bnd (b (startE n ds)) fin := rfl
@[simp] theorem rd_at {i : Nat} {ρ : En} : rd i ρ = match ρ[i]? with
  | some (some d) => ret d
  | _ => no := rfl
@[simp] theorem bLen_tup {ns : List Int} {xs : List D} : bLen ns [.tup xs] = ret (.int xs.length) := rfl
@[simp] theorem isi_int {T : String} {i : Int} : isi T (.int i) = ret (.bl (isT "int" T)) := rfl
@[simp] theorem isi_tup {T : String} {xs : List D} : isi T (.tup xs) = ret (.bl (isT "tuple" T)) := rfl
@[simp] theorem bindP_nm {i : Nat} {d : D} {ρ : En} : bindP (.nm i) d ρ = some (ρ.set i (some d)) := by unfold bindP; rfl
@[simp] theorem bindP_tp {ps : List Pat} {xs : List D} {ρ : En} : bindP (.tp ps) (.tup xs) ρ = bindPs ps xs ρ := by unfold bindP; rfl
@[simp] theorem bindPs_nil {ρ : En} : bindPs [] [] ρ = some ρ := by unfold bindPs; rfl
@[simp] theorem bindPs_cons {p : Pat} {ps : List Pat} {x : D} {xs : List D} {ρ : En} : bindPs (p :: ps) (x :: xs) ρ = (bindP p x ρ).bind fun ρ' => bindPs ps xs ρ' := by
  rw [bindPs]
end Pm
namespace Pm
open PySem L2
theorem fm_const {α : Type} {d : D} : ∀ xs : List α, xs.filterMap (fun _ => some d) = List.replicate xs.length d
  | [] => rfl
  | x :: xs => by simp [fm_const xs, List.replicate_succ]
theorem bls_rep : ∀ n : Nat, blsOf (List.replicate n (D.bl true)) = some (List.replicate n true)
  | 0 => rfl
  | n + 1 => by simp [List.replicate_succ, blsOf, bls_rep n]
@[simp] theorem wp_bAll_true {n : Nat} {st : Sto} {Q : D → Sto → Prop} : wp (bAll [.loc st.length]) (st ++ [.lst (List.replicate n (.bl true))]) Q = Q (.bl true) (st ++ [.lst (List.replicate n (.bl true))]) := by
  simp [bAll, bls_rep]
@[simp] theorem wp_bTuple_new {xs : List D} {st : Sto} {Q : D → Sto → Prop} : wp (bTuple [.loc st.length]) (st ++ [.lst xs]) Q = Q (.tup xs) (st ++ [.lst xs]) := by
  simp [bTuple]
@[simp] theorem wp_bSorted_new {ns : List Int} {st : Sto} {Q : D → Sto → Prop} : wp (bSorted [.loc st.length]) (st ++ [.lst (ns.map .int)]) Q = Q (.loc (st.length + 1)) (st ++ [.lst (ns.map .int)] ++ [.lst ((isort ns).map .int)]) := by
  simp [bSorted, intsOf_ints]
theorem wp_seqA {l : Nat} {xs : List D} {st : Sto} {Q : Itm → Sto → Prop} (h : st[l]? = some (.lst xs)) : wp (seqA (.loc l)) st Q = Q ⟨xs, fun st => decide (st[l]? = some (.lst xs))⟩ st := by
  show wp (bnd (lst l) _) st Q = _
  rw [wp_bnd, wp_lst h]
  rfl
/-- a comprehension over a list that stays -/
theorem pu_lcLok {ok : Sto → Bool} {p : Pat} {t : MT} {e : ME} {ρ : En} {st : Sto} {Q : List D → Sto → Prop} (g : D → Option D) (xs : List D) (hok : ∀ s, Fr [] st s → ok s = true) (hl : xs.length ≤ 100000) (h : ∀ x ∈ xs, ∃ ρ1, bindP p x ρ = some ρ1 ∧ ((g x = none ∧ Pu (t ρ1) false) ∨ ∃ y, g x = some y ∧ Pu (t ρ1) true ∧ Pu (e ρ1) y))
    (q : ∀ st', Fr [] st st' → Q (xs.filterMap g) st') : wp (lcL ok p t e ρ xs []) st Q := by
  refine wp_lcL (fun i a s => Fr [] st s ∧ i ≤ xs.length ∧ a.length ≤ i ∧ a = (xs.take i).filterMap g) xs 0 [] st ⟨Fr.refl, Nat.zero_le _, by simp, by simp⟩ (fun j x a s hj ⟨fr, hi, hn, ea⟩ => ⟨hok s fr, ?_⟩) fun a s ⟨fr, hi, hn, ea⟩ => ⟨hok s fr, ?_⟩
  · have hj1 : j < xs.length := (List.getElem?_eq_some_iff.mp hj).1
    obtain ⟨ρ1, h1, h2⟩ := h x (List.mem_of_getElem? hj)
    refine ⟨ρ1, h1, ?_⟩
    have tk : xs.take (0 + j + 1) = xs.take (0 + j) ++ [x] := by
      rw [Nat.zero_add, List.take_add_one, hj]; rfl
    rcases h2 with ⟨g0, p0⟩ | ⟨y, g1, p1, p2⟩
    · refine p0 s _ fun s' fr' => ?_
      rw [if_neg (by simp)]
      exact ⟨fr.trans fr', by omega, by omega, by rw [tk, List.filterMap_append, ea]; simp [g0]⟩
    · refine p1 s _ fun s' fr' => ?_
      rw [if_pos rfl]
      refine p2 s' _ fun s'' fr'' => ⟨Nat.lt_of_le_of_lt (show a.length ≤ 99999 by omega) (by rw [sizeLine_eq]; decide), (fr.trans fr').trans fr'', by omega, by simp; omega, by rw [tk, List.filterMap_append, ea]; simp [g1]⟩
  · rw [ea]
    simp only [Nat.zero_add, List.take_length]
    exact q s fr
theorem Pu.ap {m : M D} {a : D} (h : Pu m a) {st : Sto} {Q : D → Sto → Prop} (q : ∀ st', Fr [] st st' → Q a st') : wp m st Q := h st Q q
end Pm
namespace Pm
open PySem L2
theorem wp_bTuple {l : Nat} {xs : List D} {st : Sto} {Q : D → Sto → Prop} (h : st[l]? = some (.lst xs)) : wp (bTuple [.loc l]) st Q = Q (.tup xs) st := by
  simp [bTuple, wp_lst h]
theorem opIsNot_non {d : D} : opIsNot d .non = ret (.bl (!decide (d = .non))) := by cases d <;> rfl
@[simp] theorem get_new2 {st : Sto} {a b : O} : (st ++ [a, b])[st.length + 1]? = some b := by simp
end Pm
end
section
set_option Elab.async false
set_option linter.all false
set_option maxRecDepth 100000
namespace Pm
open PySem L2
/-! ### data that shows -/
def Sh (e w : Nat) (d : D) : Prop := ∃ p, (∀ st n, e ≤ n → toPy st n d = some p) ∧ p.showable = true ∧ p.hasDict = false ∧ p.depth ≤ e ∧ p.shown.length ≤ w
theorem Sh.mono {e e' w w' : Nat} {d : D} (h : Sh e w d) (h1 : e ≤ e') (h2 : w ≤ w') : Sh e' w' d := by
  obtain ⟨p, a, b, c, f, g⟩ := h
  exact ⟨p, fun st n hn => a st n (by omega), b, c, by omega, by omega⟩
theorem Sh.non : Sh 1 4 .non := ⟨.none, fun st n hn => by
  obtain ⟨m, rfl⟩ : ∃ m, n = m + 1 := ⟨n - 1, by omega⟩
  rfl, rfl, rfl, by decide, by decide⟩
theorem Sh.bl {b : Bool} : Sh 1 5 (.bl b) := ⟨.bool b, fun st n hn => by
  obtain ⟨m, rfl⟩ : ∃ m, n = m + 1 := ⟨n - 1, by omega⟩
  rfl, rfl, rfl, by simp [PyData.depth], by cases b <;> decide⟩
theorem log2_small {a : Int} (h : a.natAbs < 10 ^ 30) : a.natAbs.log2 < 1920 := by
  rcases Nat.eq_zero_or_pos a.natAbs with z | z
  · rw [z]; decide
  · exact (Nat.log2_lt (by omega)).mpr (Nat.lt_of_lt_of_le (Nat.lt_of_lt_of_le h (show 10 ^ 30 ≤ 2 ^ 100 by decide)) (Nat.pow_le_pow_right (by decide) (by decide)))
theorem ofStr_len (s : String) : (Str.ofString s).length = s.length := by
  exact ofString_length s
theorem Sh.int {i : Int} (h : i.natAbs < 10 ^ 30) : Sh 1 31 (.int i) := ⟨.int i, fun st n hn => by
  obtain ⟨m, rfl⟩ : ∃ m, n = m + 1 := ⟨n - 1, by omega⟩
  rfl, by simp only [PyData.showable]; exact decide_eq_true (log2_small h), rfl, by simp [PyData.depth], by
  show (Str.ofString (toString i)).length ≤ 31
  rw [ofStr_len]
  exact int_text_length_le10 (by decide) h⟩
theorem toPys_of {st : Sto} {n e w : Nat} (hn : e ≤ n) : ∀ xs : List D, (∀ x ∈ xs, Sh e w x) → ∃ ps, (∀ st n, e ≤ n → toPys (toPy st n) xs = some ps) ∧ ps.length = xs.length ∧ PyData.showableAll ps = true ∧ PyData.hasDictAll ps = false ∧ PyData.depthAll ps ≤ e ∧ piled (PyData.shownAll ps) ≤ xs.length * (w + 2)
  | [], _ => ⟨[], fun _ _ _ => rfl, rfl, rfl, rfl, by simp [PyData.depthAll], by simp [piled, PyData.shownAll]⟩
  | x :: xs, h => by
    obtain ⟨p, a, b, c, f, g⟩ := h x (by simp)
    obtain ⟨ps, a', l', b', c', f', g'⟩ := toPys_of (st := st) hn xs fun y hy => h y (by simp [hy])
    refine ⟨p :: ps, fun st n hn => ?_, by simp [l'], by simp [PyData.showableAll, b, b'], by simp [PyData.hasDictAll, c, c'], by simp [PyData.depthAll]; omega, ?_⟩
    · unfold toPys
      rw [a st n hn, a' st n hn]
    · simp only [PyData.shownAll, piled_cons, List.length_cons, Nat.succ_mul]
      omega
theorem Sh.tup {e w n : Nat} {xs : List D} (h : ∀ x ∈ xs, Sh e w x) (hn : xs.length ≤ n) : Sh (e + 1) (n * (w + 2) + 3) (.tup xs) := by
  obtain ⟨ps, a, l, b, c, f, g⟩ := toPys_of (st := []) (Nat.le_refl e) xs h
  refine ⟨.tuple ps, fun st m hm => ?_, by simpa [PyData.showable] using b, by simpa [PyData.hasDict] using c, by simp [PyData.depth]; omega, ?_⟩
  · obtain ⟨m, rfl⟩ : ∃ k, m = k + 1 := ⟨m - 1, by omega⟩
    unfold toPy
    simp only [a st m (by omega), Option.map_some]
  · have g2 : xs.length * (w + 2) ≤ n * (w + 2) := Nat.mul_le_mul_right _ hn
    simp only [PyData.shown]
    unfold tupleText
    rw [strLen_append, strLen_append]
    have e1 : ((("(" : String) : Str)).length = 1 := rfl
    have e3 : (((if (PyData.shownAll ps).length == 1 then ",)" else ")" : String) : Str)).length ≤ 2 := by split <;> decide
    rw [e1]
    by_cases z : PyData.shownAll ps = []
    · rw [z]
      have : (Str.join ", " []).length = 0 := rfl
      rw [z] at e3
      omega
    · have := join_length_add _ z
      omega
theorem Sh.repr {e w : Nat} {d : D} (h : Sh e w d) (he : e ≤ 60) (hw : w ≤ 100000) : ∃ t : Str, bRepr [d] = ret (.str t) := by
  obtain ⟨p, a, b, c, f, g⟩ := h
  refine ⟨p.shown, ?_⟩
  funext st
  show (bnd (py d) _) st = _
  have e1 : py d st = .ok p st := by
    unfold py
    rw [a st 60 he]
  unfold bnd
  rw [e1]
  show (if _ then _ else _ : M D) st = _
  rw [if_pos ⟨b, c, by omega, by omega⟩]
end Pm
end
section
set_option Elab.async false
set_option linter.all false
set_option maxRecDepth 100000
namespace Pm
open PySem L2
/-! ### draws, any constants -/
def bPot2 (c d e : Int) : MS := (seqS (setS (.nm 3) (bin (bin (appA (conA (appA (conA (rd 2) nilA) bAbs) nilA) bInt) (bin (bin (kon (.int 10)) (kon (.int 60)) opPow) (kon (.int 5)) opPow) opMod) (appA (conA (bin (appA (conA (rd 2) nilA) bAbs) (bin (kon (.int 10)) (kon (.int 18)) opPow) opGe) nilA) bInt) opMul)) (seqS (setS (.nm 4) (bin (appA (conA (rd 2) nilA) bInt) (kon (.int 2305843009213693951)) opMod)) (retS (lstE (conA (rd 3) (conA (bin (appA (conA (bin (bin (bin (rd 4) (kon (.int c)) opMul) (bin (bin (kon (.int d)) (rd 1) opMul) (rd 1) opMul) opAdd) (kon (.int e)) opAdd) nilA) bInt) (kon (.int 2305843009213693921)) opMod) (conA (kon (.int 0)) nilA)))))))
def bPot (ns : List Int) (a b c d e : Int) : MS := (seqS (setS (.nm 2) (ifE (tstB (bin (rd 1) (appA (conA (rd 0) nilA) (bLen ns)) opLt)) (bin (rd 0) (rd 1) (opIx ns)) (bin (bin (bin (appA (conA (appA (conA (sli (rd 0) noP (som (kon (.int 1))) (opSl ns)) nilA) bSum) nilA) bInt) (kon (.int 1000003)) opMod) (bin (kon (.int a)) (rd 1) opMul) opAdd) (kon (.int b)) opAdd))) (bPot2 c d e))
def bCells (ns : List Int) : MS := (retS (una (appA (conA (kon (.int 1)) (conA (appA (conA (rd 1) (conA (appA (conA (rd 0) nilA) (bLen ns)) nilA)) bMin) nilA)) bMax) bRg1))
def bTake (ns : List Int) (a b c d e : Int) : MS := (seqS (ifS (tstB (bin (bin (rd 0) (kon (.int 0)) (opIx ns)) (kon (.int 0)) opGt)) (seqS (setS (.nm 4) (bin (appA (conA (bin (rd 0) (kon (.int 0)) (opIx ns)) nilA) bInt) (rd 1) opMod)) (seqS (subS (bin (bin (rd 0) (kon (.int 0)) (opIx ns)) (rd 1) opFdiv) (rd 0) (kon (.int 0))) (retS (rd 4)))) nxS) (seqS (subS (bin (bin (rd 0) (kon (.int 2)) (opIx ns)) (kon (.int 1)) opAdd) (rd 0) (kon (.int 2))) (seqS (setS (.nm 2) (bin (lstE (conA (kon (.int 2147483647)) (conA (kon (.int 2147483629)) (conA (kon (.int 2147483587)) (conA (kon (.int 2147483579)) (conA (kon (.int 2147483563)) nilA)))))) (bin (appA (conA (bin (rd 0) (kon (.int 2)) (opIx ns)) nilA) bInt) (kon (.int 5)) opMod) (opIx ns))) (seqS (setS (.nm 3) (bin (appA (conA (bin (appA (conA (bin (bin (bin (rd 0) (kon (.int 1)) (opIx ns)) (bin (bin (kon (.int a)) (bin (rd 0) (kon (.int 2)) (opIx ns)) opMul) (bin (rd 0) (kon (.int 2)) (opIx ns)) opMul) opAdd) (kon (.int b)) opAdd) nilA) bInt) (kon (.int 3)) opPow) nilA) bInt) (rd 2) opMod)) (retS (bin (appA (conA (bin (bin (rd 3) (bin (bin (appA (conA (rd 3) nilA) bInt) (kon (.int c)) opMod) (bin (kon (.int d)) (bin (rd 0) (kon (.int 2)) (opIx ns)) opMul) opAdd) opMul) (kon (.int e)) opFdiv) nilA) bInt) (rd 1) opMod))))))
def Pot (l n : Nat) (st : Sto) : Prop := ∃ own seed cnt : Int, st[l]? = some (.lst [.int own, .int seed, .int cnt]) ∧ 0 ≤ own ∧ (0 ≤ seed ∧ seed < 2 ^ 61) ∧ 0 ≤ cnt ∧ cnt ≤ n
theorem Pot.lt {l n : Nat} {st : Sto} (h : Pot l n st) : l < st.length := by
  obtain ⟨_, _, _, h, _⟩ := h
  exact (List.getElem?_eq_some_iff.mp h).1
theorem Pot.fr {l n n' : Nat} {st st' : Sto} {S : List Nat} (h : Pot l n st) (f : Fr S st st') (hl : l ∉ S) (hn : n ≤ n') : Pot l n' st' := by
  obtain ⟨o, s, c, h1, h2, h3, h4, h5⟩ := h
  exact ⟨o, s, c, f.at h1 hl, h2, h3, h4, by omega⟩
structure Small (a b c d e : Int) : Prop where
  a : 0 ≤ a ∧ a < 2 ^ 20
  b : 0 ≤ b ∧ b < 2 ^ 20
  c : 0 < c ∧ c < 2 ^ 20
  d : 0 ≤ d ∧ d < 2 ^ 20
  e : 0 < e ∧ e < 2 ^ 20
@[simp] theorem bInt_int {i : Int} : bInt [.int i] = ret (.int i) := rfl
@[simp] theorem bInt_bl {k : Bool} : bInt [.bl k] = ret (.int (if k then 1 else 0)) := rfl
@[simp] theorem bAbs_int {i : Int} : bAbs [.int i] = ret (.int (if i < 0 then -i else i)) := rfl
@[simp] theorem bMax_int {i j : Int} : bMax [.int i, .int j] = ret (.int (if j > i then j else i)) := rfl
@[simp] theorem bMin_int {i j : Int} : bMin [.int i, .int j] = ret (.int (if j < i then j else i)) := rfl
@[simp] theorem bLen_scr {ns : List Int} : bLen ns [.scr] = ret (.int ns.length) := rfl
@[simp] theorem opIx_scr {ns : List Int} {i : Int} : opIx ns .scr (.int i) = ofO (atI (ns.map D.int) i) := rfl
theorem opIx_loc {ns : List Int} {l : Nat} {i : Int} : opIx ns (.loc l) (.int i) = bnd (lst l) fun xs => ofO (atI xs i) := rfl
theorem opSl_scr {ns : List Int} {lo hi : Option Int} : opSl ns .scr lo hi = alloc (cutD (ns.map D.int) lo hi) := rfl
theorem opPow_int {i j : Int} (h : CPowB i j) : opPow (.int i) (.int j) = ret (.int (i ^ j.toNat)) := by
  show (if decide (CPowB i j) = true then _ else _) = _
  rw [if_pos (decide_eq_true h)]
theorem cube_ok {x : Int} (h0 : 0 ≤ x) (h : x < 2 ^ 100) : CPowB x 3 := by
  have : Builtin.Int.intBits x ≤ 100 := intBits_le_iff.mpr (by omega)
  exact ⟨by decide, by omega⟩
theorem setI_loc {l : Nat} {i : Int} {d : D} : setI (.loc l) (.int i) d = bnd (lst l) fun xs => match ixN xs.length i with
    | some j => put l (xs.set j d)
    | none => no := rfl
abbrev primes : List D := [.int 2147483647, .int 2147483629, .int 2147483587, .int 2147483579, .int 2147483563]
theorem prime_at (c : Int) : ∃ p : Int, atI primes (c % 5) = some (.int p) ∧ 0 < p ∧ p < 2 ^ 31 := by
  have h0 := Int.emod_nonneg c (show (5 : Int) ≠ 0 by decide)
  have h1 := Int.emod_lt_of_pos c (show (0 : Int) < 5 by decide)
  generalize c % 5 = r at h0 h1 ⊢
  have : r = 0 ∨ r = 1 ∨ r = 2 ∨ r = 3 ∨ r = 4 := by omega
  rcases this with rfl | rfl | rfl | rfl | rfl
  all_goals exact ⟨_, rfl, by decide, by decide⟩
theorem take_spec {ns : List Int} {a b c d e : Int} (sm : Small a b c d e) {l n : Nat} {st : Sto} {u : Int} {Q : D → Sto → Prop} (hp : Pot l n st) (hn : n ≤ 1000000) (hu : 0 < u ∧ u < 2 ^ 24)
    (q : ∀ k st', (0 ≤ k ∧ k < u) → Pot l (n + 1) st' → Fr [l] st st' → Q (.int k) st') : wp (runB 5 (bTake ns a b c d e) [.loc l, .int u]) st Q := by
  obtain ⟨own, seed, cnt, h1, h2, h3, h4, h5⟩ := hp
  have hl : l < st.length := (List.getElem?_eq_some_iff.mp h1).1
  simp only [runB_eq, bTake, startE]
  simp [opIx_loc, setI_loc, wp_lst h1, atI, ixN]
  by_cases ho : 0 < own
  · simp [ho, opMod_int hu.1, opFdiv_int hu.1 (show u < 1073741824 by omega), wp_lst h1, ixN]
    exact q _ _ ⟨Int.emod_nonneg _ (by omega), Int.emod_lt_of_pos _ hu.1⟩ ⟨own / u, seed, cnt, by simp [hl], Int.ediv_nonneg h2 (by omega), h3, h4, by omega⟩ Fr.set
  · have hg : (st.set l (.lst [.int own, .int seed, .int (cnt + 1)]))[l]? = some (.lst [.int own, .int seed, .int (cnt + 1)]) := by simp [hl]
    simp [ho, wp_lst h1, wp_lst hg, ixN]
    refine ⟨small_line (by decide), ?_⟩
    have hl1 : (st.set l (.lst [.int own, .int seed, .int (cnt + 1)])).length = st.length := by simp
    have fr : Fr [l] st (st.set l (.lst [.int own, .int seed, .int (cnt + 1)])) := Fr.set
    revert hg hl1 fr
    generalize st.set l (.lst [.int own, .int seed, .int (cnt + 1)]) = s1
    intro hg hl1 fr
    have hg2 : (s1 ++ [O.lst primes])[l]? = some (.lst [.int own, .int seed, .int (cnt + 1)]) := by
      rw [List.getElem?_append_left (by omega)]; exact hg
    have hp2 : (s1 ++ [O.lst primes])[st.length]? = some (.lst primes) := by rw [← hl1]; simp
    have fr2 : Fr [l] st (s1 ++ [O.lst primes]) := fr.trans (Fr.new _)
    show wp _ (s1 ++ [O.lst primes]) _
    revert hg2 hp2 fr2
    generalize s1 ++ [O.lst primes] = s2
    intro hg2 hp2 fr2
    obtain ⟨p, ep, hp0, hp1⟩ := prime_at (cnt + 1)
    have b0 : -(2 ^ 64) < cnt + 1 ∧ cnt + 1 < 2 ^ 64 := by omega
    obtain ⟨⟨a0, a1⟩, ⟨b1, b2⟩, ⟨c0, c1⟩, ⟨d0, d1⟩, ⟨e0, e1⟩⟩ := sm
    have hx0 : 0 ≤ a * (cnt + 1) * (cnt + 1) := Int.mul_nonneg (Int.mul_nonneg a0 (by omega)) (by omega)
    have hx1 : a * (cnt + 1) * (cnt + 1) ≤ 2 ^ 20 * 2 ^ 20 * 2 ^ 20 := by
      have i1 : a * (cnt + 1) ≤ 2 ^ 20 * 2 ^ 20 := Int.mul_le_mul (by omega) (by omega) (by omega) (by decide)
      exact Int.mul_le_mul i1 (by omega) (by omega) (by decide)
    have hpow := cube_ok (x := seed + a * (cnt + 1) * (cnt + 1) + b) (by omega) (by omega)
    simp [wp_lst hg2, opIx_loc, opMod_int (show (0 : Int) < 5 by decide), wp_lst hp2, ep, opMul_int (.inr b0), opPow_int hpow, opMod_int hp0, opMod_int c0]
    generalize hB : (seed + a * (cnt + 1) * (cnt + 1) + b) ^ 3 % p = B
    have hB0 : 0 ≤ B ∧ B < p := by
      rw [← hB]
      exact ⟨Int.emod_nonneg _ (by omega), Int.emod_lt_of_pos _ hp0⟩
    simp [opMul_int (a := B) (.inl (show -(2 ^ 64) < B ∧ B < 2 ^ 64 by omega)), opFdiv_int e0 (show e < 1073741824 by omega), opMod_int hu.1]
    exact q _ _ ⟨Int.emod_nonneg _ (by omega), Int.emod_lt_of_pos _ hu.1⟩ ⟨own, seed, cnt + 1, hg2, h2, h3, by omega, by omega⟩ fr2
theorem cutD_ints (l : List Int) (lo hi : Option Int) : cutD (l.map D.int) lo hi = (cutD l lo hi).map D.int := by
  simp [cutD, List.map_drop, List.map_take]
theorem bSum_new {l : List Int} {st : Sto} {Q : D → Sto → Prop} : wp (bSum [.loc st.length]) (st ++ [.lst (l.map .int)]) Q = Q (.int l.sum) (st ++ [.lst (l.map .int)]) := by
  simp [bSum, intsOf_ints]
theorem big_ok : CPowB 10 60 ∧ CPowB (10 ^ 60) 5 ∧ CPowB 10 18 := by
  have h1 : Builtin.Int.intBits (10 : Int) ≤ 4 := intBits_le_iff.mpr (by decide)
  have h2 : Builtin.Int.intBits ((10 : Int) ^ 60) ≤ 200 := intBits_le_iff.mpr (by decide)
  exact ⟨⟨by decide, by omega⟩, ⟨by decide, by omega⟩, ⟨by decide, by omega⟩⟩
theorem pow60 : (10 : Int) ^ 60 = 1000000000000000000000000000000000000000000000000000000000000 := by decide
theorem pow300 : ∃ N : Int, 0 < N ∧ opPow (.int 1000000000000000000000000000000000000000000000000000000000000) (.int 5) = ret (.int N) := by
  refine ⟨(10 ^ 60) ^ 5, Int.pow_pos (Int.pow_pos (by decide)), ?_⟩
  rw [← pow60, opPow_int big_ok.2.1]
  rfl
theorem pot_spec {ns : List Int} {a b c d e : Int} (sm : Small a b c d e) {p : Int} (hp : 0 ≤ p ∧ p < 64) {st : Sto} {Q : D → Sto → Prop}
    (q : ∀ l st', Pot l 0 st' → st.length ≤ l → Fr [] st st' → Q (.loc l) st') : wp (runB 5 (bPot ns a b c d e) [.scr, .int p]) st Q := by
  obtain ⟨⟨a0, a1⟩, ⟨b1, b2⟩, ⟨c0, c1⟩, ⟨d0, d1⟩, ⟨e0, e1⟩⟩ := sm
  obtain ⟨k1, k2, k3⟩ := big_ok
  obtain ⟨N, hN, k2⟩ := pow300
  have rest : ∀ (cell : Int) (s : Sto), Fr [] st s → wp (bnd ((bPot2 c d e) [some .scr, some (.int p), some (.int cell), none, none]) fin) s Q := by
    intro cell s fr
    have i0 : ∀ k : Prop, ∀ _ : Decidable k, -(2 ^ 64) < (if k then (1 : Int) else 0) ∧ (if k then (1 : Int) else 0) < 2 ^ 64 := fun k _ => by split <;> decide
    have i0' : ∀ k : Prop, ∀ _ : Decidable k, 0 ≤ (if k then (1 : Int) else 0) := fun k _ => by split <;> decide
    have i1 : -(2 ^ 64) < p ∧ p < 2 ^ 64 := by omega
    have i2 : -(2 ^ 64) < c ∧ c < 2 ^ 64 := by omega
    simp [bPot2, opPow_int k1, k2, opPow_int k3, show (60 : Int).toNat = 60 from rfl, show (18 : Int).toNat = 18 from rfl, opMod_int hN, opMod_int (show (0 : Int) < 2305843009213693951 by decide), opMod_int (show (0 : Int) < 2305843009213693921 by decide), opMul_int (.inr i1), opMul_int (.inr i2)]
    rw [opMul_int (.inr (i0 _ _))]
    simp
    refine ⟨small_line (by decide), ?_⟩
    refine q _ _ ⟨_, _, 0, by simp; exact ⟨rfl, rfl⟩, ?_, ?_, by decide, by decide⟩ fr.1 (fr.trans (Fr.new _))
    · exact Int.mul_nonneg (Int.emod_nonneg _ (by omega)) (i0' _ _)
    · have h0 := Int.emod_nonneg (cell % 2305843009213693951 * c + d * p * p + e) (show (2305843009213693921 : Int) ≠ 0 by decide)
      have h1 := Int.emod_lt_of_pos (cell % 2305843009213693951 * c + d * p * p + e) (show (0 : Int) < 2305843009213693921 by decide)
      exact ⟨h0, by omega⟩
  simp only [runB_eq, bPot, startE]
  rw [show ∀ {s1 s2 : MS} {ρ : En}, seqS s1 s2 ρ = bnd (s1 ρ) fun x => match x.1 with
    | .nx => s2 x.2
    | _ => ret x from rfl, bnd_bnd, wp_bnd]
  by_cases hlt : p < ns.length
  · obtain ⟨v, hv⟩ : ∃ v, atI (ns.map D.int) p = some (D.int v) := by
      refine ⟨ns[p.toNat]'(by omega), ?_⟩
      unfold atI ixN
      rw [if_pos hp.1, if_pos (by simpa using hlt)]
      simp
    simp [hlt, hv]
    have := rest v st Fr.refl
    rw [wp_bnd] at this
    exact this
  · simp [hlt, opSl_scr, cutD_ints]
    rw [bSum_new]
    simp [opMod_int (show (0 : Int) < 1000003 by decide), opMul_int (.inr (show -(2 ^ 64) < p ∧ p < 2 ^ 64 by omega))]
    have := rest ((cutD ns none (some 1)).sum % 1000003 + a * p + b) _ (Fr.new [.lst ((cutD ns none (some 1)).map D.int)])
    rw [wp_bnd] at this
    exact this
theorem cells_spec {ns : List Int} (hn : ns.length ≤ 63) {L : Int} (hL : 1 ≤ L ∧ L ≤ 60) {st : Sto} {Q : D → Sto → Prop}
    (q : ∀ k : Nat, 1 ≤ k ∧ k ≤ 60 → Q (.loc st.length) (st ++ [.lst ((List.range k).map fun i : Nat => .int (i : Int))])) : wp (runB 2 (bCells ns) [.scr, .int L]) st Q := by
  simp [runB_eq, bCells, startE]
  generalize hm : (if (if (ns.length : Int) < L then (ns.length : Int) else L) > 1 then (if (ns.length : Int) < L then (ns.length : Int) else L) else 1) = m
  have h1 : 1 ≤ m ∧ m ≤ 60 := by
    rw [← hm]
    split <;> split <;> omega
  simp [bRg1, show -4611686018427387904 ≤ m ∧ m ≤ 16777216 by omega]
  exact q m.toNat (by omega)
/-- the law over some cells -/
def bLawAll (ns : List Int) (L : Int) (mc mp mr : List D → M D) : MS := (retS (appA (conA (lcE (iterA (calE (conA (rd 0) (conA (kon (.int L)) nilA)) (ofLen 2 mc))) (.nm 1) yesT (calE (conA (calE (conA (rd 0) (conA (rd 1) nilA)) (ofLen 2 mp)) nilA) (ofLen 1 mr)) [1]) nilA) bAll))
theorem law_all {ns : List Int} {L : Int} {mp mr : List D → M D} {a b c d e : Int} (hn : ns.length ≤ 63) (hL : 1 ≤ L ∧ L ≤ 60) (hp : mp = runB 5 (bPot ns a b c d e)) (sm : Small a b c d e)
    (hr : ∀ l st, Pot l 0 st → wp (mr [.loc l]) st fun r st' => r = .bl true ∧ Fr [l] st st') : ∃ st, runB 2 (bLawAll ns L (runB 2 (bCells ns)) mp mr) [.scr] [] = .ok (.bl true) st := by
  suffices h : wp (runB 2 (bLawAll ns L (runB 2 (bCells ns)) mp mr) [.scr]) [] fun r _ => r = .bl true by
    obtain ⟨r, st, e1, e2⟩ := wp_ok h
    exact ⟨st, by rw [e1, e2]⟩
  rw [runB_eq]
  simp [bLawAll, startE]
  refine cells_spec hn hL fun k hk => ?_
  simp only [List.length_nil]
  rw [wp_seqA (xs := (List.range k).map fun i : Nat => .int (i : Int)) (by simp)]
  simp only [wipeE]
  refine wp_lcL (fun i acc s => acc = List.replicate i (.bl true) ∧ i ≤ 60 ∧ s[0]? = some (.lst ((List.range k).map fun i : Nat => .int (i : Int)))) _ 0 [] _ ⟨rfl, by decide, by simp⟩ (fun j x acc s hj hI => ?_) fun acc s hI => ?_
  · obtain ⟨h1, h2, h3⟩ := hI
    have hjk : j < k := by
      have := (List.getElem?_eq_some_iff.mp hj).1
      simpa using this
    have hx : x = .int (j : Int) := by
      rw [List.getElem?_map, List.getElem?_range hjk] at hj
      simpa using hj.symm
    subst hx
    refine ⟨decide_eq_true h3, _, by simp; rfl, ?_⟩
    simp
    rw [hp]
    refine pot_spec sm (by omega) fun l s1 pt hl fr => ?_
    refine wp_mono (hr l s1 pt) fun r s2 ⟨hr1, hr2⟩ => ?_
    have hs : 0 < s.length := (List.getElem?_eq_some_iff.mp h3).1
    refine ⟨Nat.lt_of_lt_of_le (show acc.length < 100 by rw [h1]; simp; omega) (small_line (by decide)), by rw [h1, hr1, ← List.replicate_succ']; simp, by omega, hr2.at (fr.at h3 (by simp)) (by simp; omega)⟩
  · obtain ⟨h1, h2, h3⟩ := hI
    refine ⟨decide_eq_true h3, ?_⟩
    rw [h1]
    simp
end Pm
end
section
set_option Elab.async false
set_option linter.all false
set_option maxRecDepth 100000
namespace Pm
open PySem L2
theorem wp_isL {l : Nat} {xs : List D} {st : Sto} {Q : Unit → Sto → Prop} (h : st[l]? = some (.lst xs)) : wp (isL (.loc l)) st Q = Q () st := by
  show wp (bnd (lst l) _) st Q = _
  rw [wp_bnd, wp_lst h]
  rfl
theorem wp_append {l : Nat} {xs : List D} {d : D} {st : Sto} {Q : D → Sto → Prop} (h : st[l]? = some (.lst xs)) (hn : xs.length < 100000) : wp (mAppend (.loc l) [d]) st Q = Q .non (st.set l (.lst (xs ++ [d]))) := by
  show wp (bnd (lst l) _) st Q = _
  rw [wp_bnd, wp_lst h, if_pos (Nat.lt_of_lt_of_le hn (small_line (Nat.le_refl _)))]
  simp
theorem range_fm {α : Type} (g : Nat → Option α) (j : Nat) : (List.range (j + 1)).filterMap g = (List.range j).filterMap g ++ (g j).toList := by
  rw [List.range_succ, List.filterMap_append]
  cases h : g j <;> simp [h]
theorem Fr.old {S : List Nat} {st s1 : Sto} {g : Sto} (h : Fr S (st ++ g) s1) (hS : ∀ k ∈ S, st.length ≤ k) : Fr [] st s1 :=
  ⟨Nat.le_trans (by simp) h.1, fun k hk _ => (h.2 k (by simp; omega) fun z => absurd (hS k z) (by omega)).trans (List.getElem?_append_left hk)⟩
theorem Fr.up {S : List Nat} {st s1 : Sto} (h : Fr [] st s1) : Fr S st s1 := h.mono (by simp)
/-- from a mark on -/
theorem Fr.from' {S : List Nat} {st s s1 : Sto} (a : Fr [] st s) (b : Fr S s s1) (hS : ∀ k ∈ S, st.length ≤ k) : Fr [] st s1 :=
  ⟨Nat.le_trans a.1 b.1, fun k hk n => (b.2 k (Nat.lt_of_lt_of_le hk a.1) fun z => absurd (hS k z) (by omega)).trans (a.2 k hk n)⟩
end Pm
end
section
set_option Elab.async false
set_option linter.all false
set_option maxRecDepth 100000
namespace Pm
open PySem L2
def bOf (ns : List Int) (mt : List D → M D) : MS := (retS (bin (rd 1) (calE (conA (rd 0) (conA (appA (conA (rd 1) nilA) (bLen ns)) nilA)) (ofLen 2 mt)) (opIx ns)))
@[simp] theorem bLen_loc {ns : List Int} {l : Nat} : bLen ns [.loc l] = bnd (lst l) fun xs => ret (.int xs.length) := rfl
theorem of_spec {ns : List Int} {a b c d e : Int} {mt : List D → M D} (hm : mt = runB 5 (bTake ns a b c d e)) (sm : Small a b c d e) {l m n : Nat} {st : Sto} {xs : List D} {Q : D → Sto → Prop} (hp : Pot l n st) (hn : n ≤ 1000000) (hx : st[m]? = some (.lst xs)) (hml : m ≠ l) (h1 : 0 < xs.length ∧ xs.length < 2 ^ 24)
    (q : ∀ x st', x ∈ xs → Pot l (n + 1) st' → Fr [l] st st' → Q x st') : wp (runB 2 (bOf ns mt) [.loc l, .loc m]) st Q := by
  simp [runB_eq, bOf, startE, wp_lst hx]
  rw [hm]
  refine take_spec sm hp hn (by omega) fun k st' hk p' fr => ?_
  have hx' := fr.at hx (by simpa using hml)
  obtain ⟨x, hx1⟩ : ∃ x, xs[k.toNat]? = some x := ⟨xs[k.toNat]'(by omega), by simp⟩
  have e : atI xs k = some x := by
    unfold atI ixN
    rw [if_pos hk.1, if_pos hk.2]
    exact hx1
  simp [opIx_loc, wp_lst hx', e]
  exact q x st' (List.mem_of_getElem? hx1) p' fr
theorem okR_small {j : Int} (h0 : -1000000 ≤ j) (h1 : j ≤ 1000000) : okR j = true := by
  unfold okR
  exact decide_eq_true ⟨by omega, by omega⟩
end Pm
end
section
set_option Elab.async false
set_option linter.all false
set_option maxRecDepth 100000
set_option maxHeartbeats 4000000
namespace Lk01
open PySem PySem.Spec PyProof.Rows L2 Pm
def top (i : Nat) : Stmt := PySem.Challenge.pw_onestillview_k01_whole_places_and_what_i.main.body.getD i (.Pass ⟨0, 0, 0, 0⟩)
abbrev s_law_pot : Stmt := top 32
theorem sc_law_pot : FnScope ["script", "place", "cell", "own", "small"] ["script", "place"] (defScope s_law_pot) := ⟨rfl, rfl, rfl, by decide +kernel, rfl, by decide +kernel, by decide +kernel⟩
def b_law_pot (ns : List Int) : MS := (seqS (setS (.nm 2) (ifE (tstB (bin (rd 1) (appA (conA (rd 0) nilA) (bLen ns)) opLt)) (bin (rd 0) (rd 1) (opIx ns)) (bin (bin (bin (appA (conA (appA (conA (sli (rd 0) noP (som (kon (.int 1))) (opSl ns)) nilA) bSum) nilA) bInt) (kon (.int 1000003)) opMod) (bin (kon (.int 1367)) (rd 1) opMul) opAdd) (kon (.int 925)) opAdd))) (seqS (setS (.nm 3) (bin (bin (appA (conA (appA (conA (rd 2) nilA) bAbs) nilA) bInt) (bin (bin (kon (.int 10)) (kon (.int 60)) opPow) (kon (.int 5)) opPow) opMod) (appA (conA (bin (appA (conA (rd 2) nilA) bAbs) (bin (kon (.int 10)) (kon (.int 18)) opPow) opGe) nilA) bInt) opMul)) (seqS (setS (.nm 4) (bin (appA (conA (rd 2) nilA) bInt) (kon (.int 2305843009213693951)) opMod)) (retS (lstE (conA (rd 3) (conA (bin (appA (conA (bin (bin (bin (rd 4) (kon (.int 85339)) opMul) (bin (bin (kon (.int 9913)) (rd 1) opMul) (rd 1) opMul) opAdd) (kon (.int 553)) opAdd) nilA) bInt) (kon (.int 2305843009213693921)) opMod) (conA (kon (.int 0)) nilA))))))))
def m_law_pot (ns : List Int) : List D → M D := runB 5 (b_law_pot ns)
abbrev s_law_cells : Stmt := top 35
theorem sc_law_cells : FnScope ["script", "limit"] ["script", "limit"] (defScope s_law_cells) := ⟨rfl, rfl, rfl, by decide +kernel, rfl, by decide +kernel, by decide +kernel⟩
def b_law_cells (ns : List Int) : MS := (retS (una (appA (conA (kon (.int 1)) (conA (appA (conA (rd 1) (conA (appA (conA (rd 0) nilA) (bLen ns)) nilA)) bMin) nilA)) bMax) bRg1))
def m_law_cells (ns : List Int) : List D → M D := runB 2 (b_law_cells ns)
abbrev s_is_integer : Stmt := top 10
theorem sc_is_integer : FnScope ["value"] ["value"] (defScope s_is_integer) := ⟨rfl, rfl, rfl, by decide +kernel, rfl, by decide +kernel, by decide +kernel⟩
def b_is_integer (ns : List Int) : MS := (retS (andV (una (rd 0) (isi "int")) (notV (una (rd 0) (isi "bool")))))
def m_is_integer (ns : List Int) : List D → M D := runB 1 (b_is_integer ns)
abbrev s_is_within : Stmt := top 11
theorem sc_is_within : FnScope ["value", "low", "high"] ["value", "low", "high"] (defScope s_is_within) := ⟨rfl, rfl, rfl, by decide +kernel, rfl, by decide +kernel, by decide +kernel⟩
def b_is_within (ns : List Int) : MS := (retS (andV (calE (conA (rd 0) nilA) (ofLen 1 (m_is_integer ns))) (chn (rd 1) (rd 0) (rd 2) opLe opLe)))
def m_is_within (ns : List Int) : List D → M D := runB 3 (b_is_within ns)
abbrev s_is_tuple_of : Stmt := top 12
theorem sc_is_tuple_of : FnScope ["value", "many"] ["value", "many"] (defScope s_is_tuple_of) := ⟨rfl, rfl, rfl, by decide +kernel, rfl, by decide +kernel, by decide +kernel⟩
def b_is_tuple_of (ns : List Int) : MS := (retS (andV (una (rd 0) (isi "tuple")) (bin (appA (conA (rd 0) nilA) (bLen ns)) (rd 1) opEq)))
def m_is_tuple_of (ns : List Int) : List D → M D := runB 2 (b_is_tuple_of ns)
abbrev s_is_floor : Stmt := top 15
theorem sc_is_floor : FnScope ["value", "kind", "size"] ["value"] (defScope s_is_floor) := ⟨rfl, rfl, rfl, by decide +kernel, rfl, by decide +kernel, by decide +kernel⟩
def b_is_floor (ns : List Int) : MS := (seqS (ifS (notT (tstV (calE (conA (rd 0) (conA (kon (.int 2)) nilA)) (ofLen 2 (m_is_tuple_of ns))))) (retS (kon (.bl false))) nxS) (seqS (setS (.tp [(.nm 1), (.nm 2)]) (rd 0)) (seqS (ifS (tstB (bin (rd 1) (kon (.str "ring")) opEq)) (retS (calE (conA (rd 2) (conA (kon (.int 3)) (conA (kon (.int 8)) nilA))) (ofLen 3 (m_is_within ns)))) nxS) (retS (andV (bin (rd 1) (kon (.str "row")) opEq) (calE (conA (rd 2) (conA (kon (.int 1)) (conA (kon (.int 8)) nilA))) (ofLen 3 (m_is_within ns))))))))
def m_is_floor (ns : List Int) : List D → M D := runB 3 (b_is_floor ns)
abbrev s_check_floor : Stmt := top 19
theorem sc_check_floor : FnScope ["value"] ["value"] (defScope s_check_floor) := ⟨rfl, rfl, rfl, by decide +kernel, rfl, by decide +kernel, by decide +kernel⟩
def b_check_floor (ns : List Int) : MS := (ifS (notT (tstV (calE (conA (rd 0) nilA) (ofLen 1 (m_is_floor ns))))) nevS nxS)
def m_check_floor (ns : List Int) : List D → M D := runB 1 (b_check_floor ns)
abbrev s_is_place : Stmt := top 16
theorem sc_is_place : FnScope ["floor", "value"] ["floor", "value"] (defScope s_is_place) := ⟨rfl, rfl, rfl, by decide +kernel, rfl, by decide +kernel, by decide +kernel⟩
def b_is_place (ns : List Int) : MS := (retS (calE (conA (rd 1) (conA (kon (.int 0)) (conA (bin (bin (rd 0) (kon (.int 1)) (opIx ns)) (kon (.int 1)) opSub) nilA))) (ofLen 3 (m_is_within ns))))
def m_is_place (ns : List Int) : List D → M D := runB 2 (b_is_place ns)
abbrev s_check_place : Stmt := top 20
theorem sc_check_place : FnScope ["floor", "value"] ["floor", "value"] (defScope s_check_place) := ⟨rfl, rfl, rfl, by decide +kernel, rfl, by decide +kernel, by decide +kernel⟩
def b_check_place (ns : List Int) : MS := (ifS (notT (tstV (calE (conA (rd 0) (conA (rd 1) nilA)) (ofLen 2 (m_is_place ns))))) nevS nxS)
def m_check_place (ns : List Int) : List D → M D := runB 2 (b_check_place ns)
abbrev s_place_at : Stmt := top 25
theorem sc_place_at : FnScope ["floor", "place", "steps", "kind", "size", "reached"] ["floor", "place", "steps"] (defScope s_place_at) := ⟨rfl, rfl, rfl, by decide +kernel, rfl, by decide +kernel, by decide +kernel⟩
def b_place_at (ns : List Int) : MS := (seqS (setS (.tp [(.nm 3), (.nm 4)]) (rd 0)) (seqS (setS (.nm 5) (bin (rd 1) (rd 2) opAdd)) (seqS (ifS (tstB (bin (rd 3) (kon (.str "ring")) opEq)) (retS (bin (rd 5) (rd 4) opMod)) nxS) (retS (ifE (tstB (chn (kon (.int 0)) (rd 5) (rd 4) opLe opLt)) (rd 5) (kon .non))))))
def m_place_at (ns : List Int) : List D → M D := runB 6 (b_place_at ns)
abbrev s_at_distance : Stmt := top 26
theorem sc_at_distance : FnScope ["floor", "place", "steps"] ["floor", "place", "steps"] (defScope s_at_distance) := ⟨rfl, rfl, rfl, by decide +kernel, rfl, by decide +kernel, by decide +kernel⟩
def b_at_distance (ns : List Int) : MS := (seqS (dropS (calE (conA (rd 0) nilA) (ofLen 1 (m_check_floor ns)))) (seqS (dropS (calE (conA (rd 0) (conA (rd 1) nilA)) (ofLen 2 (m_check_place ns)))) (seqS (ifS (notT (tstV (calE (conA (rd 2) (conA (una (kon (.int 99)) opNeg) (conA (kon (.int 99)) nilA))) (ofLen 3 (m_is_within ns))))) nevS nxS) (retS (calE (conA (rd 0) (conA (rd 1) (conA (rd 2) nilA))) (ofLen 3 (m_place_at ns)))))))
def m_at_distance (ns : List Int) : List D → M D := runB 3 (b_at_distance ns)
abbrev s_is_mark : Stmt := top 13
theorem sc_is_mark : FnScope ["value"] ["value"] (defScope s_is_mark) := ⟨rfl, rfl, rfl, by decide +kernel, rfl, by decide +kernel, by decide +kernel⟩
def b_is_mark (ns : List Int) : MS := (retS (calE (conA (rd 0) (conA (kon (.int 0)) (conA (kon (.int 3)) nilA))) (ofLen 3 (m_is_within ns))))
def m_is_mark (ns : List Int) : List D → M D := runB 1 (b_is_mark ns)
abbrev s_is_sense : Stmt := top 14
theorem sc_is_sense : FnScope ["value"] ["value"] (defScope s_is_sense) := ⟨rfl, rfl, rfl, by decide +kernel, rfl, by decide +kernel, by decide +kernel⟩
def b_is_sense (ns : List Int) : MS := (retS (andV (calE (conA (rd 0) (conA (una (kon (.int 1)) opNeg) (conA (kon (.int 1)) nilA))) (ofLen 3 (m_is_within ns))) (bin (rd 0) (kon (.int 0)) opNe)))
def m_is_sense (ns : List Int) : List D → M D := runB 1 (b_is_sense ns)
abbrev s_is_placed : Stmt := top 17
theorem sc_is_placed : FnScope ["floor", "value", "place", "mark", "sense"] ["floor", "value"] (defScope s_is_placed) := ⟨rfl, rfl, rfl, by decide +kernel, rfl, by decide +kernel, by decide +kernel⟩
def b_is_placed (ns : List Int) : MS := (seqS (ifS (notT (tstV (calE (conA (rd 1) (conA (kon (.int 3)) nilA)) (ofLen 2 (m_is_tuple_of ns))))) (retS (kon (.bl false))) nxS) (seqS (setS (.tp [(.nm 2), (.nm 3), (.nm 4)]) (rd 1)) (retS (andV (calE (conA (rd 0) (conA (rd 2) nilA)) (ofLen 2 (m_is_place ns))) (andV (calE (conA (rd 3) nilA) (ofLen 1 (m_is_mark ns))) (calE (conA (rd 4) nilA) (ofLen 1 (m_is_sense ns))))))))
def m_is_placed (ns : List Int) : List D → M D := runB 5 (b_is_placed ns)
abbrev s_is_standing : Stmt := top 18
theorem sc_is_standing : FnScope ["floor", "value", "entry"] ["floor", "value"] (defScope s_is_standing) := ⟨rfl, rfl, rfl, by decide +kernel, rfl, by decide +kernel, by decide +kernel⟩
def b_is_standing (ns : List Int) : MS := (seqS (ifS (orT (notT (tstV (una (rd 1) (isi "tuple")))) (notT (tstB (chn (kon (.int 1)) (appA (conA (rd 1) nilA) (bLen ns)) (kon (.int 5)) opLe opLe)))) (retS (kon (.bl false))) nxS) (retS (appA (conA (lcE (iterA (rd 1)) (.nm 2) yesT (calE (conA (rd 0) (conA (rd 2) nilA)) (ofLen 2 (m_is_placed ns))) [2]) nilA) bAll)))
def m_is_standing (ns : List Int) : List D → M D := runB 3 (b_is_standing ns)
abbrev s_check_standing : Stmt := top 21
theorem sc_check_standing : FnScope ["floor", "value"] ["floor", "value"] (defScope s_check_standing) := ⟨rfl, rfl, rfl, by decide +kernel, rfl, by decide +kernel, by decide +kernel⟩
def b_check_standing (ns : List Int) : MS := (ifS (notT (tstV (calE (conA (rd 0) (conA (rd 1) nilA)) (ofLen 2 (m_is_standing ns))))) nevS nxS)
def m_check_standing (ns : List Int) : List D → M D := runB 2 (b_check_standing ns)
abbrev s_check_walker : Stmt := top 22
theorem sc_check_walker : FnScope ["standing", "value"] ["standing", "value"] (defScope s_check_walker) := ⟨rfl, rfl, rfl, by decide +kernel, rfl, by decide +kernel, by decide +kernel⟩
def b_check_walker (ns : List Int) : MS := (ifS (notT (tstV (calE (conA (rd 1) (conA (kon (.int 0)) (conA (bin (appA (conA (rd 0) nilA) (bLen ns)) (kon (.int 1)) opSub) nilA))) (ofLen 3 (m_is_within ns))))) nevS nxS)
def m_check_walker (ns : List Int) : List D → M D := runB 2 (b_check_walker ns)
abbrev s_cell_at : Stmt := top 27
theorem sc_cell_at : FnScope ["standing", "walker", "place", "marks", "number", "at", "mark", "_"] ["standing", "walker", "place"] (defScope s_cell_at) := ⟨rfl, rfl, rfl, by decide +kernel, rfl, by decide +kernel, by decide +kernel⟩
def b_cell_at (ns : List Int) : MS := (seqS (setS (.nm 3) (lcE (enuI (rd 0)) (.tp [(.nm 4), (.tp [(.nm 5), (.nm 6), (.nm 7)])]) (andT (tstB (bin (rd 5) (rd 2) opEq)) (tstB (bin (rd 4) (rd 1) opNe))) (rd 6) [4, 5, 6, 7])) (retS (appA (conA (appA (conA (rd 3) nilA) bSorted) nilA) bTuple)))
def m_cell_at (ns : List Int) : List D → M D := runB 8 (b_cell_at ns)
abbrev s_cells_towards : Stmt := top 28
theorem sc_cells_towards : FnScope ["floor", "standing", "walker", "sense", "own_place", "places", "steps", "place"] ["floor", "standing", "walker", "sense"] (defScope s_cells_towards) := ⟨rfl, rfl, rfl, by decide +kernel, rfl, by decide +kernel, by decide +kernel⟩
def b_cells_towards (ns : List Int) : MS := (seqS (setS (.nm 4) (bin (bin (rd 1) (rd 2) (opIx ns)) (kon (.int 0)) (opIx ns))) (seqS (setS (.nm 5) (lcE (rng2 (kon (.int 1)) (bin (rd 0) (kon (.int 1)) (opIx ns))) (.nm 6) yesT (calE (conA (rd 0) (conA (rd 4) (conA (bin (rd 3) (rd 6) opMul) nilA))) (ofLen 3 (m_place_at ns))) [6])) (retS (appA (conA (lcE (iterA (rd 5)) (.nm 7) (tstB (bin (rd 7) (kon .non) opIsNot)) (calE (conA (rd 1) (conA (rd 2) (conA (rd 7) nilA))) (ofLen 3 (m_cell_at ns))) [7]) nilA) bTuple))))
def m_cells_towards (ns : List Int) : List D → M D := runB 8 (b_cells_towards ns)
abbrev s_view_of : Stmt := top 29
theorem sc_view_of : FnScope ["floor", "standing", "walker", "place", "mark", "sense", "ahead", "behind"] ["floor", "standing", "walker"] (defScope s_view_of) := ⟨rfl, rfl, rfl, by decide +kernel, rfl, by decide +kernel, by decide +kernel⟩
def b_view_of (ns : List Int) : MS := (seqS (setS (.tp [(.nm 3), (.nm 4), (.nm 5)]) (bin (rd 1) (rd 2) (opIx ns))) (seqS (setS (.nm 6) (calE (conA (rd 0) (conA (rd 1) (conA (rd 2) (conA (rd 5) nilA)))) (ofLen 4 (m_cells_towards ns)))) (seqS (setS (.nm 7) (calE (conA (rd 0) (conA (rd 1) (conA (rd 2) (conA (una (rd 5) opNeg) nilA)))) (ofLen 4 (m_cells_towards ns)))) (retS (tupE (conA (rd 4) (conA (calE (conA (rd 1) (conA (rd 2) (conA (rd 3) nilA))) (ofLen 3 (m_cell_at ns))) (conA (rd 6) (conA (rd 7) nilA)))))))))
def m_view_of (ns : List Int) : List D → M D := runB 8 (b_view_of ns)
abbrev s_view : Stmt := top 30
theorem sc_view : FnScope ["floor", "standing", "walker"] ["floor", "standing", "walker"] (defScope s_view) := ⟨rfl, rfl, rfl, by decide +kernel, rfl, by decide +kernel, by decide +kernel⟩
def b_view (ns : List Int) : MS := (seqS (dropS (calE (conA (rd 0) nilA) (ofLen 1 (m_check_floor ns)))) (seqS (dropS (calE (conA (rd 0) (conA (rd 1) nilA)) (ofLen 2 (m_check_standing ns)))) (seqS (dropS (calE (conA (rd 1) (conA (rd 2) nilA)) (ofLen 2 (m_check_walker ns)))) (retS (calE (conA (rd 0) (conA (rd 1) (conA (rd 2) nilA))) (ofLen 3 (m_view_of ns)))))))
def m_view (ns : List Int) : List D → M D := runB 3 (b_view ns)
abbrev s_law_take : Stmt := top 33
theorem sc_law_take : FnScope ["pot", "upto", "prime", "blend", "digit"] ["pot", "upto"] (defScope s_law_take) := ⟨rfl, rfl, rfl, by decide +kernel, rfl, by decide +kernel, by decide +kernel⟩
def b_law_take (ns : List Int) : MS := (seqS (ifS (tstB (bin (bin (rd 0) (kon (.int 0)) (opIx ns)) (kon (.int 0)) opGt)) (seqS (setS (.nm 4) (bin (appA (conA (bin (rd 0) (kon (.int 0)) (opIx ns)) nilA) bInt) (rd 1) opMod)) (seqS (subS (bin (bin (rd 0) (kon (.int 0)) (opIx ns)) (rd 1) opFdiv) (rd 0) (kon (.int 0))) (retS (rd 4)))) nxS) (seqS (subS (bin (bin (rd 0) (kon (.int 2)) (opIx ns)) (kon (.int 1)) opAdd) (rd 0) (kon (.int 2))) (seqS (setS (.nm 2) (bin (lstE (conA (kon (.int 2147483647)) (conA (kon (.int 2147483629)) (conA (kon (.int 2147483587)) (conA (kon (.int 2147483579)) (conA (kon (.int 2147483563)) nilA)))))) (bin (appA (conA (bin (rd 0) (kon (.int 2)) (opIx ns)) nilA) bInt) (kon (.int 5)) opMod) (opIx ns))) (seqS (setS (.nm 3) (bin (appA (conA (bin (appA (conA (bin (bin (bin (rd 0) (kon (.int 1)) (opIx ns)) (bin (bin (kon (.int 100025)) (bin (rd 0) (kon (.int 2)) (opIx ns)) opMul) (bin (rd 0) (kon (.int 2)) (opIx ns)) opMul) opAdd) (kon (.int 1139)) opAdd) nilA) bInt) (kon (.int 3)) opPow) nilA) bInt) (rd 2) opMod)) (retS (bin (appA (conA (bin (bin (rd 3) (bin (bin (appA (conA (rd 3) nilA) bInt) (kon (.int 10687)) opMod) (bin (kon (.int 369)) (bin (rd 0) (kon (.int 2)) (opIx ns)) opMul) opAdd) opMul) (kon (.int 241)) opFdiv) nilA) bInt) (rd 1) opMod))))))
def m_law_take (ns : List Int) : List D → M D := runB 5 (b_law_take ns)
abbrev s_law_at : Stmt := top 36
theorem sc_law_at : FnScope ["floor", "place", "steps", "kind", "many"] ["floor", "place", "steps"] (defScope s_law_at) := ⟨rfl, rfl, rfl, by decide +kernel, rfl, by decide +kernel, by decide +kernel⟩
def b_law_at (ns : List Int) : MS := (seqS (setS (.tp [(.nm 3), (.nm 4)]) (rd 0)) (seqS (ifS (tstB (bin (rd 3) (kon (.str "ring")) opEq)) (retS (bin (bin (rd 1) (rd 2) opAdd) (rd 4) opMod)) nxS) (retS (ifE (tstB (chn (kon (.int 0)) (bin (rd 1) (rd 2) opAdd) (rd 4) opLe opLt)) (bin (rd 1) (rd 2) opAdd) (kon .non)))))
def m_law_at (ns : List Int) : List D → M D := runB 5 (b_law_at ns)
abbrev s_law_marks_at : Stmt := top 37
theorem sc_law_marks_at : FnScope ["standing", "place", "walker", "at", "its", "mark", "sense"] ["standing", "place", "walker"] (defScope s_law_marks_at) := ⟨rfl, rfl, rfl, by decide +kernel, rfl, by decide +kernel, by decide +kernel⟩
def b_law_marks_at (ns : List Int) : MS := (retS (appA (conA (appA (conA (lcE (enuI (rd 0)) (.tp [(.nm 3), (.tp [(.nm 4), (.nm 5), (.nm 6)])]) (andT (tstB (bin (rd 4) (rd 1) opEq)) (tstB (bin (rd 3) (rd 2) opNe))) (rd 5) [3, 4, 5, 6]) nilA) bSorted) nilA) bTuple))
def m_law_marks_at (ns : List Int) : List D → M D := runB 7 (b_law_marks_at ns)
abbrev s_law_view : Stmt := top 38
theorem sc_law_view : FnScope ["floor", "standing", "walker", "place", "mark", "sense", "found", "way", "cells", "steps", "spot"] ["floor", "standing", "walker"] (defScope s_law_view) := ⟨rfl, rfl, rfl, by decide +kernel, rfl, by decide +kernel, by decide +kernel⟩
def b_law_view (ns : List Int) : MS := (seqS (setS (.tp [(.nm 3), (.nm 4), (.nm 5)]) (bin (rd 1) (rd 2) (opIx ns))) (seqS (setS (.nm 6) (lstE nilA)) (seqS (forS (iterA (tupE (conA (rd 5) (conA (bin (kon (.int 0)) (rd 5) opSub) nilA)))) (.nm 7) (seqS (setS (.nm 8) (lstE nilA)) (seqS (forS (rng2 (kon (.int 1)) (bin (rd 0) (kon (.int 1)) (opIx ns))) (.nm 9) (seqS (setS (.nm 10) (calE (conA (rd 0) (conA (rd 3) (conA (bin (rd 7) (rd 9) opMul) nilA))) (ofLen 3 (m_law_at ns)))) (ifS (tstB (bin (rd 10) (kon .non) opIsNot)) (dropS (meth (rd 8) (conA (calE (conA (rd 1) (conA (rd 10) (conA (rd 2) nilA))) (ofLen 3 (m_law_marks_at ns))) nilA) mAppend)) nxS))) (dropS (meth (rd 6) (conA (appA (conA (rd 8) nilA) bTuple) nilA) mAppend))))) (retS (tupE (conA (rd 4) (conA (calE (conA (rd 1) (conA (rd 3) (conA (rd 2) nilA))) (ofLen 3 (m_law_marks_at ns))) (conA (bin (rd 6) (kon (.int 0)) (opIx ns)) (conA (bin (rd 6) (kon (.int 1)) (opIx ns)) nilA)))))))))
def m_law_view (ns : List Int) : List D → M D := runB 11 (b_law_view ns)
abbrev s_law_of : Stmt := top 34
theorem sc_law_of : FnScope ["pot", "some"] ["pot", "some"] (defScope s_law_of) := ⟨rfl, rfl, rfl, by decide +kernel, rfl, by decide +kernel, by decide +kernel⟩
def b_law_of (ns : List Int) : MS := (retS (bin (rd 1) (calE (conA (rd 0) (conA (appA (conA (rd 1) nilA) (bLen ns)) nilA)) (ofLen 2 (m_law_take ns))) (opIx ns)))
def m_law_of (ns : List Int) : List D → M D := runB 2 (b_law_of ns)
abbrev s_law_drawn_stand : Stmt := top 39
theorem sc_law_drawn_stand : FnScope ["pot", "floor", "walkers", "lap"] ["pot", "floor", "walkers"] (defScope s_law_drawn_stand) := ⟨rfl, rfl, rfl, by decide +kernel, rfl, by decide +kernel, by decide +kernel⟩
def b_law_drawn_stand (ns : List Int) : MS := (retS (appA (conA (lcE (rng1 (rd 2)) (.nm 3) yesT (tupE (conA (calE (conA (rd 0) (conA (bin (rd 1) (kon (.int 1)) (opIx ns)) nilA)) (ofLen 2 (m_law_take ns))) (conA (calE (conA (rd 0) (conA (kon (.int 4)) nilA)) (ofLen 2 (m_law_take ns))) (conA (calE (conA (rd 0) (conA (lstE (conA (kon (.int 1)) (conA (una (kon (.int 1)) opNeg) nilA))) nilA)) (ofLen 2 (m_law_of ns))) nilA)))) [3]) nilA) bTuple))
def m_law_drawn_stand (ns : List Int) : List D → M D := runB 4 (b_law_drawn_stand ns)
abbrev s_law_any_floor : Stmt := top 40
theorem sc_law_any_floor : FnScope ["pot", "kind"] ["pot"] (defScope s_law_any_floor) := ⟨rfl, rfl, rfl, by decide +kernel, rfl, by decide +kernel, by decide +kernel⟩
def b_law_any_floor (ns : List Int) : MS := (seqS (setS (.nm 1) (calE (conA (rd 0) (conA (lstE (conA (kon (.str "ring")) (conA (kon (.str "row")) nilA))) nilA)) (ofLen 2 (m_law_of ns)))) (retS (tupE (conA (rd 1) (conA (ifE (tstB (bin (rd 1) (kon (.str "ring")) opEq)) (bin (kon (.int 3)) (calE (conA (rd 0) (conA (kon (.int 6)) nilA)) (ofLen 2 (m_law_take ns))) opAdd) (bin (kon (.int 1)) (calE (conA (rd 0) (conA (kon (.int 8)) nilA)) (ofLen 2 (m_law_take ns))) opAdd)) nilA)))))
def m_law_any_floor (ns : List Int) : List D → M D := runB 2 (b_law_any_floor ns)
abbrev s_law_right : Stmt := top 41
theorem sc_law_right : FnScope ["pot", "floor", "lap", "place", "steps", "standing", "walker"] ["pot"] (defScope s_law_right) := ⟨rfl, rfl, rfl, by decide +kernel, rfl, by decide +kernel, by decide +kernel⟩
def b_law_right (ns : List Int) : MS := (seqS (setS (.nm 1) (calE (conA (rd 0) nilA) (ofLen 1 (m_law_any_floor ns)))) (seqS (forS (rng1 (kon (.int 10))) (.nm 2) (seqS (parS 3 4 (conA (calE (conA (rd 0) (conA (bin (rd 1) (kon (.int 1)) (opIx ns)) nilA)) (ofLen 2 (m_law_take ns))) (conA (ifE (tstB (bin (rd 2) (kon (.int 5)) opLt)) (bin (calE (conA (rd 0) (conA (kon (.int 199)) nilA)) (ofLen 2 (m_law_take ns))) (kon (.int 99)) opSub) (bin (calE (conA (rd 0) (conA (kon (.int 17)) nilA)) (ofLen 2 (m_law_take ns))) (kon (.int 8)) opSub)) nilA))) (ifS (tstB (bin (appA (conA (kwE [0, 1, 2] 3 (conA (rd 1) (conA (rd 3) (conA (rd 4) nilA))) (m_at_distance ns)) nilA) bRepr) (appA (conA (calE (conA (rd 1) (conA (rd 3) (conA (rd 4) nilA))) (ofLen 3 (m_law_at ns))) nilA) bRepr) opNe)) (retS (kon (.bl false))) nxS))) (seqS (forS (rng1 (kon (.int 3))) (.nm 2) (seqS (setS (.nm 5) (calE (conA (rd 0) (conA (rd 1) (conA (bin (kon (.int 1)) (calE (conA (rd 0) (conA (kon (.int 5)) nilA)) (ofLen 2 (m_law_take ns))) opAdd) nilA))) (ofLen 3 (m_law_drawn_stand ns)))) (forS (rng1 (appA (conA (rd 5) nilA) (bLen ns))) (.nm 6) (ifS (tstB (bin (appA (conA (kwE [0, 1, 2] 3 (conA (rd 1) (conA (rd 5) (conA (rd 6) nilA))) (m_view ns)) nilA) bRepr) (appA (conA (calE (conA (rd 1) (conA (rd 5) (conA (rd 6) nilA))) (ofLen 3 (m_law_view ns))) nilA) bRepr) opNe)) (retS (kon (.bl false))) nxS)))) (retS (kon (.bl true))))))
def m_law_right (ns : List Int) : List D → M D := runB 7 (b_law_right ns)
abbrev s_law : Stmt := top 42
theorem sc_law : FnScope ["script", "place"] ["script"] (defScope s_law) := ⟨rfl, rfl, rfl, by decide +kernel, rfl, by decide +kernel, by decide +kernel⟩
def b_law (ns : List Int) : MS := (retS (appA (conA (lcE (iterA (calE (conA (rd 0) (conA (kon (.int 3)) nilA)) (ofLen 2 (m_law_cells ns)))) (.nm 1) yesT (calE (conA (calE (conA (rd 0) (conA (rd 1) nilA)) (ofLen 2 (m_law_pot ns))) nilA) (ofLen 1 (m_law_right ns))) [1]) nilA) bAll))
def m_law (ns : List Int) : List D → M D := runB 2 (b_law ns)
structure Tx (mg : Str → Option Value) : Prop where
  z_abs : mg "abs" = none
  z_all : mg "all" = none
  z_bool : mg "bool" = none
  z_enumerate : mg "enumerate" = none
  z_int : mg "int" = none
  z_isinstance : mg "isinstance" = none
  z_len : mg "len" = none
  z_list : mg "list" = none
  z_max : mg "max" = none
  z_min : mg "min" = none
  z_range : mg "range" = none
  z_repr : mg "repr" = none
  z_sorted : mg "sorted" = none
  z_sum : mg "sum" = none
  z_tuple : mg "tuple" = none
  i_MOST_MARK : ∃ t, mg "MOST_MARK" = some (.int 3 t)
  i_MOST_STEPS : ∃ t, mg "MOST_STEPS" = some (.int 99 t)
  i_MOST_WALKERS : ∃ t, mg "MOST_WALKERS" = some (.int 5 t)
section
variable {P : Program} {w : World} {K : PySem.W.Frag} {mg : Str → Option Value} {base : Heap} {sa : Addr} {ns : List Int} {cl : Str → Option Addr} {f : Addr} {fd : FuncData}
theorem g_law_pot (F : FnP K "_law_pot" s_law_pot f fd) (T : Tx mg) : FnG P w K mg base (L2.CX P w) 1 f fd ["script", "place"] (spM ⟨K, sa, ns, cl⟩ wF 2 (m_law_pot ns)) :=
  fn_m F sc_law_pot fun cdv A out s H E hr hgd => (mss_cons (ms_set sc_law_pot.nd (md_if (mt_cmp co_lt (md_var 1) (md_callB (cb_len rfl) (by rfl) T.z_len (by decide +kernel) (ma_cons (md_var 0) ma_nil))) (md_ix rfl (md_var 0) (md_var 1)) (md_add rfl (md_add rfl (md_mod (md_callTy cb_int (by rfl) T.z_int (by decide +kernel) (ma_cons (md_callB (cb_sum rfl rfl) (by rfl) T.z_sum (by decide +kernel) (ma_cons (md_sl rfl (md_var 0) mo_none (mo_some md_int)) ma_nil)) ma_nil)) md_int) (md_mul md_int (md_var 1))) md_int))) (mss_cons (ms_set sc_law_pot.nd (md_mul (md_mod (md_callTy cb_int (by rfl) T.z_int (by decide +kernel) (ma_cons (md_callB cb_abs (by rfl) T.z_abs (by decide +kernel) (ma_cons (md_var 2) ma_nil)) ma_nil)) (md_pow (md_pow md_int md_int) md_int)) (md_callTy cb_int (by rfl) T.z_int (by decide +kernel) (ma_cons (md_cmp co_ge (md_callB cb_abs (by rfl) T.z_abs (by decide +kernel) (ma_cons (md_var 2) ma_nil)) (md_pow md_int md_int)) ma_nil)))) (mss_cons (ms_set sc_law_pot.nd (md_mod (md_callTy cb_int (by rfl) T.z_int (by decide +kernel) (ma_cons (md_var 2) ma_nil)) md_int)) (mss_one (ms_ret (md_lst (ma_cons (md_var 3) (ma_cons (md_mod (md_callTy cb_int (by rfl) T.z_int (by decide +kernel) (ma_cons (md_add rfl (md_add rfl (md_mul (md_var 4) md_int) (md_mul (md_mul md_int (md_var 1)) (md_var 1))) md_int) ma_nil)) md_int) (ma_cons md_int ma_nil)))))))))
theorem g_law_cells (F : FnP K "_law_cells" s_law_cells f fd) (T : Tx mg) : FnG P w K mg base (L2.CX P w) 1 f fd ["script", "limit"] (spM ⟨K, sa, ns, cl⟩ wF 2 (m_law_cells ns)) :=
  fn_m F sc_law_cells fun cdv A out s H E hr hgd => (mss_one (ms_ret (md_listRg rfl (by rfl) T.z_list (by rfl) T.z_range (md_callB (cb_max rfl) (by rfl) T.z_max (by decide +kernel) (ma_cons md_int (ma_cons (md_callB (cb_min rfl) (by rfl) T.z_min (by decide +kernel) (ma_cons (md_var 1) (ma_cons (md_callB (cb_len rfl) (by rfl) T.z_len (by decide +kernel) (ma_cons (md_var 0) ma_nil)) ma_nil))) ma_nil))))))
theorem g_is_integer (F : FnP K "is_integer" s_is_integer f fd) (T : Tx mg) : FnG P w K mg base (L2.CX P w) 1 f fd ["value"] (spM ⟨K, sa, ns, cl⟩ wF 1 (m_is_integer ns)) :=
  fn_m F sc_is_integer fun cdv A out s H E hr hgd => (mss_one (ms_ret (md_and rfl (md_isi rfl (by decide +kernel) (by rfl) T.z_isinstance (by decide +kernel) (md_var 0) (by rfl) T.z_int (by decide +kernel)) (md_one (md_not rfl (md_isi rfl (by decide +kernel) (by rfl) T.z_isinstance (by decide +kernel) (md_var 0) (by rfl) T.z_bool (by decide +kernel)))))))
theorem g_is_within (F : FnP K "is_within" s_is_within f fd) (T : Tx mg) (C_is_integer : Cal P w K mg base ⟨K, sa, ns, cl⟩ "is_integer" 1 1 (m_is_integer ns)) : FnG P w K mg base (L2.CX P w) 2 f fd ["value", "low", "high"] (spM ⟨K, sa, ns, cl⟩ wF 3 (m_is_within ns)) :=
  fn_m F sc_is_within fun cdv A out s H E hr hgd => (mss_one (ms_ret (md_and rfl (md_c C_is_integer hr (by decide) hgd (by rfl) (ma_cons (md_var 0) ma_nil)) (md_one (md_chain co_le co_le (md_var 1) (md_var 0) (md_var 2))))))
theorem g_is_tuple_of (F : FnP K "is_tuple_of" s_is_tuple_of f fd) (T : Tx mg) : FnG P w K mg base (L2.CX P w) 1 f fd ["value", "many"] (spM ⟨K, sa, ns, cl⟩ wF 2 (m_is_tuple_of ns)) :=
  fn_m F sc_is_tuple_of fun cdv A out s H E hr hgd => (mss_one (ms_ret (md_and rfl (md_isi rfl (by decide +kernel) (by rfl) T.z_isinstance (by decide +kernel) (md_var 0) (by rfl) T.z_tuple (by decide +kernel)) (md_one (md_cmp (co_eq rfl hr.units) (md_callB (cb_len rfl) (by rfl) T.z_len (by decide +kernel) (ma_cons (md_var 0) ma_nil)) (md_var 1))))))
theorem g_is_floor (F : FnP K "is_floor" s_is_floor f fd) (T : Tx mg) (C_is_within : Cal P w K mg base ⟨K, sa, ns, cl⟩ "is_within" 3 2 (m_is_within ns)) (C_is_tuple_of : Cal P w K mg base ⟨K, sa, ns, cl⟩ "is_tuple_of" 2 1 (m_is_tuple_of ns)) : FnG P w K mg base (L2.CX P w) 3 f fd ["value"] (spM ⟨K, sa, ns, cl⟩ wF 1 (m_is_floor ns)) :=
  fn_m F sc_is_floor fun cdv A out s H E hr hgd => (mss_cons (ms_if (mt_not (mt_tru rfl (md_c C_is_tuple_of hr (by decide) hgd (by rfl) (ma_cons (md_var 0) (ma_cons md_int ma_nil))))) (mss_one (ms_ret md_bl)) mss_nil) (mss_cons (ms_asg (md_var 0) (mg_tup rfl rfl (mg_cons (mg_name sc_is_floor.nd) (mg_cons (mg_name sc_is_floor.nd) mg_nil)))) (mss_cons (ms_if (mt_cmp (co_eq rfl hr.units) (md_var 1) md_str) (mss_one (ms_ret (md_c C_is_within hr (by decide) hgd (by rfl) (ma_cons (md_var 2) (ma_cons md_int (ma_cons md_int ma_nil)))))) mss_nil) (mss_one (ms_ret (md_and rfl (md_cmp (co_eq rfl hr.units) (md_var 1) md_str) (md_one (md_c C_is_within hr (by decide) hgd (by rfl) (ma_cons (md_var 2) (ma_cons md_int (ma_cons md_int ma_nil)))))))))))
theorem g_check_floor (F : FnP K "check_floor" s_check_floor f fd) (T : Tx mg) (C_is_floor : Cal P w K mg base ⟨K, sa, ns, cl⟩ "is_floor" 1 3 (m_is_floor ns)) : FnG P w K mg base (L2.CX P w) 4 f fd ["value"] (spM ⟨K, sa, ns, cl⟩ wF 1 (m_check_floor ns)) :=
  fn_m F sc_check_floor fun cdv A out s H E hr hgd => (mss_one (ms_if (mt_not (mt_tru rfl (md_c C_is_floor hr (by decide) hgd (by rfl) (ma_cons (md_var 0) ma_nil)))) (mss_one ms_never) mss_nil))
theorem g_is_place (F : FnP K "is_place" s_is_place f fd) (T : Tx mg) (C_is_within : Cal P w K mg base ⟨K, sa, ns, cl⟩ "is_within" 3 2 (m_is_within ns)) : FnG P w K mg base (L2.CX P w) 3 f fd ["floor", "value"] (spM ⟨K, sa, ns, cl⟩ wF 2 (m_is_place ns)) :=
  fn_m F sc_is_place fun cdv A out s H E hr hgd => (mss_one (ms_ret (md_c C_is_within hr (by decide) hgd (by rfl) (ma_cons (md_var 1) (ma_cons md_int (ma_cons (md_sub (md_ix rfl (md_var 0) md_int) md_int) ma_nil))))))
theorem g_check_place (F : FnP K "check_place" s_check_place f fd) (T : Tx mg) (C_is_place : Cal P w K mg base ⟨K, sa, ns, cl⟩ "is_place" 2 3 (m_is_place ns)) : FnG P w K mg base (L2.CX P w) 4 f fd ["floor", "value"] (spM ⟨K, sa, ns, cl⟩ wF 2 (m_check_place ns)) :=
  fn_m F sc_check_place fun cdv A out s H E hr hgd => (mss_one (ms_if (mt_not (mt_tru rfl (md_c C_is_place hr (by decide) hgd (by rfl) (ma_cons (md_var 0) (ma_cons (md_var 1) ma_nil))))) (mss_one ms_never) mss_nil))
theorem g_place_at (F : FnP K "place_at" s_place_at f fd) (T : Tx mg) : FnG P w K mg base (L2.CX P w) 1 f fd ["floor", "place", "steps"] (spM ⟨K, sa, ns, cl⟩ wF 3 (m_place_at ns)) :=
  fn_m F sc_place_at fun cdv A out s H E hr hgd => (mss_cons (ms_asg (md_var 0) (mg_tup rfl rfl (mg_cons (mg_name sc_place_at.nd) (mg_cons (mg_name sc_place_at.nd) mg_nil)))) (mss_cons (ms_set sc_place_at.nd (md_add rfl (md_var 1) (md_var 2))) (mss_cons (ms_if (mt_cmp (co_eq rfl hr.units) (md_var 3) md_str) (mss_one (ms_ret (md_mod (md_var 5) (md_var 4)))) mss_nil) (mss_one (ms_ret (md_if (mt_chain co_le co_lt md_int (md_var 5) (md_var 4)) (md_var 5) md_non))))))
theorem g_at_distance (F : FnP K "at_distance" s_at_distance f fd) (T : Tx mg) (C_is_within : Cal P w K mg base ⟨K, sa, ns, cl⟩ "is_within" 3 2 (m_is_within ns)) (C_check_floor : Cal P w K mg base ⟨K, sa, ns, cl⟩ "check_floor" 1 4 (m_check_floor ns)) (C_check_place : Cal P w K mg base ⟨K, sa, ns, cl⟩ "check_place" 2 4 (m_check_place ns)) (C_place_at : Cal P w K mg base ⟨K, sa, ns, cl⟩ "place_at" 3 1 (m_place_at ns)) : FnG P w K mg base (L2.CX P w) 5 f fd ["floor", "place", "steps"] (spM ⟨K, sa, ns, cl⟩ wF 3 (m_at_distance ns)) :=
  fn_m F sc_at_distance fun cdv A out s H E hr hgd => (mss_cons (ms_expr (md_c C_check_floor hr (by decide) hgd (by rfl) (ma_cons (md_var 0) ma_nil))) (mss_cons (ms_expr (md_c C_check_place hr (by decide) hgd (by rfl) (ma_cons (md_var 0) (ma_cons (md_var 1) ma_nil)))) (mss_cons (ms_if (mt_not (mt_tru rfl (md_c C_is_within hr (by decide) hgd (by rfl) (ma_cons (md_var 2) (ma_cons (md_neg (md_gint T.i_MOST_STEPS (by rfl))) (ma_cons (md_gint T.i_MOST_STEPS (by rfl)) ma_nil)))))) (mss_one ms_never) mss_nil) (mss_one (ms_ret (md_c C_place_at hr (by decide) hgd (by rfl) (ma_cons (md_var 0) (ma_cons (md_var 1) (ma_cons (md_var 2) ma_nil)))))))))
theorem g_is_mark (F : FnP K "is_mark" s_is_mark f fd) (T : Tx mg) (C_is_within : Cal P w K mg base ⟨K, sa, ns, cl⟩ "is_within" 3 2 (m_is_within ns)) : FnG P w K mg base (L2.CX P w) 3 f fd ["value"] (spM ⟨K, sa, ns, cl⟩ wF 1 (m_is_mark ns)) :=
  fn_m F sc_is_mark fun cdv A out s H E hr hgd => (mss_one (ms_ret (md_c C_is_within hr (by decide) hgd (by rfl) (ma_cons (md_var 0) (ma_cons md_int (ma_cons (md_gint T.i_MOST_MARK (by rfl)) ma_nil))))))
theorem g_is_sense (F : FnP K "is_sense" s_is_sense f fd) (T : Tx mg) (C_is_within : Cal P w K mg base ⟨K, sa, ns, cl⟩ "is_within" 3 2 (m_is_within ns)) : FnG P w K mg base (L2.CX P w) 3 f fd ["value"] (spM ⟨K, sa, ns, cl⟩ wF 1 (m_is_sense ns)) :=
  fn_m F sc_is_sense fun cdv A out s H E hr hgd => (mss_one (ms_ret (md_and rfl (md_c C_is_within hr (by decide) hgd (by rfl) (ma_cons (md_var 0) (ma_cons (md_neg md_int) (ma_cons md_int ma_nil)))) (md_one (md_cmp (co_ne rfl hr.units) (md_var 0) md_int)))))
theorem g_is_placed (F : FnP K "is_placed" s_is_placed f fd) (T : Tx mg) (C_is_tuple_of : Cal P w K mg base ⟨K, sa, ns, cl⟩ "is_tuple_of" 2 1 (m_is_tuple_of ns)) (C_is_mark : Cal P w K mg base ⟨K, sa, ns, cl⟩ "is_mark" 1 3 (m_is_mark ns)) (C_is_sense : Cal P w K mg base ⟨K, sa, ns, cl⟩ "is_sense" 1 3 (m_is_sense ns)) (C_is_place : Cal P w K mg base ⟨K, sa, ns, cl⟩ "is_place" 2 3 (m_is_place ns)) : FnG P w K mg base (L2.CX P w) 4 f fd ["floor", "value"] (spM ⟨K, sa, ns, cl⟩ wF 2 (m_is_placed ns)) :=
  fn_m F sc_is_placed fun cdv A out s H E hr hgd => (mss_cons (ms_if (mt_not (mt_tru rfl (md_c C_is_tuple_of hr (by decide) hgd (by rfl) (ma_cons (md_var 1) (ma_cons md_int ma_nil))))) (mss_one (ms_ret md_bl)) mss_nil) (mss_cons (ms_asg (md_var 1) (mg_tup rfl rfl (mg_cons (mg_name sc_is_placed.nd) (mg_cons (mg_name sc_is_placed.nd) (mg_cons (mg_name sc_is_placed.nd) mg_nil))))) (mss_one (ms_ret (md_and rfl (md_c C_is_place hr (by decide) hgd (by rfl) (ma_cons (md_var 0) (ma_cons (md_var 2) ma_nil))) (md_and rfl (md_c C_is_mark hr (by decide) hgd (by rfl) (ma_cons (md_var 3) ma_nil)) (md_one (md_c C_is_sense hr (by decide) hgd (by rfl) (ma_cons (md_var 4) ma_nil)))))))))
theorem g_is_standing (F : FnP K "is_standing" s_is_standing f fd) (T : Tx mg) (C_is_placed : Cal P w K mg base ⟨K, sa, ns, cl⟩ "is_placed" 2 4 (m_is_placed ns)) : FnG P w K mg base (L2.CX P w) 5 f fd ["floor", "value"] (spM ⟨K, sa, ns, cl⟩ wF 2 (m_is_standing ns)) :=
  fn_m F sc_is_standing fun cdv A out s H E hr hgd => (mss_cons (ms_if (PW.pt (mw_or (mt_not (mt_tru rfl (md_isi rfl (by decide +kernel) (by rfl) T.z_isinstance (by decide +kernel) (md_var 1) (by rfl) T.z_tuple (by decide +kernel)))) (mw_or1 (mt_not (mt_chain co_le co_le md_int (md_callB (cb_len rfl) (by rfl) T.z_len (by decide +kernel) (ma_cons (md_var 1) ma_nil)) (md_gint T.i_MOST_WALKERS (by rfl))))))) (mss_one (ms_ret md_bl)) mss_nil) (mss_one (ms_ret (md_callB (cb_all rfl rfl) (by rfl) T.z_all (by decide +kernel) (ma_cons (md_lc rfl sc_is_standing.nd (mi_seq rfl (md_var 1)) (blkOk_by (N := ["floor", "value", "entry"]) (sc := defScope s_is_standing) (own := [("entry", 2)]) (by decide +kernel)) (fun _ _ _ _ _ => (mg_name sc_is_standing.nd)) (fun _ _ _ _ _ => mts_nil) (fun _ _ _ _ _ => (md_c C_is_placed hr (by decide) hgd (by rfl) (ma_cons (md_var 0) (ma_cons (md_var 2) ma_nil))))) ma_nil)))))
theorem g_check_standing (F : FnP K "check_standing" s_check_standing f fd) (T : Tx mg) (C_is_standing : Cal P w K mg base ⟨K, sa, ns, cl⟩ "is_standing" 2 5 (m_is_standing ns)) : FnG P w K mg base (L2.CX P w) 6 f fd ["floor", "value"] (spM ⟨K, sa, ns, cl⟩ wF 2 (m_check_standing ns)) :=
  fn_m F sc_check_standing fun cdv A out s H E hr hgd => (mss_one (ms_if (mt_not (mt_tru rfl (md_c C_is_standing hr (by decide) hgd (by rfl) (ma_cons (md_var 0) (ma_cons (md_var 1) ma_nil))))) (mss_one ms_never) mss_nil))
theorem g_check_walker (F : FnP K "check_walker" s_check_walker f fd) (T : Tx mg) (C_is_within : Cal P w K mg base ⟨K, sa, ns, cl⟩ "is_within" 3 2 (m_is_within ns)) : FnG P w K mg base (L2.CX P w) 3 f fd ["standing", "value"] (spM ⟨K, sa, ns, cl⟩ wF 2 (m_check_walker ns)) :=
  fn_m F sc_check_walker fun cdv A out s H E hr hgd => (mss_one (ms_if (mt_not (mt_tru rfl (md_c C_is_within hr (by decide) hgd (by rfl) (ma_cons (md_var 1) (ma_cons md_int (ma_cons (md_sub (md_callB (cb_len rfl) (by rfl) T.z_len (by decide +kernel) (ma_cons (md_var 0) ma_nil)) md_int) ma_nil)))))) (mss_one ms_never) mss_nil))
theorem g_cell_at (F : FnP K "cell_at" s_cell_at f fd) (T : Tx mg) : FnG P w K mg base (L2.CX P w) 1 f fd ["standing", "walker", "place"] (spM ⟨K, sa, ns, cl⟩ wF 3 (m_cell_at ns)) :=
  fn_m F sc_cell_at fun cdv A out s H E hr hgd => (mss_cons (ms_setLc rfl sc_cell_at.nd (mi_enu rfl (by rfl) T.z_enumerate (md_var 0)) (blkOk_by (N := ["standing", "walker", "place", "marks", "number", "at", "mark", "_"]) (sc := defScope s_cell_at) (own := [("number", 4), ("at", 5), ("mark", 6), ("_", 7)]) (by decide +kernel)) (fun _ _ _ _ _ => (mg_tup rfl rfl (mg_cons (mg_name sc_cell_at.nd) (mg_cons (mg_tup rfl rfl (mg_cons (mg_name sc_cell_at.nd) (mg_cons (mg_name sc_cell_at.nd) (mg_cons (mg_name sc_cell_at.nd) mg_nil)))) mg_nil)))) (fun _ _ _ _ _ => (mts_one (PW.pt (mw_and (mt_cmp (co_eq rfl hr.units) (md_var 5) (md_var 2)) (mw_and1 (mt_cmp (co_ne rfl hr.units) (md_var 4) (md_var 1))))))) (fun _ _ _ _ _ => (md_var 6)) (sw_true rfl rfl rfl (by decide +kernel))) (mss_one (ms_ret (md_callTy (cb_tuple rfl) (by rfl) T.z_tuple (by decide +kernel) (ma_cons (md_callB (cb_sorted rfl) (by rfl) T.z_sorted (by decide +kernel) (ma_cons (md_var 3) ma_nil)) ma_nil)))))
theorem g_cells_towards (F : FnP K "cells_towards" s_cells_towards f fd) (T : Tx mg) (C_place_at : Cal P w K mg base ⟨K, sa, ns, cl⟩ "place_at" 3 1 (m_place_at ns)) (C_cell_at : Cal P w K mg base ⟨K, sa, ns, cl⟩ "cell_at" 3 1 (m_cell_at ns)) : FnG P w K mg base (L2.CX P w) 2 f fd ["floor", "standing", "walker", "sense"] (spM ⟨K, sa, ns, cl⟩ wF 4 (m_cells_towards ns)) :=
  fn_m F sc_cells_towards fun cdv A out s H E hr hgd => (mss_cons (ms_set sc_cells_towards.nd (md_ix rfl (md_ix rfl (md_var 1) (md_var 2)) md_int)) (mss_cons (ms_setLc rfl sc_cells_towards.nd (mi_rng2 (by rfl) T.z_range md_int (md_ix rfl (md_var 0) md_int)) (blkOk_by (N := ["floor", "standing", "walker", "sense", "own_place", "places", "steps", "place"]) (sc := defScope s_cells_towards) (own := [("steps", 6)]) (by decide +kernel)) (fun _ _ _ _ _ => (mg_name sc_cells_towards.nd)) (fun _ _ _ _ _ => mts_nil) (fun _ _ _ _ _ => (md_c C_place_at hr (by decide) hgd (by rfl) (ma_cons (md_var 0) (ma_cons (md_var 4) (ma_cons (md_mul (md_var 3) (md_var 6)) ma_nil))))) (sw_true rfl rfl rfl (by decide +kernel))) (mss_one (ms_ret (md_callTy (cb_tuple rfl) (by rfl) T.z_tuple (by decide +kernel) (ma_cons (md_lc rfl sc_cells_towards.nd (mi_seq rfl (md_var 5)) (blkOk_by (N := ["floor", "standing", "walker", "sense", "own_place", "places", "steps", "place"]) (sc := defScope s_cells_towards) (own := [("place", 7)]) (by decide +kernel)) (fun _ _ _ _ _ => (mg_name sc_cells_towards.nd)) (fun _ _ _ _ _ => (mts_one (mt_cmp co_isnot (md_var 7) md_non))) (fun _ _ _ _ _ => (md_c C_cell_at hr (by decide) hgd (by rfl) (ma_cons (md_var 1) (ma_cons (md_var 2) (ma_cons (md_var 7) ma_nil)))))) ma_nil))))))
theorem g_view_of (F : FnP K "view_of" s_view_of f fd) (T : Tx mg) (C_cell_at : Cal P w K mg base ⟨K, sa, ns, cl⟩ "cell_at" 3 1 (m_cell_at ns)) (C_cells_towards : Cal P w K mg base ⟨K, sa, ns, cl⟩ "cells_towards" 4 2 (m_cells_towards ns)) : FnG P w K mg base (L2.CX P w) 3 f fd ["floor", "standing", "walker"] (spM ⟨K, sa, ns, cl⟩ wF 3 (m_view_of ns)) :=
  fn_m F sc_view_of fun cdv A out s H E hr hgd => (mss_cons (ms_asg (md_ix rfl (md_var 1) (md_var 2)) (mg_tup rfl rfl (mg_cons (mg_name sc_view_of.nd) (mg_cons (mg_name sc_view_of.nd) (mg_cons (mg_name sc_view_of.nd) mg_nil))))) (mss_cons (ms_set sc_view_of.nd (md_c C_cells_towards hr (by decide) hgd (by rfl) (ma_cons (md_var 0) (ma_cons (md_var 1) (ma_cons (md_var 2) (ma_cons (md_var 5) ma_nil)))))) (mss_cons (ms_set sc_view_of.nd (md_c C_cells_towards hr (by decide) hgd (by rfl) (ma_cons (md_var 0) (ma_cons (md_var 1) (ma_cons (md_var 2) (ma_cons (md_neg (md_var 5)) ma_nil)))))) (mss_one (ms_ret (md_tup (ma_cons (md_var 4) (ma_cons (md_c C_cell_at hr (by decide) hgd (by rfl) (ma_cons (md_var 1) (ma_cons (md_var 2) (ma_cons (md_var 3) ma_nil)))) (ma_cons (md_var 6) (ma_cons (md_var 7) ma_nil))))))))))
theorem g_view (F : FnP K "view" s_view f fd) (T : Tx mg) (C_check_floor : Cal P w K mg base ⟨K, sa, ns, cl⟩ "check_floor" 1 4 (m_check_floor ns)) (C_check_standing : Cal P w K mg base ⟨K, sa, ns, cl⟩ "check_standing" 2 6 (m_check_standing ns)) (C_check_walker : Cal P w K mg base ⟨K, sa, ns, cl⟩ "check_walker" 2 3 (m_check_walker ns)) (C_view_of : Cal P w K mg base ⟨K, sa, ns, cl⟩ "view_of" 3 3 (m_view_of ns)) : FnG P w K mg base (L2.CX P w) 7 f fd ["floor", "standing", "walker"] (spM ⟨K, sa, ns, cl⟩ wF 3 (m_view ns)) :=
  fn_m F sc_view fun cdv A out s H E hr hgd => (mss_cons (ms_expr (md_c C_check_floor hr (by decide) hgd (by rfl) (ma_cons (md_var 0) ma_nil))) (mss_cons (ms_expr (md_c C_check_standing hr (by decide) hgd (by rfl) (ma_cons (md_var 0) (ma_cons (md_var 1) ma_nil)))) (mss_cons (ms_expr (md_c C_check_walker hr (by decide) hgd (by rfl) (ma_cons (md_var 1) (ma_cons (md_var 2) ma_nil)))) (mss_one (ms_ret (md_c C_view_of hr (by decide) hgd (by rfl) (ma_cons (md_var 0) (ma_cons (md_var 1) (ma_cons (md_var 2) ma_nil)))))))))
theorem g_law_take (F : FnP K "_law_take" s_law_take f fd) (T : Tx mg) : FnG P w K mg base (L2.CX P w) 1 f fd ["pot", "upto"] (spM ⟨K, sa, ns, cl⟩ wF 2 (m_law_take ns)) :=
  fn_m F sc_law_take fun cdv A out s H E hr hgd => (mss_cons (ms_if (mt_cmp co_gt (md_ix rfl (md_var 0) md_int) md_int) (mss_cons (ms_set sc_law_take.nd (md_mod (md_callTy cb_int (by rfl) T.z_int (by decide +kernel) (ma_cons (md_ix rfl (md_var 0) md_int) ma_nil)) (md_var 1))) (mss_cons (ms_sub (md_fdiv (md_ix rfl (md_var 0) md_int) (md_var 1)) (md_var 0) md_int) (mss_one (ms_ret (md_var 4))))) mss_nil) (mss_cons (ms_sub (md_add rfl (md_ix rfl (md_var 0) md_int) md_int) (md_var 0) md_int) (mss_cons (ms_set sc_law_take.nd (md_ix rfl (md_lst (ma_cons md_int (ma_cons md_int (ma_cons md_int (ma_cons md_int (ma_cons md_int ma_nil)))))) (md_mod (md_callTy cb_int (by rfl) T.z_int (by decide +kernel) (ma_cons (md_ix rfl (md_var 0) md_int) ma_nil)) md_int))) (mss_cons (ms_set sc_law_take.nd (md_mod (md_callTy cb_int (by rfl) T.z_int (by decide +kernel) (ma_cons (md_pow (md_callTy cb_int (by rfl) T.z_int (by decide +kernel) (ma_cons (md_add rfl (md_add rfl (md_ix rfl (md_var 0) md_int) (md_mul (md_mul md_int (md_ix rfl (md_var 0) md_int)) (md_ix rfl (md_var 0) md_int))) md_int) ma_nil)) md_int) ma_nil)) (md_var 2))) (mss_one (ms_ret (md_mod (md_callTy cb_int (by rfl) T.z_int (by decide +kernel) (ma_cons (md_fdiv (md_mul (md_var 3) (md_add rfl (md_mod (md_callTy cb_int (by rfl) T.z_int (by decide +kernel) (ma_cons (md_var 3) ma_nil)) md_int) (md_mul md_int (md_ix rfl (md_var 0) md_int)))) md_int) ma_nil)) (md_var 1))))))))
theorem g_law_at (F : FnP K "_law_at" s_law_at f fd) (T : Tx mg) : FnG P w K mg base (L2.CX P w) 1 f fd ["floor", "place", "steps"] (spM ⟨K, sa, ns, cl⟩ wF 3 (m_law_at ns)) :=
  fn_m F sc_law_at fun cdv A out s H E hr hgd => (mss_cons (ms_asg (md_var 0) (mg_tup rfl rfl (mg_cons (mg_name sc_law_at.nd) (mg_cons (mg_name sc_law_at.nd) mg_nil)))) (mss_cons (ms_if (mt_cmp (co_eq rfl hr.units) (md_var 3) md_str) (mss_one (ms_ret (md_mod (md_add rfl (md_var 1) (md_var 2)) (md_var 4)))) mss_nil) (mss_one (ms_ret (md_if (mt_chain co_le co_lt md_int (md_add rfl (md_var 1) (md_var 2)) (md_var 4)) (md_add rfl (md_var 1) (md_var 2)) md_non)))))
theorem g_law_marks_at (F : FnP K "_law_marks_at" s_law_marks_at f fd) (T : Tx mg) : FnG P w K mg base (L2.CX P w) 1 f fd ["standing", "place", "walker"] (spM ⟨K, sa, ns, cl⟩ wF 3 (m_law_marks_at ns)) :=
  fn_m F sc_law_marks_at fun cdv A out s H E hr hgd => (mss_one (ms_ret (md_callTy (cb_tuple rfl) (by rfl) T.z_tuple (by decide +kernel) (ma_cons (md_callB (cb_sorted rfl) (by rfl) T.z_sorted (by decide +kernel) (ma_cons (md_lc rfl sc_law_marks_at.nd (mi_enu rfl (by rfl) T.z_enumerate (md_var 0)) (blkOk_by (N := ["standing", "place", "walker", "at", "its", "mark", "sense"]) (sc := defScope s_law_marks_at) (own := [("at", 3), ("its", 4), ("mark", 5), ("sense", 6)]) (by decide +kernel)) (fun _ _ _ _ _ => (mg_tup rfl rfl (mg_cons (mg_name sc_law_marks_at.nd) (mg_cons (mg_tup rfl rfl (mg_cons (mg_name sc_law_marks_at.nd) (mg_cons (mg_name sc_law_marks_at.nd) (mg_cons (mg_name sc_law_marks_at.nd) mg_nil)))) mg_nil)))) (fun _ _ _ _ _ => (mts_one (PW.pt (mw_and (mt_cmp (co_eq rfl hr.units) (md_var 4) (md_var 1)) (mw_and1 (mt_cmp (co_ne rfl hr.units) (md_var 3) (md_var 2))))))) (fun _ _ _ _ _ => (md_var 5))) ma_nil)) ma_nil))))
theorem g_law_view (F : FnP K "_law_view" s_law_view f fd) (T : Tx mg) (C_law_at : Cal P w K mg base ⟨K, sa, ns, cl⟩ "_law_at" 3 1 (m_law_at ns)) (C_law_marks_at : Cal P w K mg base ⟨K, sa, ns, cl⟩ "_law_marks_at" 3 1 (m_law_marks_at ns)) : FnG P w K mg base (L2.CX P w) 2 f fd ["floor", "standing", "walker"] (spM ⟨K, sa, ns, cl⟩ wF 3 (m_law_view ns)) :=
  fn_m F sc_law_view fun cdv A out s H E hr hgd => (mss_cons (ms_asg (md_ix rfl (md_var 1) (md_var 2)) (mg_tup rfl rfl (mg_cons (mg_name sc_law_view.nd) (mg_cons (mg_name sc_law_view.nd) (mg_cons (mg_name sc_law_view.nd) mg_nil))))) (mss_cons (ms_set sc_law_view.nd (md_lst ma_nil)) (mss_cons (ms_for pass_own rfl (mi_seq rfl (md_tup (ma_cons (md_var 5) (ma_cons (md_sub md_int (md_var 5)) ma_nil)))) (mg_name sc_law_view.nd) (mss_cons (ms_set sc_law_view.nd (md_lst ma_nil)) (mss_cons (ms_for pass_own rfl (mi_rng2 (by rfl) T.z_range md_int (md_ix rfl (md_var 0) md_int)) (mg_name sc_law_view.nd) (mss_cons (ms_set sc_law_view.nd (md_c C_law_at hr (by decide) hgd (by rfl) (ma_cons (md_var 0) (ma_cons (md_var 3) (ma_cons (md_mul (md_var 7) (md_var 9)) ma_nil))))) (mss_one (ms_if (mt_cmp co_isnot (md_var 10) md_non) (mss_one (ms_expr (md_append rfl (md_var 8) (ma_cons (md_c C_law_marks_at hr (by decide) hgd (by rfl) (ma_cons (md_var 1) (ma_cons (md_var 10) (ma_cons (md_var 2) ma_nil)))) ma_nil)))) mss_nil)))) (mss_one (ms_expr (md_append rfl (md_var 6) (ma_cons (md_callTy (cb_tuple rfl) (by rfl) T.z_tuple (by decide +kernel) (ma_cons (md_var 8) ma_nil)) ma_nil))))))) (mss_one (ms_ret (md_tup (ma_cons (md_var 4) (ma_cons (md_c C_law_marks_at hr (by decide) hgd (by rfl) (ma_cons (md_var 1) (ma_cons (md_var 3) (ma_cons (md_var 2) ma_nil)))) (ma_cons (md_ix rfl (md_var 6) md_int) (ma_cons (md_ix rfl (md_var 6) md_int) ma_nil))))))))))
theorem g_law_of (F : FnP K "_law_of" s_law_of f fd) (T : Tx mg) (C_law_take : Cal P w K mg base ⟨K, sa, ns, cl⟩ "_law_take" 2 1 (m_law_take ns)) : FnG P w K mg base (L2.CX P w) 2 f fd ["pot", "some"] (spM ⟨K, sa, ns, cl⟩ wF 2 (m_law_of ns)) :=
  fn_m F sc_law_of fun cdv A out s H E hr hgd => (mss_one (ms_ret (md_ix rfl (md_var 1) (md_c C_law_take hr (by decide) hgd (by rfl) (ma_cons (md_var 0) (ma_cons (md_callB (cb_len rfl) (by rfl) T.z_len (by decide +kernel) (ma_cons (md_var 1) ma_nil)) ma_nil))))))
theorem g_law_drawn_stand (F : FnP K "_law_drawn_stand" s_law_drawn_stand f fd) (T : Tx mg) (C_law_take : Cal P w K mg base ⟨K, sa, ns, cl⟩ "_law_take" 2 1 (m_law_take ns)) (C_law_of : Cal P w K mg base ⟨K, sa, ns, cl⟩ "_law_of" 2 2 (m_law_of ns)) : FnG P w K mg base (L2.CX P w) 3 f fd ["pot", "floor", "walkers"] (spM ⟨K, sa, ns, cl⟩ wF 3 (m_law_drawn_stand ns)) :=
  fn_m F sc_law_drawn_stand fun cdv A out s H E hr hgd => (mss_one (ms_ret (md_callTy (cb_tuple rfl) (by rfl) T.z_tuple (by decide +kernel) (ma_cons (md_lc rfl sc_law_drawn_stand.nd (mi_rng1 (by rfl) T.z_range (md_var 2)) (blkOk_by (N := ["pot", "floor", "walkers", "lap"]) (sc := defScope s_law_drawn_stand) (own := [("lap", 3)]) (by decide +kernel)) (fun _ _ _ _ _ => (mg_name sc_law_drawn_stand.nd)) (fun _ _ _ _ _ => mts_nil) (fun _ _ _ _ _ => (md_tup (ma_cons (md_c C_law_take hr (by decide) hgd (by rfl) (ma_cons (md_var 0) (ma_cons (md_ix rfl (md_var 1) md_int) ma_nil))) (ma_cons (md_c C_law_take hr (by decide) hgd (by rfl) (ma_cons (md_var 0) (ma_cons md_int ma_nil))) (ma_cons (md_c C_law_of hr (by decide) hgd (by rfl) (ma_cons (md_var 0) (ma_cons (md_lst (ma_cons md_int (ma_cons (md_neg md_int) ma_nil))) ma_nil))) ma_nil)))))) ma_nil))))
theorem g_law_any_floor (F : FnP K "_law_any_floor" s_law_any_floor f fd) (T : Tx mg) (C_law_take : Cal P w K mg base ⟨K, sa, ns, cl⟩ "_law_take" 2 1 (m_law_take ns)) (C_law_of : Cal P w K mg base ⟨K, sa, ns, cl⟩ "_law_of" 2 2 (m_law_of ns)) : FnG P w K mg base (L2.CX P w) 3 f fd ["pot"] (spM ⟨K, sa, ns, cl⟩ wF 1 (m_law_any_floor ns)) :=
  fn_m F sc_law_any_floor fun cdv A out s H E hr hgd => (mss_cons (ms_set sc_law_any_floor.nd (md_c C_law_of hr (by decide) hgd (by rfl) (ma_cons (md_var 0) (ma_cons (md_lst (ma_cons md_str (ma_cons md_str ma_nil))) ma_nil)))) (mss_one (ms_ret (md_tup (ma_cons (md_var 1) (ma_cons (md_if (mt_cmp (co_eq rfl hr.units) (md_var 1) md_str) (md_add rfl md_int (md_c C_law_take hr (by decide) hgd (by rfl) (ma_cons (md_var 0) (ma_cons md_int ma_nil)))) (md_add rfl md_int (md_c C_law_take hr (by decide) hgd (by rfl) (ma_cons (md_var 0) (ma_cons md_int ma_nil))))) ma_nil))))))
theorem g_law_right (F : FnP K "_law_right" s_law_right f fd) (T : Tx mg) (C_law_take : Cal P w K mg base ⟨K, sa, ns, cl⟩ "_law_take" 2 1 (m_law_take ns)) (C_law_at : Cal P w K mg base ⟨K, sa, ns, cl⟩ "_law_at" 3 1 (m_law_at ns)) (C_law_view : Cal P w K mg base ⟨K, sa, ns, cl⟩ "_law_view" 3 2 (m_law_view ns)) (C_law_drawn_stand : Cal P w K mg base ⟨K, sa, ns, cl⟩ "_law_drawn_stand" 3 3 (m_law_drawn_stand ns)) (C_law_any_floor : Cal P w K mg base ⟨K, sa, ns, cl⟩ "_law_any_floor" 1 3 (m_law_any_floor ns)) (K_at_distance_floor_place_steps : CalK P w K mg base ⟨K, sa, ns, cl⟩ "at_distance" 3 5 (m_at_distance ns) ["floor", "place", "steps"] [0, 1, 2]) (K_view_floor_standing_walker : CalK P w K mg base ⟨K, sa, ns, cl⟩ "view" 3 7 (m_view ns) ["floor", "standing", "walker"] [0, 1, 2]) : FnG P w K mg base (L2.CX P w) 8 f fd ["pot"] (spM ⟨K, sa, ns, cl⟩ wF 1 (m_law_right ns)) :=
  fn_m F sc_law_right fun cdv A out s H E hr hgd => (mss_cons (ms_set sc_law_right.nd (md_c C_law_any_floor hr (by decide) hgd (by rfl) (ma_cons (md_var 0) ma_nil))) (mss_cons (ms_for pass_own rfl (mi_rng1 (by rfl) T.z_range md_int) (mg_name sc_law_right.nd) (mss_cons (ms_par rfl sc_law_right.nd (by decide) (ma_cons (md_c C_law_take hr (by decide) hgd (by rfl) (ma_cons (md_var 0) (ma_cons (md_ix rfl (md_var 1) md_int) ma_nil))) (ma_cons (md_if (mt_cmp co_lt (md_var 2) md_int) (md_sub (md_c C_law_take hr (by decide) hgd (by rfl) (ma_cons (md_var 0) (ma_cons md_int ma_nil))) md_int) (md_sub (md_c C_law_take hr (by decide) hgd (by rfl) (ma_cons (md_var 0) (ma_cons md_int ma_nil))) md_int)) ma_nil))) (mss_one (ms_if (mt_cmp (co_ne rfl hr.units) (md_callB (cb_repr rfl hgd hr.units) (by rfl) T.z_repr (by decide +kernel) (ma_cons (md_ck K_at_distance_floor_place_steps hr (by decide) hgd (by rfl) (mk_cons (md_var 1) (mk_cons (md_var 3) (mk_cons (md_var 4) mk_nil))) (by intro zs h; match zs, h with | [_, _, _], _ => rfl)) ma_nil)) (md_callB (cb_repr rfl hgd hr.units) (by rfl) T.z_repr (by decide +kernel) (ma_cons (md_c C_law_at hr (by decide) hgd (by rfl) (ma_cons (md_var 1) (ma_cons (md_var 3) (ma_cons (md_var 4) ma_nil)))) ma_nil))) (mss_one (ms_ret md_bl)) mss_nil)))) (mss_cons (ms_for pass_own rfl (mi_rng1 (by rfl) T.z_range md_int) (mg_name sc_law_right.nd) (mss_cons (ms_set sc_law_right.nd (md_c C_law_drawn_stand hr (by decide) hgd (by rfl) (ma_cons (md_var 0) (ma_cons (md_var 1) (ma_cons (md_add rfl md_int (md_c C_law_take hr (by decide) hgd (by rfl) (ma_cons (md_var 0) (ma_cons md_int ma_nil)))) ma_nil))))) (mss_one (ms_for pass_own rfl (mi_rng1 (by rfl) T.z_range (md_callB (cb_len rfl) (by rfl) T.z_len (by decide +kernel) (ma_cons (md_var 5) ma_nil))) (mg_name sc_law_right.nd) (mss_one (ms_if (mt_cmp (co_ne rfl hr.units) (md_callB (cb_repr rfl hgd hr.units) (by rfl) T.z_repr (by decide +kernel) (ma_cons (md_ck K_view_floor_standing_walker hr (by decide) hgd (by rfl) (mk_cons (md_var 1) (mk_cons (md_var 5) (mk_cons (md_var 6) mk_nil))) (by intro zs h; match zs, h with | [_, _, _], _ => rfl)) ma_nil)) (md_callB (cb_repr rfl hgd hr.units) (by rfl) T.z_repr (by decide +kernel) (ma_cons (md_c C_law_view hr (by decide) hgd (by rfl) (ma_cons (md_var 1) (ma_cons (md_var 5) (ma_cons (md_var 6) ma_nil)))) ma_nil))) (mss_one (ms_ret md_bl)) mss_nil)))))) (mss_one (ms_ret md_bl)))))
theorem g_law (F : FnP K "law" s_law f fd) (T : Tx mg) (C_law_pot : Cal P w K mg base ⟨K, sa, ns, cl⟩ "_law_pot" 2 1 (m_law_pot ns)) (C_law_cells : Cal P w K mg base ⟨K, sa, ns, cl⟩ "_law_cells" 2 1 (m_law_cells ns)) (C_law_right : Cal P w K mg base ⟨K, sa, ns, cl⟩ "_law_right" 1 8 (m_law_right ns)) : FnG P w K mg base (L2.CX P w) 9 f fd ["script"] (spM ⟨K, sa, ns, cl⟩ wF 1 (m_law ns)) :=
  fn_m F sc_law fun cdv A out s H E hr hgd => (mss_one (ms_ret (md_callB (cb_all rfl rfl) (by rfl) T.z_all (by decide +kernel) (ma_cons (md_lc rfl sc_law.nd (mi_seq rfl (md_c C_law_cells hr (by decide) hgd (by rfl) (ma_cons (md_var 0) (ma_cons md_int ma_nil)))) (blkOk_by (N := ["script", "place"]) (sc := defScope s_law) (own := [("place", 1)]) (by decide +kernel)) (fun _ _ _ _ _ => (mg_name sc_law.nd)) (fun _ _ _ _ _ => mts_nil) (fun _ _ _ _ _ => (md_c C_law_right hr (by decide) hgd (by rfl) (ma_cons (md_c C_law_pot hr (by decide) hgd (by rfl) (ma_cons (md_var 0) (ma_cons (md_var 1) ma_nil))) ma_nil)))) ma_nil))))
end
def d_law_pot : He.DefD := ⟨("_law_pot", none), "_law_pot", "_law_pot", defArgs s_law_pot, defBody s_law_pot, defScope s_law_pot, [], []⟩
def d_law_cells : He.DefD := ⟨("_law_cells", none), "_law_cells", "_law_cells", defArgs s_law_cells, defBody s_law_cells, defScope s_law_cells, [], []⟩
def d_is_integer : He.DefD := ⟨("is_integer", none), "is_integer", "is_integer", defArgs s_is_integer, defBody s_is_integer, defScope s_is_integer, [], []⟩
def d_is_within : He.DefD := ⟨("is_within", none), "is_within", "is_within", defArgs s_is_within, defBody s_is_within, defScope s_is_within, [], []⟩
def d_is_tuple_of : He.DefD := ⟨("is_tuple_of", none), "is_tuple_of", "is_tuple_of", defArgs s_is_tuple_of, defBody s_is_tuple_of, defScope s_is_tuple_of, [], []⟩
def d_is_floor : He.DefD := ⟨("is_floor", none), "is_floor", "is_floor", defArgs s_is_floor, defBody s_is_floor, defScope s_is_floor, [], []⟩
def d_check_floor : He.DefD := ⟨("check_floor", none), "check_floor", "check_floor", defArgs s_check_floor, defBody s_check_floor, defScope s_check_floor, [], []⟩
def d_is_place : He.DefD := ⟨("is_place", none), "is_place", "is_place", defArgs s_is_place, defBody s_is_place, defScope s_is_place, [], []⟩
def d_check_place : He.DefD := ⟨("check_place", none), "check_place", "check_place", defArgs s_check_place, defBody s_check_place, defScope s_check_place, [], []⟩
def d_place_at : He.DefD := ⟨("place_at", none), "place_at", "place_at", defArgs s_place_at, defBody s_place_at, defScope s_place_at, [], []⟩
def d_at_distance : He.DefD := ⟨("at_distance", none), "at_distance", "at_distance", defArgs s_at_distance, defBody s_at_distance, defScope s_at_distance, [], []⟩
def d_is_mark : He.DefD := ⟨("is_mark", none), "is_mark", "is_mark", defArgs s_is_mark, defBody s_is_mark, defScope s_is_mark, [], []⟩
def d_is_sense : He.DefD := ⟨("is_sense", none), "is_sense", "is_sense", defArgs s_is_sense, defBody s_is_sense, defScope s_is_sense, [], []⟩
def d_is_placed : He.DefD := ⟨("is_placed", none), "is_placed", "is_placed", defArgs s_is_placed, defBody s_is_placed, defScope s_is_placed, [], []⟩
def d_is_standing : He.DefD := ⟨("is_standing", none), "is_standing", "is_standing", defArgs s_is_standing, defBody s_is_standing, defScope s_is_standing, [], []⟩
def d_check_standing : He.DefD := ⟨("check_standing", none), "check_standing", "check_standing", defArgs s_check_standing, defBody s_check_standing, defScope s_check_standing, [], []⟩
def d_check_walker : He.DefD := ⟨("check_walker", none), "check_walker", "check_walker", defArgs s_check_walker, defBody s_check_walker, defScope s_check_walker, [], []⟩
def d_cell_at : He.DefD := ⟨("cell_at", none), "cell_at", "cell_at", defArgs s_cell_at, defBody s_cell_at, defScope s_cell_at, [], []⟩
def d_cells_towards : He.DefD := ⟨("cells_towards", none), "cells_towards", "cells_towards", defArgs s_cells_towards, defBody s_cells_towards, defScope s_cells_towards, [], []⟩
def d_view_of : He.DefD := ⟨("view_of", none), "view_of", "view_of", defArgs s_view_of, defBody s_view_of, defScope s_view_of, [], []⟩
def d_view : He.DefD := ⟨("view", none), "view", "view", defArgs s_view, defBody s_view, defScope s_view, [], []⟩
def d_law_take : He.DefD := ⟨("_law_take", none), "_law_take", "_law_take", defArgs s_law_take, defBody s_law_take, defScope s_law_take, [], []⟩
def d_law_at : He.DefD := ⟨("_law_at", none), "_law_at", "_law_at", defArgs s_law_at, defBody s_law_at, defScope s_law_at, [], []⟩
def d_law_marks_at : He.DefD := ⟨("_law_marks_at", none), "_law_marks_at", "_law_marks_at", defArgs s_law_marks_at, defBody s_law_marks_at, defScope s_law_marks_at, [], []⟩
def d_law_view : He.DefD := ⟨("_law_view", none), "_law_view", "_law_view", defArgs s_law_view, defBody s_law_view, defScope s_law_view, [], []⟩
def d_law_of : He.DefD := ⟨("_law_of", none), "_law_of", "_law_of", defArgs s_law_of, defBody s_law_of, defScope s_law_of, [], []⟩
def d_law_drawn_stand : He.DefD := ⟨("_law_drawn_stand", none), "_law_drawn_stand", "_law_drawn_stand", defArgs s_law_drawn_stand, defBody s_law_drawn_stand, defScope s_law_drawn_stand, [], []⟩
def d_law_any_floor : He.DefD := ⟨("_law_any_floor", none), "_law_any_floor", "_law_any_floor", defArgs s_law_any_floor, defBody s_law_any_floor, defScope s_law_any_floor, [], []⟩
def d_law_right : He.DefD := ⟨("_law_right", none), "_law_right", "_law_right", defArgs s_law_right, defBody s_law_right, defScope s_law_right, [], []⟩
def d_law : He.DefD := ⟨("law", none), "law", "law", defArgs s_law, defBody s_law, defScope s_law, [], []⟩
def fns : List He.DefD := [d_law_pot, d_law_cells, d_is_integer, d_is_within, d_is_tuple_of, d_is_floor, d_check_floor, d_is_place, d_check_place, d_place_at, d_at_distance, d_is_mark, d_is_sense, d_is_placed, d_is_standing, d_check_standing, d_check_walker, d_cell_at, d_cells_towards, d_view_of, d_view, d_law_take, d_law_at, d_law_marks_at, d_law_view, d_law_of, d_law_drawn_stand, d_law_any_floor, d_law_right, d_law]
def fac : List He.Fa := [.glo "_law_pot", .glo "_law_cells", .glo "is_integer", .glo "is_within", .glo "is_tuple_of", .glo "is_floor", .glo "check_floor", .glo "is_place", .glo "check_place", .glo "place_at", .glo "at_distance", .glo "is_mark", .glo "is_sense", .glo "is_placed", .glo "is_standing", .glo "check_standing", .glo "check_walker", .glo "cell_at", .glo "cells_towards", .glo "view_of", .glo "view", .glo "_law_take", .glo "_law_at", .glo "_law_marks_at", .glo "_law_view", .glo "_law_of", .glo "_law_drawn_stand", .glo "_law_any_floor", .glo "_law_right", .glo "law", .free "abs", .free "all", .free "bool", .free "enumerate", .free "int", .free "isinstance", .free "len", .free "list", .free "max", .free "min", .free "range", .free "repr", .free "sorted", .free "sum", .free "tuple", .int "MOST_MARK" 3, .int "MOST_STEPS" 99, .int "MOST_WALKERS" 5]
abbrev R : PySem.W.OpenRow := PySem.W.OpenLaw.row PySem.Challenge.rw_onestillview_k01_whole_places_and_what_i
abbrev hk : PySem.W.Hook := He.hookD 4 fac fns
def ob (s : PySem.W.SharedT) : He.AlD := He.obsDG 4 fac fns (HandSHeadRun.getT s)
theorem ob_eq (s : PySem.W.SharedT) : ob s = hk.obs s.abs := He.obsDG_eq (HandSHeadRun.getT_eq s)
def nm0 : List Str := ["WalkError", "BadFloor", "BadPlace", "BadSteps", "BadStanding", "BadWalker", "MOST_MARK", "MOST_WALKERS", "is_integer", "is_within", "is_tuple_of", "is_mark", "is_sense", "is_floor", "is_place", "is_placed", "is_standing", "check_floor", "check_place", "check_standing", "check_walker", "MOST_STEPS", "place_at", "at_distance", "cell_at", "cells_towards", "view_of", "view", "_law_pot", "_law_take"]
def nm1 : List Str := ["_law_of", "_law_cells", "_law_at", "_law_marks_at", "_law_view", "_law_drawn_stand", "_law_any_floor", "_law_right"]
def loose : List Str := nm0 ++ nm1
theorem run (w : World) : HandSHeadRun.RunEq R (PySem.W.view R.prog [42]) hk ob 4000 loose w := by
  intro os
  kernel_rfl
theorem facts {P : Program} {w : World} {K : PySem.W.Frag} {h : Heap} {mg : Str → Option Value} {f : Addr} (X : K.In h) (G : h.Ns mainGlobals mg) (hfa : mg ("law" : Str) = some (.ref f)) (c : He.SaysD fac fns K) :
    ∃ fd : FuncData, (∀ (s : Shared) (v : Value), BindsTo s fd ⟨[v], []⟩ [("script", v)]) ∧ ∀ (cl : Str → Option Addr) (sa : Addr) (ns : List Int) (base : Heap), K.In base → base.Ns mainGlobals mg → FnG P w K mg base (L2.CX P w) 9 f fd ["script"] (spM ⟨K, sa, ns, cl⟩ wF 1 (m_law ns)) := by
  obtain ⟨fd_law_pot, F_law_pot⟩ := c.def_ 0 (d := d_law_pot) rfl
  have F_law_pot : FnP K "_law_pot" s_law_pot (He.ga K "_law_pot") fd_law_pot := F_law_pot
  have q_law_pot := He.glo_ok X G (c.fact 0 (f := .glo "_law_pot") rfl)
  obtain ⟨fd_law_cells, F_law_cells⟩ := c.def_ 1 (d := d_law_cells) rfl
  have F_law_cells : FnP K "_law_cells" s_law_cells (He.ga K "_law_cells") fd_law_cells := F_law_cells
  have q_law_cells := He.glo_ok X G (c.fact 1 (f := .glo "_law_cells") rfl)
  obtain ⟨fd_is_integer, F_is_integer⟩ := c.def_ 2 (d := d_is_integer) rfl
  have F_is_integer : FnP K "is_integer" s_is_integer (He.ga K "is_integer") fd_is_integer := F_is_integer
  have q_is_integer := He.glo_ok X G (c.fact 2 (f := .glo "is_integer") rfl)
  obtain ⟨fd_is_within, F_is_within⟩ := c.def_ 3 (d := d_is_within) rfl
  have F_is_within : FnP K "is_within" s_is_within (He.ga K "is_within") fd_is_within := F_is_within
  have q_is_within := He.glo_ok X G (c.fact 3 (f := .glo "is_within") rfl)
  obtain ⟨fd_is_tuple_of, F_is_tuple_of⟩ := c.def_ 4 (d := d_is_tuple_of) rfl
  have F_is_tuple_of : FnP K "is_tuple_of" s_is_tuple_of (He.ga K "is_tuple_of") fd_is_tuple_of := F_is_tuple_of
  have q_is_tuple_of := He.glo_ok X G (c.fact 4 (f := .glo "is_tuple_of") rfl)
  obtain ⟨fd_is_floor, F_is_floor⟩ := c.def_ 5 (d := d_is_floor) rfl
  have F_is_floor : FnP K "is_floor" s_is_floor (He.ga K "is_floor") fd_is_floor := F_is_floor
  have q_is_floor := He.glo_ok X G (c.fact 5 (f := .glo "is_floor") rfl)
  obtain ⟨fd_check_floor, F_check_floor⟩ := c.def_ 6 (d := d_check_floor) rfl
  have F_check_floor : FnP K "check_floor" s_check_floor (He.ga K "check_floor") fd_check_floor := F_check_floor
  have q_check_floor := He.glo_ok X G (c.fact 6 (f := .glo "check_floor") rfl)
  obtain ⟨fd_is_place, F_is_place⟩ := c.def_ 7 (d := d_is_place) rfl
  have F_is_place : FnP K "is_place" s_is_place (He.ga K "is_place") fd_is_place := F_is_place
  have q_is_place := He.glo_ok X G (c.fact 7 (f := .glo "is_place") rfl)
  obtain ⟨fd_check_place, F_check_place⟩ := c.def_ 8 (d := d_check_place) rfl
  have F_check_place : FnP K "check_place" s_check_place (He.ga K "check_place") fd_check_place := F_check_place
  have q_check_place := He.glo_ok X G (c.fact 8 (f := .glo "check_place") rfl)
  obtain ⟨fd_place_at, F_place_at⟩ := c.def_ 9 (d := d_place_at) rfl
  have F_place_at : FnP K "place_at" s_place_at (He.ga K "place_at") fd_place_at := F_place_at
  have q_place_at := He.glo_ok X G (c.fact 9 (f := .glo "place_at") rfl)
  obtain ⟨fd_at_distance, F_at_distance⟩ := c.def_ 10 (d := d_at_distance) rfl
  have F_at_distance : FnP K "at_distance" s_at_distance (He.ga K "at_distance") fd_at_distance := F_at_distance
  have q_at_distance := He.glo_ok X G (c.fact 10 (f := .glo "at_distance") rfl)
  obtain ⟨fd_is_mark, F_is_mark⟩ := c.def_ 11 (d := d_is_mark) rfl
  have F_is_mark : FnP K "is_mark" s_is_mark (He.ga K "is_mark") fd_is_mark := F_is_mark
  have q_is_mark := He.glo_ok X G (c.fact 11 (f := .glo "is_mark") rfl)
  obtain ⟨fd_is_sense, F_is_sense⟩ := c.def_ 12 (d := d_is_sense) rfl
  have F_is_sense : FnP K "is_sense" s_is_sense (He.ga K "is_sense") fd_is_sense := F_is_sense
  have q_is_sense := He.glo_ok X G (c.fact 12 (f := .glo "is_sense") rfl)
  obtain ⟨fd_is_placed, F_is_placed⟩ := c.def_ 13 (d := d_is_placed) rfl
  have F_is_placed : FnP K "is_placed" s_is_placed (He.ga K "is_placed") fd_is_placed := F_is_placed
  have q_is_placed := He.glo_ok X G (c.fact 13 (f := .glo "is_placed") rfl)
  obtain ⟨fd_is_standing, F_is_standing⟩ := c.def_ 14 (d := d_is_standing) rfl
  have F_is_standing : FnP K "is_standing" s_is_standing (He.ga K "is_standing") fd_is_standing := F_is_standing
  have q_is_standing := He.glo_ok X G (c.fact 14 (f := .glo "is_standing") rfl)
  obtain ⟨fd_check_standing, F_check_standing⟩ := c.def_ 15 (d := d_check_standing) rfl
  have F_check_standing : FnP K "check_standing" s_check_standing (He.ga K "check_standing") fd_check_standing := F_check_standing
  have q_check_standing := He.glo_ok X G (c.fact 15 (f := .glo "check_standing") rfl)
  obtain ⟨fd_check_walker, F_check_walker⟩ := c.def_ 16 (d := d_check_walker) rfl
  have F_check_walker : FnP K "check_walker" s_check_walker (He.ga K "check_walker") fd_check_walker := F_check_walker
  have q_check_walker := He.glo_ok X G (c.fact 16 (f := .glo "check_walker") rfl)
  obtain ⟨fd_cell_at, F_cell_at⟩ := c.def_ 17 (d := d_cell_at) rfl
  have F_cell_at : FnP K "cell_at" s_cell_at (He.ga K "cell_at") fd_cell_at := F_cell_at
  have q_cell_at := He.glo_ok X G (c.fact 17 (f := .glo "cell_at") rfl)
  obtain ⟨fd_cells_towards, F_cells_towards⟩ := c.def_ 18 (d := d_cells_towards) rfl
  have F_cells_towards : FnP K "cells_towards" s_cells_towards (He.ga K "cells_towards") fd_cells_towards := F_cells_towards
  have q_cells_towards := He.glo_ok X G (c.fact 18 (f := .glo "cells_towards") rfl)
  obtain ⟨fd_view_of, F_view_of⟩ := c.def_ 19 (d := d_view_of) rfl
  have F_view_of : FnP K "view_of" s_view_of (He.ga K "view_of") fd_view_of := F_view_of
  have q_view_of := He.glo_ok X G (c.fact 19 (f := .glo "view_of") rfl)
  obtain ⟨fd_view, F_view⟩ := c.def_ 20 (d := d_view) rfl
  have F_view : FnP K "view" s_view (He.ga K "view") fd_view := F_view
  have q_view := He.glo_ok X G (c.fact 20 (f := .glo "view") rfl)
  obtain ⟨fd_law_take, F_law_take⟩ := c.def_ 21 (d := d_law_take) rfl
  have F_law_take : FnP K "_law_take" s_law_take (He.ga K "_law_take") fd_law_take := F_law_take
  have q_law_take := He.glo_ok X G (c.fact 21 (f := .glo "_law_take") rfl)
  obtain ⟨fd_law_at, F_law_at⟩ := c.def_ 22 (d := d_law_at) rfl
  have F_law_at : FnP K "_law_at" s_law_at (He.ga K "_law_at") fd_law_at := F_law_at
  have q_law_at := He.glo_ok X G (c.fact 22 (f := .glo "_law_at") rfl)
  obtain ⟨fd_law_marks_at, F_law_marks_at⟩ := c.def_ 23 (d := d_law_marks_at) rfl
  have F_law_marks_at : FnP K "_law_marks_at" s_law_marks_at (He.ga K "_law_marks_at") fd_law_marks_at := F_law_marks_at
  have q_law_marks_at := He.glo_ok X G (c.fact 23 (f := .glo "_law_marks_at") rfl)
  obtain ⟨fd_law_view, F_law_view⟩ := c.def_ 24 (d := d_law_view) rfl
  have F_law_view : FnP K "_law_view" s_law_view (He.ga K "_law_view") fd_law_view := F_law_view
  have q_law_view := He.glo_ok X G (c.fact 24 (f := .glo "_law_view") rfl)
  obtain ⟨fd_law_of, F_law_of⟩ := c.def_ 25 (d := d_law_of) rfl
  have F_law_of : FnP K "_law_of" s_law_of (He.ga K "_law_of") fd_law_of := F_law_of
  have q_law_of := He.glo_ok X G (c.fact 25 (f := .glo "_law_of") rfl)
  obtain ⟨fd_law_drawn_stand, F_law_drawn_stand⟩ := c.def_ 26 (d := d_law_drawn_stand) rfl
  have F_law_drawn_stand : FnP K "_law_drawn_stand" s_law_drawn_stand (He.ga K "_law_drawn_stand") fd_law_drawn_stand := F_law_drawn_stand
  have q_law_drawn_stand := He.glo_ok X G (c.fact 26 (f := .glo "_law_drawn_stand") rfl)
  obtain ⟨fd_law_any_floor, F_law_any_floor⟩ := c.def_ 27 (d := d_law_any_floor) rfl
  have F_law_any_floor : FnP K "_law_any_floor" s_law_any_floor (He.ga K "_law_any_floor") fd_law_any_floor := F_law_any_floor
  have q_law_any_floor := He.glo_ok X G (c.fact 27 (f := .glo "_law_any_floor") rfl)
  obtain ⟨fd_law_right, F_law_right⟩ := c.def_ 28 (d := d_law_right) rfl
  have F_law_right : FnP K "_law_right" s_law_right (He.ga K "_law_right") fd_law_right := F_law_right
  have q_law_right := He.glo_ok X G (c.fact 28 (f := .glo "_law_right") rfl)
  obtain ⟨fd_law, F_law⟩ := c.def_ 29 (d := d_law) rfl
  have F_law : FnP K "law" s_law (He.ga K "law") fd_law := F_law
  have T : Tx mg := ⟨He.free_ok X G (c.fact 30 (f := .free "abs") rfl), He.free_ok X G (c.fact 31 (f := .free "all") rfl), He.free_ok X G (c.fact 32 (f := .free "bool") rfl), He.free_ok X G (c.fact 33 (f := .free "enumerate") rfl), He.free_ok X G (c.fact 34 (f := .free "int") rfl), He.free_ok X G (c.fact 35 (f := .free "isinstance") rfl), He.free_ok X G (c.fact 36 (f := .free "len") rfl), He.free_ok X G (c.fact 37 (f := .free "list") rfl), He.free_ok X G (c.fact 38 (f := .free "max") rfl), He.free_ok X G (c.fact 39 (f := .free "min") rfl), He.free_ok X G (c.fact 40 (f := .free "range") rfl), He.free_ok X G (c.fact 41 (f := .free "repr") rfl), He.free_ok X G (c.fact 42 (f := .free "sorted") rfl), He.free_ok X G (c.fact 43 (f := .free "sum") rfl), He.free_ok X G (c.fact 44 (f := .free "tuple") rfl), He.int_ok X G (c.fact 45 (f := .int "MOST_MARK" 3) rfl), He.int_ok X G (c.fact 46 (f := .int "MOST_STEPS" 99) rfl), He.int_ok X G (c.fact 47 (f := .int "MOST_WALKERS" 5) rfl)⟩
  have e := hfa.symm.trans (He.glo_ok X G (c.fact 29 (f := .glo "law") rfl))
  cases e
  have b := FunD.bindsA (ps := ["script"]) F_law fun _ _ _ _ _ _ us hl => match us, hl with | [_], _ => rfl
  refine ⟨fd_law, fun s v => b s [v] rfl, fun cl sa ns base _ _ => ?_⟩
  have G_law_pot := g_law_pot (P := P) (w := w) (base := base) (sa := sa) (ns := ns) (cl := cl) F_law_pot T
  have C_law_pot := cal_of F_law_pot q_law_pot (F_law_pot.bindsN (ps := ["script", "place"]) fun _ _ _ _ _ _ us hl => match us, hl with | [_, _], _ => rfl) G_law_pot
  have G_law_cells := g_law_cells (P := P) (w := w) (base := base) (sa := sa) (ns := ns) (cl := cl) F_law_cells T
  have C_law_cells := cal_of F_law_cells q_law_cells (F_law_cells.bindsN (ps := ["script", "limit"]) fun _ _ _ _ _ _ us hl => match us, hl with | [_, _], _ => rfl) G_law_cells
  have G_is_integer := g_is_integer (P := P) (w := w) (base := base) (sa := sa) (ns := ns) (cl := cl) F_is_integer T
  have C_is_integer := cal_of F_is_integer q_is_integer (F_is_integer.bindsN (ps := ["value"]) fun _ _ _ _ _ _ us hl => match us, hl with | [_], _ => rfl) G_is_integer
  have G_is_within := g_is_within (P := P) (w := w) (base := base) (sa := sa) (ns := ns) (cl := cl) F_is_within T C_is_integer
  have C_is_within := cal_of F_is_within q_is_within (F_is_within.bindsN (ps := ["value", "low", "high"]) fun _ _ _ _ _ _ us hl => match us, hl with | [_, _, _], _ => rfl) G_is_within
  have G_is_tuple_of := g_is_tuple_of (P := P) (w := w) (base := base) (sa := sa) (ns := ns) (cl := cl) F_is_tuple_of T
  have C_is_tuple_of := cal_of F_is_tuple_of q_is_tuple_of (F_is_tuple_of.bindsN (ps := ["value", "many"]) fun _ _ _ _ _ _ us hl => match us, hl with | [_, _], _ => rfl) G_is_tuple_of
  have G_is_floor := g_is_floor (P := P) (w := w) (base := base) (sa := sa) (ns := ns) (cl := cl) F_is_floor T C_is_within C_is_tuple_of
  have C_is_floor := cal_of F_is_floor q_is_floor (F_is_floor.bindsN (ps := ["value"]) fun _ _ _ _ _ _ us hl => match us, hl with | [_], _ => rfl) G_is_floor
  have G_check_floor := g_check_floor (P := P) (w := w) (base := base) (sa := sa) (ns := ns) (cl := cl) F_check_floor T C_is_floor
  have C_check_floor := cal_of F_check_floor q_check_floor (F_check_floor.bindsN (ps := ["value"]) fun _ _ _ _ _ _ us hl => match us, hl with | [_], _ => rfl) G_check_floor
  have G_is_place := g_is_place (P := P) (w := w) (base := base) (sa := sa) (ns := ns) (cl := cl) F_is_place T C_is_within
  have C_is_place := cal_of F_is_place q_is_place (F_is_place.bindsN (ps := ["floor", "value"]) fun _ _ _ _ _ _ us hl => match us, hl with | [_, _], _ => rfl) G_is_place
  have G_check_place := g_check_place (P := P) (w := w) (base := base) (sa := sa) (ns := ns) (cl := cl) F_check_place T C_is_place
  have C_check_place := cal_of F_check_place q_check_place (F_check_place.bindsN (ps := ["floor", "value"]) fun _ _ _ _ _ _ us hl => match us, hl with | [_, _], _ => rfl) G_check_place
  have G_place_at := g_place_at (P := P) (w := w) (base := base) (sa := sa) (ns := ns) (cl := cl) F_place_at T
  have C_place_at := cal_of F_place_at q_place_at (F_place_at.bindsN (ps := ["floor", "place", "steps"]) fun _ _ _ _ _ _ us hl => match us, hl with | [_, _, _], _ => rfl) G_place_at
  have G_at_distance := g_at_distance (P := P) (w := w) (base := base) (sa := sa) (ns := ns) (cl := cl) F_at_distance T C_is_within C_check_floor C_check_place C_place_at
  have K_at_distance_floor_place_steps := calK_of F_at_distance q_at_distance (kb_of (ps := ["floor", "place", "steps"]) (ks := ["floor", "place", "steps"]) (ix := [0, 1, 2]) F_at_distance fun _ _ _ _ _ _ ws hl => match ws, hl with | [_, _, _], _ => rfl) G_at_distance
  have G_is_mark := g_is_mark (P := P) (w := w) (base := base) (sa := sa) (ns := ns) (cl := cl) F_is_mark T C_is_within
  have C_is_mark := cal_of F_is_mark q_is_mark (F_is_mark.bindsN (ps := ["value"]) fun _ _ _ _ _ _ us hl => match us, hl with | [_], _ => rfl) G_is_mark
  have G_is_sense := g_is_sense (P := P) (w := w) (base := base) (sa := sa) (ns := ns) (cl := cl) F_is_sense T C_is_within
  have C_is_sense := cal_of F_is_sense q_is_sense (F_is_sense.bindsN (ps := ["value"]) fun _ _ _ _ _ _ us hl => match us, hl with | [_], _ => rfl) G_is_sense
  have G_is_placed := g_is_placed (P := P) (w := w) (base := base) (sa := sa) (ns := ns) (cl := cl) F_is_placed T C_is_tuple_of C_is_mark C_is_sense C_is_place
  have C_is_placed := cal_of F_is_placed q_is_placed (F_is_placed.bindsN (ps := ["floor", "value"]) fun _ _ _ _ _ _ us hl => match us, hl with | [_, _], _ => rfl) G_is_placed
  have G_is_standing := g_is_standing (P := P) (w := w) (base := base) (sa := sa) (ns := ns) (cl := cl) F_is_standing T C_is_placed
  have C_is_standing := cal_of F_is_standing q_is_standing (F_is_standing.bindsN (ps := ["floor", "value"]) fun _ _ _ _ _ _ us hl => match us, hl with | [_, _], _ => rfl) G_is_standing
  have G_check_standing := g_check_standing (P := P) (w := w) (base := base) (sa := sa) (ns := ns) (cl := cl) F_check_standing T C_is_standing
  have C_check_standing := cal_of F_check_standing q_check_standing (F_check_standing.bindsN (ps := ["floor", "value"]) fun _ _ _ _ _ _ us hl => match us, hl with | [_, _], _ => rfl) G_check_standing
  have G_check_walker := g_check_walker (P := P) (w := w) (base := base) (sa := sa) (ns := ns) (cl := cl) F_check_walker T C_is_within
  have C_check_walker := cal_of F_check_walker q_check_walker (F_check_walker.bindsN (ps := ["standing", "value"]) fun _ _ _ _ _ _ us hl => match us, hl with | [_, _], _ => rfl) G_check_walker
  have G_cell_at := g_cell_at (P := P) (w := w) (base := base) (sa := sa) (ns := ns) (cl := cl) F_cell_at T
  have C_cell_at := cal_of F_cell_at q_cell_at (F_cell_at.bindsN (ps := ["standing", "walker", "place"]) fun _ _ _ _ _ _ us hl => match us, hl with | [_, _, _], _ => rfl) G_cell_at
  have G_cells_towards := g_cells_towards (P := P) (w := w) (base := base) (sa := sa) (ns := ns) (cl := cl) F_cells_towards T C_place_at C_cell_at
  have C_cells_towards := cal_of F_cells_towards q_cells_towards (F_cells_towards.bindsN (ps := ["floor", "standing", "walker", "sense"]) fun _ _ _ _ _ _ us hl => match us, hl with | [_, _, _, _], _ => rfl) G_cells_towards
  have G_view_of := g_view_of (P := P) (w := w) (base := base) (sa := sa) (ns := ns) (cl := cl) F_view_of T C_cell_at C_cells_towards
  have C_view_of := cal_of F_view_of q_view_of (F_view_of.bindsN (ps := ["floor", "standing", "walker"]) fun _ _ _ _ _ _ us hl => match us, hl with | [_, _, _], _ => rfl) G_view_of
  have G_view := g_view (P := P) (w := w) (base := base) (sa := sa) (ns := ns) (cl := cl) F_view T C_check_floor C_check_standing C_check_walker C_view_of
  have K_view_floor_standing_walker := calK_of F_view q_view (kb_of (ps := ["floor", "standing", "walker"]) (ks := ["floor", "standing", "walker"]) (ix := [0, 1, 2]) F_view fun _ _ _ _ _ _ ws hl => match ws, hl with | [_, _, _], _ => rfl) G_view
  have G_law_take := g_law_take (P := P) (w := w) (base := base) (sa := sa) (ns := ns) (cl := cl) F_law_take T
  have C_law_take := cal_of F_law_take q_law_take (F_law_take.bindsN (ps := ["pot", "upto"]) fun _ _ _ _ _ _ us hl => match us, hl with | [_, _], _ => rfl) G_law_take
  have G_law_at := g_law_at (P := P) (w := w) (base := base) (sa := sa) (ns := ns) (cl := cl) F_law_at T
  have C_law_at := cal_of F_law_at q_law_at (F_law_at.bindsN (ps := ["floor", "place", "steps"]) fun _ _ _ _ _ _ us hl => match us, hl with | [_, _, _], _ => rfl) G_law_at
  have G_law_marks_at := g_law_marks_at (P := P) (w := w) (base := base) (sa := sa) (ns := ns) (cl := cl) F_law_marks_at T
  have C_law_marks_at := cal_of F_law_marks_at q_law_marks_at (F_law_marks_at.bindsN (ps := ["standing", "place", "walker"]) fun _ _ _ _ _ _ us hl => match us, hl with | [_, _, _], _ => rfl) G_law_marks_at
  have G_law_view := g_law_view (P := P) (w := w) (base := base) (sa := sa) (ns := ns) (cl := cl) F_law_view T C_law_at C_law_marks_at
  have C_law_view := cal_of F_law_view q_law_view (F_law_view.bindsN (ps := ["floor", "standing", "walker"]) fun _ _ _ _ _ _ us hl => match us, hl with | [_, _, _], _ => rfl) G_law_view
  have G_law_of := g_law_of (P := P) (w := w) (base := base) (sa := sa) (ns := ns) (cl := cl) F_law_of T C_law_take
  have C_law_of := cal_of F_law_of q_law_of (F_law_of.bindsN (ps := ["pot", "some"]) fun _ _ _ _ _ _ us hl => match us, hl with | [_, _], _ => rfl) G_law_of
  have G_law_drawn_stand := g_law_drawn_stand (P := P) (w := w) (base := base) (sa := sa) (ns := ns) (cl := cl) F_law_drawn_stand T C_law_take C_law_of
  have C_law_drawn_stand := cal_of F_law_drawn_stand q_law_drawn_stand (F_law_drawn_stand.bindsN (ps := ["pot", "floor", "walkers"]) fun _ _ _ _ _ _ us hl => match us, hl with | [_, _, _], _ => rfl) G_law_drawn_stand
  have G_law_any_floor := g_law_any_floor (P := P) (w := w) (base := base) (sa := sa) (ns := ns) (cl := cl) F_law_any_floor T C_law_take C_law_of
  have C_law_any_floor := cal_of F_law_any_floor q_law_any_floor (F_law_any_floor.bindsN (ps := ["pot"]) fun _ _ _ _ _ _ us hl => match us, hl with | [_], _ => rfl) G_law_any_floor
  have G_law_right := g_law_right (P := P) (w := w) (base := base) (sa := sa) (ns := ns) (cl := cl) F_law_right T C_law_take C_law_at C_law_view C_law_drawn_stand C_law_any_floor K_at_distance_floor_place_steps K_view_floor_standing_walker
  have C_law_right := cal_of F_law_right q_law_right (F_law_right.bindsN (ps := ["pot"]) fun _ _ _ _ _ _ us hl => match us, hl with | [_], _ => rfl) G_law_right
  exact g_law F_law T C_law_pot C_law_cells C_law_right
end Lk01
end
section
set_option Elab.async false
set_option linter.all false
set_option maxRecDepth 100000
namespace Lk01
open PySem L2 Pm
theorem e_is_integer (ns : List Int) (n : Int) : m_is_integer ns [.int n] = ret (.bl true) := by
  simp [m_is_integer, b_is_integer, runB_eq, startE, isT]
theorem e_is_within (ns : List Int) (n lo hi : Int) : m_is_within ns [.int n, .int lo, .int hi] = ret (.bl (decide (lo ≤ n ∧ n ≤ hi))) := by
  simp [m_is_within, b_is_within, runB_eq, startE, e_is_integer]
  by_cases h : lo ≤ n <;> simp [h]
theorem e_is_tuple_of (ns : List Int) (xs : List D) (n : Int) : m_is_tuple_of ns [.tup xs, .int n] = ret (.bl (decide ((xs.length : Int) = n))) := by
  simp [m_is_tuple_of, b_is_tuple_of, runB_eq, startE, isT, opEq_int]
/-- floors -/
inductive Kind where
  | ring | row
  deriving DecidableEq
def Kind.s : Kind → Str
  | .ring => "ring"
  | .row => "row"
abbrev fl (k : Kind) (n : Int) : D := .tup [.str k.s, .int n]
def okF (k : Kind) (n : Int) : Prop := (k = .ring ∧ 3 ≤ n ∧ n ≤ 8) ∨ (k = .row ∧ 1 ≤ n ∧ n ≤ 8)
theorem okF.le {k : Kind} {n : Int} (h : okF k n) : 1 ≤ n ∧ n ≤ 8 := by
  rcases h with h | h <;> omega
theorem s_ring {k : Kind} : decide (k.s = ("ring" : Str)) = decide (k = .ring) := by cases k <;> decide
theorem s_row {k : Kind} : decide (k.s = ("row" : Str)) = decide (k = .row) := by cases k <;> decide
theorem e_is_floor (ns : List Int) {k : Kind} {n : Int} (h : okF k n) : m_is_floor ns [fl k n] = ret (.bl true) := by
  simp only [fl]
  simp [m_is_floor, b_is_floor, runB_eq, startE, e_is_tuple_of, opEq_str, s_ring, s_row, e_is_within]
  rcases h with ⟨rfl, h⟩ | ⟨rfl, h⟩ <;> simp [h]
theorem e_check_floor (ns : List Int) {k : Kind} {n : Int} (h : okF k n) : m_check_floor ns [fl k n] = ret .non := by
  simp [m_check_floor, b_check_floor, runB_eq, startE, e_is_floor ns h]
theorem e_is_place (ns : List Int) {k : Kind} {n : Int} (p : Int) : m_is_place ns [fl k n, .int p] = ret (.bl (decide (0 ≤ p ∧ p ≤ n - 1))) := by
  simp [m_is_place, b_is_place, runB_eq, startE, e_is_within, atI, ixN]
theorem e_check_place (ns : List Int) {k : Kind} {n p : Int} (h : 0 ≤ p ∧ p < n) : m_check_place ns [fl k n, .int p] = ret .non := by
  simp [m_check_place, b_check_place, runB_eq, startE, e_is_place, h]
  omega
def placeAt (k : Kind) (n p s : Int) : D := match k with
  | .ring => .int ((p + s) % n)
  | .row => if 0 ≤ p + s ∧ p + s < n then .int (p + s) else .non
theorem e_place_at (ns : List Int) {k : Kind} {n : Int} (p s : Int) (h : 0 < n) : m_place_at ns [fl k n, .int p, .int s] = ret (placeAt k n p s) := by
  simp only [fl]
  simp [m_place_at, b_place_at, runB_eq, startE, opEq_str, s_ring, opMod_int h]
  cases k
  · simp [placeAt]
  · simp [placeAt]
    by_cases h1 : 0 ≤ p + s <;> by_cases h2 : p + s < n <;> simp [h1, h2]
theorem e_law_at (ns : List Int) {k : Kind} {n : Int} (p s : Int) (h : 0 < n) : m_law_at ns [fl k n, .int p, .int s] = ret (placeAt k n p s) := by
  simp only [fl]
  simp [m_law_at, b_law_at, runB_eq, startE, opEq_str, s_ring, opMod_int h]
  cases k
  · simp [placeAt]
  · simp [placeAt]
    by_cases h1 : 0 ≤ p + s <;> by_cases h2 : p + s < n <;> simp [h1, h2]
theorem e_at_distance (ns : List Int) {k : Kind} {n : Int} (p s : Int) (h : okF k n) (hp : 0 ≤ p ∧ p < n) (hs : -99 ≤ s ∧ s ≤ 99) : m_at_distance ns [fl k n, .int p, .int s] = ret (placeAt k n p s) := by
  have h0 : 0 < n := by have := h.le; omega
  simp [m_at_distance, b_at_distance, runB_eq, startE, e_check_floor ns h, e_check_place ns hp, e_is_within, e_place_at ns p s h0, hs]
/-! ### standings -/
abbrev W := Int × Int × Int
def w3 (w : W) : D := .tup [.int w.1, .int w.2.1, .int w.2.2]
abbrev stD (ws : List W) : D := .tup (ws.map w3)
def okW (n : Int) (w : W) : Prop := (0 ≤ w.1 ∧ w.1 < n) ∧ (0 ≤ w.2.1 ∧ w.2.1 ≤ 3) ∧ (w.2.2 = 1 ∨ w.2.2 = -1)
def okS (n : Int) (ws : List W) : Prop := 1 ≤ ws.length ∧ ws.length ≤ 5 ∧ ∀ w ∈ ws, okW n w
theorem e_is_mark (ns : List Int) (m : Int) : m_is_mark ns [.int m] = ret (.bl (decide (0 ≤ m ∧ m ≤ 3))) := by
  simp [m_is_mark, b_is_mark, runB_eq, startE, e_is_within]
theorem e_is_sense (ns : List Int) {s : Int} (h : s = 1 ∨ s = -1) : m_is_sense ns [.int s] = ret (.bl true) := by
  simp [m_is_sense, b_is_sense, runB_eq, startE, e_is_within, opNe_int]
  rcases h with rfl | rfl <;> simp
theorem e_is_placed (ns : List Int) {k : Kind} {n : Int} {w : W} (h : okW n w) : m_is_placed ns [fl k n, w3 w] = ret (.bl true) := by
  obtain ⟨h1, h2, h3⟩ := h
  have h1' : 0 ≤ w.1 ∧ w.1 ≤ n - 1 := by omega
  simp only [w3]
  simp [m_is_placed, b_is_placed, runB_eq, startE, e_is_tuple_of, e_is_place, e_is_mark, e_is_sense ns h3, h1', h2]
theorem p_is_standing (ns : List Int) {k : Kind} {n : Int} {ws : List W} (h : okS n ws) : Pu (m_is_standing ns [fl k n, stD ws]) (.bl true) := by
  obtain ⟨h1, h2, h3⟩ := h
  intro st Q q
  simp [m_is_standing, b_is_standing, runB_eq, startE, isT, seqA, h1, h2, show (1 : Int) ≤ ws.length by omega, show (ws.length : Int) ≤ 5 by omega, wipeE]
  refine pu_lcL (fun _ => some (.bl true)) (ws.map w3) [] (by simp; omega) (fun x hx => ⟨_, by simp; rfl, .inr ⟨_, rfl, .ret', ?_⟩⟩) st _ fun st' fr => ?_
  · obtain ⟨w, hw, rfl⟩ := List.mem_map.mp hx
    simp
    rw [e_is_placed ns (h3 w hw)]
    exact .ret'
  · rw [fm_const]
    simp
    exact q _ (fr.trans (Fr.new _))
theorem p_check_standing (ns : List Int) {k : Kind} {n : Int} {ws : List W} (h : okS n ws) : Pu (m_check_standing ns [fl k n, stD ws]) .non := by
  intro st Q q
  simp [m_check_standing, b_check_standing, runB_eq, startE]
  exact (p_is_standing ns h).ap fun st' fr => by simp; exact q st' fr
theorem e_check_walker (ns : List Int) {ws : List W} {i : Int} (h : 0 ≤ i ∧ i < ws.length) : m_check_walker ns [stD ws, .int i] = ret .non := by
  simp [m_check_walker, b_check_walker, runB_eq, startE, e_is_within, h]
  omega
/-- what one place shows -/
def mk1 (walker p : Int) (x : W × Nat) : Option Int := if x.1.1 = p ∧ (x.2 : Int) ≠ walker then some x.1.2.1 else none
def cellM (ws : List W) (walker p : Int) : List Int := ws.zipIdx.filterMap (mk1 walker p)
def cellD (ws : List W) (walker p : Int) : D := .tup ((isort (cellM ws walker p)).map .int)
def g1 (walker p : Int) : D → Option D
  | .tup [.int i, .tup [.int q, .int m, .int _]] => if q = p ∧ i ≠ walker then some (.int m) else none
  | _ => none
theorem g1_map (walker p : Int) (ws : List W) : ((ws.map w3).zipIdx.map fun x => D.tup [.int (x.2 : Nat), x.1]).filterMap (g1 walker p) = (cellM ws walker p).map .int := by
  unfold cellM
  have h : ∀ (l : List W) (k : Nat), (((l.map w3).zipIdx k).map fun x => D.tup [.int (x.2 : Nat), x.1]).filterMap (g1 walker p) = ((l.zipIdx k).filterMap (mk1 walker p)).map .int := by
    intro l
    induction l with
    | nil => intro k; rfl
    | cons a l ih =>
      intro k
      simp only [List.map_cons, List.zipIdx_cons, List.filterMap_cons]
      by_cases hc : a.1 = p ∧ (k : Int) ≠ walker
      · simp [g1, mk1, w3, hc, ih]
      · simp [g1, mk1, w3, hc, ih]
  exact h ws 0
theorem p_cell_at (ns : List Int) {ws : List W} (hw : ws.length ≤ 5) (walker p : Int) : Pu (m_cell_at ns [stD ws, .int walker, .int p]) (cellD ws walker p) := by
  intro st Q q
  simp [m_cell_at, b_cell_at, runB_eq, startE, wipeE]
  refine pu_lcL (g1 walker p) _ [] (by simp; omega) (fun x hx => ?_) st _ fun st' fr => ?_
  · obtain ⟨⟨d, i⟩, hy, rfl⟩ := List.mem_map.mp hx
    have hd : d ∈ ws.map w3 := by
      have := List.fst_mem_of_mem_zipIdx hy
      exact this
    obtain ⟨w, hw, rfl⟩ := List.mem_map.mp hd
    refine ⟨_, by simp [w3]; rfl, ?_⟩
    by_cases hc : w.1 = p ∧ (i : Int) ≠ walker
    · refine .inr ⟨.int w.2.1, by simp [g1, w3, hc], ?_, ?_⟩
      · simp [opEq_int, opNe_int, hc]
        exact .ret'
      · simp
        exact .ret'
    · refine .inl ⟨by simp [g1, w3, hc], ?_⟩
      simp [opEq_int, opNe_int]
      by_cases h1 : w.1 = p
      · have h2 : (i : Int) = walker := Classical.byContradiction fun z => hc ⟨h1, z⟩
        simp [h1, h2]
        exact .ret'
      · simp [h1]
        exact .ret'
  · rw [g1_map]
    simp
    rw [wp_bTuple (xs := (isort (cellM ws walker p)).map .int) (by simp)]
    exact q _ (fr.trans (Fr.new _))
theorem p_law_marks_at (ns : List Int) {ws : List W} (hw : ws.length ≤ 5) (walker p : Int) : Pu (m_law_marks_at ns [stD ws, .int p, .int walker]) (cellD ws walker p) := by
  intro st Q q
  simp [m_law_marks_at, b_law_marks_at, runB_eq, startE, wipeE]
  refine pu_lcL (g1 walker p) _ [] (by simp; omega) (fun x hx => ?_) st _ fun st' fr => ?_
  · obtain ⟨⟨d, i⟩, hy, rfl⟩ := List.mem_map.mp hx
    have hd : d ∈ ws.map w3 := List.fst_mem_of_mem_zipIdx hy
    obtain ⟨w, hw, rfl⟩ := List.mem_map.mp hd
    refine ⟨_, by simp [w3]; rfl, ?_⟩
    by_cases hc : w.1 = p ∧ (i : Int) ≠ walker
    · refine .inr ⟨.int w.2.1, by simp [g1, w3, hc], ?_, ?_⟩
      · simp [opEq_int, opNe_int, hc]
        exact .ret'
      · simp
        exact .ret'
    · refine .inl ⟨by simp [g1, w3, hc], ?_⟩
      simp [opEq_int, opNe_int]
      by_cases h1 : w.1 = p
      · have h2 : (i : Int) = walker := Classical.byContradiction fun z => hc ⟨h1, z⟩
        simp [h1, h2]
        exact .ret'
      · simp [h1]
        exact .ret'
  · rw [g1_map]
    simp
    rw [wp_bTuple (xs := (isort (cellM ws walker p)).map .int) (by simp)]
    exact q _ (fr.trans (Fr.new _))
/-- what stands that way -/
def spot (k : Kind) (n p s : Int) (ws : List W) (walker : Int) (i : Nat) : Option D := match placeAt k n p (s * (1 + (i : Int))) with
  | .int q => some (cellD ws walker q)
  | _ => none
def wayD (k : Kind) (n p s : Int) (ws : List W) (walker : Int) : List D := (List.range (n.toNat - 1)).filterMap (spot k n p s ws walker)
theorem atI_get' {α : Type} {xs : List α} {i : Nat} {a : α} (h : xs[i]? = some a) : atI xs (i : Int) = some a := L2.atI_nat h
def gPl (k : Kind) (n p s : Int) : D → Option D
  | .int j => some (placeAt k n p (s * j))
  | _ => none
def gCe (ws : List W) (walker : Int) : D → Option D
  | .int q => some (cellD ws walker q)
  | _ => none
def spotsD (k : Kind) (n p s : Int) : List D := (List.range (n.toNat - 1)).map fun i : Nat => placeAt k n p (s * (1 + (i : Int)))
theorem gPl_map (k : Kind) (n p s : Int) : ((List.range (n.toNat - 1)).map fun i : Nat => D.int (1 + (i : Int))).filterMap (gPl k n p s) = spotsD k n p s := by
  rw [List.filterMap_map, spotsD, ← List.filterMap_eq_map]
  rfl
theorem gCe_map (k : Kind) (n p s : Int) (ws : List W) (walker : Int) : (spotsD k n p s).filterMap (gCe ws walker) = wayD k n p s ws walker := by
  rw [spotsD, List.filterMap_map]
  congr 1
theorem p_cells_towards (ns : List Int) {k : Kind} {n : Int} {ws : List W} {i : Nat} {w : W} (hn : 1 ≤ n ∧ n ≤ 8) (hws : ws.length ≤ 5) (hi : ws[i]? = some w) (s : Int) (hs : s = 1 ∨ s = -1) : Pu (m_cells_towards ns [fl k n, stD ws, .int i, .int s]) (.tup (wayD k n w.1 s ws i)) := by
  have hi3 : atI (ws.map w3) (i : Int) = some (w3 w) := atI_get' (by rw [List.getElem?_map, hi]; rfl)
  have hs2 : (-(2 ^ 64) < s ∧ s < 2 ^ 64) := by rcases hs with rfl | rfl <;> decide
  intro st Q q
  simp [m_cells_towards, b_cells_towards, runB_eq, startE, hi3, wipeE, rngI]
  simp [w3, okR, show (-4611686018427387904 ≤ n ∧ n < 4611686018427387904) by omega, atI, ixN]
  refine pu_lcL (gPl k n w.1 s) _ [] (by simp; omega) (fun x hx => ?_) st _ fun st' fr => ?_
  · obtain ⟨j, hj, rfl⟩ := List.mem_map.mp hx
    refine ⟨_, by simp; rfl, .inr ⟨_, rfl, .ret', ?_⟩⟩
    simp [opMul_int (.inl hs2), e_place_at ns _ _ (show 0 < n by omega)]
    exact .ret'
  · rw [gPl_map]
    rw [wp_seqA (xs := spotsD k n w.1 s) (by simp)]
    refine pu_lcLok (gCe ws i) _ (fun s' fr' => decide_eq_true (fr'.at (by simp) (by simp))) (by simp [spotsD]; omega) (fun x hx => ?_) fun s' fr' => ?_
    · obtain ⟨j, hj, rfl⟩ := List.mem_map.mp hx
      refine ⟨_, by simp; rfl, ?_⟩
      cases e : placeAt k n w.1 (s * (1 + (j : Int))) with
      | int q =>
        refine .inr ⟨_, rfl, ?_, ?_⟩
        · simp [opIsNot_non]
          exact .ret'
        · exact p_cell_at ns hws i q
      | non =>
        refine .inl ⟨rfl, ?_⟩
        simp [opIsNot_non]
        exact .ret'
      | _ =>
        exfalso
        cases k
        · simp [placeAt] at e
        · simp only [placeAt] at e
          split at e <;> cases e
    · rw [gCe_map]
      exact q _ (((fr.trans (Fr.new _)).trans fr').trans (Fr.new _))
def viewD (k : Kind) (n : Int) (ws : List W) (i : Nat) (w : W) : D := .tup [.int w.2.1, cellD ws i w.1, .tup (wayD k n w.1 w.2.2 ws i), .tup (wayD k n w.1 (-w.2.2) ws i)]
theorem p_view_of (ns : List Int) {k : Kind} {n : Int} {ws : List W} {i : Nat} {w : W} (hn : 1 ≤ n ∧ n ≤ 8) (hws : ws.length ≤ 5) (hi : ws[i]? = some w) (hs : w.2.2 = 1 ∨ w.2.2 = -1) : Pu (m_view_of ns [fl k n, stD ws, .int i]) (viewD k n ws i w) := by
  have hi3 : atI (ws.map w3) (i : Int) = some (w3 w) := atI_get' (by rw [List.getElem?_map, hi]; rfl)
  intro st Q q
  simp [m_view_of, b_view_of, runB_eq, startE, hi3]
  simp [w3]
  refine (p_cells_towards ns hn hws hi w.2.2 hs).ap fun s1 r1 => ?_
  refine (p_cells_towards ns hn hws hi (-w.2.2) (by rcases hs with h | h <;> rw [h] <;> simp)).ap fun s2 r2 => ?_
  refine (p_cell_at ns hws i w.1).ap fun s3 r3 => ?_
  exact ⟨small_line (by decide), q _ ((r1.trans r2).trans r3)⟩
theorem p_view (ns : List Int) {k : Kind} {n : Int} {ws : List W} {i : Nat} {w : W} (hf : okF k n) (hw : okS n ws) (hi : ws[i]? = some w) : Pu (m_view ns [fl k n, stD ws, .int i]) (viewD k n ws i w) := by
  have hl : i < ws.length := (List.getElem?_eq_some_iff.mp hi).1
  intro st Q q
  simp [m_view, b_view, runB_eq, startE, e_check_floor ns hf]
  refine (p_check_standing ns hw).ap fun s1 r1 => ?_
  simp [e_check_walker ns (show 0 ≤ (i : Int) ∧ (i : Int) < ws.length by omega)]
  refine (p_view_of ns hf.le hw.2.1 hi (hw.2.2 w (List.mem_of_getElem? hi)).2.2).ap fun s2 r2 => ?_
  exact q _ (r1.trans r2)
/-! ### the law's view -/
def inEnv (k : Kind) (n : Int) (ws : List W) (i : Nat) (w : W) (f c : Nat) (way : Int) (a b : Option D) : En := [some (fl k n), some (stD ws), some (.int i), some (.int w.1), some (.int w.2.1), some (.int w.2.2), some (.loc f), some (.int way), some (.loc c), a, b]
def innerB (ns : List Int) : MS := (forS (rng2 (kon (.int 1)) (bin (rd 0) (kon (.int 1)) (opIx ns))) (.nm 9) (seqS (setS (.nm 10) (calE (conA (rd 0) (conA (rd 3) (conA (bin (rd 7) (rd 9) opMul) nilA))) (ofLen 3 (m_law_at ns)))) (ifS (tstB (bin (rd 10) (kon .non) opIsNot)) (dropS (meth (rd 8) (conA (calE (conA (rd 1) (conA (rd 10) (conA (rd 2) nilA))) (ofLen 3 (m_law_marks_at ns))) nilA) mAppend)) nxS)))
theorem inner_spec (ns : List Int) {k : Kind} {n : Int} {ws : List W} {i : Nat} {w : W} (hn : 1 ≤ n ∧ n ≤ 8) (hws : ws.length ≤ 5) {f c : Nat} {way : Int} (hs : way = 1 ∨ way = -1) {a b : Option D} {st : Sto} (hc : st[c]? = some (.lst [])) {Q : Fl × En → Sto → Prop}
    (q : ∀ a b st', Fr [c] st st' → st'[c]? = some (.lst (wayD k n w.1 way ws i)) → Q (.nx, inEnv k n ws i w f c way a b) st') : wp (innerB ns (inEnv k n ws i w f c way a b)) st Q := by
  have hs2 : (-(2 ^ 64) < way ∧ way < 2 ^ 64) := by rcases hs with rfl | rfl <;> decide
  simp [innerB, inEnv, atI, ixN, okR, show (-4611686018427387904 ≤ n ∧ n < 4611686018427387904) by omega, rngI]
  refine wp_forL (fun j ρ s => (∃ a b, ρ = inEnv k n ws i w f c way a b) ∧ j ≤ n.toNat - 1 ∧ Fr [c] st s ∧ s[c]? = some (.lst ((List.range j).filterMap (spot k n w.1 way ws i)))) _ 0 _ st ⟨⟨a, b, rfl⟩, Nat.zero_le _, Fr.refl, by simpa using hc⟩ (fun j x ρ s hj hI => ?_) fun ρ s hI => ?_
  · obtain ⟨⟨a, b, rfl⟩, h2, h3, h4⟩ := hI
    have hjk : j < n.toNat - 1 := by
      have := (List.getElem?_eq_some_iff.mp hj).1
      simpa using this
    have hx : x = .int (1 + (j : Int)) := by
      rw [List.getElem?_map, List.getElem?_range hjk] at hj
      simpa using hj.symm
    subst hx
    refine ⟨rfl, _, by simp [inEnv]; rfl, ?_⟩
    simp [opMul_int (.inl hs2), e_law_at ns _ _ (show 0 < n by omega)]
    rw [Nat.zero_add] at h2 h4
    have hcs : c < s.length := (List.getElem?_eq_some_iff.mp h4).1
    have sm : ((List.range j).filterMap (spot k n w.1 way ws i)).length < 100000 := Nat.lt_of_le_of_lt (List.length_filterMap_le _ _) (by simp; omega)
    rw [range_fm]
    have es : spot k n w.1 way ws i j = match placeAt k n w.1 (way * (1 + (j : Int))) with
      | .int q => some (cellD ws i q)
      | _ => none := rfl
    cases e : placeAt k n w.1 (way * (1 + (j : Int))) with
    | int p =>
      rw [e] at es
      simp [opIsNot_non, wp_isL h4]
      refine (p_law_marks_at ns hws i p).ap fun s1 r1 => ?_
      have h4' := r1.at h4 (by simp)
      rw [wp_append h4' sm]
      refine ⟨⟨_, _, rfl⟩, by omega, (h3.trans (r1.mono (by simp))).trans Fr.set, ?_⟩
      rw [es]
      simp [Nat.lt_of_lt_of_le hcs r1.1]
    | non =>
      rw [e] at es
      simp [opIsNot_non]
      refine ⟨⟨_, _, rfl⟩, by omega, h3, ?_⟩
      rw [es]
      simpa using h4
    | _ =>
      exfalso
      cases k
      · simp [placeAt] at e
      · simp only [placeAt] at e
        split at e <;> cases e
  · obtain ⟨⟨a, b, rfl⟩, h2, h3, h4⟩ := hI
    refine ⟨rfl, q a b s h3 ?_⟩
    simpa [wayD] using h4
def outB (ns : List Int) : MS := (seqS (setS (.nm 8) (lstE nilA)) (seqS (innerB ns) (dropS (meth (rd 6) (conA (appA (conA (rd 8) nilA) bTuple) nilA) mAppend))))
theorem out_spec (ns : List Int) {k : Kind} {n : Int} {ws : List W} {i : Nat} {w : W} (hn : 1 ≤ n ∧ n ≤ 8) (hws : ws.length ≤ 5) {f : Nat} {way : Int} (hs : way = 1 ∨ way = -1) {a b c : Option D} {xs : List D} {st : Sto} (hf : st[f]? = some (.lst xs)) (hxs : xs.length ≤ 2) {Q : Fl × En → Sto → Prop}
    (q : ∀ a b c st', Fr [f] st st' → st'[f]? = some (.lst (xs ++ [.tup (wayD k n w.1 way ws i)])) → Q (.nx, [some (fl k n), some (stD ws), some (.int i), some (.int w.1), some (.int w.2.1), some (.int w.2.2), some (.loc f), some (.int way), c, a, b]) st') :
    wp (outB ns [some (fl k n), some (stD ws), some (.int i), some (.int w.1), some (.int w.2.1), some (.int w.2.2), some (.loc f), some (.int way), c, a, b]) st Q := by
  have hfl : f < st.length := (List.getElem?_eq_some_iff.mp hf).1
  simp [outB]
  refine inner_spec ns hn hws hs (c := st.length) (a := a) (b := b) (by simp) fun a' b' s1 r1 e1 => ?_
  have hf1 : s1[f]? = some (.lst xs) := r1.at (by rw [List.getElem?_append_left hfl]; exact hf) (by simp; omega)
  simp [inEnv, wp_isL hf1]
  rw [wp_bTuple e1, wp_append hf1 (by omega)]
  have r2 : Fr [f] st s1 := (r1.old (by simp)).up
  exact q _ _ _ _ (r2.trans Fr.set) (List.getElem?_set_self (Nat.lt_of_lt_of_le hfl r2.1))
end Lk01
end
section
set_option Elab.async false
set_option linter.all false
set_option maxRecDepth 100000
namespace Lk01
open PySem L2 Pm
theorem p_law_view (ns : List Int) {k : Kind} {n : Int} {ws : List W} {i : Nat} {w : W} (hn : 1 ≤ n ∧ n ≤ 8) (hws : ws.length ≤ 5) (hi : ws[i]? = some w) (hs : w.2.2 = 1 ∨ w.2.2 = -1) : Pu (m_law_view ns [fl k n, stD ws, .int i]) (viewD k n ws i w) := by
  have hi3 : atI (ws.map w3) (i : Int) = some (w3 w) := atI_get' (by rw [List.getElem?_map, hi]; rfl)
  have hs' : -w.2.2 = 1 ∨ -w.2.2 = -1 := by rcases hs with h | h <;> rw [h] <;> simp
  intro st Q q
  rw [m_law_view, runB_eq, show b_law_view ns = (seqS (setS (.tp [(.nm 3), (.nm 4), (.nm 5)]) (bin (rd 1) (rd 2) (opIx ns))) (seqS (setS (.nm 6) (lstE nilA)) (seqS (forS (iterA (tupE (conA (rd 5) (conA (bin (kon (.int 0)) (rd 5) opSub) nilA)))) (.nm 7) (outB ns)) (retS (tupE (conA (rd 4) (conA (calE (conA (rd 1) (conA (rd 3) (conA (rd 2) nilA))) (ofLen 3 (m_law_marks_at ns))) (conA (bin (rd 6) (kon (.int 0)) (opIx ns)) (conA (bin (rd 6) (kon (.int 1)) (opIx ns)) nilA))))))))) from rfl]
  simp [startE, hi3]
  simp [w3, seqA]
  refine ⟨small_line (by decide), ?_⟩
  refine wp_forL (fun j ρ s => (∃ a b c d, ρ = [some (fl k n), some (stD ws), some (.int i), some (.int w.1), some (.int w.2.1), some (.int w.2.2), some (.loc st.length), d, c, a, b]) ∧ Fr [] st s ∧ s[st.length]? = some (.lst (([w.2.2, -w.2.2].take j).map fun s => .tup (wayD k n w.1 s ws i)))) _ 0 _ _ ⟨⟨_, _, _, _, rfl⟩, Fr.new _, by simp⟩ (fun j x ρ s hj hI => ?_) fun ρ s hI => ?_
  · obtain ⟨⟨a, b, c, d, rfl⟩, h2, h3⟩ := hI
    refine ⟨rfl, _, by simp; rfl, ?_⟩
    rw [Nat.zero_add] at h3 ⊢
    match j, hj with
    | 0, hj =>
      cases hj
      refine out_spec ns hn hws hs h3 (by simp) fun a b c s1 r1 e1 => ?_
      exact ⟨⟨_, _, _, _, rfl⟩, h2.from' r1 (by simp), by simpa using e1⟩
    | 1, hj =>
      cases hj
      refine out_spec ns hn hws hs' h3 (by simp) fun a b c s1 r1 e1 => ?_
      exact ⟨⟨_, _, _, _, rfl⟩, h2.from' r1 (by simp), by simpa using e1⟩
  · obtain ⟨⟨a, b, c, d, rfl⟩, h2, h3⟩ := hI
    simp
    refine (p_law_marks_at ns hws i w.1).ap fun s1 r1 => ?_
    have h3' := r1.at h3 (by simp)
    simp [opIx_loc, wp_lst h3', atI, ixN]
    exact ⟨small_line (by decide), q _ (h2.trans r1)⟩
end Lk01
end
section
set_option Elab.async false
set_option linter.all false
set_option maxRecDepth 100000
namespace Lk01
open PySem L2 Pm
theorem sm : Small 100025 1139 10687 369 241 := by constructor <;> decide
theorem sm2 : Small 1367 925 85339 9913 553 := by constructor <;> decide
theorem e_take (ns : List Int) : m_law_take ns = runB 5 (bTake ns 100025 1139 10687 369 241) := rfl
theorem p_take (ns : List Int) {l n : Nat} {st : Sto} {u : Int} {Q : D → Sto → Prop} (hp : Pot l n st) (hn : n ≤ 1000000) (hu : 0 < u ∧ u < 2 ^ 24)
    (q : ∀ k st', (0 ≤ k ∧ k < u) → Pot l (n + 1) st' → Fr [l] st st' → Q (.int k) st') : wp (m_law_take ns [.loc l, .int u]) st Q := take_spec sm hp hn hu q
theorem p_of (ns : List Int) {l m n : Nat} {st : Sto} {xs : List D} {Q : D → Sto → Prop} (hp : Pot l n st) (hn : n ≤ 1000000) (hx : st[m]? = some (.lst xs)) (hml : m ≠ l) (h1 : 0 < xs.length ∧ xs.length < 2 ^ 24)
    (q : ∀ x st', x ∈ xs → Pot l (n + 1) st' → Fr [l] st st' → Q x st') : wp (m_law_of ns [.loc l, .loc m]) st Q := of_spec (e_take ns) sm hp hn hx hml h1 q
theorem p_stand (ns : List Int) {k : Kind} {l m : Nat} {n h : Int} (hn : 1 ≤ n ∧ n ≤ 8) (hh : 1 ≤ h ∧ h ≤ 5) {st : Sto} {Q : D → Sto → Prop} (hp : Pot l m st) (hm : m ≤ 500000)
    (q : ∀ ws st', okS n ws → Pot l (m + 15) st' → Fr [l] st st' → Q (stD ws) st') : wp (m_law_drawn_stand ns [.loc l, fl k n, .int h]) st Q := by
  simp [m_law_drawn_stand, runB_eq, b_law_drawn_stand, startE, okR, show (-4611686018427387904 ≤ h ∧ h < 4611686018427387904) by omega, rngI, wipeE]
  have hl := hp.lt
  refine wp_lcL (fun i acc s => ∃ ws : List W, acc = ws.map w3 ∧ ws.length = i ∧ i ≤ h.toNat ∧ (∀ w ∈ ws, okW n w) ∧ Pot l (m + 3 * i) s ∧ Fr [l] st s) _ 0 [] st ⟨[], rfl, rfl, Nat.zero_le _, by simp, hp, Fr.refl⟩ (fun j x acc s hj hI => ?_) fun acc s hI => ?_
  · obtain ⟨ws, h1, h2, h3, h4, h5, h6⟩ := hI
    have hjk : j < h.toNat := by
      have := (List.getElem?_eq_some_iff.mp hj).1
      simpa using this
    refine ⟨rfl, _, by simp; rfl, ?_⟩
    simp [atI, ixN]
    refine p_take ns h5 (by omega) (by omega) fun p s1 hp1 o1 f1 => ?_
    refine p_take ns o1 (by omega) (by omega) fun mk s2 hp2 o2 f2 => ?_
    have o2l := o2.lt
    refine ⟨small_line (by decide), ?_⟩
    refine p_of ns (xs := [.int 1, .int (-1)]) (n := m + 3 * (0 + j) + 1 + 1) (o2.fr (S := []) (Fr.new _) (by simp) (Nat.le_refl _)) (by omega) (by simp) (by omega) (by decide) fun x s3 hx o3 f3 => ?_
    obtain ⟨sn, rfl, hsn⟩ : ∃ sn : Int, x = .int sn ∧ (sn = 1 ∨ sn = -1) := by
      simp at hx
      rcases hx with rfl | rfl
      · exact ⟨1, rfl, .inl rfl⟩
      · exact ⟨-1, rfl, .inr rfl⟩
    refine ⟨small_line (by decide), ?_, ws ++ [(p, mk, sn)], ?_, ?_, ?_, ?_, ?_, ?_⟩
    · rw [h1]; exact Nat.lt_of_lt_of_le (show (ws.map w3).length < 100 by simp; omega) (small_line (by decide))
    · rw [h1]; simp [w3]
    · rw [List.length_append, h2]; exact (show 0 + j + 1 = j + 1 by omega)
    · omega
    · intro w1 w2 w3' hw
      rcases List.mem_append.mp hw with hw | hw
      · exact h4 _ hw
      · cases List.mem_singleton.mp hw
        exact ⟨hp1, by simpa using (show 0 ≤ mk ∧ mk ≤ 3 by omega), hsn⟩
    · exact o3.fr (S := []) Fr.refl (by simp) (by omega)
    · exact (h6.trans f1).trans (f2.trans ((Fr.new _).trans f3))
  · obtain ⟨ws, h1, h2, h3, h4, h5, h6⟩ := hI
    refine ⟨rfl, ?_⟩
    rw [h1]
    simp at h2 h3 ⊢
    exact q ws _ ⟨by omega, by omega, h4⟩ (h5.fr (S := []) (Fr.new _) (by simp) (by simp; omega)) (h6.trans (Fr.new _))
theorem p_any_floor (ns : List Int) {l m : Nat} {st : Sto} {Q : D → Sto → Prop} (hp : Pot l m st) (hm : m ≤ 500000)
    (q : ∀ k n st', okF k n → Pot l (m + 2) st' → Fr [l] st st' → Q (fl k n) st') : wp (m_law_any_floor ns [.loc l]) st Q := by
  have hl := hp.lt
  simp [m_law_any_floor, runB_eq, b_law_any_floor, startE]
  refine ⟨small_line (by decide), ?_⟩
  refine p_of ns (xs := [.str "ring", .str "row"]) (n := m) (hp.fr (S := []) (Fr.new _) (by simp) (Nat.le_refl _)) (by omega) (by simp) (by omega) (by decide) fun x s1 hx o1 f1 => ?_
  have f1' : Fr [l] st s1 := (Fr.new _).trans f1
  simp at hx
  rcases hx with rfl | rfl
  · simp [opEq_str]
    refine p_take ns o1 (by omega) (by omega) fun p s2 hp2 o2 f2 => ⟨small_line (by decide), ?_⟩
    exact q .ring (3 + p) s2 (.inl ⟨rfl, by omega⟩) o2 (f1'.trans f2)
  · simp [opEq_str]
    rw [if_neg (by decide)]
    refine p_take ns o1 (by omega) (by omega) fun p s2 hp2 o2 f2 => ⟨small_line (by decide), ?_⟩
    exact q .row (1 + p) s2 (.inr ⟨rfl, by omega⟩) o2 (f1'.trans f2)
end Lk01
end
section
set_option Elab.async false
set_option linter.all false
set_option maxRecDepth 100000
namespace Lk01
open PySem L2 Pm
theorem sh_place {k : Kind} {n p s : Int} (h : 0 < n ∧ n ≤ 8) : Sh 1 31 (placeAt k n p s) := by
  cases k
  · have h0 := Int.emod_nonneg (p + s) (show n ≠ 0 by omega)
    have h1 := Int.emod_lt_of_pos (p + s) h.1
    exact Sh.int (by omega)
  · unfold placeAt
    by_cases hc : 0 ≤ p + s ∧ p + s < n
    · simp only [if_pos hc]; exact Sh.int (by omega)
    · simp only [if_neg hc]; exact Sh.non.mono (by decide) (by decide)
theorem sh_cell {n : Int} {ws : List W} (hw : okS n ws) (i p : Int) : Sh 2 (5 * (31 + 2) + 3) (cellD ws i p) := by
  refine Sh.tup (e := 1) (w := 31) (n := 5) (fun x hx => ?_) ?_
  · obtain ⟨m, hm, rfl⟩ := List.mem_map.mp hx
    have hm' : m ∈ cellM ws i p := (isort_perm _).mem_iff.mp hm
    obtain ⟨⟨w, j⟩, hy, e⟩ := List.mem_filterMap.mp hm'
    have hw' : w ∈ ws := List.fst_mem_of_mem_zipIdx hy
    have := (hw.2.2 w hw').2.1
    unfold mk1 at e
    split at e
    · cases e
      exact Sh.int (by have h2 := this; exact (show w.2.1.natAbs < 10 ^ 30 by omega))
    · cases e
  · rw [List.length_map, (isort_perm _).length_eq]
    exact Nat.le_trans (List.length_filterMap_le _ _) (by simpa using hw.2.1)
theorem sh_way {k : Kind} {n p s : Int} {ws : List W} {i : Int} (hw : okS n ws) (hn : 1 ≤ n ∧ n ≤ 8) : Sh 3 (7 * (168 + 2) + 3) (.tup (wayD k n p s ws i)) := by
  refine Sh.tup (e := 2) (w := 168) (n := 7) (fun x hx => ?_) ?_
  · obtain ⟨j, _, e⟩ := List.mem_filterMap.mp hx
    unfold spot at e
    split at e
    · cases e
      exact (sh_cell hw i _).mono (by decide) (by decide)
    · cases e
  · exact Nat.le_trans (List.length_filterMap_le _ _) (by simp; omega)
theorem sh_view {k : Kind} {n : Int} {ws : List W} {i : Nat} {w : W} (hw : okS n ws) (hn : 1 ≤ n ∧ n ≤ 8) (hi : ws[i]? = some w) : Sh 4 (4 * (1193 + 2) + 3) (viewD k n ws i w) := by
  have hm := (hw.2.2 w (List.mem_of_getElem? hi)).2.1
  refine Sh.tup (e := 3) (w := 1193) (n := 4) (fun x hx => ?_) (show 4 ≤ 4 by decide)
  simp only [List.mem_cons, List.not_mem_nil, or_false] at hx
  rcases hx with rfl | rfl | rfl | rfl
  · exact (Sh.int (by omega)).mono (by decide) (by decide)
  · exact (sh_cell hw _ _).mono (by decide) (by decide)
  · exact sh_way hw hn
  · exact sh_way hw hn
def chkB (ns : List Int) : MS := (ifS (tstB (bin (appA (conA (kwE [0, 1, 2] 3 (conA (rd 1) (conA (rd 3) (conA (rd 4) nilA))) (m_at_distance ns)) nilA) bRepr) (appA (conA (calE (conA (rd 1) (conA (rd 3) (conA (rd 4) nilA))) (ofLen 3 (m_law_at ns))) nilA) bRepr) opNe)) (retS (kon (.bl false))) nxS)
def lapB (ns : List Int) : MS := (seqS (parS 3 4 (conA (calE (conA (rd 0) (conA (bin (rd 1) (kon (.int 1)) (opIx ns)) nilA)) (ofLen 2 (m_law_take ns))) (conA (ifE (tstB (bin (rd 2) (kon (.int 5)) opLt)) (bin (calE (conA (rd 0) (conA (kon (.int 199)) nilA)) (ofLen 2 (m_law_take ns))) (kon (.int 99)) opSub) (bin (calE (conA (rd 0) (conA (kon (.int 17)) nilA)) (ofLen 2 (m_law_take ns))) (kon (.int 8)) opSub)) nilA))) (chkB ns))
def walkB (ns : List Int) : MS := (ifS (tstB (bin (appA (conA (kwE [0, 1, 2] 3 (conA (rd 1) (conA (rd 5) (conA (rd 6) nilA))) (m_view ns)) nilA) bRepr) (appA (conA (calE (conA (rd 1) (conA (rd 5) (conA (rd 6) nilA))) (ofLen 3 (m_law_view ns))) nilA) bRepr) opNe)) (retS (kon (.bl false))) nxS)
def standB (ns : List Int) : MS := (seqS (setS (.nm 5) (calE (conA (rd 0) (conA (rd 1) (conA (bin (kon (.int 1)) (calE (conA (rd 0) (conA (kon (.int 5)) nilA)) (ofLen 2 (m_law_take ns))) opAdd) nilA))) (ofLen 3 (m_law_drawn_stand ns)))) (forS (rng1 (appA (conA (rd 5) nilA) (bLen ns))) (.nm 6) (walkB ns)))
theorem lap_spec (ns : List Int) {k : Kind} {n : Int} (hf : okF k n) {l m : Nat} {st : Sto} (hp : Pot l m st) (hm : m ≤ 500000) {j : Int} {a b c d : Option D} {Q : Fl × En → Sto → Prop}
    (q : ∀ a b st', Pot l (m + 2) st' → Fr [l] st st' → Q (.nx, [some (.loc l), some (fl k n), some (.int j), a, b, c, d]) st') : wp (lapB ns [some (.loc l), some (fl k n), some (.int j), a, b, c, d]) st Q := by
  have hn := hf.le
  have fin : ∀ p s s1, (0 ≤ p ∧ p < n) → (-99 ≤ s ∧ s ≤ 99) → Pot l (m + 2) s1 → Fr [l] st s1 → wp (chkB ns [some (.loc l), some (fl k n), some (.int j), some (.int p), some (.int s), c, d]) s1 Q := by
    intro p s s1 h1 h2 o1 f1
    obtain ⟨t, ht⟩ := (sh_place (k := k) (n := n) (p := p) (s := s) (by omega)).repr (by decide) (by decide)
    simp [chkB, permL, e_at_distance ns p s hf h1 h2, e_law_at ns p s (show 0 < n by omega), ht, opNe_str]
    exact q _ _ _ o1 f1
  simp [lapB, atI, ixN]
  refine p_take ns hp (by omega) (by omega) fun p s1 h1 o1 f1 => ?_
  by_cases hj : j < 5
  · simp [hj]
    refine p_take ns o1 (by omega) (by omega) fun s s2 h2 o2 f2 => ?_
    exact fin p (s - 99) s2 h1 (by omega) o2 (f1.trans f2)
  · simp [hj]
    refine p_take ns o1 (by omega) (by omega) fun s s2 h2 o2 f2 => ?_
    exact fin p (s - 8) s2 h1 (by omega) o2 (f1.trans f2)
end Lk01
end
section
set_option Elab.async false
set_option linter.all false
set_option maxRecDepth 100000
namespace Lk01
open PySem L2 Pm
theorem walk_spec (ns : List Int) {k : Kind} {n : Int} (hf : okF k n) {ws : List W} (hw : okS n ws) {l m : Nat} {st : Sto} (hp : Pot l m st) {i : Nat} (hi : i < ws.length) {a b c d : Option D} {Q : Fl × En → Sto → Prop}
    (q : ∀ st', Pot l m st' → Fr [] st st' → Q (.nx, [some (.loc l), some (fl k n), a, b, c, some (stD ws), some (.int i)]) st') : wp (walkB ns [some (.loc l), some (fl k n), a, b, c, some (stD ws), some (.int i)]) st Q := by
  have hi' : ws[i]? = some ws[i] := List.getElem?_eq_getElem hi
  have hs := (hw.2.2 ws[i] (List.getElem_mem hi)).2.2
  obtain ⟨t, ht⟩ := (sh_view hw hf.le hi').repr (by decide) (by decide)
  simp [walkB, permL]
  refine (p_view ns hf hw hi').ap fun s1 r1 => ?_
  rw [ht]
  refine (p_law_view ns hf.le hw.2.1 hi' hs).ap fun s2 r2 => ?_
  simp [ht, opNe_str]
  exact q s2 (hp.fr (r1.trans r2) (by simp) (Nat.le_refl _)) (r1.trans r2)
theorem stand_spec (ns : List Int) {k : Kind} {n : Int} (hf : okF k n) {l m : Nat} {st : Sto} (hp : Pot l m st) (hm : m ≤ 400000) {a b c d e : Option D} {Q : Fl × En → Sto → Prop}
    (q : ∀ d e st', Pot l (m + 16) st' → Fr [l] st st' → Q (.nx, [some (.loc l), some (fl k n), a, b, c, d, e]) st') : wp (standB ns [some (.loc l), some (fl k n), a, b, c, d, e]) st Q := by
  simp [standB]
  refine p_take ns hp (by omega) (by omega) fun h s1 h1 o1 f1 => ?_
  simp
  refine p_stand ns hf.le (h := 1 + h) (by omega) o1 (by omega) fun ws s2 hw o2 f2 => ?_
  have := hw.2.1
  have hk : okR ((ws.map w3).length : Int) = true := okR_small (by omega) (by simp; omega)
  rw [bLen_tup, wp_ret]
  show wp (if okR ((ws.map w3).length : Int) = true then ret (rngI 0 ((ws.map w3).length : Int)) else no) _ _
  rw [if_pos hk, wp_ret]
  have er : (rngI 0 ((ws.map w3).length : Int)).xs = (List.range ws.length).map fun i : Nat => D.int (i : Int) := by
    simp [rngI]
  rw [er]
  refine wp_forL (fun j ρ s => (∃ e, ρ = [some (.loc l), some (fl k n), a, b, c, some (stD ws), e]) ∧ j ≤ ws.length ∧ Pot l (m + 16) s ∧ Fr [l] st s) _ 0 _ _ ⟨⟨_, rfl⟩, Nat.zero_le _, o2.fr (S := []) Fr.refl (by simp) (by omega), f1.trans f2⟩ (fun j x ρ s hj hI => ?_) fun ρ s hI => ?_
  · obtain ⟨⟨e, rfl⟩, h2, h3, h4⟩ := hI
    have hjk : j < ws.length := by
      have := (List.getElem?_eq_some_iff.mp hj).1
      simpa using this
    have hx : x = .int (j : Int) := by
      rw [List.getElem?_map, List.getElem?_range hjk] at hj
      simpa using hj.symm
    subst hx
    refine ⟨rfl, _, by simp; rfl, ?_⟩
    refine walk_spec ns hf hw h3 hjk (d := none) fun s' o' f' => ?_
    exact ⟨⟨_, rfl⟩, by omega, o', h4.trans f'.up⟩
  · obtain ⟨⟨e, rfl⟩, h2, h3, h4⟩ := hI
    exact ⟨rfl, q _ _ s h3 h4⟩
theorem right_spec (ns : List Int) {l : Nat} {st : Sto} (hp : Pot l 0 st) : wp (m_law_right ns [.loc l]) st fun r st' => r = .bl true ∧ Fr [l] st st' := by
  rw [m_law_right, runB_eq, show b_law_right ns = (seqS (setS (.nm 1) (calE (conA (rd 0) nilA) (ofLen 1 (m_law_any_floor ns)))) (seqS (forS (rng1 (kon (.int 10))) (.nm 2) (lapB ns)) (seqS (forS (rng1 (kon (.int 3))) (.nm 2) (standB ns)) (retS (kon (.bl true)))))) from rfl]
  simp [startE]
  refine p_any_floor ns hp (by omega) fun k n s1 hf o1 f1 => ?_
  simp [okR_small (show (-1000000 : Int) ≤ 10 by decide) (show (10 : Int) ≤ 1000000 by decide), okR_small (show (-1000000 : Int) ≤ 3 by decide) (show (3 : Int) ≤ 1000000 by decide), rngI]
  refine wp_forL (fun j ρ s => (∃ a b c, ρ = [some (.loc l), some (fl k n), a, b, c, none, none]) ∧ Pot l (2 + 2 * j) s ∧ j ≤ 10 ∧ Fr [l] st s) _ 0 _ _ ⟨⟨_, _, _, rfl⟩, o1.fr (S := []) Fr.refl (by simp) (by omega), by omega, f1⟩ (fun j x ρ s hj hI => ?_) fun ρ s hI => ⟨rfl, ?_⟩
  · obtain ⟨⟨a, b, c, rfl⟩, h2, h3, h4⟩ := hI
    have hjk : j < 10 := by
      have := (List.getElem?_eq_some_iff.mp hj).1
      simpa using this
    have hx : x = .int (j : Int) := by
      rw [List.getElem?_map, List.getElem?_range hjk] at hj
      simpa using hj.symm
    subst hx
    refine ⟨rfl, _, by simp; rfl, ?_⟩
    refine lap_spec ns hf h2 (by omega) fun a b s' o' f' => ?_
    exact ⟨⟨_, _, _, rfl⟩, o'.fr (S := []) Fr.refl (by simp) (by omega), by omega, h4.trans f'⟩
  · obtain ⟨⟨a, b, c, rfl⟩, h2, h3, h4⟩ := hI
    simp [okR_small (show (-1000000 : Int) ≤ 10 by decide) (show (10 : Int) ≤ 1000000 by decide), okR_small (show (-1000000 : Int) ≤ 3 by decide) (show (3 : Int) ≤ 1000000 by decide), rngI]
    refine wp_forL (fun j ρ s => (∃ a b c d e, ρ = [some (.loc l), some (fl k n), a, b, c, d, e]) ∧ Pot l (30 + 16 * j) s ∧ j ≤ 3 ∧ Fr [l] st s) _ 0 _ _ ⟨⟨_, _, _, _, _, rfl⟩, h2.fr (S := []) Fr.refl (by simp) (by simp), by omega, h4⟩ (fun j x ρ s hj hI => ?_) fun ρ s hI => ⟨rfl, ?_⟩
    · obtain ⟨⟨a, b, c, d, e, rfl⟩, h2, h3, h4⟩ := hI
      have hjk : j < 3 := by
        have := (List.getElem?_eq_some_iff.mp hj).1
        simpa using this
      refine ⟨rfl, _, by simp; rfl, ?_⟩
      refine stand_spec ns hf h2 (by omega) fun d e s' o' f' => ?_
      exact ⟨⟨_, _, _, _, _, rfl⟩, o'.fr (S := []) Fr.refl (by simp) (by omega), by omega, h4.trans f'⟩
    · obtain ⟨⟨a, b, c, d, e, rfl⟩, h2, h3, h4⟩ := hI
      simp
      exact h4
theorem law_true (ns : List Int) (hn : ns.length ≤ 63) : ∃ st, m_law ns [.scr] [] = .ok (.bl true) st :=
  law_all (L := 3) (mp := m_law_pot ns) (mr := m_law_right ns) hn (by decide) rfl sm2 fun l st hp => right_spec ns hp
end Lk01
end
open PySem PySem.W PySem.Calls PyProof.Rows
set_option maxHeartbeats 0 in
theorem PySem.Challenge.cw_onestillview_k01_whole_places_and_what_i_holds : PySem.Challenge.rw_onestillview_k01_whole_places_and_what_i.Holds := by
  w_on; o_law
  refine HandSHeadRun.head_any (r := OpenLaw.row PySem.Challenge.rw_onestillview_k01_whole_places_and_what_i) (q := view (OpenLaw.row PySem.Challenge.rw_onestillview_k01_whole_places_and_what_i).prog [42]) (H := Lk01.hk) (ob := Lk01.ob) (M := 4000) (loose := Lk01.loose) (d := HandSHeadRun.topDef (OpenLaw.row PySem.Challenge.rw_onestillview_k01_whole_places_and_what_i).prog 42) (kwd := []) Lk01.ob_eq
    (by kernel_rfl) (fun s => by kernel_rfl) Lk01.run (by kernel_rfl) (by kernel_rfl) (by kernel_rfl) (by rfl) (by first | assumption | decide +kernel) (by decide +kernel) ⟨rfl, rfl, rfl, rfl, rfl, by decide +kernel⟩ ?hw ?hc
  case hw => w_witness2
  case hc =>
    refine Pm.walkG (l := PySem.Challenge.rw_onestillview_k01_whole_places_and_what_i) (n := 63) (k := 9) (x := "script") (m := Lk01.m_law) (CX := fun w => L2.CX (PySem.Challenge.rw_onestillview_k01_whole_places_and_what_i).prog w) rfl (by decide) (by kernel_rfl) ⟨rfl, by decide, by decide⟩ ?F Lk01.law_true (fun w H s e s' z => ?hx)
    case hx =>
      obtain ⟨_, _, _, _, _, _, _, _, _, _, _, _, z⟩ := z
      exact z.elim
    intro w mg fa h Y G hmg0
    obtain ⟨K, KX, c⟩ := Y
    have hmg : mg ("law" : PySem.Str) = some (.ref fa) := by
      have e : (HandSHeadRun.topDef (OpenLaw.row PySem.Challenge.rw_onestillview_k01_whole_places_and_what_i).prog 42).name = ("law" : PySem.Str) := by kernel_rfl
      rw [← e]
      exact hmg0
    obtain ⟨fd, hb, hF⟩ := Lk01.facts (P := (PySem.Challenge.rw_onestillview_k01_whole_places_and_what_i).prog) (w := w) KX G hmg c
    exact ⟨K, fd, fun _ => none, KX, hb, fun sa ns base b1 b2 => hF _ sa ns base b1 b2⟩
