import PyProof.Rows.All
import Wide.All
import OpenK.AllK
import Wide.FinOn
import HandS.Evl
import HandS.Words
import HandS.WordsExc
import HandS.Gcd
import HandS.Wide
import HandS.IsInst
import HandS.Defaults
import HandS.Zip
import HandS.HeadHook1
import HandS.HeadHook2
import HandS.OwnEq
import OpenK.KOps
import OpenK.KMeth
import KE.KMathGC
import PyProof.InstNe
import PyProof.FactsAll.tuple_iterator_1
import HandS.SetFor
import PyProof.ListNew
import HandS.TupAny
import KE.KMathG
import HandS.DictComp
import PyProof.ZipIter
import PyProof.CollectWalk
import KE.KItemsList
import HandS.Base
import HandS.Call
import HandS.List
import HandS.Iter
import HandS.ListItems
import HandS.Star
import KE.KExcSuper
import HandS.ExcOwn
import HandS.ExcInit
import KE.KStateDown
import HandS.Head3
import HandS.HeadEnd
import HandS.Rev
import HandS.RevTup
import HandS.Conv
import HandS.Deep
import HandS.WideBits
import HandS.Flow
import KE.GoesMore
import HandS.TupMul
import HandS.TryOnly
import HandS.HeadWalk
import PySem.Challenge.RW_weirlines_k01_whole_programs
section
set_option Elab.async false
set_option linter.all false
set_option maxRecDepth 100000
namespace WD
open PySem L2 Evl

/-! ### plain data: what never changes -/
inductive D where
  | non | bl (b : Bool) | int (i : Int) | str (x : Str)
  | tup (ds : List D) | lst (ds : List D) | obj (c : Str) (fs : List (Str × D))

mutual
inductive Is (K : PySem.W.Frag) (H : Hp) : V → D → Prop
  | non : Is K H .non .non
  | bl (b : Bool) : Is K H (.bl b) (.bl b)
  | int (i : Int) : Is K H (.int i) (.int i)
  | str (x : Str) : Is K H (.str x) (.str x)
  | tup {a : Addr} {xs : List V} {ds : List D} : SqT K H a xs → All K H xs ds → Is K H (.ref a) (.tup ds)
  | lst {a : Addr} {xs : List V} {ds : List D} : Rd H a (.lst xs) → All K H xs ds → Is K H (.ref a) (.lst ds)
  | obj {a dx : Addr} {c : Str} {fvs : List (Str × V)} {fs : List (Str × D)} : H a = some (.ins (He.ga K c) dx fvs) → AllF K H fvs fs → Is K H (.ref a) (.obj c fs)
inductive All (K : PySem.W.Frag) (H : Hp) : List V → List D → Prop
  | nil : All K H [] []
  | cons {v : V} {vs : List V} {d : D} {ds : List D} : Is K H v d → All K H vs ds → All K H (v :: vs) (d :: ds)
inductive AllF (K : PySem.W.Frag) (H : Hp) : List (Str × V) → List (Str × D) → Prop
  | nil : AllF K H [] []
  | cons {n : Str} {v : V} {vs : List (Str × V)} {d : D} {ds : List (Str × D)} : Is K H v d → AllF K H vs ds → AllF K H ((n, v) :: vs) ((n, d) :: ds)
end

section
variable {K : PySem.W.Frag} {H H' : Hp}
mutual
theorem Is.ex (e : Ex H H') : ∀ {v : V} {d : D}, Is K H v d → Is K H' v d
  | _, _, .non => .non
  | _, _, .bl b => .bl b
  | _, _, .int i => .int i
  | _, _, .str x => .str x
  | _, _, .tup h a => .tup (ex_t e h) (All.ex e a)
  | _, _, .lst h a => .lst (ex_rd e h) (All.ex e a)
  | _, _, .obj h a => .obj (e _ _ h) (AllF.ex e a)
theorem All.ex (e : Ex H H') : ∀ {vs : List V} {ds : List D}, All K H vs ds → All K H' vs ds
  | _, _, .nil => .nil
  | _, _, .cons h a => .cons (Is.ex e h) (All.ex e a)
theorem AllF.ex (e : Ex H H') : ∀ {vs : List (Str × V)} {ds : List (Str × D)}, AllF K H vs ds → AllF K H' vs ds
  | _, _, .nil => .nil
  | _, _, .cons h a => .cons (Is.ex e h) (AllF.ex e a)
end
theorem All.len : ∀ {vs : List V} {ds : List D}, All K H vs ds → vs.length = ds.length
  | _, _, .nil => rfl
  | _, _, .cons _ a => congrArg Nat.succ (All.len a)
theorem All.get : ∀ {vs : List V} {ds : List D} {i : Nat} {d : D}, All K H vs ds → ds[i]? = some d → ∃ v, vs[i]? = some v ∧ Is K H v d
  | _, _, _, _, .nil, h => by simp at h
  | _, _, 0, _, .cons h _, e => by
    simp at e
    subst e
    exact ⟨_, rfl, h⟩
  | _, _, i + 1, _, .cons _ a, e => by
    obtain ⟨v, h1, h2⟩ := All.get (i := i) a (by simpa using e)
    exact ⟨v, by simpa using h1, h2⟩
theorem All.get' : ∀ {vs : List V} {ds : List D} {i : Nat} {v : V}, All K H vs ds → vs[i]? = some v → ∃ d, ds[i]? = some d ∧ Is K H v d
  | _, _, _, _, .nil, h => by simp at h
  | _, _, 0, _, .cons h _, e => by
    simp at e
    subst e
    exact ⟨_, rfl, h⟩
  | _, _, i + 1, _, .cons _ a, e => by
    obtain ⟨d, h1, h2⟩ := All.get' (i := i) a (by simpa using e)
    exact ⟨d, by simpa using h1, h2⟩
theorem All.app : ∀ {vs ws : List V} {ds es : List D}, All K H vs ds → All K H ws es → All K H (vs ++ ws) (ds ++ es)
  | _, _, _, _, .nil, b => b
  | _, _, _, _, .cons h a, b => .cons h (All.app a b)
theorem All.one {v : V} {d : D} (h : Is K H v d) : All K H [v] [d] := .cons h .nil
theorem All.drop : ∀ {vs : List V} {ds : List D} (n : Nat), All K H vs ds → All K H (vs.drop n) (ds.drop n)
  | _, _, 0, h => h
  | _, _, _ + 1, .nil => .nil
  | _, _, n + 1, .cons _ a => All.drop n a
theorem All.take : ∀ {vs : List V} {ds : List D} (n : Nat), All K H vs ds → All K H (vs.take n) (ds.take n)
  | _, _, 0, _ => .nil
  | _, _, _ + 1, .nil => .nil
  | _, _, n + 1, .cons h a => .cons h (All.take n a)
theorem All.set {v : V} {d : D} (h : Is K H v d) : ∀ {vs : List V} {ds : List D} (n : Nat), All K H vs ds → All K H (vs.set n v) (ds.set n d)
  | _, _, _, .nil => .nil
  | _, _, 0, .cons _ a => .cons h a
  | _, _, n + 1, .cons g a => .cons g (All.set h n a)
theorem AllF.look {f : Str} {d : D} : ∀ {vs : List (Str × V)} {ds : List (Str × D)}, AllF K H vs ds → ds.lookup f = some d → ∃ v, vs.lookup f = some v ∧ Is K H v d
  | _, _, .nil, h => by simp at h
  | _, _, .cons (n := n) h a, e => by
    rw [List.lookup_cons] at e ⊢
    cases q : (f == n) with
    | true =>
      rw [q] at e
      cases e
      exact ⟨_, rfl, h⟩
    | false =>
      rw [q] at e
      exact AllF.look a e

/-! ### data without lists and objects: kept by all that is done to lists -/
mutual
def D.lf : D → Bool
  | .lst _ => false
  | .obj _ _ => false
  | .tup ds => D.lfs ds
  | _ => true
def D.lfs : List D → Bool
  | [] => true
  | d :: ds => D.lf d && D.lfs ds
end
/-- tuples stay -/
def Gt (H H' : Hp) : Prop := ∀ a xs, Rd H a (.tup xs) → Rd H' a (.tup xs)
theorem Gt.refl (H : Hp) : Gt H H := fun _ _ h => h
theorem Gt.trans {H H1 H2 : Hp} (a : Gt H H1) (b : Gt H1 H2) : Gt H H2 := fun x y h => b x y (a x y h)
theorem Gt.of (e : Ex H H') : Gt H H' := fun _ _ h => ex_rd e h
theorem Gt.upd {p : Addr} {o : HO} {u : HO} (h : H p = some u) (hu : ∀ xs, u ≠ .tup xs) (hf : ∀ ob z, u ≠ .frz ob z) : Gt H (upd H p o) := fun a xs r => by
  rcases r with r | ⟨ob, r⟩
  · exact .inl (by
      rw [upd_ne (ne_of r h (fun z => hu xs z.symm))]
      exact r)
  · exact .inr ⟨ob, by
      rw [upd_ne (ne_of r h (fun z => hf ob _ z.symm))]
      exact r⟩
theorem Gt.lst {p : Addr} {o : HO} {xs : List V} (h : H p = some (.lst xs)) : Gt H (L2.upd H p o) := Gt.upd h (fun _ z => by cases z) (fun _ _ z => by cases z)
mutual
theorem Is.gt (e : Gt H H') : ∀ {v : V} {d : D}, Is K H v d → d.lf = true → Is K H' v d
  | _, _, .non, _ => .non
  | _, _, .bl b, _ => .bl b
  | _, _, .int i, _ => .int i
  | _, _, .str x, _ => .str x
  | _, _, .tup h a, q => .tup (h.imp (fun h => e _ _ h) id) (All.gt e a q)
  | _, _, .lst _ _, q => nomatch q
  | _, _, .obj _ _, q => nomatch q
theorem All.gt (e : Gt H H') : ∀ {vs : List V} {ds : List D}, All K H vs ds → D.lfs ds = true → All K H' vs ds
  | _, _, .nil, _ => .nil
  | _, _, .cons h a, q => .cons (Is.gt e h (Bool.and_eq_true_iff.mp q).1) (All.gt e a (Bool.and_eq_true_iff.mp q).2)
end
theorem lfs_map {α : Type} (f : α → D) (h : ∀ a, (f a).lf = true) : ∀ xs : List α, D.lfs (xs.map f) = true
  | [] => rfl
  | x :: xs => by
    show ((f x).lf && D.lfs (xs.map f)) = true
    rw [h x, lfs_map f h xs]
    rfl
theorem lfs_app : ∀ {ds es : List D}, D.lfs ds = true → D.lfs es = true → D.lfs (ds ++ es) = true
  | [], _, _, h => h
  | d :: ds, es, h, h2 => by
    obtain ⟨a, b⟩ := Bool.and_eq_true_iff.mp (show (d.lf && D.lfs ds) = true from h)
    show (d.lf && D.lfs (ds ++ es)) = true
    rw [a, lfs_app b h2]
    rfl
end
end WD
end
section
set_option Elab.async false
set_option linter.all false
set_option maxRecDepth 100000
namespace WD
open PySem L2 Evl
variable {K : PySem.W.Frag} {σ : L2.St} {H H' : Hp} {ta tb te tx : TE} {t u : TT} {d d1 d2 : D} {ds es : List D}

def EvD (K : PySem.W.Frag) (te : TE) (σ : L2.St) (H : Hp) (d : D) : Prop := ∀ H1, Ex H H1 → ∀ Q : VK, (∀ v H2, Ex H1 H2 → Is K H2 v d → Q v H2) → te σ H1 Q
def EvDA (K : PySem.W.Frag) (ta : TA) (σ : L2.St) (H : Hp) (ds : List D) : Prop := ∀ H1, Ex H H1 → ∀ Q : List V → Hp → Prop, (∀ vs H2, Ex H1 H2 → All K H2 vs ds → Q vs H2) → ta σ H1 Q
/-- a new list -/
def EvN (K : PySem.W.Frag) (te : TE) (σ : L2.St) (H : Hp) (ds : List D) : Prop := ∀ H1, Ex H H1 → ∀ Q : VK, (∀ p xs H2, H1 p = none → Ex H1 H2 → H2 p = some (.lst xs) → All K H2 xs ds → Q (.ref p) H2) → te σ H1 Q
theorem EvD.mono (e : Ex H H') (h : EvD K te σ H d) : EvD K te σ H' d := fun H1 a Q q => h H1 (e.trans a) Q q
theorem EvN.mono (e : Ex H H') (h : EvN K te σ H ds) : EvN K te σ H' ds := fun H1 a Q q => h H1 (e.trans a) Q q
theorem EvN.toD (h : EvN K te σ H ds) : EvD K te σ H (.lst ds) := fun H1 e Q q => h H1 e Q fun p xs H2 _ e2 h2 a => q _ H2 e2 (.lst (.inl h2) a)
theorem EvD.is {e : D} (h : EvD K te σ H d) (q : d = e) : EvD K te σ H e := q ▸ h
theorem EvN.is (h : EvN K te σ H ds) (q : ds = es) : EvN K te σ H es := q ▸ h
theorem ed_var {i : Nat} {v : V} (h : σ[i]? = some (some v)) (a : Is K H v d) : EvD K (tVar i) σ H d := fun H1 e Q q => ⟨v, h, q v H1 (Ex.refl H1) (a.ex e)⟩
theorem ed_int {i : Int} : EvD K (tC (.int i)) σ H (.int i) := fun H1 _ _ q => q _ H1 (Ex.refl H1) (.int i)
theorem ed_bl {b : Bool} : EvD K (tC (.bl b)) σ H (.bl b) := fun H1 _ _ q => q _ H1 (Ex.refl H1) (.bl b)
theorem ed_str {x : Str} : EvD K (tC (.str x)) σ H (.str x) := fun H1 _ _ q => q _ H1 (Ex.refl H1) (.str x)
theorem ed_non : EvD K (tC .non) σ H .non := fun H1 _ _ q => q _ H1 (Ex.refl H1) .non
theorem ed_of {v : V} (h : Ev te σ H v) (a : Is K H v d) : EvD K te σ H d := fun H1 e Q q => h H1 e Q fun H2 e2 => q v H2 e2 (a.ex (e.trans e2))
theorem ev_of {v : V} (hv : ∀ H' w, Is K H' w d → w = v) (h : EvD K te σ H d) : Ev te σ H v := fun H1 e Q q => h H1 e Q fun w H2 e2 a => by
  rw [hv H2 w a]
  exact q H2 e2
theorem ev_i {i : Int} (h : EvD K te σ H (.int i)) : Ev te σ H (.int i) := ev_of (fun _ _ a => by cases a; rfl) h
theorem ev_b {b : Bool} (h : EvD K te σ H (.bl b)) : Ev te σ H (.bl b) := ev_of (fun _ _ a => by cases a; rfl) h

/-! ### operators -/
def RD (K : PySem.W.Frag) (r : R2) (d1 d2 : D) (H : Hp) (d : D) : Prop := ∀ v1 v2 H1, Ex H H1 → Is K H1 v1 d1 → Is K H1 v2 d2 → ∀ Q : VK, (∀ v H2, Ex H1 H2 → Is K H2 v d → Q v H2) → r v1 v2 H1 Q
def RNw (K : PySem.W.Frag) (r : R2) (d1 d2 : D) (H : Hp) (ds : List D) : Prop := ∀ v1 v2 H1, Ex H H1 → Is K H1 v1 d1 → Is K H1 v2 d2 → ∀ Q : VK, (∀ p xs H2, H1 p = none → Ex H1 H2 → H2 p = some (.lst xs) → All K H2 xs ds → Q (.ref p) H2) → r v1 v2 H1 Q
theorem ed_op {r : R2} (ha : EvD K ta σ H d1) (hb : EvD K tb σ H d2) (hr : RD K r d1 d2 H d) : EvD K (tOp r ta tb) σ H d := fun H1 e Q q =>
  ha H1 e _ fun v1 H2 e2 a1 => hb H2 (e.trans e2) _ fun v2 H3 e3 a2 => hr v1 v2 H3 ((e.trans e2).trans e3) (a1.ex e3) a2 Q fun v H4 e4 a => q v H4 ((e2.trans e3).trans e4) a
theorem en_op {r : R2} (ha : EvD K ta σ H d1) (hb : EvD K tb σ H d2) (hr : RNw K r d1 d2 H ds) : EvN K (tOp r ta tb) σ H ds := fun H1 e Q q =>
  ha H1 e _ fun v1 H2 e2 a1 => hb H2 (e.trans e2) _ fun v2 H3 e3 a2 => hr v1 v2 H3 ((e.trans e2).trans e3) (a1.ex e3) a2 Q fun p xs H4 hp e4 h a => q p xs H4 (fresh_back (e2.trans e3) hp) ((e2.trans e3).trans e4) h a
theorem rd_I0 {g : Int → Int → Int} {i j : Int} : RD K (rI0 fun i j => .int (g i j)) (.int i) (.int j) H (.int (g i j)) := fun v1 v2 H1 _ a1 a2 Q q => by
  cases a1; cases a2
  exact ⟨i, j, rfl, rfl, q _ H1 (Ex.refl H1) (.int _)⟩
theorem rd_B0 {g : Int → Int → Bool} {i j : Int} : RD K (rI0 fun i j => .bl (g i j)) (.int i) (.int j) H (.bl (g i j)) := fun v1 v2 H1 _ a1 a2 Q q => by
  cases a1; cases a2
  exact ⟨i, j, rfl, rfl, q _ H1 (Ex.refl H1) (.bl _)⟩
theorem rd_I {C : Int → Int → Prop} {g : Int → Int → Int} {i j : Int} (hc : C i j) : RD K (rI C fun i j => .int (g i j)) (.int i) (.int j) H (.int (g i j)) := fun v1 v2 H1 _ a1 a2 Q q => by
  cases a1; cases a2
  exact ⟨i, j, rfl, rfl, hc, q _ H1 (Ex.refl H1) (.int _)⟩
theorem ed_add {i j : Int} (ha : EvD K ta σ H (.int i)) (hb : EvD K tb σ H (.int j)) : EvD K (tOp (rI0 fun i j => .int (i + j)) ta tb) σ H (.int (i + j)) := ed_op ha hb (rd_I0 (g := fun i j => i + j))
theorem ed_sub {i j : Int} (ha : EvD K ta σ H (.int i)) (hb : EvD K tb σ H (.int j)) : EvD K (tOp (rI0 fun i j => .int (i - j)) ta tb) σ H (.int (i - j)) := ed_op ha hb (rd_I0 (g := fun i j => i - j))
theorem ed_mulW {i j : Int} (ha : EvD K ta σ H (.int i)) (hb : EvD K tb σ H (.int j)) (hc : CMulW i j) : EvD K (tOp (rI CMulW fun i j => .int (i * j)) ta tb) σ H (.int (i * j)) := ed_op ha hb (rd_I (g := fun i j => i * j) hc)
theorem ed_mul {i j : Int} (ha : EvD K ta σ H (.int i)) (hb : EvD K tb σ H (.int j)) (hc : CMul i j) : EvD K (tOp (rI CMul fun i j => .int (i * j)) ta tb) σ H (.int (i * j)) := ed_op ha hb (rd_I (g := fun i j => i * j) hc)
theorem ed_divW {i j : Int} (ha : EvD K ta σ H (.int i)) (hb : EvD K tb σ H (.int j)) (hc : CDivW i j) : EvD K (tOp (rI CDivW fun i j => .int (i / j)) ta tb) σ H (.int (i / j)) := ed_op ha hb (rd_I (g := fun i j => i / j) hc)
theorem ed_mod {i j : Int} (ha : EvD K ta σ H (.int i)) (hb : EvD K tb σ H (.int j)) (hc : 0 < j) : EvD K (tOp (rI (fun _ j => 0 < j) fun i j => .int (i % j)) ta tb) σ H (.int (i % j)) := ed_op ha hb (rd_I (C := fun _ j => 0 < j) (g := fun i j => i % j) hc)
theorem ed_pow {i j : Int} (ha : EvD K ta σ H (.int i)) (hb : EvD K tb σ H (.int j)) (hc : CPow i j) : EvD K (tOp (rI CPow fun i j => .int (i ^ j.toNat)) ta tb) σ H (.int (i ^ j.toNat)) := ed_op ha hb (rd_I (g := fun i j => i ^ j.toNat) hc)
theorem ed_neg {i : Int} (ha : EvD K ta σ H (.int i)) : EvD K (tUn (rU fun i => .int (-i)) ta) σ H (.int (-i)) := fun H1 e Q q => ha H1 e _ fun v H2 e2 a => by
  cases a
  exact ⟨i, rfl, q _ H2 e2 (.int _)⟩
theorem ed_lt {i j : Int} (ha : EvD K ta σ H (.int i)) (hb : EvD K tb σ H (.int j)) : EvD K (tOp (rI0 fun i j => .bl (decide (i < j))) ta tb) σ H (.bl (decide (i < j))) := ed_op ha hb (rd_B0 (g := fun i j => decide (i < j)))
theorem ed_le {i j : Int} (ha : EvD K ta σ H (.int i)) (hb : EvD K tb σ H (.int j)) : EvD K (tOp (rI0 fun i j => .bl (decide (i ≤ j))) ta tb) σ H (.bl (decide (i ≤ j))) := ed_op ha hb (rd_B0 (g := fun i j => decide (i ≤ j)))
theorem ed_gt {i j : Int} (ha : EvD K ta σ H (.int i)) (hb : EvD K tb σ H (.int j)) : EvD K (tOp (rI0 fun i j => .bl (decide (j < i))) ta tb) σ H (.bl (decide (j < i))) := ed_op ha hb (rd_B0 (g := fun i j => decide (j < i)))
theorem ed_ge {i j : Int} (ha : EvD K ta σ H (.int i)) (hb : EvD K tb σ H (.int j)) : EvD K (tOp (rI0 fun i j => .bl (decide (j ≤ i))) ta tb) σ H (.bl (decide (j ≤ i))) := ed_op ha hb (rd_B0 (g := fun i j => decide (j ≤ i)))
theorem ed_eqI {i j : Int} (ha : EvD K ta σ H (.int i)) (hb : EvD K tb σ H (.int j)) : EvD K (tOp rEq ta tb) σ H (.bl (decide (i = j))) := ed_op ha hb fun v1 v2 H1 _ a1 a2 Q q => by
  cases a1; cases a2
  refine ⟨rfl, ?_⟩
  have e : decide (V.int i = V.int j) = decide (i = j) := decide_eq_decide.mpr ⟨fun h => by cases h; rfl, fun h => by rw [h]⟩
  rw [e]
  exact q _ H1 (Ex.refl H1) (.bl _)
theorem ed_neI {i j : Int} (ha : EvD K ta σ H (.int i)) (hb : EvD K tb σ H (.int j)) : EvD K (tOp rNe ta tb) σ H (.bl (!decide (i = j))) := ed_op ha hb fun v1 v2 H1 _ a1 a2 Q q => by
  cases a1; cases a2
  refine ⟨rfl, ?_⟩
  have e : decide (V.int i = V.int j) = decide (i = j) := decide_eq_decide.mpr ⟨fun h => by cases h; rfl, fun h => by rw [h]⟩
  rw [e]
  exact q _ H1 (Ex.refl H1) (.bl _)
/-! ### data as PyData, for == -/
mutual
def D.py : D → PyData
  | .non => .none
  | .bl b => .bool b
  | .int i => .int i
  | .str x => .str x
  | .tup ds => .tuple (D.pys ds)
  | .lst ds => .list (D.pys ds)
  | .obj _ _ => .none
def D.pys : List D → List PyData
  | [] => []
  | d :: ds => D.py d :: D.pys ds
end
mutual
/-- no object in it -/
def D.fl : D → Bool
  | .tup ds => D.fls ds
  | .lst ds => D.fls ds
  | .obj _ _ => false
  | _ => true
def D.fls : List D → Bool
  | [] => true
  | d :: ds => D.fl d && D.fls ds
end
mutual
theorem Is.dp : ∀ {v : V} {d : D}, Is K H v d → d.fl = true → Dp K H v d.py
  | _, _, .non, _ => .non
  | _, _, .bl b, _ => .bl b
  | _, _, .int i, _ => .int i
  | _, _, .str x, _ => .str x
  | _, _, .tup h a, q => .tup h (All.dp a q)
  | _, _, .lst h a, q => .lst (.inl h) (All.dp a q)
theorem All.dp : ∀ {vs : List V} {ds : List D}, All K H vs ds → D.fls ds = true → DpAll K H vs (D.pys ds)
  | _, _, .nil, _ => .nil
  | _, _, .cons h a, q => .cons (Is.dp h (Bool.and_eq_true_iff.mp q).1) (All.dp a (Bool.and_eq_true_iff.mp q).2)
end
structure Sh (d : D) : Prop where
  fl : d.fl = true
  sh : SeqAt.shaped d.py = true
theorem ed_eqD (ha : EvD K ta σ H d1) (hb : EvD K tb σ H d2) (s1 : Sh d1) (s2 : Sh d2) : EvD K (tOp (rEqD K) ta tb) σ H (.bl (PyData.eqv d1.py d2.py)) := ed_op ha hb fun v1 v2 H1 _ a1 a2 Q q =>
  ⟨_, _, a1.dp s1.fl, a2.dp s2.fl, s1.sh, s2.sh, q _ H1 (Ex.refl H1) (.bl _)⟩
theorem ed_neD (ha : EvD K ta σ H d1) (hb : EvD K tb σ H d2) (s1 : Sh d1) (s2 : Sh d2) : EvD K (tOp (rNeD K) ta tb) σ H (.bl (!PyData.eqv d1.py d2.py)) := ed_op ha hb fun v1 v2 H1 _ a1 a2 Q q =>
  ⟨_, _, a1.dp s1.fl, a2.dp s2.fl, s1.sh, s2.sh, q _ H1 (Ex.refl H1) (.bl _)⟩
/-! ### lists, tuples -/
theorem atI_len {α β : Type} {xs : List α} {ys : List β} {i : Int} (h : xs.length = ys.length) {d : β} (e : atI ys i = some d) : ∃ j : Nat, ys[j]? = some d ∧ ∀ v, xs[j]? = some v → atI xs i = some v := by
  unfold atI at e ⊢
  rw [h]
  cases q : ixN ys.length i with
  | none =>
    rw [q] at e
    cases e
  | some j =>
    rw [q] at e
    exact ⟨j, e, fun v hv => hv⟩
theorem ed_ixT {i : Int} (ha : EvD K ta σ H (.tup ds)) (hb : EvD K tb σ H (.int i)) (hi : atI ds i = some d) : EvD K (tOp (rIxT K) ta tb) σ H d := ed_op ha hb fun v1 v2 H1 _ a1 a2 Q q => by
  cases a1 with
  | tup h a =>
    cases a2
    obtain ⟨j, h1, h2⟩ := atI_len a.len hi
    obtain ⟨v, h3, h4⟩ := a.get h1
    exact ⟨_, _, i, v, rfl, rfl, h, h2 v h3, q v H1 (Ex.refl H1) h4⟩
theorem ed_ixL {i : Int} (ha : EvD K ta σ H (.lst ds)) (hb : EvD K tb σ H (.int i)) (hi : atI ds i = some d) : EvD K (tOp (rIxL K) ta tb) σ H d := ed_op ha hb fun v1 v2 H1 _ a1 a2 Q q => by
  cases a1 with
  | lst h a =>
    cases a2
    obtain ⟨j, h1, h2⟩ := atI_len a.len hi
    obtain ⟨v, h3, h4⟩ := a.get h1
    exact ⟨_, _, i, v, rfl, rfl, .inl h, h2 v h3, q v H1 (Ex.refl H1) h4⟩
theorem ea0 : EvDA K tNil σ H [] := fun H1 _ _ q => q [] H1 (Ex.refl H1) .nil
theorem ea1 {tr : TA} (h : EvD K te σ H d) (hr : EvDA K tr σ H ds) : EvDA K (tCons te tr) σ H (d :: ds) := fun H1 e _ q =>
  h H1 e _ fun v H2 e2 a => hr H2 (e.trans e2) _ fun vs H3 e3 b => q (v :: vs) H3 (e2.trans e3) (.cons (a.ex e3) b)
theorem ed_tup {ta : TA} (h : EvDA K ta σ H ds) (hl : ds.length ≤ 100000 := by decide) : EvD K (tTup ta) σ H (.tup ds) := fun H1 e _ q =>
  h H1 e _ fun vs H2 e2 a => ⟨sz_of (by rw [a.len]; exact hl), fun p hp => q _ _ (e2.trans (Ex.new hp)) (.tup (st_of upd_same) (a.ex (Ex.new hp)))⟩
theorem en_lst {ta : TA} (h : EvDA K ta σ H ds) (hl : ds.length ≤ 100000 := by decide) : EvN K (tLst ta) σ H ds := fun H1 e _ q =>
  h H1 e _ fun vs H2 e2 a => ⟨sz_of (by rw [a.len]; exact hl), fun p hp => q p vs _ (fresh_back e2 hp) (e2.trans (Ex.new hp)) upd_same (a.ex (Ex.new hp))⟩
theorem cutA {lo hi : Option Int} {xs : List V} (a : All K H xs ds) : All K H (cutV xs lo hi) ((ds.drop (HT.sIx ds.length 0 lo)).take (HT.sIx ds.length ds.length hi - HT.sIx ds.length 0 lo)) := by
  unfold cutV
  rw [a.len]
  exact (a.drop _).take _
def cutD (xs : List D) (lo hi : Option Int) : List D := (xs.drop (HT.sIx xs.length 0 lo)).take (HT.sIx xs.length xs.length hi - HT.sIx xs.length 0 lo)
theorem en_sl {tl th : TO} {lo hi : Option Int} (h : EvD K te σ H (.lst ds)) (h1 : EvO tl σ H lo) (h2 : EvO th σ H hi) : EvN K (tSl (rSlL K) te tl th) σ H (cutD ds lo hi) := fun H1 e _ q =>
  h H1 e _ fun v H2 e2 a => by
    cases a with
    | lst hs a =>
      exact h1 H2 (e.trans e2) _ fun H3 e3 => h2 H3 ((e.trans e2).trans e3) _ fun H4 e4 =>
        ⟨_, _, rfl, ex_l (e3.trans e4) (.inl hs), fun p hp => q p _ _ (fresh_back ((e2.trans e3).trans e4) hp) (((e2.trans e3).trans e4).trans (Ex.new hp)) upd_same (cutA (a.ex ((e3.trans e4).trans (Ex.new hp))))⟩
theorem eo_s {i : Int} (h : EvD K te σ H (.int i)) : EvO (tPart te) σ H (some i) := eo_some (ev_i h)
theorem ed_lenL (h : EvD K te σ H (.lst ds)) : EvD K (tCB (rLenS K) (tCons te tNil)) σ H (.int (ds.length : Int)) := fun H1 e Q q =>
  h H1 e _ fun v H2 e2 a => by
    cases a with
    | lst hs a => exact ⟨_, _, rfl, Or.inl (.inl hs), by rw [a.len]; exact q _ H2 e2 (.int _)⟩
theorem ed_lenT (h : EvD K te σ H (.tup ds)) : EvD K (tCB (rLenS K) (tCons te tNil)) σ H (.int (ds.length : Int)) := fun H1 e Q q =>
  h H1 e _ fun v H2 e2 a => by
    cases a with
    | tup hs a => exact ⟨_, _, rfl, Or.inr hs, by rw [a.len]; exact q _ H2 e2 (.int _)⟩
def rTupS (K : PySem.W.Frag) : List V → Hp → VK → Prop := fun xs H Q => ∃ p ys, xs = [.ref p] ∧ ((SqL K H p ys ∧ ∀ l, H l = none → Q (.ref l) (upd H l (.tup ys))) ∨ (SqT K H p ys ∧ Q (.ref p) H))
theorem ed_tuple (h : EvD K te σ H (.lst ds)) : EvD K (tCB (rTupS K) (tCons te tNil)) σ H (.tup ds) := fun H1 e Q q =>
  h H1 e _ fun v H2 e2 a => by
    cases a with
    | lst hs a => exact ⟨_, _, rfl, Or.inl ⟨.inl hs, fun l hl => q _ _ (e2.trans (Ex.new hl)) (.tup (st_of upd_same) (a.ex (Ex.new hl)))⟩⟩
theorem ed_tupleT (h : EvD K te σ H (.tup ds)) : EvD K (tCB (rTupS K) (tCons te tNil)) σ H (.tup ds) := fun H1 e Q q =>
  h H1 e _ fun v H2 e2 a => by
    cases a with
    | tup hs a => exact ⟨_, _, rfl, Or.inr ⟨hs, q _ _ e2 (.tup hs a)⟩⟩
theorem en_list (h : EvD K te σ H (.lst ds)) : EvN K (tCB (rListS K) (tCons te tNil)) σ H ds := fun H1 e Q q =>
  h H1 e _ fun v H2 e2 a => by
    cases a with
    | lst hs a => exact ⟨_, _, rfl, Or.inl (.inl hs), fun l hl => q l _ _ (fresh_back e2 hl) (e2.trans (Ex.new hl)) upd_same (a.ex (Ex.new hl))⟩
theorem en_listT (h : EvD K te σ H (.tup ds)) : EvN K (tCB (rListS K) (tCons te tNil)) σ H ds := fun H1 e Q q =>
  h H1 e _ fun v H2 e2 a => by
    cases a with
    | tup hs a => exact ⟨_, _, rfl, Or.inr hs, fun l hl => q l _ _ (fresh_back e2 hl) (e2.trans (Ex.new hl)) upd_same (a.ex (Ex.new hl))⟩
theorem rd_catT (h1 : ds ≠ []) (hl : ds.length + es.length ≤ 100000) : RD K (rCatT K) (.tup ds) (.tup es) H (.tup (ds ++ es)) := fun v1 v2 H1 _ a1 a2 Q q => by
  cases a1 with
  | tup s1 a1 =>
    cases a2 with
    | tup s2 a2 =>
      refine ⟨_, _, _, _, rfl, rfl, s1, s2, ?_, sz_of (by rw [a1.len, a2.len]; exact hl), ?_, ?_⟩
      · intro z
        subst z
        cases a1
        exact h1 rfl
      · intro z
        subst z
        cases a2
        rw [List.append_nil] at q
        exact q _ H1 (Ex.refl H1) (.tup s1 a1)
      · intro _ p hp
        exact q _ _ (Ex.new hp) (.tup (st_of upd_same) ((a1.ex (Ex.new hp)).app (a2.ex (Ex.new hp))))
theorem ed_catT (ha : EvD K ta σ H (.tup ds)) (hb : EvD K tb σ H (.tup es)) (h1 : ds ≠ []) (hl : ds.length + es.length ≤ 100000) : EvD K (tOp (rCatT K) ta tb) σ H (.tup (ds ++ es)) := ed_op ha hb (rd_catT h1 hl)
/-! ### tests -/
theorem et_t {b : Bool} (h : EvD K te σ H (.bl b)) : EvT (tTest te) σ H b := Evl.et_test (ev_b h)
theorem et_v {b : Bool} (h : EvD K te σ H (.bl b)) : EvT (tB te) σ H b := Evl.et_B (ev_b h)
theorem ed_if {b : Bool} (h : EvT t σ H b) (h1 : b = true → EvD K ta σ H d1) (h2 : b = false → EvD K tb σ H d2) : EvD K (tIf t ta tb) σ H (if b then d1 else d2) := fun H1 e Q q => h H1 e _ fun H2 e2 => by
  cases b with
  | true =>
    show ta σ H2 Q
    exact h1 rfl H2 (e.trans e2) Q fun v H3 e3 a => q v H3 (e2.trans e3) a
  | false =>
    show tb σ H2 Q
    exact h2 rfl H2 (e.trans e2) Q fun v H3 e3 a => q v H3 (e2.trans e3) a
theorem ed_andV {a b : Bool} (h1 : EvD K ta σ H (.bl a)) (h2 : a = true → EvD K tb σ H (.bl b)) : EvD K (tAndV ta tb) σ H (.bl (a && b)) := ed_of (Evl.ev_andV (ev_b h1) fun q => ev_b (h2 q)) (.bl _)
theorem ed_orV {a b : Bool} (h1 : EvD K ta σ H (.bl a)) (h2 : a = false → EvD K tb σ H (.bl b)) : EvD K (tOrV ta tb) σ H (.bl (a || b)) := ed_of (Evl.ev_orV (ev_b h1) fun q => ev_b (h2 q)) (.bl _)
theorem ed_notV {a : Bool} (h1 : EvD K ta σ H (.bl a)) : EvD K (tNotV ta) σ H (.bl (!a)) := ed_of (Evl.ev_notV (ev_b h1)) (.bl _)
def tChainR (r r' : R2) (ta tb tc : TE) : TE := tChain r r' ta tb tc
/-! ### built-ins of ints -/
def rAbs : List V → Hp → VK → Prop := fun xs H Q => ∃ i, xs = [.int i] ∧ Q (.int (if i < 0 then -i else i)) H
theorem ed_abs {i : Int} (h : EvD K te σ H (.int i)) : EvD K (tCB rAbs (tCons te tNil)) σ H (.int (if i < 0 then -i else i)) := fun H1 e Q q => h H1 e _ fun v H2 e2 a => by
  cases a
  exact ⟨i, rfl, q _ H2 e2 (.int _)⟩
def rInt1 : List V → Hp → VK → Prop := fun xs H Q => (∃ i, xs = [.int i] ∧ Q (.int i) H) ∨ ∃ k, xs = [.bl k] ∧ Q (.int (if k then 1 else 0)) H
theorem ed_intI {i : Int} (h : EvD K te σ H (.int i)) : EvD K (tCB rInt1 (tCons te tNil)) σ H (.int i) := fun H1 e Q q => h H1 e _ fun v H2 e2 a => by
  cases a
  exact .inl ⟨i, rfl, q _ H2 e2 (.int _)⟩
theorem ed_intB {b : Bool} (h : EvD K te σ H (.bl b)) : EvD K (tCB rInt1 (tCons te tNil)) σ H (.int (if b then 1 else 0)) := fun H1 e Q q => h H1 e _ fun v H2 e2 a => by
  cases a
  exact .inr ⟨b, rfl, q _ H2 e2 (.int _)⟩
def rMin2 : List V → Hp → VK → Prop := fun xs H Q => ∃ i j, xs = [.int i, .int j] ∧ Q (.int (if j < i then j else i)) H
theorem ed_max2 {i j : Int} (ha : EvD K ta σ H (.int i)) (hb : EvD K tb σ H (.int j)) : EvD K (tCB rMax2 (tCons ta (tCons tb tNil))) σ H (.int (if j > i then j else i)) := ed_of (Evl.ev_max2 (ev_i ha) (ev_i hb)) (.int _)
theorem ed_min2 {i j : Int} (ha : EvD K ta σ H (.int i)) (hb : EvD K tb σ H (.int j)) : EvD K (tCB rMin2 (tCons ta (tCons tb tNil))) σ H (.int (if j < i then j else i)) := fun H1 e Q q =>
  ha H1 e _ fun v H2 e2 a => hb H2 (e.trans e2) _ fun w H3 e3 b => by
    cases a; cases b
    exact ⟨i, j, rfl, q _ H3 (e2.trans e3) (.int _)⟩
theorem ed_gcd {i j : Int} (ha : EvD K ta σ H (.int i)) (hb : EvD K tb σ H (.int j)) : EvD K (tCB rGcd (tCons ta (tCons tb tNil))) σ H (.int ((Nat.gcd i.natAbs j.natAbs : Nat) : Int)) := fun H1 e Q q =>
  ha H1 e _ fun v H2 e2 a => hb H2 (e.trans e2) _ fun w H3 e3 b => by
    cases a; cases b
    exact ⟨i, j, rfl, q _ H3 (e2.trans e3) (.int _)⟩
/-! ### promises -/
def spD (K : PySem.W.Frag) (R : List D → D → Prop) : Sp := fun vs H Q _ => ∃ ds d, All K H vs ds ∧ R ds d ∧ ∀ v H', Ex H H' → Is K H' v d → Q v H'
def spN (K : PySem.W.Frag) (R : List D → List D → Prop) : Sp := fun vs H Q _ => ∃ ds es, All K H vs ds ∧ R ds es ∧ ∀ p xs H', H p = none → Ex H H' → H' p = some (.lst xs) → All K H' xs es → Q (.ref p) H'
theorem ed_call {R : List D → D → Prop} {E : XK} {ta : TA} (h : EvDA K ta σ H ds) (hR : R ds d) : EvD K (tCall (spD K R) [] E ta) σ H d := fun H1 e Q q =>
  h H1 e _ fun vs H2 e2 a => ⟨ds, d, by rw [List.append_nil]; exact a, hR, fun v H3 e3 b => q v H3 (e2.trans e3) b⟩
theorem en_call {R : List D → List D → Prop} {E : XK} {ta : TA} (h : EvDA K ta σ H ds) (hR : R ds es) : EvN K (tCall (spN K R) [] E ta) σ H es := fun H1 e Q q =>
  h H1 e _ fun vs H2 e2 a => ⟨ds, es, by rw [List.append_nil]; exact a, hR, fun p xs H3 hp e3 h3 b => q p xs H3 (fresh_back e2 hp) (e2.trans e3) h3 b⟩
theorem ed_fld {f c : Str} {fs : List (Str × D)} (h : EvD K te σ H (.obj c fs)) (hc : Cls K (He.ga K c)) (hn : NoAttr K (He.ga K c) f) (hl : fs.lookup f = some d) : EvD K (tFld K te f) σ H d := fun H1 e Q q =>
  h H1 e _ fun v H2 e2 a => by
    cases a with
    | obj ho af =>
      obtain ⟨w, h1, h2⟩ := af.look hl
      exact ⟨_, _, _, _, w, rfl, ho, hc, hn, h1, q w H2 e2 h2⟩
theorem AllF.none {f : Str} : ∀ {vs : List (Str × V)} {ds : List (Str × D)}, AllF K H vs ds → ds.lookup f = none → vs.lookup f = none
  | _, _, .nil, _ => rfl
  | _, _, .cons (n := n) h a, e => by
    rw [List.lookup_cons] at e ⊢
    cases q : (f == n) with
    | true =>
      rw [q] at e
      cases e
    | false =>
      rw [q] at e
      exact AllF.none a e
theorem ed_meth {R : List D → D → Prop} {E : XK} {m c : Str} {fs : List (Str × D)} {tr : TA} (h : EvD K te σ H (.obj c fs)) (hl : fs.lookup m = none) (hr : EvDA K tr σ H ds) (hR : R (.obj c fs :: ds) d) :
    EvD K (tMeth (He.ga K c) m (spD K R) [] E te tr) σ H d := fun H1 e Q q =>
  h H1 e _ fun v H2 e2 a => by
    cases a with
    | obj ho af =>
      refine ⟨_, _, _, rfl, ho, AllF.none af hl, hr H2 (e.trans e2) _ fun vs H3 e3 b => ⟨_, _, .cons (.obj (e3 _ _ ho) (af.ex e3)) (by rw [List.append_nil]; exact b), hR, fun v H4 e4 c => q v H4 ((e2.trans e3).trans e4) c⟩⟩
theorem en_meth {R : List D → List D → Prop} {E : XK} {m c : Str} {fs : List (Str × D)} {tr : TA} (h : EvD K te σ H (.obj c fs)) (hl : fs.lookup m = none) (hr : EvDA K tr σ H ds) (hR : R (.obj c fs :: ds) es) :
    EvN K (tMeth (He.ga K c) m (spN K R) [] E te tr) σ H es := fun H1 e Q q =>
  h H1 e _ fun v H2 e2 a => by
    cases a with
    | obj ho af =>
      refine ⟨_, _, _, rfl, ho, AllF.none af hl, hr H2 (e.trans e2) _ fun vs H3 e3 b => ⟨_, _, .cons (.obj (e3 _ _ ho) (af.ex e3)) (by rw [List.append_nil]; exact b), hR, fun p xs H4 hp e4 h4 c => q p xs H4 (fresh_back (e2.trans e3) hp) ((e2.trans e3).trans e4) h4 c⟩⟩
end WD
end
section
set_option Elab.async false
set_option linter.all false
set_option maxRecDepth 100000
namespace WD
open PySem L2 Evl
variable {K : PySem.W.Frag} {σ : L2.St} {H H' : Hp} {ta tb te tx : TE} {t u : TT} {d d1 d2 : D} {ds es : List D} {wi : TI} {g : TG}

/-! ### what changes: the lists at L alone -/
def Mu (L : List Addr) (H H' : Hp) : Prop := (∀ a o, a ∉ L → H a = some o → H' a = some o) ∧ Gt H H'
theorem Mu.refl (L : List Addr) (H : Hp) : Mu L H H := ⟨fun _ _ _ h => h, Gt.refl H⟩
theorem Mu.trans {L : List Addr} {H H1 H2 : Hp} (a : Mu L H H1) (b : Mu L H1 H2) : Mu L H H2 := ⟨fun x o n h => b.1 x o n (a.1 x o n h), a.2.trans b.2⟩
theorem Mu.ex {L : List Addr} (e : Ex H H') : Mu L H H' := ⟨fun a o _ h => e a o h, Gt.of e⟩
theorem Mu.upd {L : List Addr} {l : Addr} {xs : List V} {o : HO} (hl : l ∈ L) (h : H l = some (.lst xs)) : Mu L H (L2.upd H l o) := ⟨fun a u n r => by
  rw [upd_ne (fun z => n (by rw [z]; exact hl))]
  exact r, Gt.lst h⟩
theorem Mu.rd {L : List Addr} {a : Addr} {u : HO} (m : Mu L H H') (h : Rd H a u) (n : a ∉ L) : Rd H' a u := by
  rcases h with h | ⟨o, h⟩
  · exact .inl (m.1 a _ n h)
  · exact .inr ⟨o, m.1 a _ n h⟩
theorem Mu.of_ex {L : List Addr} {H0 : Hp} (e : Ex H0 H) (m : Mu L H H') (n : ∀ l ∈ L, H0 l = none) : Ex H0 H' := fun a o h => m.1 a o (fun z => by
  have := n a z
  rw [this] at h
  cases h) (e a o h)
theorem rd_some {a : Addr} {u : HO} (h : Rd H a u) : ∃ o, H a = some o := by
  rcases h with h | ⟨o, h⟩
  · exact ⟨_, h⟩
  · exact ⟨_, h⟩

/-! ### what is walked -/
structure Walks (K : PySem.W.Frag) (J : It) (H2 : Hp) (L : List Addr) (Ps : Hp → Prop) (n : Nat) (item : Nat → D) : Prop where
  here : Ps H2
  stays : ∀ L' : List Addr, (∀ l ∈ L', l ∈ L ∨ H2 l = none) → ∀ H3 H4, Ps H3 → Mu L' H3 H4 → Ps H4
  go : ∀ H3, Ps H3 → ∀ i, i < n → J.go i H3 ∧ ∀ x H4, J.yld i H3 x H4 → Ex H3 H4 ∧ Is K H4 x (item i)
  stop : ∀ H3, Ps H3 → J.stop n H3
def EvI (K : PySem.W.Frag) (wi : TI) (σ : L2.St) (L : List Addr) (H : Hp) (n : Nat) (item : Nat → D) : Prop := ∀ R : It → Hp → Prop, (∀ J H2 Ps, Ex H H2 → Walks K J H2 L Ps n item → R J H2) → wi σ H R
/-- a list that is read: it is none of those that change -/
def EvS (K : PySem.W.Frag) (te : TE) (σ : L2.St) (L : List Addr) (H : Hp) (ds : List D) : Prop := ∀ H1, Ex H H1 → ∀ Q : VK, (∀ p xs H2, Ex H1 H2 → Rd H2 p (.lst xs) → p ∉ L → All K H2 xs ds → Q (.ref p) H2) → te σ H1 Q
theorem es_d {H0 : Hp} {L : List Addr} (e : Ex H0 H) (hL : ∀ l ∈ L, H0 l = none) (h : EvD K te σ H (.lst ds)) (hv : ∀ H1, Ex H H1 → ∀ Q : VK, (∀ v H2, Ex H1 H2 → Is K H0 v (.lst ds) → Q v H2) → te σ H1 Q) : EvS K te σ L H ds := fun H1 e1 Q q =>
  hv H1 e1 Q fun v H2 e2 a => by
    cases a with
    | lst r a =>
      have e3 := (e.trans e1).trans e2
      obtain ⟨o, ho⟩ := rd_some r
      exact q _ _ H2 e2 (ex_rd e3 r) (fun z => by rw [hL _ z] at ho; cases ho) (a.ex e3)
/-- a name's list, as it stood at H0 -/
theorem es_var {H0 : Hp} {L : List Addr} {i : Nat} {v : V} (h : σ[i]? = some (some v)) (a : Is K H0 v (.lst ds)) (e : Ex H0 H) (hL : ∀ l ∈ L, H0 l = none) : EvS K (tVar i) σ L H ds := fun H1 e1 Q q => ⟨v, h, by
  cases a with
  | lst r a =>
    obtain ⟨o, ho⟩ := rd_some r
    exact q _ _ H1 (Ex.refl H1) (ex_rd (e.trans e1) r) (fun z => by rw [hL _ z] at ho; cases ho) (a.ex (e.trans e1))⟩
theorem es_new {L : List Addr} (h : EvN K te σ H ds) (hL : ∀ l ∈ L, ∃ o, H l = some o) : EvS K te σ L H ds := fun H1 e1 Q q => h H1 e1 Q fun p xs H2 hp e2 h2 a => q p xs H2 e2 (.inl h2) (fun z => by
  obtain ⟨o, ho⟩ := hL p z
  rw [e1 _ _ ho] at hp
  cases hp) a
theorem es_any (h : EvD K te σ H (.lst ds)) : EvS K te σ [] H ds := fun H1 e1 Q q => h H1 e1 Q fun v H2 e2 a => by
  cases a with
  | lst r a => exact q _ _ H2 e2 r (by simp) a
theorem getD_some {ds : List D} {i : Nat} {d : D} (h : ds[i]? = some d) : ds.getD i .non = d := by rw [List.getD_eq_getElem?_getD, h]; rfl
theorem rd_one {a : Addr} {xs ys : List V} (h : Rd H a (.lst xs)) (h2 : Rd H a (.lst ys)) : xs = ys := by
  rcases h with h | ⟨o, h⟩ <;> rcases h2 with h2 | ⟨o2, h2⟩ <;> rw [h] at h2 <;> cases h2 <;> rfl
theorem ei_list {L : List Addr} (h : EvS K te σ L H ds) (hf : D.lfs ds = true) : EvI K (iList K te) σ L H ds.length (fun i => ds.getD i .non) := fun R r =>
  h H (Ex.refl H) _ fun p xs H2 e2 hp hn a => ⟨p, rfl, ⟨xs, .inl hp⟩, r (Itl K p) H2 (fun H3 => Rd H3 p (.lst xs) ∧ All K H3 xs ds) e2 ⟨⟨hp, a⟩, fun L' hL' H3 H4 q m => ⟨m.rd q.1 (fun z => by
      rcases hL' p z with z | z
      · exact hn z
      · obtain ⟨o, ho⟩ := rd_some hp
        rw [z] at ho
        cases ho), q.2.gt m.2 hf⟩, fun H3 q i hi => by
      obtain ⟨d, hd⟩ : ∃ d, ds[i]? = some d := ⟨_, List.getElem?_eq_getElem hi⟩
      obtain ⟨v, hv, hi2⟩ := q.2.get hd
      refine ⟨⟨xs, v, .inl q.1, hv⟩, fun x H4 hy => ?_⟩
      obtain ⟨h1, h2⟩ := (show H4 = H3 ∧ ∀ xs, SqL K H3 p xs → xs[i]? = some x from hy)
      subst h1
      have h3 := h2 xs (.inl q.1)
      rw [hv] at h3
      cases h3
      rw [getD_some hd]
      exact ⟨Ex.refl _, hi2⟩, fun H3 q => ⟨xs, .inl q.1, by rw [q.2.len]; exact Nat.le_refl _⟩⟩⟩
theorem ei_tup {L : List Addr} (h : EvD K te σ H (.tup ds)) (hf : D.lfs ds = true) : EvI K (iTup K te) σ L H ds.length (fun i => ds.getD i .non) := fun R r =>
  h H (Ex.refl H) _ fun v H2 e2 a => by
    cases a with
    | @tup p xs _ hp a =>
      exact ⟨p, rfl, ⟨xs, hp⟩, r (Itt K p) H2 (fun H3 => SqT K H3 p xs ∧ All K H3 xs ds) e2 ⟨⟨hp, a⟩, fun L' hL' H3 H4 q m => ⟨q.1.imp (fun h => m.2 _ _ h) id, q.2.gt m.2 hf⟩, fun H3 q i hi => by
        obtain ⟨d, hd⟩ : ∃ d, ds[i]? = some d := ⟨_, List.getElem?_eq_getElem hi⟩
        obtain ⟨v, hv, hi2⟩ := q.2.get hd
        refine ⟨⟨xs, v, q.1, hv⟩, fun x H4 hy => ?_⟩
        obtain ⟨h1, h2⟩ := (show H4 = H3 ∧ ∀ xs, SqT K H3 p xs → xs[i]? = some x from hy)
        subst h1
        have h3 := h2 xs q.1
        rw [hv] at h3
        cases h3
        rw [getD_some hd]
        exact ⟨Ex.refl _, hi2⟩, fun H3 q => ⟨xs, q.1, by rw [q.2.len]; exact Nat.le_refl _⟩⟩⟩
theorem ei_r1 {L : List Addr} {ta : TA} {n : Int} (h : EvDA K ta σ H [.int n]) (hn : -100000 ≤ n ∧ n ≤ 100000) : EvI K (iRng1 ta) σ L H n.toNat (fun i => .int (i : Int)) := fun R r =>
  h H (Ex.refl H) _ fun vs H2 e2 a => by
    cases a with
    | cons a1 a2 =>
      cases a1
      cases a2
      exact ⟨n, rfl, by omega, by omega, r (Itr 0 n.toNat) H2 (fun _ => True) e2 ⟨trivial, fun _ _ _ _ _ _ => trivial, fun H3 _ i hi => ⟨hi, fun x H4 hy => by
        obtain ⟨h1, h2⟩ := (show H4 = H3 ∧ x = .int (0 + i) from hy)
        subst h1 h2
        rw [Int.zero_add]
        exact ⟨Ex.refl _, .int _⟩⟩, fun H3 _ => Nat.le_refl _⟩⟩
theorem ei_r2 {L : List Addr} {ta : TA} {lo n : Int} (h : EvDA K ta σ H [.int lo, .int n]) (hn : -100000 ≤ lo ∧ lo ≤ 100000 ∧ -100000 ≤ n ∧ n ≤ 100000) : EvI K (iRng2 ta) σ L H (n - lo).toNat (fun i => .int (lo + i)) := fun R r =>
  h H (Ex.refl H) _ fun vs H2 e2 a => by
    cases a with
    | cons a1 a2 =>
      cases a1
      cases a2 with
      | cons a2 a3 =>
        cases a2
        cases a3
        exact ⟨lo, n, rfl, ⟨by omega, by omega, by omega, by omega⟩, r (Itr lo (n - lo).toNat) H2 (fun _ => True) e2 ⟨trivial, fun _ _ _ _ _ _ => trivial, fun H3 _ i hi => ⟨hi, fun x H4 hy => by
          obtain ⟨h1, h2⟩ := (show H4 = H3 ∧ x = .int (lo + i) from hy)
          subst h1 h2
          exact ⟨Ex.refl _, .int _⟩⟩, fun H3 _ => Nat.le_refl _⟩⟩
theorem ei_zip {L : List Addr} {tb : TE} (h : EvS K ta σ L H ds) (h' : ∀ H1, Ex H H1 → EvS K tb σ L H1 es) (hl : es.length ≤ ds.length) (hf : D.lfs ds = true) (hf' : D.lfs es = true) :
    EvI K (iZip K (tCons ta (tCons tb tNil))) σ L H es.length (fun i => .tup [ds.getD i .non, es.getD i .non]) := fun R r =>
  h H (Ex.refl H) _ fun p xs H2 e2 hp hn a => h' H2 e2 H2 (Ex.refl H2) _ fun p' xs' H3 e3 hp' hn' a' => by
    have hp3 := ex_rd e3 hp
    refine ⟨p, p', xs, xs', rfl, .inl hp3, .inl hp', r (Itz K p p') H3 (fun H4 => (Rd H4 p (.lst xs) ∧ All K H4 xs ds) ∧ Rd H4 p' (.lst xs') ∧ All K H4 xs' es) (e2.trans e3) ⟨⟨⟨hp3, a.ex e3⟩, hp', a'⟩, fun L' hL' H4 H5 q m => ⟨⟨m.rd q.1.1 (fun z => ?_), q.1.2.gt m.2 hf⟩, m.rd q.2.1 (fun z => ?_), q.2.2.gt m.2 hf'⟩, fun H4 q i hi => ?_, fun H4 q => ⟨xs, xs', .inl q.1.1, .inl q.2.1, .inr (by rw [q.2.2.len]; exact Nat.le_refl _)⟩⟩⟩
    · rcases hL' p z with z | z
      · exact hn z
      · obtain ⟨o, ho⟩ := rd_some hp3
        rw [z] at ho
        cases ho
    · rcases hL' p' z with z | z
      · exact hn' z
      · obtain ⟨o, ho⟩ := rd_some hp'
        rw [z] at ho
        cases ho
    · obtain ⟨d, hd⟩ : ∃ d, ds[i]? = some d := ⟨_, List.getElem?_eq_getElem (Nat.lt_of_lt_of_le hi hl)⟩
      obtain ⟨d', hd'⟩ : ∃ d, es[i]? = some d := ⟨_, List.getElem?_eq_getElem hi⟩
      obtain ⟨v, hv, b⟩ := q.1.2.get hd
      obtain ⟨v', hv', b'⟩ := q.2.2.get hd'
      refine ⟨⟨xs, xs', v, v', .inl q.1.1, .inl q.2.1, hv, hv'⟩, fun x H5 hy => ?_⟩
      obtain ⟨T, x1, x2, rfl, nT, rfl, f1, f2⟩ := hy
      have g1 := f1 xs (.inl q.1.1)
      have g2 := f2 xs' (.inl q.2.1)
      rw [hv] at g1
      rw [hv'] at g2
      cases g1
      cases g2
      rw [getD_some hd, getD_some hd']
      exact ⟨Ex.new nT, .tup (st_of upd_same) (.cons (b.ex (Ex.new nT)) (.cons (b'.ex (Ex.new nT)) .nil))⟩
theorem ei_enum {L : List Addr} (h : EvS K ta σ L H ds) (hf : D.lfs ds = true) :
    EvI K (iEnum K (tCons ta tNil)) σ L H ds.length (fun i => .tup [.int (i : Int), ds.getD i .non]) := fun R r =>
  h H (Ex.refl H) _ fun p xs H2 e2 hp hn a => ⟨p, xs, rfl, .inl hp, r (Ite K p) H2 (fun H4 => Rd H4 p (.lst xs) ∧ All K H4 xs ds) e2 ⟨⟨hp, a⟩, fun L' hL' H4 H5 q m => ⟨m.rd q.1 (fun z => by
      rcases hL' p z with z | z
      · exact hn z
      · obtain ⟨o, ho⟩ := rd_some hp
        rw [z] at ho
        cases ho), q.2.gt m.2 hf⟩, fun H4 q i hi => by
      obtain ⟨d, hd⟩ : ∃ d, ds[i]? = some d := ⟨_, List.getElem?_eq_getElem hi⟩
      obtain ⟨v, hv, b⟩ := q.2.get hd
      refine ⟨⟨xs, v, .inl q.1, hv⟩, fun x H5 hy => ?_⟩
      obtain ⟨T, x1, rfl, nT, rfl, f1⟩ := hy
      have g1 := f1 xs (.inl q.1)
      rw [hv] at g1
      cases g1
      rw [getD_some hd]
      exact ⟨Ex.new nT, .tup (st_of upd_same) (.cons (.int _) (.cons (b.ex (Ex.new nT)) .nil))⟩, fun H4 q => ⟨xs, .inl q.1, by rw [q.2.len]; exact Nat.le_refl _⟩⟩⟩
/-! ### loops -/
theorem s_for {L : List Addr} {n : Nat} {item : Nat → D} {D : Ends} {tw : TS} (hI : EvI K wi σ L H n item) (Pv : Nat → L2.St → Hp → Prop) (h0 : ∀ H1, Ex H H1 → Pv 0 σ H1)
    (hs : ∀ i x σ' H' H'', i < n → Pv i σ' H' → Ex H' H'' → Is K H'' x (item i) → g x σ' H'' fun σ2 H2 => tw { D with nx := fun σ3 H3 => Pv (i + 1) σ3 H3 ∧ Mu L H' H3, ct := fun σ3 H3 => Pv (i + 1) σ3 H3 ∧ Mu L H' H3, bk := D.nx } σ2 H2)
    (hd : ∀ σ' H', Pv n σ' H' → D.nx σ' H') : tFor wi g tw D σ H := hI _ fun J H2 Ps e2 w => by
  refine ⟨fun i m σ' H' => m = n - i ∧ i ≤ n ∧ Pv i σ' H' ∧ Mu L H2 H', ⟨n, by simp, Nat.zero_le _, h0 H2 e2, Mu.refl L H2⟩, ?_⟩
  rintro i m σ' H' ⟨rfl, hi, p, mu⟩
  have ps : Ps H' := w.stays L (fun l h => .inl h) H2 H' w.here mu
  by_cases hlt : i < n
  · obtain ⟨g1, g2⟩ := w.go H' ps i hlt
    refine .inr ⟨g1, fun σ3 H3 => Pv (i + 1) σ3 H3 ∧ Mu L H' H3, fun σ3 H3 q => ⟨n - (i + 1), by omega, rfl, by omega, q.1, mu.trans q.2⟩, fun x H3 hy => ?_⟩
    obtain ⟨e3, a⟩ := g2 x H3 hy
    exact hs i x σ' H' H3 hlt p e3 a
  · have e : i = n := by omega
    subst e
    exact .inl ⟨w.stop H' ps, hd σ' H' p⟩
/-! ### targets -/
theorem g_name {j : Nat} {x : V} {Q : L2.St → Hp → Prop} (k : Q (σ.set j (some x)) H) : gName j x σ H Q := k
theorem g_two {x : V} {i j : Nat} {Q : L2.St → Hp → Prop} (a : Is K H x (.tup [d1, d2])) (k : ∀ v w, Is K H v d1 → Is K H w d2 → Q ((σ.set i (some v)).set j (some w)) H) : gTup K 2 (gCons (gName i) (gCons (gName j) gNil)) x σ H Q := by
  cases a with
  | tup h a =>
    cases a with
    | cons a1 a =>
      cases a with
      | cons a2 a =>
        cases a
        exact ⟨_, _, rfl, h, rfl, _, _, rfl, _, _, rfl, rfl, k _ _ a1 a2⟩
theorem g_three {x : V} {i j l : Nat} {d3 : D} {Q : L2.St → Hp → Prop} (a : Is K H x (.tup [d1, d2, d3])) (k : ∀ v w z, Is K H v d1 → Is K H w d2 → Is K H z d3 → Q (((σ.set i (some v)).set j (some w)).set l (some z)) H) : gTup K 3 (gCons (gName i) (gCons (gName j) (gCons (gName l) gNil))) x σ H Q := by
  cases a with
  | tup h a =>
    cases a with
    | cons a1 a =>
      cases a with
      | cons a2 a =>
        cases a with
        | cons a3 a =>
          cases a
          exact ⟨_, _, rfl, h, rfl, _, _, rfl, _, _, rfl, _, _, rfl, rfl, k _ _ _ a1 a2 a3⟩
/-! ### comprehensions -/
def gives (n : Nat) (f : Nat → Bool) (v : Nat → D) : List D := ((List.range n).filter f).map v
theorem gives_yes {n : Nat} {f : Nat → Bool} {v : Nat → D} (h : f n = true) : gives (n + 1) f v = gives n f v ++ [v n] := by
  unfold gives
  rw [List.range_succ, List.filter_append, List.map_append, List.filter_cons, if_pos h] <;> rfl
theorem gives_no {n : Nat} {f : Nat → Bool} {v : Nat → D} (h : f n = false) : gives (n + 1) f v = gives n f v := by
  unfold gives
  rw [List.range_succ, List.filter_append, List.map_append, List.filter_cons, if_neg (by rw [h]; decide)]
  show _ ++ [] = _
  rw [List.append_nil]
theorem gives_len (n : Nat) (f : Nat → Bool) (v : Nat → D) : (gives n f v).length ≤ n := by
  unfold gives
  rw [List.length_map]
  have h := List.length_filter_le f (List.range n)
  rw [List.length_range] at h
  exact h
theorem gives_lf {f : Nat → Bool} {v : Nat → D} : ∀ n, (∀ i, i < n → f i = true → (v i).lf = true) → D.lfs (gives n f v) = true
  | 0, _ => rfl
  | n + 1, h => by
    have ih := gives_lf n fun i hi => h i (Nat.lt_succ_of_lt hi)
    cases hf : f n with
    | true =>
      rw [gives_yes hf]
      refine lfs_app ih ?_
      show ((v n).lf && true) = true
      rw [h n (Nat.lt_succ_self n) hf]
      rfl
    | false =>
      rw [gives_no hf]
      exact ih
theorem en_lc {n : Nat} {item : Nat → D} {vs : List Nat} (f : Nat → Bool) (v : Nat → D) (hI : ∀ H1, Ex H H1 → EvI K wi σ [] H1 n item) (hn : n ≤ 50000) (hf : ∀ i, i < n → f i = true → (v i).lf = true)
    (hs : ∀ i x H1, i < n → Ex H H1 → Is K H1 x (item i) → ∀ Q : L2.St → Hp → Prop, (∀ σ2 H2, Ex H1 H2 → wipe σ2 vs = wipe σ vs → EvT t σ2 H2 (f i) → (f i = true → EvD K te σ2 H2 (v i)) → Q σ2 H2) → g x (wipe σ vs) H1 Q) :
    EvN K (tLc wi g t te vs) σ H (gives n f v) := fun H1 e1 Q q => hI H1 e1 _ fun J H2 Ps e2 w Dl hD => by
  refine ⟨fun i m H' => m = n - i ∧ i ≤ n ∧ Mu [Dl] (L2.upd H2 Dl (.lst [])) H' ∧ ∃ acc, H' Dl = some (.lst acc) ∧ All K H' acc (gives i f v), ⟨n, by simp, Nat.zero_le _, Mu.refl _ _, [], upd_same, .nil⟩, ?_⟩
  rintro i m H' ⟨rfl, hi, mu, acc, hacc, aa⟩
  have ps0 : Ps (L2.upd H2 Dl (.lst [])) := w.stays [] (by simp) H2 _ w.here (Mu.ex (Ex.new hD))
  have ps : Ps H' := w.stays [Dl] (fun l h => .inr (by rw [List.mem_singleton.mp h]; exact hD)) _ H' ps0 mu
  have ex2 : Ex H2 H' := Mu.of_ex (Ex.new hD) mu (fun l h => by
    rw [List.mem_singleton.mp h]
    exact hD)
  by_cases hlt : i < n
  · obtain ⟨g1, g2⟩ := w.go H' ps i hlt
    refine .inr ⟨g1, fun H3 => Mu [Dl] (L2.upd H2 Dl (.lst [])) H3 ∧ ∃ acc, H3 Dl = some (.lst acc) ∧ All K H3 acc (gives (i + 1) f v), fun H3 q => ⟨n - (i + 1), by omega, rfl, by omega, q.1, q.2⟩, fun x H3 hy => ?_⟩
    obtain ⟨e3, a⟩ := g2 x H3 hy
    refine hs i x H3 hlt ((e1.trans e2).trans (ex2.trans e3)) a _ fun σ2 H4 e4 hw ht he => ⟨hw, ht H4 (Ex.refl H4) _ fun H5 e5 => ?_⟩
    have lfa : D.lfs (gives i f v) = true := gives_lf i fun j hj => hf j (by omega)
    have e35 := (e3.trans e4).trans e5
    cases hb : f i with
    | true =>
      show te σ2 H5 _
      refine he hb H5 e5 _ fun y H6 e6 ay => ⟨acc, (e35.trans e6) _ _ hacc, sz_lt (by
        rw [aa.len]
        have := gives_len i f v
        omega), (mu.trans (Mu.ex (e35.trans e6))).trans (Mu.upd (List.mem_singleton.mpr rfl) ((e35.trans e6) _ _ hacc)), _, upd_same, ?_⟩
      rw [gives_yes hb]
      have gt : Gt H6 (L2.upd H6 Dl (.lst (acc ++ [y]))) := Gt.lst ((e35.trans e6) _ _ hacc)
      exact ((aa.ex (e35.trans e6)).gt gt lfa).app (All.one (ay.gt gt (hf i hlt hb)))
    | false =>
      show _ ∧ _
      refine ⟨mu.trans (Mu.ex e35), acc, e35 _ _ hacc, ?_⟩
      rw [gives_no hb]
      exact aa.ex e35
  · have e : i = n := by omega
    subst e
    exact .inl ⟨w.stop H' ps, q Dl acc H' (fresh_back e2 hD) (e2.trans ex2) hacc aa⟩
/-- one name as the target -/
theorem en_lc1 {n j : Nat} {item : Nat → D} {vs : List Nat} (f : Nat → Bool) (v : Nat → D) (hI : ∀ H1, Ex H H1 → EvI K wi σ [] H1 n item) (hn : n ≤ 50000) (hf : ∀ i, i < n → f i = true → (v i).lf = true) (hw : ∀ x, wipe ((wipe σ vs).set j (some x)) vs = wipe σ vs)
    (ht : ∀ i x H1, i < n → Ex H H1 → Is K H1 x (item i) → EvT t ((wipe σ vs).set j (some x)) H1 (f i)) (he : ∀ i x H1, i < n → Ex H H1 → Is K H1 x (item i) → f i = true → EvD K te ((wipe σ vs).set j (some x)) H1 (v i)) :
    EvN K (tLc wi (gName j) t te vs) σ H (gives n f v) := en_lc f v hI hn hf fun i x H1 hi e a Q q => q _ H1 (Ex.refl H1) (hw x) (ht i x H1 hi e a) (he i x H1 hi e a)
theorem en_lc2 {n i1 j : Nat} {c1 c2 : Nat → D} {vs : List Nat} (f : Nat → Bool) (v : Nat → D) (hI : ∀ H1, Ex H H1 → EvI K wi σ [] H1 n (fun i => .tup [c1 i, c2 i])) (hn : n ≤ 50000) (hf : ∀ i, i < n → f i = true → (v i).lf = true) (hw : ∀ x y, wipe (((wipe σ vs).set i1 (some x)).set j (some y)) vs = wipe σ vs)
    (ht : ∀ i x y H1, i < n → Ex H H1 → Is K H1 x (c1 i) → Is K H1 y (c2 i) → EvT t (((wipe σ vs).set i1 (some x)).set j (some y)) H1 (f i)) (he : ∀ i x y H1, i < n → Ex H H1 → Is K H1 x (c1 i) → Is K H1 y (c2 i) → f i = true → EvD K te (((wipe σ vs).set i1 (some x)).set j (some y)) H1 (v i)) :
    EvN K (tLc wi (gTup K 2 (gCons (gName i1) (gCons (gName j) gNil))) t te vs) σ H (gives n f v) := en_lc f v hI hn hf fun i x H1 hi e a Q q => g_two a fun y z a1 a2 => q _ H1 (Ex.refl H1) (hw y z) (ht i y z H1 hi e a1 a2) (he i y z H1 hi e a1 a2)
theorem gives_all (n : Nat) (v : Nat → D) : gives n (fun _ => true) v = (List.range n).map v := by
  unfold gives
  rw [List.filter_eq_self.mpr (by simp)]
theorem et_yes : EvT tYes σ H true := fun H1 _ _ q => q H1 (Ex.refl H1)
/-! ### statements -/
section
variable {D : Ends} {tu tz tw : TS}
theorem q_asgD {i : Nat} (h : EvD K te σ H d) (k : ∀ v H1, Ex H H1 → Is K H1 v d → tz D (σ.set i (some v)) H1) : tSeq (tAsg te (gName i)) tz D σ H := h H (Ex.refl H) _ k
theorem s_asgD {i : Nat} (h : EvD K te σ H d) (k : ∀ v H1, Ex H H1 → Is K H1 v d → D.nx (σ.set i (some v)) H1) : tAsg te (gName i) D σ H := h H (Ex.refl H) _ k
theorem q_asgN {i : Nat} (h : EvN K te σ H ds) (k : ∀ p xs H1, H p = none → Ex H H1 → H1 p = some (.lst xs) → All K H1 xs ds → tz D (σ.set i (some (.ref p))) H1) : tSeq (tAsg te (gName i)) tz D σ H := h H (Ex.refl H) _ k
theorem s_retD (h : EvD K te σ H d) (k : ∀ v H1, Ex H H1 → Is K H1 v d → D.rt v H1) : tRet te D σ H := h H (Ex.refl H) _ k
theorem s_retN (h : EvN K te σ H ds) (k : ∀ p xs H1, H p = none → Ex H H1 → H1 p = some (.lst xs) → All K H1 xs ds → D.rt (.ref p) H1) : tRet te D σ H := h H (Ex.refl H) _ k
theorem q_tupD {i j : Nat} (h : EvD K te σ H (.tup [d1, d2])) (k : ∀ v w H1, Ex H H1 → Is K H1 v d1 → Is K H1 w d2 → tz D ((σ.set i (some v)).set j (some w)) H1) : tSeq (tAsg te (gTup K 2 (gCons (gName i) (gCons (gName j) gNil)))) tz D σ H :=
  h H (Ex.refl H) _ fun v H1 e a => g_two a fun x y a1 a2 => k x y H1 e a1 a2
theorem q_tup3D {i j l : Nat} {d3 : WD.D} (h : EvD K te σ H (.tup [d1, d2, d3])) (k : ∀ v w z H1, Ex H H1 → Is K H1 v d1 → Is K H1 w d2 → Is K H1 z d3 → tz D (((σ.set i (some v)).set j (some w)).set l (some z)) H1) : tSeq (tAsg te (gTup K 3 (gCons (gName i) (gCons (gName j) (gCons (gName l) gNil))))) tz D σ H :=
  h H (Ex.refl H) _ fun v H1 e a => g_three a fun x y z a1 a2 a3 => k x y z H1 e a1 a2 a3
theorem q_parD {i j : Nat} (ha : EvD K ta σ H d1) (hb : EvD K tb σ H d2) (k : ∀ v w H1, Ex H H1 → Is K H1 v d1 → Is K H1 w d2 → tz D ((σ.set i (some v)).set j (some w)) H1) : tSeq (tPar i j (tCons ta (tCons tb tNil))) tz D σ H :=
  ha H (Ex.refl H) _ fun v H1 e a => hb H1 e _ fun w H2 e2 b => ⟨v, w, rfl, k v w H2 (e.trans e2) (a.ex e2) b⟩
theorem s_parD {i j : Nat} (ha : EvD K ta σ H d1) (hb : EvD K tb σ H d2) (k : ∀ v w H1, Ex H H1 → Is K H1 v d1 → Is K H1 w d2 → D.nx ((σ.set i (some v)).set j (some w)) H1) : tPar i j (tCons ta (tCons tb tNil)) D σ H :=
  ha H (Ex.refl H) _ fun v H1 e a => hb H1 e _ fun w H2 e2 b => ⟨v, w, rfl, k v w H2 (e.trans e2) (a.ex e2) b⟩
theorem q_appD {l : Addr} {xs : List V} (hl : H l = some (.lst xs)) (ha : Ev ta σ H (.ref l)) (h : EvD K te σ H d) (hz : xs.length < 100000) (k : ∀ v H1, Ex H H1 → Is K H1 v d → tz D σ (upd H1 l (.lst (xs ++ [v])))) :
    tSeq (tDrop (tBM K "list" rAppend ta (tCons te tNil))) tz D σ H := ha H (Ex.refl H) _ fun H1 e1 => ⟨Or.inl ⟨rfl, xs, sq_of (e1 l _ hl)⟩, h H1 e1 _ fun v H2 e2 a => ⟨l, xs, v, rfl, rfl, e2 l _ (e1 l _ hl), sz_lt hz, k v H2 (e1.trans e2) a⟩⟩
theorem s_appD {l : Addr} {xs : List V} (hl : H l = some (.lst xs)) (ha : Ev ta σ H (.ref l)) (h : EvD K te σ H d) (hz : xs.length < 100000) (k : ∀ v H1, Ex H H1 → Is K H1 v d → D.nx σ (upd H1 l (.lst (xs ++ [v])))) :
    tDrop (tBM K "list" rAppend ta (tCons te tNil)) D σ H := ha H (Ex.refl H) _ fun H1 e1 => ⟨Or.inl ⟨rfl, xs, sq_of (e1 l _ hl)⟩, h H1 e1 _ fun v H2 e2 a => ⟨l, xs, v, rfl, rfl, e2 l _ (e1 l _ hl), sz_lt hz, k v H2 (e1.trans e2) a⟩⟩
theorem s_setD {l : Addr} {xs : List V} {i : Int} {j : Nat} (hl : H l = some (.lst xs)) (h : EvD K te σ H d) (ho : Ev ta σ H (.ref l)) (hi : EvD K tb σ H (.int i)) (hj : ixN xs.length i = some j) (k : ∀ v H1, Ex H H1 → Is K H1 v d → D.nx σ (upd H1 l (.lst (xs.set j v)))) :
    tAsg te (gSub ta tb rSetL) D σ H := h H (Ex.refl H) _ fun v H1 e1 a => ho H1 e1 _ fun H2 e2 => hi H2 (e1.trans e2) _ fun w H3 e3 b => by
  cases b
  exact ⟨l, xs, i, j, rfl, rfl, ((e1.trans e2).trans e3) l _ hl, hj, k v H3 ((e1.trans e2).trans e3) (a.ex (e2.trans e3))⟩
theorem q_setD {l : Addr} {xs : List V} {i : Int} {j : Nat} (hl : H l = some (.lst xs)) (h : EvD K te σ H d) (ho : Ev ta σ H (.ref l)) (hi : EvD K tb σ H (.int i)) (hj : ixN xs.length i = some j) (k : ∀ v H1, Ex H H1 → Is K H1 v d → tz D σ (upd H1 l (.lst (xs.set j v)))) :
    tSeq (tAsg te (gSub ta tb rSetL)) tz D σ H := s_setD (D := { D with nx := tz D }) hl h ho hi hj k
theorem q_for {L : List Addr} {n : Nat} {item : Nat → WD.D} (hI : EvI K wi σ L H n item) (Pv : Nat → L2.St → Hp → Prop) (h0 : ∀ H1, Ex H H1 → Pv 0 σ H1)
    (hs : ∀ i x σ' H' H'', i < n → Pv i σ' H' → Ex H' H'' → Is K H'' x (item i) → g x σ' H'' fun σ2 H2 => tw { D with nx := fun σ3 H3 => Pv (i + 1) σ3 H3 ∧ Mu L H' H3, ct := fun σ3 H3 => Pv (i + 1) σ3 H3 ∧ Mu L H' H3, bk := tz D } σ2 H2)
    (hd : ∀ σ' H', Pv n σ' H' → tz D σ' H') : tSeq (tFor wi g tw) tz D σ H := s_for (D := { D with nx := tz D }) hI Pv h0 hs hd
end
end WD
end
section
set_option Elab.async false
set_option linter.all false
set_option maxRecDepth 100000
namespace L2
open PySem PySem.Spec PyProof.Rows
section
variable {X : Cx} {n : Nat}
/-- a def of one's own called by the machine (a special method) -/
theorem own_call {CX : CXT} {f : Addr} {fd : FuncData} {ps : List Str} {sp : Sp} {E : XK} {A : Around} (sb : Sub X n A) (F : FnOk X.prog X.w X.K X.mg X.base CX n f fd ps sp) (hb : Binds X.K fd ps []) (hx : Passes CX X E)
    {pins : List (Addr × Obj)} {s : Shared} {σ : St} {H : Hp} {vs : List V} {us : List Value} {Q : VK} (I : Inv X pins σ H s) (rv : Vals vs us) (hsp : sp vs H Q E) :
    wpAny (model X.prog X.w) A (call (.ref f) us) (EP X pins σ Q) X.xe s := by
  have e0 : Env0 X.prog X.w X.K X.mg X.base A X.stack s H := by
    have e := I.env0
    exact ⟨by rw [sb.fr]; exact e.frames, e.mod, e.bs, e.bsz, e.funs, e.frf, e.hok, e.bare⟩
  have hl := F.len _ _ _ _ hsp
  have hlu : us.length = ps.length := by rw [← rv.length]; exact hl
  refine wpAny_call (codeAny_mono (F.run A X.stack s H ⟨us, []⟩ us vs _ E sb.room e0 (by
    have := hb s us I.kIn (by simpa using hlu)
    simpa using this) rv hsp) fun r s' hq => ?_)
  cases r with
  | error e => exact hx pins σ H s e s' I hq
  | ok fl =>
    cases fl with
    | ret w => exact I.after hq
    | next => exact False.elim hq
    | brk => exact False.elim hq
    | cont => exact False.elim hq
/-- len(o), o an instance with a __len__ of the text -/
def rLenO (C : Addr) (sp : Sp) (E : XK) : List V → Hp → VK → Prop := fun xs H Q => ∃ a dx fs, xs = [.ref a] ∧ H a = some (.ins C dx fs) ∧ sp [.ref a] H (fun v H' => ∃ i : Int, v = .int i ∧ (0 ≤ i ∧ i < 2 ^ 63) ∧ Q (.int i) H') E
theorem call_lenO {CX : CXT} {C f : Addr} {fd : FuncData} {ps : List Str} {sp : Sp} {E : XK} (F : FnOk X.prog X.w X.K X.mg X.base CX n f fd ps sp) (hs : PySem.W.findIn X.K (.ref C) "__len__" = some (some (.ref f))) (hf : PySem.W.isFn X.K (.ref f) = true)
    (hb : Binds X.K fd ps []) (hx : Passes CX X E) (hr : Room (n + 1) X.A) : CallR X (.builtin "len") (rLenO C sp E) := by
  intro pins s σ H xs us Q I r h
  obtain ⟨a, dx, fs, rfl, ha, hsp⟩ := h
  obtain ⟨u, rfl, ru⟩ := vals1 r
  cases ru
  obtain ⟨mA, J, _⟩ := ins_get I.hok ha
  obtain ⟨od, J, _⟩ := J.look
  obtain ⟨m, hF⟩ := I.fr
  refine PySem.W.len_K hF I.ok.mod.kin J hs hf ?_
  refine wpAny_mono (own_call (A := X.A.in1) (Sub.in1 ⟨hr, rfl⟩) F hb hx I (.cons (show RelV (.ref a) (.ref a) from rfl) .nil) hsp) (fun v s' z => ?_) fun _ _ x => x
  obtain ⟨w, H', I', rw', i, rfl, hi, q⟩ := z
  obtain ⟨t, rfl⟩ := rw'
  exact ⟨hi, .int i, H', I'.tok _, ⟨_, rfl⟩, q⟩
/-- x in o, o an instance with a __contains__ of the text that gives True or False -/
def rInO (C : Addr) (sp : Sp) (E : XK) (neg : Bool) : R2 := fun x y H Q => ∃ a dx fs, y = .ref a ∧ H a = some (.ins C dx fs) ∧ sp [.ref a, x] H (fun v H' => ∃ b : Bool, v = .bl b ∧ Q (.bl (if neg then !b else b)) H') E
theorem op_inO {CX : CXT} {C f : Addr} {fd : FuncData} {ps : List Str} {sp : Sp} {E : XK} (F : FnOk X.prog X.w X.K X.mg X.base CX n f fd ps sp) (hs : PySem.W.findIn X.K (.ref C) "__contains__" = some (some (.ref f))) (hf : PySem.W.isFn X.K (.ref f) = true)
    (hb : Binds X.K fd ps []) (hx : Passes CX X E) (hr : Room n X.A) : OpR X (compareOp .In) (rInO C sp E false) := by
  intro pins s σ H x y v u Q I rx ry h
  obtain ⟨a, dx, fs, rfl, ha, hsp⟩ := h
  cases ry
  obtain ⟨mA, J, _⟩ := ins_get I.hok ha
  obtain ⟨od, J, _⟩ := J.look
  obtain ⟨m, hF⟩ := I.fr
  refine PySem.W.in_K hF I.ok.mod.kin J hs hf ?_
  refine wpAny_mono (own_call (A := X.A) ⟨hr, rfl⟩ F hb hx I (.cons (show RelV (.ref a) (.ref a) from rfl) (.cons rx .nil)) hsp) (fun v s' z => ?_) fun _ _ x => x
  obtain ⟨w, H', I', rw', b, rfl, q⟩ := z
  cases rw'
  exact wpAny_truthy_bool ⟨.bl b, H', I', rfl, q⟩
theorem op_notInO {CX : CXT} {C f : Addr} {fd : FuncData} {ps : List Str} {sp : Sp} {E : XK} (F : FnOk X.prog X.w X.K X.mg X.base CX n f fd ps sp) (hs : PySem.W.findIn X.K (.ref C) "__contains__" = some (some (.ref f))) (hf : PySem.W.isFn X.K (.ref f) = true)
    (hb : Binds X.K fd ps []) (hx : Passes CX X E) (hr : Room n X.A) : OpR X (compareOp .NotIn) (rInO C sp E true) := by
  intro pins s σ H x y v u Q I rx ry h
  obtain ⟨a, dx, fs, rfl, ha, hsp⟩ := h
  cases ry
  obtain ⟨mA, J, _⟩ := ins_get I.hok ha
  obtain ⟨od, J, _⟩ := J.look
  obtain ⟨m, hF⟩ := I.fr
  refine PySem.W.notIn_K hF I.ok.mod.kin J hs hf ?_
  refine wpAny_mono (own_call (A := X.A) ⟨hr, rfl⟩ F hb hx I (.cons (show RelV (.ref a) (.ref a) from rfl) (.cons rx .nil)) hsp) (fun v s' z => ?_) fun _ _ x => x
  obtain ⟨w, H', I', rw', b, rfl, q⟩ := z
  cases rw'
  exact wpAny_truthy_bool ⟨.bl (!b), H', I', rfl, q⟩
/-- the truth of an instance with a __bool__ of the text -/
def tTruO (C : Addr) (sp : Sp) (E : XK) (ta : TE) : TT := fun σ H Q => ta σ H fun x H1 => ∃ a dx fs, x = .ref a ∧ H1 a = some (.ins C dx fs) ∧ sp [.ref a] H1 (fun v H' => ∃ b : Bool, v = .bl b ∧ Q b H') E
theorem pt_truO {CX : CXT} {C f : Addr} {fd : FuncData} {ps : List Str} {sp : Sp} {E : XK} {e : Expr} {ta : TE} (F : FnOk X.prog X.w X.K X.mg X.base CX n f fd ps sp) (hs : PySem.W.findIn X.K (.ref C) "__bool__" = some (some (.ref f))) (hf : PySem.W.isFn X.K (.ref f) = true)
    (hb : Binds X.K fd ps []) (hx : Passes CX X E) (hr : Room n X.A) (ha : PE X e ta) (he : ∀ whole, isTrue e X.env whole = (do let v ← whole; standAt e.pos; holding [v] (truthy v))) : PT X e (tTruO C sp E ta) := by
  refine ⟨fun pins s σ H Q I h => ?_⟩
  refine isTrue_plain (thn (ha.run pins s σ H _ I h) fun v s1 ⟨x, H1, I1, r1, q1⟩ => ?_) (he _)
  obtain ⟨a, dx, fs, rfl, hi, hsp⟩ := q1
  cases r1
  obtain ⟨mA, J, _⟩ := ins_get I1.hok hi
  obtain ⟨od, J, _⟩ := J.look
  obtain ⟨m, hF⟩ := I1.fr
  refine PySem.W.truthy_K hF I1.ok.mod.kin J hs hf ?_
  refine wpAny_mono (own_call (A := X.A) ⟨hr, rfl⟩ F hb hx I1 (.cons (show RelV (.ref a) (.ref a) from rfl) .nil) hsp) (fun v s' z => ?_) fun _ _ x => x
  obtain ⟨w, H', I', rw', b, rfl, q⟩ := z
  cases rw'
  exact ⟨H', I', q⟩
/-- x == y, x an instance with an __eq__ of the text that gives True or False, y of a class that is told -/
def rEqO (K : PySem.W.Frag) (C : Addr) (sp : Sp) (E : XK) : R2 := fun x y H Q => ∃ a b dx dy fs gs, x = .ref a ∧ y = .ref b ∧ H a = some (.ins C dx fs) ∧ H b = some (.ins C dy gs) ∧ sp [.ref a, .ref b] H (fun v H' => ∃ k : Bool, v = .bl k ∧ Q (.bl k) H') E
theorem op_eqO {CX : CXT} {C f : Addr} {fd : FuncData} {ps : List Str} {sp : Sp} {E : XK} (F : FnOk X.prog X.w X.K X.mg X.base CX n f fd ps sp) (hs : PySem.W.findIn X.K (.ref C) "__eq__" = some (some (.ref f))) (hf : PySem.W.isFn X.K (.ref f) = true)
    (hb : Binds X.K fd ps []) (hx : Passes CX X E) (hr : Room n X.A) : OpR X (compareOp .Eq) (rEqO X.K C sp E) := by
  intro pins s σ H x y v u Q I rx ry h
  obtain ⟨a, b, dx, dy, fs, gs, rfl, rfl, ha, hb', hsp⟩ := h
  cases rx
  cases ry
  obtain ⟨mA, J, _⟩ := ins_get I.hok ha
  obtain ⟨mB, J', _⟩ := ins_get I.hok hb'
  obtain ⟨od, J, _⟩ := J.look
  obtain ⟨od', J', _⟩ := J'.look
  obtain ⟨m, hF⟩ := I.fr
  show wpAny (model X.prog X.w) X.A (richCompare .Eq _ _) (EP X pins σ Q) X.xe s
  refine PySem.W.cmp_K (op := .Eq) (tb := .ref C) hr.units0 hF I.ok.mod.kin J J'.type (by simp [PySem.W.notFirst]) hs hf ?_
  refine wpAny_mono (own_call (A := X.A) ⟨hr, rfl⟩ F hb hx I (.cons (show RelV (.ref a) (.ref a) from rfl) (.cons (show RelV (.ref b) (.ref b) from rfl) .nil)) hsp) (fun v s' z => ?_) fun _ _ x => x
  obtain ⟨w, H', I', rw', b, rfl, q⟩ := z
  cases rw'
  exact ⟨.bl b, H', I', rfl, q⟩
/-- xs[i], read for xs[i] op= e -/
theorem get_list : PGet X (rIxL X.K) := by
  intro pins s σ H o i ov iv Q I ro ri h
  obtain ⟨p, xs, k, z, rfl, rfl, hq, he, q⟩ := h
  cases ro
  obtain ⟨t, rfl⟩ := ri
  obtain ⟨its, r, pl, hz⟩ := I.list hq
  obtain ⟨j, h1, h2, h3, h4, h5⟩ := atI_get he
  obtain ⟨w, ew, rw'⟩ := r.get h2
  have hl := r.length
  have hn := line63
  have fin : EP X pins σ Q w s := ⟨z, H, I, rw', q⟩
  by_cases h0 : 0 ≤ k
  · have hj : k.toNat = j := by
      rw [seqIndex_of h0 h5] at h1
      exact Option.some.inj h1
    exact wpAny_getItem_list pl.isList h0 (by omega) (by rw [hj]; simpa using ew) fin
  · have hj : (k + (its.toArray.size : Int)).toNat = j := by
      rw [seqIndex_neg (by omega) h4] at h1
      rw [List.size_toArray, ← hl]
      exact Option.some.inj h1
    exact wpAny_getItem_list_neg pl.isList (by omega) (by rw [List.size_toArray] <;> omega) (by omega) (by rw [hj]; simpa using ew) fin
end
end L2
end
section
set_option Elab.async false
set_option linter.all false
set_option maxRecDepth 100000
namespace PySem.W
open PySem PySem.Calls PyProof.Rows Builtin
section
variable {prog : Program} {w : World} {A : Around} {E : Value → Shared → Prop} {s : Shared} {K : Frag} {x C L f : Addr} {h₀ : Heap} {m : Str → Option Value} {ox : Obj} {od : Option Obj} {name : Str} {b tb : Value}
theorem my_ifBound {M : Model} {id : String} {args : List Value} {Q : Option Value → Shared → Prop} (X : K.In s.heap) (I : InstAt s.heap x ox C od) (hs : findIn K (.ref C) name = some (some (.builtin id))) (hb : ∀ self, bindSpecial (.builtin id) self = pure (.builtin id, [self]))
    (h : wpAny M A (call (.builtin id) (.ref x :: args)) (fun v => Q (some v)) E s) : wpAny M A (callSpecialIfBound? (.ref x) name args) Q E s := by
  simp only [callSpecialIfBound?, bindSpecialIfBound?]
  refine wpAny_holding (wpAny_bind (wpAny_bind (wpAny_bind (I.type.here ((looks_findIn X hs).here ?_)))))
  refine wpAny_bind (wpAny_askSetting (wpAny_ite ?_))
  have fin : wpAny M A (call (.builtin id) ([.ref x] ++ args) >>= fun v => pure (some v)) Q E s := wpAny_bind (wpAny_mono h (fun v s' h' => wpAny_pure h') fun _ _ h' => h')
  split
  · exact wpAny_bind ((Looks.of_pure (hb _)).here (wpAny_pure (by exact fin)))
  · exact wpAny_tryCatch (wpAny_bind ((Looks.of_pure (hb _)).here (wpAny_pure (by exact fin))))
theorem my_ne {Q : Value → Shared → Prop} (hu : A.units + 1 < cLine) (F : Fr h₀ L s.heap m) (X₀ : K.In h₀) (I : InstAt s.heap x ox C od) (hb : Looks (model prog w) s.heap (typeOf b) (.ref C))
    (hn : findIn K (.ref C) "__ne__" = some (some (.builtin "object.__ne__"))) (hm : mroIn K C (.type "object") = some true) (hs : findIn K (.ref C) "__eq__" = some (some (.ref f))) (hf : isFn K (.ref f) = true)
    (h : wpAny (model prog w) A.in1 (call (.ref f) [.ref x, b]) (fun v s' => ∃ k, v = .bool k ∧ Q (.bool (!k)) s') E s) : wpAny (model prog w) A (compareOp .NotEq (.ref x) b) Q E s := by
  have X := X₀.keeps F.keep
  have one : wpAny (model prog w) A (tryCompare (.ref x) "__ne__" b) (fun r s' => ∃ v, r = some v ∧ Q v s') E s := by
    unfold tryCompare
    refine wpAny_bind (my_ifBound X I hn PySem.F.slot_tuple_iterator_ne.bind (wpAny_call (codeAny_call_builtin PySem.F.slot_tuple_iterator_ne.plain PySem.F.cmpEntry_ne (check_slot (i := "object.__ne__") (owner := "object") (n := "__ne__") PySem.F.cmpKind_ne PySem.F.cmpSplit_ne (I.type.andThen (looks_mroIn X hm)) (PySem.F.cmpArgs_ne _ _) ?_))))
    unfold Builtin.«object.__ne__»
    refine wpAny_bind (m := slotArgs "__ne__" 1 _) (wpAny_pure ?_)
    refine wpAny_bind (m := cRoomFor _ _) (wpAny_cRoomFor (A := A.in1) hu ?_)
    refine wpAny_bind (m := callSpecialIfBound? (.ref x) (Str.ofString "__eq__") _) (ifBound_K X I hs hf (wpAny_mono h (fun r s' hq => ?_) fun _ _ y => y))
    obtain ⟨k, rfl, q⟩ := hq
    refine wpAny_bind (wpAny_truthy_bool (wpAny_pure ?_))
    exact wpAny_pure ⟨_, rfl, q⟩
  show wpAny (model prog w) A (richCompare .NotEq (.ref x) b) Q E s
  unfold richCompare
  simp only [oneThing_ref]
  refine wpAny_holding (wpAny_bind (wpAny_cRoomFor (by omega) ?_))
  refine wpAny_bind (I.type.here (wpAny_bind (hb.here ?_)))
  rw [show (Value.ref C != Value.ref C) = false from by simp]
  simp only [Bool.false_eq_true, if_false]
  refine wpAny_bind (wpAny_pure ?_)
  simp only [Bool.false_eq_true, if_false]
  refine wpAny_bind (wpAny_mono one (fun r s' z => ?_) fun _ _ e => e)
  obtain ⟨v, rfl, hq⟩ := z
  exact wpAny_pure hq
end
end PySem.W
namespace L2
open PySem PySem.Spec PyProof.Rows
section
variable {X : Cx} {n : Nat}
/-- x != y by an __eq__ of the text -/
def rNeO (K : PySem.W.Frag) (C : Addr) (sp : Sp) (E : XK) : R2 := fun x y H Q => ∃ a b dx dy fs gs, x = .ref a ∧ y = .ref b ∧ H a = some (.ins C dx fs) ∧ H b = some (.ins C dy gs) ∧ sp [.ref a, .ref b] H (fun v H' => ∃ k : Bool, v = .bl k ∧ Q (.bl (!k)) H') E
theorem op_neO {CX : CXT} {C f : Addr} {fd : FuncData} {ps : List Str} {sp : Sp} {E : XK} (F : FnOk X.prog X.w X.K X.mg X.base CX n f fd ps sp) (hs : PySem.W.findIn X.K (.ref C) "__eq__" = some (some (.ref f))) (hf : PySem.W.isFn X.K (.ref f) = true)
    (hn : PySem.W.findIn X.K (.ref C) "__ne__" = some (some (.builtin "object.__ne__"))) (hm : PySem.W.mroIn X.K C (.type "object") = some true)
    (hb : Binds X.K fd ps []) (hx : Passes CX X E) (hr : Room (n + 1) X.A) : OpR X (compareOp .NotEq) (rNeO X.K C sp E) := by
  intro pins s σ H x y v u Q I rx ry h
  obtain ⟨a, b, dx, dy, fs, gs, rfl, rfl, ha, hb', hsp⟩ := h
  cases rx
  cases ry
  obtain ⟨mA, J, _⟩ := ins_get I.hok ha
  obtain ⟨mB, J', _⟩ := ins_get I.hok hb'
  obtain ⟨od, J, _⟩ := J.look
  obtain ⟨od', J', _⟩ := J'.look
  obtain ⟨m, hF⟩ := I.fr
  have hu : X.A.units + 1 < cLine := by
    have := hr.units
    omega
  refine PySem.W.my_ne hu hF I.ok.mod.kin J J'.type hn hm hs hf ?_
  refine wpAny_mono (own_call (A := X.A.in1) (Sub.in1 ⟨hr, rfl⟩) F hb hx I (.cons (show RelV (.ref a) (.ref a) from rfl) (.cons (show RelV (.ref b) (.ref b) from rfl) .nil)) hsp) (fun v s' z => ?_) fun _ _ x => x
  obtain ⟨w, H', I', rw', k, rfl, q⟩ := z
  cases rw'
  exact ⟨k, rfl, .bl (!k), H', I', rfl, q⟩
end
end L2
end
section
set_option Elab.async false
set_option linter.all false
set_option maxRecDepth 100000
namespace WD
open PySem PySem.Spec PyProof.Rows L2 Evl
/-! ### a def of the text by its promise -/
structure FnG (P : Program) (w : World) (K : PySem.W.Frag) (mg : Str → Option Value) (base : Heap) (k : Nat) (f : Addr) (ps : List Str) (sp : Sp) : Prop where
  ex : ∃ fd, FnOk P w K mg base (L2.CX P w) k f fd ps sp ∧ Binds K fd ps []
  kp : PySem.W.keepIn K (.ref f) = true
section
variable {X : Cx} {k : Nat} {f : Addr} {ps : List Str} {sp : Sp} {x : Str} {p pos apos : Pos} {e o : Expr} {es : List Expr} {t : TA} {ta : TE} {C : Addr} {m : Str}
theorem pe_callG (F : FnG X.prog X.w X.K X.mg X.base k f ps sp) (hr : Room k X.A) (hg : Gl X x) (hm : X.mg x = some (.ref f)) (ha : PA X (e :: es) t)
    (hdb : (x == ("__debug__" : Str)) = false := by decide) (hst : starEach (e :: es) X.env = (false, eval e X.env) :: starEach es X.env := by rfl) (hpl : (backTo pos (starEach es X.env)).any (·.1) = false := by rfl) :
    PE X (.Call (.Name x p) (e :: es) [] pos) (tCall sp [] E0 t) := by
  obtain ⟨⟨fd, F, B⟩, kp⟩ := F
  exact pe_call F hr hg hm kp B .nil passL ha (hdb := hdb) (he := hst) (hpl := hpl)
theorem pe_callG0 (F : FnG X.prog X.w X.K X.mg X.base k f ps sp) (hr : Room k X.A) (hg : Gl X x) (hm : X.mg x = some (.ref f)) (hdb : (x == ("__debug__" : Str)) = false := by decide) : PE X (.Call (.Name x p) [] [] pos) (tCall sp [] E0 tNil) := by
  obtain ⟨⟨fd, F, B⟩, kp⟩ := F
  exact pe_call0 F hr hg hm kp B .nil passL (hdb := hdb)
theorem pe_methG {pl : Sem Bool} (he : PE X o ta) (c : Cls X.K C) (hm : Meth X.K C m f) (F : FnG X.prog X.w X.K X.mg X.base k f ps sp) (hr : Room k X.A) (ha : PA X (e :: es) t)
    (hst : starEach (e :: es) X.env = (false, eval e X.env) :: starEach es X.env := by rfl) (hpl : (backTo pos (starEach es X.env)).any (·.1) = false := by rfl)
    (ht : eval (.Call (.Attribute o m apos) (e :: es) [] pos) X.env = (do
      let ov ← eval o X.env
      standAt apos.atName
      let (f, first) ← holding [ov] (getMethod ov m pl)
      callWith pos f first (backTo pos (starEach (e :: es) X.env)) (backToKw pos (keywordEach [] X.env))) := by rfl) :
    PE X (.Call (.Attribute o m apos) (e :: es) [] pos) (tMeth C m sp [] E0 ta t) := by
  obtain ⟨⟨fd, F, B⟩, kp⟩ := F
  exact pe_meth he c hm F hr B .nil passL ha hst hpl ht
theorem pe_methG0 {pl : Sem Bool} (he : PE X o ta) (c : Cls X.K C) (hm : Meth X.K C m f) (F : FnG X.prog X.w X.K X.mg X.base k f ps sp) (hr : Room k X.A)
    (ht : eval (.Call (.Attribute o m apos) [] [] pos) X.env = (do
      let ov ← eval o X.env
      standAt apos.atName
      let (f, first) ← holding [ov] (getMethod ov m pl)
      callWith pos f first (backTo pos (starEach [] X.env)) (backToKw pos (keywordEach [] X.env))) := by rfl) :
    PE X (.Call (.Attribute o m apos) [] [] pos) (tMeth C m sp [] E0 ta tNil) := by
  obtain ⟨⟨fd, F, B⟩, kp⟩ := F
  exact pe_meth0 he c hm F hr B .nil passL ht
theorem pe_makeG (M : Mk X.K C f) (F : FnG X.prog X.w X.K X.mg X.base k f ps sp) (hr : Room (k + 1) X.A) (hg : Gl X x) (hm : X.mg x = some (.ref C)) (ha : PA X (e :: es) t)
    (hdb : (x == ("__debug__" : Str)) = false := by decide) (hst : starEach (e :: es) X.env = (false, eval e X.env) :: starEach es X.env := by rfl) (hpl : (backTo pos (starEach es X.env)).any (·.1) = false := by rfl) :
    PE X (.Call (.Name x p) (e :: es) [] pos) (tMake C sp [] E0 t) := by
  obtain ⟨⟨fd, F, B⟩, kp⟩ := F
  exact pe_make M F hr hg hm B .nil passL ha (hdb := hdb) (he := hst) (hpl := hpl)
theorem pe_globI {i : Int} (hg : Gl X x) (hm : ∃ t, X.mg x = some (.int i t)) (hd : (x == ("__debug__" : Str)) = false := by decide) : PE X (.Name x pos) (tC (.int i)) := by
  obtain ⟨t, hm⟩ := hm
  exact pe_glob hg hm ⟨_, rfl⟩ hd
theorem pe_tyN {n : String} (hg : Gl X x) (hm : X.mg x = none) (hv : bootBuiltins x = some (.type n)) (hn : x ≠ "__name__" := by decide) (hd : (x == ("__debug__" : Str)) = false := by decide) : PE X (.Name x pos) (tC (.ty n)) := pe_bltn hg hm hv rfl hn hd
theorem pe_clsN (hg : Gl X x) (hm : X.mg x = some (.ref C)) (hd : (x == ("__debug__" : Str)) = false := by decide) : PE X (.Name x pos) (tC (.ref C)) := pe_glob hg hm rfl hd
end
section
variable {P : Program} {w : World} {K : PySem.W.Frag} {mg : Str → Option Value} {base : Heap}
/-- a def of no defaults, its body's reading -/
theorem fnG {x qual : Str} {st : Stmt} {f : Addr} {N ps : List Str} {k : Nat} {sp : Sp} (F : ∃ fd, FunD K x qual (defArgs st) (defBody st) (defScope st) [] [] f fd) (S : FnScope N ps (defScope st)) (len : ∀ vs H Q E, sp vs H Q E → vs.length = ps.length)
    (hb : ∀ (kV doc pm : Value) (an : Option Addr) (cdv ct : Value) (us : List Value), us.length = ps.length → bindArgs (PySem.W.fnOf x qual (defArgs st) (defBody st) (defScope st) .none kV doc pm an cdv ct) ⟨us, []⟩ = pure (ps.zip us))
    (hbody : ∀ (cdv : Value) (A : Around) (outer : List Env) (s : Shared) (H : Hp) (vs : List V) (Q : VK) (E : XK), Room k (A.deeper (envOfC qual (defScope st) s.heap.objs.size f cdv)) → sp vs H Q E →
      ∃ t, PSs (cxOf (L2.CX P w) P w K mg base N qual (defScope st) f cdv A outer s H E).nox (defBody st) t ∧ t { nx := fun _ H' => Q .non H', rt := Q } (start N vs) H) : FnG P w K mg base (k + 1) f ps sp := by
  obtain ⟨fd, F⟩ := F
  exact ⟨⟨fd, F.ok S len (fun cdv A outer s H vs Q E hr h => let ⟨t, h1, h2⟩ := hbody cdv A outer s H vs Q E hr h; ⟨t, h1.nox, h2⟩), F.bindsN hb⟩, F.kp⟩
end
/-! ### types -/
def D.ty : D → Option String
  | .non => some "NoneType" | .bl _ => some "bool" | .int _ => some "int" | .str _ => some "str" | .tup _ => some "tuple" | .lst _ => some "list" | .obj _ _ => none
variable {K : PySem.W.Frag} {σ : L2.St} {H H' : Hp} {ta tb te tx : TE} {t u : TT} {d d1 d2 : D} {ds es : List D}
theorem sqT_ty {a : Addr} {xs : List V} (h : SqT K H a xs) : TyX K H (.ref a) (.type "tuple") := by
  rcases h with (h | ⟨o, h⟩) | h
  · exact .base (.tup h)
  · exact .fTuple h
  · obtain ⟨o, its, n, h1, h2, h3, _⟩ := h
    exact .kTuple h1 h2
theorem rdL_ty {a : Addr} {xs : List V} (h : Rd H a (.lst xs)) : TyX K H (.ref a) (.type "list") := by
  rcases h with h | ⟨o, h⟩
  · exact .base (.lst h)
  · exact .base (.frz h)
end WD
end
section
set_option Elab.async false
set_option linter.all false
set_option maxRecDepth 100000
namespace WD
/-! ### fractions as pairs without a common divisor -/
def fr (q : Rat) : D := .tup [.int q.num, .int (q.den : Int)]
theorem fr_lf (q : Rat) : (fr q).lf = true := rfl
theorem mkRat_pair {n : Int} {d : Nat} (hd : d ≠ 0) : (n / ((Nat.gcd n.natAbs d : Nat) : Int) = (mkRat n d).num) ∧ ((d : Int) / ((Nat.gcd n.natAbs d : Nat) : Int) = ((mkRat n d).den : Int)) := by
  rw [Rat.mkRat_def, dif_neg hd, Rat.num_normalize, Rat.den_normalize]
  exact ⟨rfl, (Int.natCast_ediv _ _).symm⟩
theorem add_pair (a b : Rat) : let g := Nat.gcd a.den b.den
    let top := a.num * ((b.den : Int) / (g : Int)) + b.num * ((a.den : Int) / (g : Int))
    let r := Nat.gcd top.natAbs g
    top / (r : Int) = (a + b).num ∧ (a.den : Int) / (g : Int) * ((b.den : Int) / (r : Int)) = ((a + b).den : Int) := by
  intro g top r
  have hg : g ≠ 0 := Nat.ne_of_gt (Nat.gcd_pos_of_pos_left _ a.den_pos)
  have e : a + b = Rat.add a b := rfl
  have e1 : top = a.num * ((b.den / g : Nat) : Int) + b.num * ((a.den / g : Nat) : Int) := by
    show a.num * ((b.den : Int) / (g : Int)) + b.num * ((a.den : Int) / (g : Int)) = _
    rw [Int.natCast_ediv, Int.natCast_ediv]
  rw [e]
  unfold Rat.add
  by_cases h1 : g = 1
  · have r1 : r = 1 := by
      show Nat.gcd top.natAbs g = 1
      rw [h1]
      exact Nat.gcd_one_right _
    have h1' : a.den.gcd b.den = 1 := h1
    rw [dif_pos h1']
    refine ⟨?_, ?_⟩
    · rw [r1, e1, h1]
      simp
    · rw [r1, h1]
      simp
  · have h1' : ¬ a.den.gcd b.den = 1 := h1
    rw [dif_neg h1']
    simp only [Rat.maybeNormalize_eq, Int.divExact_eq_ediv]
    have hr : r ∣ b.den := Nat.dvd_trans (Nat.gcd_dvd_right _ _) (Nat.gcd_dvd_right _ _)
    have er : r = (a.num * ((b.den / g : Nat) : Int) + b.num * ((a.den / g : Nat) : Int)).natAbs.gcd g := by rw [← e1]
    refine ⟨?_, ?_⟩
    · rw [e1]
      show _ / (r : Int) = _ / ((Nat.gcd _ g : Nat) : Int)
      rw [← er]
    · show _ = ((a.den / g * b.den / (Nat.gcd _ g) : Nat) : Int)
      rw [← er, Nat.mul_div_assoc _ hr]
      rw [Int.natCast_mul, Int.natCast_ediv, Int.natCast_ediv]
theorem mul_pair (a b : Rat) : let l := Nat.gcd a.num.natAbs b.den
    let r := Nat.gcd b.num.natAbs a.den
    a.num / (l : Int) * (b.num / (r : Int)) = (a * b).num ∧ (a.den : Int) / (r : Int) * ((b.den : Int) / (l : Int)) = ((a * b).den : Int) := by
  intro l r
  have e : a * b = Rat.mul a b := rfl
  rw [e]
  unfold Rat.mul
  simp only [Int.divExact_eq_ediv, Nat.divExact_eq_div]
  refine ⟨rfl, ?_⟩
  rw [Int.natCast_mul, Int.natCast_ediv, Int.natCast_ediv]
theorem mul_mk (a b : Rat) : mkRat (a.num * b.num) (a.den * b.den) = a * b := (Rat.mul_def' a b).symm
theorem add_mk (a b : Rat) : mkRat (a.num * b.den + b.num * a.den) (a.den * b.den) = a + b := (Rat.add_def' a b).symm
/-! ### sizes -/
/-- short enough for products and divisors -/
structure Sm (n : Nat) (q : Rat) : Prop where
  num : q.num.natAbs < 2 ^ n
  den : q.den < 2 ^ n
theorem Sm.mono {n m : Nat} {q : Rat} (h : Sm n q) (hn : n ≤ m) : Sm m q := ⟨Nat.lt_of_lt_of_le h.num (Nat.pow_le_pow_right (by decide) hn), Nat.lt_of_lt_of_le h.den (Nat.pow_le_pow_right (by decide) hn)⟩
theorem natAbs_div_le (i : Int) (n : Nat) : (i / (n : Int)).natAbs ≤ i.natAbs + 1 := by
  rcases Nat.eq_zero_or_pos n with h | h
  · subst h
    simp
  · have h1 : (0 : Int) < n := by omega
    have h2 := Int.emod_add_mul_ediv i n
    have h3 := Int.emod_nonneg i (by omega : (n : Int) ≠ 0)
    have h4 := Int.emod_lt_of_pos i h1
    rcases Int.le_total 0 i with p | p
    · have q1 : 0 ≤ i / (n : Int) := Int.ediv_nonneg p (by omega)
      have q2 : i / (n : Int) ≤ i := Int.ediv_le_self _ p
      omega
    · have q1 : i / (n : Int) ≤ 0 := Int.ediv_nonpos_of_nonpos_of_neg p (by omega)
      have q2 : i - (n : Int) < (n : Int) * (i / (n : Int)) := by omega
      have q3 : i - 1 ≤ i / (n : Int) := by
        rcases Int.lt_or_le (i / (n : Int)) (i - 1) with z | z
        · exfalso
          have : (n : Int) * (i / (n : Int)) ≤ (n : Int) * (i - 2) := Int.mul_le_mul_of_nonneg_left (by omega) (by omega)
          have e : (n : Int) * (i - 2) = (n : Int) * (i - 1) - n := by
            rw [Int.mul_sub, Int.mul_sub]
            omega
          have : (n : Int) * (i - 1) ≤ 1 * (i - 1) := Int.mul_le_mul_of_nonpos_right (by omega) (by omega)
          omega
        · exact z
      omega
end WD
end
section
set_option Elab.async false
set_option linter.all false
set_option maxRecDepth 100000
namespace WD
open PySem PySem.Spec PyProof.Rows L2 Evl
variable {K : PySem.W.Frag} {σ : L2.St} {H H' : Hp} {ta tb te tx : TE} {t u : TT} {d d1 d2 : D} {ds es : List D}
theorem Is.ty {v : V} {s : String} (h : Is K H v d) (e : d.ty = some s) : TyX K H v (.type s) := by
  cases h with
  | non => cases e; exact .base .non
  | bl b => cases e; exact .base (.bl b)
  | int i => cases e; exact .base (.int i)
  | str x => cases e; exact .base (.str x)
  | tup h a => cases e; exact sqT_ty h
  | lst h a => cases e; exact rdL_ty h
  | obj h a => cases e
theorem ed_isi {n s : String} {b : Bool} (h : EvD K te σ H d) (ht : d.ty = some s) (hk : kitB s n = some b) : EvD K (tCB (rIsi K) (tCons te (tCons (tC (.ty n)) tNil))) σ H (.bl b) := fun H1 e Q q =>
  h H1 e _ fun v H2 e2 a => ⟨v, _, _, _, b, rfl, .ty n, a.ty ht, kit_ty hk, q _ H2 e2 (.bl b)⟩
/-- of an instance of the text's class C, by the class itself | a built-in class -/
structure OwnTy (K : PySem.W.Frag) (c : Str) : Prop where
  cl : Cls K (He.ga K c)
  ha : PySem.W.findIn K (.ref (He.ga K c)) "__class__" = some (some (.builtin "object.__class__"))
  hn : PySem.W.specialIn K (.builtin "object.__class__") "__get__" = some (some (.builtin "getset_descriptor.__get__"))
  ht : PySem.W.takesIn K (.builtin "object.__class__") = some true
  hm : PySem.W.mroIn K (He.ga K c) (.type "object") = some true
theorem ed_isiO {c : Str} {fs : List (Str × D)} {b : Bool} (h : EvD K te σ H (.obj c fs)) (o : OwnTy K c) {C : Addr} (hk : PySem.W.kitOne K (.ref (He.ga K c)) (.ref C) = some b) : EvD K (tCB (rIsi K) (tCons te (tCons (tC (.ref C)) tNil))) σ H (.bl b) := fun H1 e Q q =>
  h H1 e _ fun v H2 e2 a => by
    cases a with
    | obj ho af => exact ⟨_, _, _, _, b, rfl, .own C, .base (.ins ho o.cl o.ha o.hn o.ht o.hm), hk, q _ H2 e2 (.bl b)⟩
/-- isinstance(x, (list, tuple)) -/
theorem ed_isiT {n1 n2 s : String} {b1 b2 : Bool} (h : EvD K te σ H d) (ht : d.ty = some s) (hk1 : kitB s n1 = some b1) (hk2 : kitB s n2 = some b2) :
    EvD K (tCB (rIsiT K) (tCons te (tCons (tTup (tCons (tC (.ty n1)) (tCons (tC (.ty n2)) tNil))) tNil))) σ H (.bl (b1 || b2)) := fun H1 e Q q =>
  h H1 e _ fun v H2 e2 a => by
    refine ⟨by show 2 ≤ sizeLine; decide, fun p hp => ⟨v, p, _, _, _, (b1 || b2), rfl, upd_same, .cons (.ty n1) (.cons (.ty n2) .nil), (a.ex (Ex.new hp)).ty ht, ?_, q _ _ (e2.trans (Ex.new hp)) (.bl _)⟩⟩
    refine kitAny_cons (b := b1) (kit_ty hk1) (fun z => ?_) (fun z => by rw [z]; rfl)
    subst z
    rw [Bool.false_or]
    exact kitAny_cons (b := b2) (kit_ty hk2) (fun z => by rw [z]; exact kitAny_nil) (fun z => z)
def D.isInt : D → Bool
  | .int _ => true
  | _ => false
/-! ### a while loop over two ints -/
theorem natAbs_nn {i : Int} (h : 0 ≤ i) : ((i.natAbs : Nat) : Int) = i := by omega
end WD
namespace WD
open PySem PySem.Spec PyProof.Rows L2 Evl
section
variable {X : Cx}
theorem call_lenS : CallR X (.builtin "len") (rLenS X.K) := call_len_seq
theorem call_listS : CallR X (.type "list") (rListS X.K) := call_list_of
theorem call_tupS : CallR X (.type "tuple") (rTupS X.K) := call_tuple_of
theorem call_absS : CallR X (.builtin "abs") rAbs := call_abs
theorem call_intS : CallR X (.type "int") rInt1 := call_int1
theorem call_maxS (hc : X.calm = true) : CallR X (.builtin "max") rMax2 := call_max2 hc
theorem call_minS (hc : X.calm = true) : CallR X (.builtin "min") rMin2 := call_min2 hc
end
end WD
end
section
set_option Elab.async false
set_option linter.all false
set_option maxRecDepth 100000
set_option maxHeartbeats 4000000
/-! set(xs) of a list of ints: the type is called; its __init__ is answered as a code of its own. -/
namespace L2
open PySem PySem.Spec PyProof.Rows
section
variable {P : Program} {w : World} {A : Around} {E : Value → Shared → Prop} {s : Shared}
/-- what the making hands on: an object of the type, and its __init__'s code -/
def Hands (P : Program) (w : World) (A : Around) (E : Value → Shared → Prop) (T ini : String) (us : List Value) (Q : Value → Shared → Prop) (o : Value) (t : Shared) : Prop :=
  t.TypeIs o T ∧ codeAny (model P w) A (.call (.builtin ini) ⟨o :: us, []⟩) (wants (fun z t' => z = .none ∧ Q o t') E) t
theorem type_hands {T nw ini : String} {us : List Value} {Q : Value → Shared → Prop} (f : TypeCalled T nw ini) (ck : checkTypeCall T ⟨us, []⟩ = pure ()) (go : codeAny (model P w) A.in1 (.call (.builtin nw) ⟨.type T :: us, []⟩) (wants (Hands P w A.in1 E T ini us Q) E) s) :
    wpAny (model P w) A (call (.type T) us) Q E s := by
  rcases f with ⟨n1, n2, ⟨mc, mt, mo⟩, md, n3, sb, il⟩
  apply wpAny_call; apply codeAny_of_tree
  show wpAny _ _ (callAny (.type T) ⟨us, []⟩) _ _ _
  apply wpAny_pure; refine ⟨Code.quiet_builtin _ (by decide +kernel), ?_⟩
  apply codeAny_builtin F.entry_type_call; rw [Around.under_plain (weight_type_call_type T us []) rfl]
  repeat (any_goals (first | assumption | wp_step))
  apply codeAny_mono go; intro r t hr
  rcases r with e | fl
  · exact hr
  cases fl with
  | next => exact False.elim hr
  | brk => exact False.elim hr
  | cont => exact False.elim hr
  | ret v =>
    obtain ⟨ty, nx⟩ := hr
    have lk := il.lookup; have bd := il.bind v
    repeat (any_goals (first | assumption | wp_step))
    apply codeAny_mono nx; intro r2 t2 hr2
    rcases r2 with e2 | fl2
    · exact hr2
    cases fl2 with
    | next => exact False.elim hr2
    | brk => exact False.elim hr2
    | cont => exact False.elim hr2
    | ret z =>
      rcases hr2 with ⟨rfl, fin⟩
      repeat (any_goals (first | assumption | wp_step))
/-- the new set's object -/
abbrev newS (w : World) : Obj := { cls := .type "set", dict := none, data := .set #[] 0 (.fresh 0 0 (!w.params.followText "set-order")) }
/-- set(xs) for a list of ints -/
theorem call_set_listR {l : Addr} {us : Array Value} (ns : List Int) {Q : Value → Shared → Prop} (hh : A.handled = none) (hl : s.heap.IsList l us) (hit : IntsAre us.toList ns) (hb : ns.length + 1 < scanBound)
    (h : ∀ (h' : Heap) (tk c : Nat), SetR w h' s.heap.objs.size (fun j => decide (j ∈ ns)) c → c ≤ ns.length → (∀ b o, s.heap.get? b = some o → h'.get? b = some o) → Q (.ref s.heap.objs.size) { s with heap := h', toks := tk }) :
    wpAny (model P w) A (call (.type "set") [.ref l]) Q E s := by
  have big : us.size = ns.length := by rw [← Array.length_toList]; exact IntsAre.length hit
  refine type_hands F.called_set (F.typeCall_set_1 (.ref l)) (code_set_led1 (.ref l) ?_)
  have here : Shared.TypeIs { s with heap := s.heap.push (newS w) } (.ref s.heap.objs.size) "set" := ⟨_, Heap.get?_push_size _ rfl, rfl⟩
  refine ⟨here, codeAny_call_builtin F.called_set.init.plain F.entry_set_init (check_set_init_1 here ?_)⟩
  rcases hl with ⟨⟨k1, k2, k3, k4⟩, got, rfl, nn, rfl⟩
  have old : l < s.heap.objs.size := Heap.lt_size got
  have gotS : (s.heap.push (newS w)).get? s.heap.objs.size = some (newS w) := Heap.get?_push_size _ rfl
  have got2 : (s.heap.push (newS w)).get? l = some { cls := .type "list", dict := k2, data := .seq us nn, slots := k4 } := Heap.get?_push_of_some _ got
  have isl : (s.heap.push (newS w)).IsList l us := ⟨_, got2, rfl, nn, rfl⟩
  have f1 := F.sub_list_set; have f2 := F.sub_list_frozenset
  have f3 : (Value.type "list" == Value.type "dict") = false := by decide
  unfold Builtin.«set.__init__» noKeywords Builtin.Frozenset.updateFrom
  generalize hpi : pyIter = PI
  wp_walk
  subst hpi
  apply wpAny_pyIter_list isl; apply wpAny_bind; apply wpAny_runValue
  have sz : (s.heap.push (newS w)).objs.size = s.heap.objs.size + 1 := Heap.size_push ..
  have nit : l ≠ (s.heap.push (newS w)).objs.size := by rw [sz]; exact Nat.ne_of_lt (Nat.lt_succ_of_lt old)
  have nfp : s.heap.objs.size ∉ [(s.heap.push (newS w)).objs.size, l] := by
    rw [sz]; intro z
    rcases List.mem_cons.mp z with z | z
    · exact Nat.ne_of_lt (Nat.lt_succ_self _) z
    · exact Nat.ne_of_gt old (List.mem_singleton.mp z)
  have val : ∀ (i : Nat) (v : Value), us[i]? = some v → ∃ k t, ns[i]? = some k ∧ v = .int k t := by
    intro i v hv
    have iu : i < us.size := (Array.getElem?_eq_some_iff.mp hv).1
    obtain ⟨t, et⟩ := IntsAre.int_at hit i v (by rw [Array.getElem?_toList]; exact hv)
    have ii : i < ns.length := by omega
    exact ⟨ns[i], t, List.getElem?_eq_getElem ii, by rw [et]; congr 1; rw [List.getD_eq_getElem?_getD, List.getElem?_eq_getElem ii]; rfl⟩
  have hh3 : A.in1.in1.in1.handled = none := by simp [hh]
  have it0 : ((s.heap.push (newS w)).push { cls := .type "list_iterator", data := .fields #[.ref l, .int 0 0] }).get? s.heap.objs.size = some (newS w) := Heap.get?_push_of_some _ gotS
  apply set_update_ints (Walks.list hh3 (s.heap.push (newS w)).objs.size l nit us).toS s.heap.objs.size nfp ns big hb val (us.size - 0) 0 _ (by omega) (Nat.zero_le _) ⟨⟨_, Heap.get?_push_size _ rfl, rfl, rfl⟩, isl.push _⟩ ⟨0, Nat.le_refl 0, setR_new_at it0⟩
  intro t c mv hc hS
  rcases t with ⟨h', g2, d2, tk, o2⟩
  have q1 : g2 = s.gens := mv.gens
  have q2 : d2 = s.drawn := mv.drawn
  have q3 : o2 = s.os := mv.os
  subst q1 q2 q3
  show wpAny _ _ _ _ _ _
  apply wpAny_pure
  show wpAny _ _ (ret Value.none) _ _ _
  refine wpAny_pure ⟨rfl, h h' tk c hS (by omega) fun b o e => ?_⟩
  have bl : b < s.heap.objs.size := Heap.lt_size e
  refine mv.heap b o (fun z => ?_) (Heap.get?_push_of_some _ (Heap.get?_push_of_some _ e))
  rcases List.mem_cons.mp z with z | z
  · exact Nat.ne_of_lt bl z
  · have y := List.mem_singleton.mp z
    have y2 : b = s.heap.objs.size + 1 := y.trans sz
    rw [y2] at bl; exact absurd bl (Nat.not_lt.mpr (Nat.le_succ _))
end
end L2
end
section
set_option Elab.async false
set_option linter.all false
set_option maxRecDepth 100000
set_option maxHeartbeats 4000000
namespace L2
open PySem PySem.Spec PyProof.Rows
section
variable {X : Cx}
/-- sorted(set(xs)), xs a list or a tuple of fewer than 64 ints -/
def tSortSet (K : PySem.W.Frag) (ta : TE) : TE := fun σ H Q => ta σ H fun x H1 => ∃ (l : Addr) (ns : List Int), x = .ref l ∧ (SqL K H1 l (ns.map V.int) ∨ SqT K H1 l (ns.map V.int)) ∧ ns.length < 64 ∧
  ∀ (ms : List Int) (p : Addr), ms.Pairwise (· < ·) → (∀ k : Int, k ∈ ms ↔ k ∈ ns) → H1 p = none → Q (.ref p) (upd H1 p (.lst (ms.map V.int)))
theorem pe_sortSet {a : Expr} {ta : TE} {p p2 q pos : Pos} (hg : Gl X "sorted") (hm : X.mg "sorted" = none) (hg2 : Gl X "set") (hm2 : X.mg "set" = none) (ha : PE X a ta) (hc : X.calm = true := by rfl)
    (hv : bootBuiltins "sorted" = some (.builtin "sorted") := by decide +kernel) (na : starEach [a] X.env = (false, eval a X.env) :: starEach [] X.env := by rfl) : PE X (.Call (.Name "sorted" p) [.Call (.Name "set" p2) [a] [] q] [] pos) (tSortSet X.K ta) := by
  refine ⟨fun pins s σ H Q I h => ?_⟩
  refine Call_ (ld_blt I hg hm hv ?_)
  refine PyProof.Rows.callWith_builtin1 (PyProof.Rows.args_cons ?_ rfl) rfl rfl
  refine Call_ (ld_blt I hg2 hm2 boot_set (PyProof.Rows.callWith_type1 (PyProof.Rows.args_cons (thn (ha.run pins s σ H _ I h) fun v s1 ⟨x, H1, I1, r1, q1⟩ => PyProof.Rows.args_nil ?_) na) na rfl))
  obtain ⟨l, ns, rfl, hq, hl, q1⟩ := q1
  cases r1
  have fin : ∀ (s2 : Shared) (b : Addr) (c : Nat), Inv X pins σ H1 s2 → SetR X.w s2.heap b (fun j => decide (j ∈ ns)) c → c ≤ ns.length →
      wpAny (model X.prog X.w) X.A (call (.builtin "sorted") [.ref b]) (EP X pins σ Q) X.xe s2 := by
    intro s2 b c J R hcn
    refine sorted_set R (J.ok.hd hc) (Nat.lt_of_le_of_lt hcn hl) fun s' u out c2 ms k g o hp hgt hi hsm hmem hlen => ?_
    have z : (ms.map V.int).length ≤ sizeLine := by
      rw [List.length_map, hlen, sizeLine_eq]
      omega
    have free : H1 u = none := J.hok.fresh hp
    have J2 : Inv X pins σ (upd H1 u (.lst (ms.map V.int))) { s2 with heap := s'.heap, gens := s'.gens, drawn := s'.drawn, toks := s'.toks } :=
      J.call (ch := []) (Un.laid k hp free) (J.hok.laid k hp ⟨z, out.toList, c2, vals_of_ints hi, hgt⟩) (by rw [g]; exact J.bare) (fun _ z => nomatch z)
    have e : s' = { s2 with heap := s'.heap, gens := s'.gens, drawn := s'.drawn, toks := s'.toks } := by
      cases s'
      cases s2
      cases o
      rfl
    rw [e]
    refine ⟨.ref u, _, J2, rfl, q1 ms u hsm (fun k => ?_) free⟩
    rw [hmem k]
    exact decide_eq_true_iff
  rcases hq with hq | hq
  · obtain ⟨its, r, pl, hz⟩ := I1.list hq
    exact call_set_listR ns (I1.ok.hd hc) pl.isList (by simpa using RZ.intsAre_vals r) (by unfold scanBound; omega) fun h' tk c R hcn keep => PyProof.Rows.args_nil (fin _ _ c (I1.kept keep) R hcn)
  · obtain ⟨its, r, pl, hz⟩ := I1.tuple hq
    exact call_set_tupI ns (I1.ok.hd hc) pl (by simpa using RZ.intsAre_vals r) (by unfold scanBound; omega) fun h' tk c R hcn keep => PyProof.Rows.args_nil (fin _ _ c (I1.kept keep) R hcn)
end
end L2
end
section
set_option Elab.async false
set_option linter.all false
set_option maxRecDepth 100000
namespace WD
open PySem PySem.Spec PyProof.Rows L2 Evl
/-! ### ascending, each once -/
def insU (x : Int) : List Int → List Int
  | [] => [x]
  | y :: ys => if x < y then x :: y :: ys else if x = y then y :: ys else y :: insU x ys
def asc (ns : List Int) : List Int := ns.foldr insU []
theorem mem_insU {x k : Int} : ∀ {ys : List Int}, k ∈ insU x ys ↔ k = x ∨ k ∈ ys
  | [] => by simp [insU]
  | y :: ys => by
    have ih := mem_insU (x := x) (k := k) (ys := ys)
    unfold insU
    split
    · simp
    · split
      · rename_i h
        subst h
        simp
      · rw [List.mem_cons, ih, List.mem_cons]
        constructor
        · rintro (h | h | h)
          · exact .inr (.inl h)
          · exact .inl h
          · exact .inr (.inr h)
        · rintro (h | h | h)
          · exact .inr (.inl h)
          · exact .inl h
          · exact .inr (.inr h)
theorem asc_insU {x : Int} : ∀ {ys : List Int}, ys.Pairwise (· < ·) → (insU x ys).Pairwise (· < ·)
  | [], _ => by simp [insU]
  | y :: ys, h => by
    obtain ⟨h1, h2⟩ := List.pairwise_cons.mp h
    unfold insU
    split
    · rename_i hx
      exact List.pairwise_cons.mpr ⟨fun z hz => by
        rcases List.mem_cons.mp hz with e | e
        · rw [e]; exact hx
        · exact Int.lt_trans hx (h1 z e), h⟩
    · split
      · exact h
      · exact List.pairwise_cons.mpr ⟨fun z hz => by
          rcases mem_insU.mp hz with e | e
          · omega
          · exact h1 z e, asc_insU h2⟩
theorem asc_pw : ∀ ns : List Int, (asc ns).Pairwise (· < ·)
  | [] => .nil
  | x :: xs => asc_insU (asc_pw xs)
theorem mem_asc {k : Int} : ∀ {ns : List Int}, k ∈ asc ns ↔ k ∈ ns
  | [] => Iff.rfl
  | x :: xs => by
    show k ∈ insU x (asc xs) ↔ _
    rw [mem_insU, mem_asc, List.mem_cons]
theorem pw_unique : ∀ {xs ys : List Int}, xs.Pairwise (· < ·) → ys.Pairwise (· < ·) → (∀ k, k ∈ xs ↔ k ∈ ys) → xs = ys
  | [], [], _, _, _ => rfl
  | [], y :: ys, _, _, h => by have := (h y).mpr List.mem_cons_self; cases this
  | x :: xs, [], _, _, h => by have := (h x).mp List.mem_cons_self; cases this
  | x :: xs, y :: ys, h1, h2, h => by
    obtain ⟨a1, a2⟩ := List.pairwise_cons.mp h1
    obtain ⟨b1, b2⟩ := List.pairwise_cons.mp h2
    have e : x = y := by
      rcases List.mem_cons.mp ((h x).mp List.mem_cons_self) with e | e
      · exact e
      · rcases List.mem_cons.mp ((h y).mpr List.mem_cons_self) with e' | e'
        · exact e'.symm
        · have := a1 y e'
          have := b1 x e
          omega
    subst e
    rw [pw_unique a2 b2 fun k => ?_]
    constructor
    · intro hk
      rcases List.mem_cons.mp ((h k).mp (List.mem_cons_of_mem _ hk)) with e | e
      · have := a1 k hk; omega
      · exact e
    · intro hk
      rcases List.mem_cons.mp ((h k).mpr (List.mem_cons_of_mem _ hk)) with e | e
      · have := b1 k hk; omega
      · exact e
theorem asc_id {ns : List Int} (h : ns.Pairwise (· < ·)) : asc ns = ns := pw_unique (asc_pw ns) h fun _ => mem_asc
def iL (ns : List Int) : List D := ns.map .int
variable {K : PySem.W.Frag} {σ : L2.St} {H H' : Hp} {ta tb te tx tc : TE} {t u : TT} {d d1 d2 d3 : D} {ds es : List D}
theorem allIL : ∀ {ns : List Int} {vs : List V}, All K H vs (iL ns) → vs = ns.map V.int
  | [], _, h => by cases h; rfl
  | n :: ns, _, h => by
    cases h with
    | cons a1 a =>
      cases a1
      rw [allIL a] <;> rfl
theorem iLall : ∀ {ns : List Int}, All K H (ns.map V.int) (iL ns)
  | [] => .nil
  | n :: ns => .cons (.int n) iLall
theorem iLlf (ns : List Int) : D.lfs (iL ns) = true := lfs_map _ (fun _ => rfl) ns
theorem iLlen (ns : List Int) : (iL ns).length = ns.length := List.length_map ..
theorem en_sortSet {ns : List Int} (h : EvD K te σ H (.lst (iL ns)) ∨ EvD K te σ H (.tup (iL ns))) (hl : ns.length < 64) : EvN K (tSortSet K te) σ H (iL (asc ns)) := fun H1 e Q q => by
  have fin : ∀ (l : Addr) (H2 : Hp), Ex H1 H2 → (SqL K H2 l (ns.map V.int) ∨ SqT K H2 l (ns.map V.int)) → ∃ (l' : Addr) (ns' : List Int), V.ref l = .ref l' ∧ (SqL K H2 l' (ns'.map V.int) ∨ SqT K H2 l' (ns'.map V.int)) ∧ ns'.length < 64 ∧
      ∀ (ms : List Int) (p : Addr), ms.Pairwise (· < ·) → (∀ k : Int, k ∈ ms ↔ k ∈ ns') → H2 p = none → Q (.ref p) (upd H2 p (.lst (ms.map V.int))) := fun l H2 e2 hq => ⟨l, ns, rfl, hq, hl, fun ms p hs hm hp => by
    have z : ms = asc ns := pw_unique hs (asc_pw ns) fun k => (hm k).trans mem_asc.symm
    subst z
    exact q p _ _ (fresh_back e2 hp) (e2.trans (Ex.new hp)) upd_same iLall⟩
  rcases h with h | h
  · exact h H1 e _ fun v H2 e2 a => by
      cases a with
      | lst r a =>
        rw [allIL a] at r
        exact fin _ H2 e2 (.inl (.inl r))
  · exact h H1 e _ fun v H2 e2 a => by
      cases a with
      | tup r a =>
        rw [allIL a] at r
        exact fin _ H2 e2 (.inr r)
/-! ### chains -/
theorem ed_chain {r r' : R2} {a b : Bool} (ha : EvD K ta σ H d1) (hb : EvD K tb σ H d2) (hr : RD K r d1 d2 H (.bl a)) (hc : a = true → EvD K tc σ H d3) (hr' : a = true → RD K r' d2 d3 H (.bl b)) : EvD K (tChain r r' ta tb tc) σ H (.bl (a && b)) := fun H1 e Q q =>
  ha H1 e _ fun v1 H2 e2 a1 => hb H2 (e.trans e2) _ fun v2 H3 e3 a2 => hr v1 v2 H3 ((e.trans e2).trans e3) (a1.ex e3) a2 _ fun z H4 e4 az => by
    cases az
    refine ⟨a, rfl, ?_⟩
    cases a with
    | true =>
      exact hc rfl H4 (((e.trans e2).trans e3).trans e4) _ fun v3 H5 e5 a3 => hr' rfl v2 v3 H5 ((((e.trans e2).trans e3).trans e4).trans e5) (a2.ex (e4.trans e5)) a3 Q fun v H6 e6 av => q v H6 ((((e2.trans e3).trans e4).trans e5).trans e6) av
    | false => exact q _ H4 ((e2.trans e3).trans e4) (.bl false)
theorem rd_lt {i j : Int} : RD K (rI0 fun i j => .bl (decide (i < j))) (.int i) (.int j) H (.bl (decide (i < j))) := rd_B0 (g := fun i j => decide (i < j))
theorem rd_le {i j : Int} : RD K (rI0 fun i j => .bl (decide (i ≤ j))) (.int i) (.int j) H (.bl (decide (i ≤ j))) := rd_B0 (g := fun i j => decide (i ≤ j))
end WD
end
section
set_option Elab.async false
set_option linter.all false
set_option maxRecDepth 100000
namespace WD
open PySem PySem.Spec PyProof.Rows L2 Evl
variable {K : PySem.W.Frag} {σ : L2.St} {H H' : Hp} {ta tb te tx tc : TE} {t u : TT} {d d1 d2 d3 : D} {ds es : List D}
/-! ### an instance is made -/
/-- what __init__ promises: the new instance at x gets its fields, nothing else that was there is touched -/
def spI (K : PySem.W.Frag) (c : Str) (R : List D → List (Str × D) → Prop) : Sp := fun vs H Q _ => ∃ x dx us ds fs H0, vs = .ref x :: us ∧ H x = some (.ins (He.ga K c) dx []) ∧ H0 x = none ∧ Ex H0 H ∧ All K H0 us ds ∧ R ds fs ∧
  ∀ H' fvs, (∀ a o, a ≠ x → H a = some o → H' a = some o) → H' x = some (.ins (He.ga K c) dx fvs) → AllF K H' fvs fs → Q .non H'
theorem ed_make {c : Str} {R : List D → List (Str × D) → Prop} {E : XK} {tr : TA} {fs : List (Str × D)} (h : EvDA K tr σ H ds) (hR : R ds fs) : EvD K (tMake (He.ga K c) (spI K c R) [] E tr) σ H (.obj c fs) := fun H1 e Q q =>
  h H1 e _ fun vs H2 e2 a x dx hx hdx ne => by
    have e3 : Ex H2 (upd (upd H2 dx (.own x)) x (.ins (He.ga K c) dx [])) := (Ex.new hdx).trans (Ex.new (by
      rw [upd_ne ne.symm]
      exact hx))
    refine ⟨x, dx, vs, ds, fs, H2, by rw [List.append_nil], upd_same, hx, e3, a, hR, fun H' fvs keep hx' af => ⟨rfl, q _ H' ?_ (.obj hx' af)⟩⟩
    exact e2.trans fun b o hb => keep b o (ne_of_none hb hx) (e3 b o hb)
/-- but for the object at x, all stays -/
def Xe (x : Addr) (H H' : Hp) : Prop := ∀ a o, a ≠ x → H a = some o → H' a = some o
theorem Xe.refl (x : Addr) (H : Hp) : Xe x H H := fun _ _ _ h => h
theorem Xe.trans {x : Addr} {H1 H2 : Hp} (a : Xe x H H1) (b : Xe x H1 H2) : Xe x H H2 := fun c o n h => b c o n (a c o n h)
theorem Xe.ex {x : Addr} (e : Ex H H') : Xe x H H' := fun a o _ h => e a o h
theorem Xe.upd {x : Addr} {o : HO} : Xe x H (L2.upd H x o) := fun a u n h => by
  rw [upd_ne n]
  exact h
theorem Xe.of_none {x : Addr} {H0 : Hp} (e : Ex H0 H) (m : Xe x H H') (n : H0 x = none) : Ex H0 H' := fun a o h => m a o (ne_of_none h n) (e a o h)
/-- self.f = e -/
theorem q_fld {D : Ends} {tz : TS} {f : Str} {x C dx : Addr} {fvs : List (Str × V)} (hx : H x = some (.ins C dx fvs)) (h : EvD K te σ H d) (ho : Ev ta σ H (.ref x)) (hc : Cls K C) (hn : NoAttr K C f) (hl : fvs.length < 1000)
    (k : ∀ v H1, Ex H H1 → Is K H1 v d → tz D σ (upd H1 x (.ins C dx (putF f v fvs)))) : tSeq (sFld K ta te f) tz D σ H :=
  h H (Ex.refl H) _ fun v H1 e1 a => ho H1 e1 _ fun H2 e2 => ⟨x, C, dx, fvs, rfl, (e1.trans e2) _ _ hx, hc, hn, hl, k v H2 (e1.trans e2) (a.ex e2)⟩
theorem s_fld {D : Ends} {f : Str} {x C dx : Addr} {fvs : List (Str × V)} (hx : H x = some (.ins C dx fvs)) (h : EvD K te σ H d) (ho : Ev ta σ H (.ref x)) (hc : Cls K C) (hn : NoAttr K C f) (hl : fvs.length < 1000)
    (k : ∀ v H1, Ex H H1 → Is K H1 v d → D.nx σ (upd H1 x (.ins C dx (putF f v fvs)))) : sFld K ta te f D σ H :=
  h H (Ex.refl H) _ fun v H1 e1 a => ho H1 e1 _ fun H2 e2 => ⟨x, C, dx, fvs, rfl, (e1.trans e2) _ _ hx, hc, hn, hl, k v H2 (e1.trans e2) (a.ex e2)⟩
theorem ev_ref {i : Nat} {x : Addr} (h : σ[i]? = some (some (.ref x))) : Ev (tVar i) σ H (.ref x) := ev_var h
/-- a call whose answer is let go -/
theorem q_do {D : Ends} {tz : TS} (h : EvD K te σ H d) (k : ∀ H1, Ex H H1 → tz D σ H1) : tSeq (tDrop te) tz D σ H := h H (Ex.refl H) _ fun _ H1 e _ => k H1 e
/-! ### loops that only look -/
theorem q_look {wi : TI} {g : TG} {n : Nat} {item : Nat → WD.D} {D : Ends} {tw tz : TS} {W : L2.St → Prop} (hI : EvI K wi σ [] H n item) (h0 : W σ)
    (hs : ∀ i x σ' H' H'', i < n → W σ' → Ex H H' → Ex H' H'' → Is K H'' x (item i) → ∀ Nx : L2.St → Hp → Prop, (∀ σ3 H3, W σ3 → Ex H'' H3 → Nx σ3 H3) → g x σ' H'' fun σ2 H2 => tw { D with nx := Nx, ct := Nx, bk := tz D } σ2 H2)
    (hd : ∀ σ' H', W σ' → Ex H H' → tz D σ' H') : tSeq (tFor wi g tw) tz D σ H :=
  q_for hI (fun _ σ' H' => W σ' ∧ Ex H H') (fun H1 e => ⟨h0, e⟩) (fun i x σ' H' H'' hi p e a => hs i x σ' H' H'' hi p.1 p.2 e a _ fun σ3 H3 w e3 => ⟨⟨w, (p.2.trans e).trans e3⟩, Mu.ex (e.trans e3)⟩) (fun σ' H' p => hd σ' H' p.1 p.2)
theorem s_look {wi : TI} {g : TG} {n : Nat} {item : Nat → WD.D} {D : Ends} {tw : TS} {W : L2.St → Prop} (hI : EvI K wi σ [] H n item) (h0 : W σ)
    (hs : ∀ i x σ' H' H'', i < n → W σ' → Ex H H' → Ex H' H'' → Is K H'' x (item i) → ∀ Nx : L2.St → Hp → Prop, (∀ σ3 H3, W σ3 → Ex H'' H3 → Nx σ3 H3) → g x σ' H'' fun σ2 H2 => tw { D with nx := Nx, ct := Nx, bk := D.nx } σ2 H2)
    (hd : ∀ σ' H', W σ' → Ex H H' → D.nx σ' H') : tFor wi g tw D σ H :=
  s_for hI (fun _ σ' H' => W σ' ∧ Ex H H') (fun H1 e => ⟨h0, e⟩) (fun i x σ' H' H'' hi p e a => hs i x σ' H' H'' hi p.1 p.2 e a _ fun σ3 H3 w e3 => ⟨⟨w, (p.2.trans e).trans e3⟩, Mu.ex (e.trans e3)⟩) (fun σ' H' p => hd σ' H' p.1 p.2)
def frs (qs : List Rat) : List D := qs.map fr
theorem frs_lf (qs : List Rat) : D.lfs (frs qs) = true := lfs_map _ (fun _ => rfl) qs
theorem frs_len (qs : List Rat) : (frs qs).length = qs.length := List.length_map ..
theorem getD_map {α : Type} (f : α → D) (xs : List α) (i : Nat) (h : i < xs.length) : (xs.map f).getD i .non = f xs[i] := by
  rw [List.getD_eq_getElem?_getD, List.getElem?_map, List.getElem?_eq_getElem h] <;> rfl
theorem map_gives {α : Type} (f : α → D) (xs : List α) (v : Nat → D) (h : ∀ i (hi : i < xs.length), v i = f xs[i]) : gives xs.length (fun _ => true) v = xs.map f := by
  rw [gives_all]
  refine List.ext_getElem? fun i => ?_
  rw [List.getElem?_map, List.getElem?_map]
  by_cases hi : i < xs.length
  · rw [List.getElem?_range hi, List.getElem?_eq_getElem hi]
    exact congrArg some (h i hi)
  · rw [List.getElem?_eq_none (by rw [List.length_range]; omega), List.getElem?_eq_none (by omega)] <;> rfl
/-! ### the row as data -/
def rowF (A : List Int) (v : List Rat) (L : List Int) : List (Str × D) := [("areas", .tup (iL A)), ("volumes", .tup (frs v)), ("locks", .tup (iL L))]
def rowD (A : List Int) (v : List Rat) (L : List Int) : D := .obj "Row" (rowF A v L)
end WD
end
section
set_option Elab.async false
set_option linter.all false
set_option maxRecDepth 100000
namespace WD
open PySem PySem.Spec PyProof.Rows L2 Evl
/-! ### defs with defaults -/
structure FnH (P : Program) (w : World) (K : PySem.W.Frag) (mg : Str → Option Value) (base : Heap) (k : Nat) (f : Addr) (ps : List Str) (sp : Sp) (dvs : List V) : Prop where
  ex : ∃ fd ds, FnOk P w K mg base (L2.CX P w) k f fd ps sp ∧ Vals dvs ds ∧ Binds K fd ps ds
  kp : PySem.W.keepIn K (.ref f) = true
section
variable {X : Cx} {k : Nat} {f : Addr} {ps : List Str} {sp : Sp} {x : Str} {p pos apos : Pos} {e o : Expr} {es : List Expr} {t : TA} {ta : TE} {C : Addr} {m : Str} {dvs : List V}
theorem pe_callH (F : FnH X.prog X.w X.K X.mg X.base k f ps sp dvs) (hr : Room k X.A) (hg : Gl X x) (hm : X.mg x = some (.ref f)) (ha : PA X (e :: es) t)
    (hdb : (x == ("__debug__" : Str)) = false := by decide) (hst : starEach (e :: es) X.env = (false, eval e X.env) :: starEach es X.env := by rfl) (hpl : (backTo pos (starEach es X.env)).any (·.1) = false := by rfl) :
    PE X (.Call (.Name x p) (e :: es) [] pos) (tCall sp dvs E0 t) := by
  obtain ⟨⟨fd, ds, F, v, B⟩, kp⟩ := F
  exact pe_call F hr hg hm kp B v passL ha (hdb := hdb) (he := hst) (hpl := hpl)
theorem pe_methH {pl : Sem Bool} (he : PE X o ta) (c : Cls X.K C) (hm : Meth X.K C m f) (F : FnH X.prog X.w X.K X.mg X.base k f ps sp dvs) (hr : Room k X.A) (ha : PA X (e :: es) t)
    (hst : starEach (e :: es) X.env = (false, eval e X.env) :: starEach es X.env := by rfl) (hpl : (backTo pos (starEach es X.env)).any (·.1) = false := by rfl)
    (ht : eval (.Call (.Attribute o m apos) (e :: es) [] pos) X.env = (do
      let ov ← eval o X.env
      standAt apos.atName
      let (f, first) ← holding [ov] (getMethod ov m pl)
      callWith pos f first (backTo pos (starEach (e :: es) X.env)) (backToKw pos (keywordEach [] X.env))) := by rfl) :
    PE X (.Call (.Attribute o m apos) (e :: es) [] pos) (tMeth C m sp dvs E0 ta t) := by
  obtain ⟨⟨fd, ds, F, v, B⟩, kp⟩ := F
  exact pe_meth he c hm F hr B v passL ha hst hpl ht
theorem pe_makeH (M : Mk X.K C f) (F : FnH X.prog X.w X.K X.mg X.base k f ps sp dvs) (hr : Room (k + 1) X.A) (hg : Gl X x) (hm : X.mg x = some (.ref C)) (ha : PA X (e :: es) t)
    (hdb : (x == ("__debug__" : Str)) = false := by decide) (hst : starEach (e :: es) X.env = (false, eval e X.env) :: starEach es X.env := by rfl) (hpl : (backTo pos (starEach es X.env)).any (·.1) = false := by rfl) :
    PE X (.Call (.Name x p) (e :: es) [] pos) (tMake C sp dvs E0 t) := by
  obtain ⟨⟨fd, ds, F, v, B⟩, kp⟩ := F
  exact pe_make M F hr hg hm B v passL ha (hdb := hdb) (he := hst) (hpl := hpl)
end
section
variable {P : Program} {w : World} {K : PySem.W.Frag} {mg : Str → Option Value} {base : Heap}
/-- a def of defaults dvs; n values are written, the defaults behind the first j fill up -/
theorem fnH {x qual : Str} {st : Stmt} {f : Addr} {N ps : List Str} {k : Nat} {sp : Sp} {dvs : List V} (n j : Nat) (F : ∃ fd, FunD K x qual (defArgs st) (defBody st) (defScope st) dvs [] f fd) (S : FnScope N ps (defScope st)) (len : ∀ vs H Q E, sp vs H Q E → vs.length = ps.length)
    (hd : dvs ≠ []) (hn : n + (dvs.length - j) = ps.length)
    (hb : ∀ (T : Addr) (kV doc pm : Value) (an : Option Addr) (cdv ct : Value) (us its : List Value), us.length = n → its.length = dvs.length →
      ∃ k, bindArgs (PySem.W.fnOf x qual (defArgs st) (defBody st) (defScope st) (.ref T) kV doc pm an cdv ct) ⟨us, []⟩ = seqItems? (.ref T) >>= k ∧ k (some its.toArray) = pure (ps.zip (us ++ its.drop j)))
    (hbody : ∀ (cdv : Value) (A : Around) (outer : List Env) (s : Shared) (H : Hp) (vs : List V) (Q : VK) (E : XK), Room k (A.deeper (envOfC qual (defScope st) s.heap.objs.size f cdv)) → sp vs H Q E →
      ∃ t, PSs (cxOf (L2.CX P w) P w K mg base N qual (defScope st) f cdv A outer s H E).nox (defBody st) t ∧ t { nx := fun _ H' => Q .non H', rt := Q } (start N vs) H) : FnH P w K mg base (k + 1) f ps sp (dvs.drop j) := by
  obtain ⟨fd, F⟩ := F
  obtain ⟨ds, v, B⟩ := F.binds1 n j hd hn hb
  exact ⟨⟨fd, ds, F.ok S len (fun cdv A outer s H vs Q E hr h => let ⟨t, h1, h2⟩ := hbody cdv A outer s H vs Q E hr h; ⟨t, h1.nox, h2⟩), v, B⟩, F.kp⟩
end
/-! ### a tuple that stands at the top -/
def tupA (K : PySem.W.Frag) (a : Addr) (vs : List V) : Bool := match K.lookup a with
  | some ⟨.type c, _, .seq its _, _⟩ => decide (c = "tuple") && (decide (its.size ≤ sizeLine) && He.relAll vs its.toList)
  | _ => false
theorem tupA_ok {K : PySem.W.Frag} {a : Addr} {vs : List V} (h : tupA K a vs = true) (H : Hp) : SqT K H a vs := by
  unfold tupA at h
  split at h
  · rename_i c _ its n _ q
    obtain ⟨h1, h2⟩ := Bool.and_eq_true_iff.mp h
    obtain ⟨h3, h4⟩ := Bool.and_eq_true_iff.mp h2
    exact .inr ⟨_, its, n, q, congrArg Value.type (of_decide_eq_true h1), rfl, of_decide_eq_true h3, He.relAll_ok h4⟩
  · cases h
theorem ed_makeH {K : PySem.W.Frag} {σ : L2.St} {H : Hp} {ds es : List D} {dvs : List V} {c : Str} {R : List D → List (Str × D) → Prop} {E : XK} {tr : TA} {fs : List (Str × D)} (h : EvDA K tr σ H ds) (hd : ∀ H, All K H dvs es) (hR : R (ds ++ es) fs) : EvD K (tMake (He.ga K c) (spI K c R) dvs E tr) σ H (.obj c fs) := fun H1 e Q q =>
  h H1 e _ fun vs H2 e2 a x dx hx hdx ne => by
    have e3 : Ex H2 (upd (upd H2 dx (.own x)) x (.ins (He.ga K c) dx [])) := (Ex.new hdx).trans (Ex.new (by
      rw [upd_ne ne.symm]
      exact hx))
    refine ⟨x, dx, vs ++ dvs, ds ++ es, fs, H2, rfl, upd_same, hx, e3, a.app (hd H2), hR, fun H' fvs keep hx' af => ⟨rfl, q _ H' ?_ (.obj hx' af)⟩⟩
    exact e2.trans fun b o hb => keep b o (ne_of_none hb hx) (e3 b o hb)
theorem ed_methH {K : PySem.W.Frag} {σ : L2.St} {H : Hp} {te : TE} {ds es : List D} {d : D} {dvs : List V} {R : List D → D → Prop} {E : XK} {m c : Str} {fs : List (Str × D)} {tr : TA} (h : EvD K te σ H (.obj c fs)) (hl : fs.lookup m = none) (hr : EvDA K tr σ H ds) (hd : ∀ H, All K H dvs es) (hR : R (.obj c fs :: (ds ++ es)) d) :
    EvD K (tMeth (He.ga K c) m (spD K R) dvs E te tr) σ H d := fun H1 e Q q =>
  h H1 e _ fun v H2 e2 a => by
    cases a with
    | obj ho af =>
      refine ⟨_, _, _, rfl, ho, AllF.none af hl, hr H2 (e.trans e2) _ fun vs H3 e3 b => ⟨_, _, .cons (.obj (e3 _ _ ho) (af.ex e3)) (b.app (hd H3)), hR, fun v H4 e4 c => q v H4 ((e2.trans e3).trans e4) c⟩⟩
end WD
end
section
set_option Elab.async false
set_option linter.all false
set_option maxRecDepth 100000
namespace WD
open PySem PySem.Spec PyProof.Rows L2 Evl
section
variable {X : Cx} {k : Nat} {f C : Addr} {ps : List Str} {sp : Sp}
theorem inO_of (F : FnG X.prog X.w X.K X.mg X.base k f ps sp) (hm : Meth X.K C "__contains__" f) (hr : Room k X.A) : OpR X (compareOp .In) (rInO C sp E0 false) := by
  obtain ⟨⟨fd, F, B⟩, kp⟩ := F
  exact op_inO F hm.at_ hm.fn B passL hr
theorem notInO_of (F : FnG X.prog X.w X.K X.mg X.base k f ps sp) (hm : Meth X.K C "__contains__" f) (hr : Room k X.A) : OpR X (compareOp .NotIn) (rInO C sp E0 true) := by
  obtain ⟨⟨fd, F, B⟩, kp⟩ := F
  exact op_notInO F hm.at_ hm.fn B passL hr
theorem lenO_of (F : FnG X.prog X.w X.K X.mg X.base k f ps sp) (hm : Meth X.K C "__len__" f) (hr : Room (k + 1) X.A) : CallR X (.builtin "len") (rLenO C sp E0) := by
  obtain ⟨⟨fd, F, B⟩, kp⟩ := F
  exact call_lenO F hm.at_ hm.fn B passL hr
theorem eqO_of (F : FnG X.prog X.w X.K X.mg X.base k f ps sp) (hm : Meth X.K C "__eq__" f) (hr : Room k X.A) : OpR X (compareOp .Eq) (rEqO X.K C sp E0) := by
  obtain ⟨⟨fd, F, B⟩, kp⟩ := F
  exact op_eqO F hm.at_ hm.fn B passL hr
theorem neO_of (F : FnG X.prog X.w X.K X.mg X.base k f ps sp) (hm : Meth X.K C "__eq__" f) (hn : PySem.W.findIn X.K (.ref C) "__ne__" = some (some (.builtin "object.__ne__"))) (ho : PySem.W.mroIn X.K C (.type "object") = some true) (hr : Room (k + 1) X.A) : OpR X (compareOp .NotEq) (rNeO X.K C sp E0) := by
  obtain ⟨⟨fd, F, B⟩, kp⟩ := F
  exact op_neO F hm.at_ hm.fn hn ho B passL hr
theorem truO_of {e : Expr} {ta : TE} (F : FnG X.prog X.w X.K X.mg X.base k f ps sp) (hm : Meth X.K C "__bool__" f) (hr : Room k X.A) (ha : PE X e ta) (he : ∀ whole, isTrue e X.env whole = (do let v ← whole; standAt e.pos; holding [v] (truthy v)) := by intro _; rfl) : PT X e (tTruO C sp E0 ta) := by
  obtain ⟨⟨fd, F, B⟩, kp⟩ := F
  exact pt_truO F hm.at_ hm.fn B passL hr ha he
end
variable {K : PySem.W.Frag} {σ : L2.St} {H H' : Hp} {ta tb te tx tc : TE} {t u : TT} {d d1 d2 d3 : D} {ds es : List D}
theorem ed_inO {c : Str} {R : List D → D → Prop} {E : XK} {fs : List (Str × D)} {b neg : Bool} (ha : EvD K ta σ H d) (hb : EvD K tb σ H (.obj c fs)) (hR : R [.obj c fs, d] (.bl b)) : EvD K (tOp (rInO (He.ga K c) (spD K R) E neg) ta tb) σ H (.bl (if neg then !b else b)) := ed_op ha hb fun v1 v2 H1 _ a1 a2 Q q => by
  cases a2 with
  | obj ho af => exact ⟨_, _, _, rfl, ho, [.obj c fs, d], .bl b, .cons (.obj ho af) (.cons a1 .nil), hR, fun v H' e i => by cases i; exact ⟨b, rfl, q _ H' e (.bl _)⟩⟩
theorem ed_lenO {c : Str} {R : List D → D → Prop} {E : XK} {fs : List (Str × D)} {n : Int} (h : EvD K te σ H (.obj c fs)) (hR : R [.obj c fs] (.int n)) (hn : 0 ≤ n ∧ n < 2 ^ 63) : EvD K (tCB (rLenO (He.ga K c) (spD K R) E) (tCons te tNil)) σ H (.int n) := fun H1 e Q q =>
  h H1 e _ fun v H2 e2 a => by
    cases a with
    | obj ho af => exact ⟨_, _, _, rfl, ho, [.obj c fs], .int n, .cons (.obj ho af) .nil, hR, fun v H' e3 i => by cases i; exact ⟨n, rfl, hn, q _ H' (e2.trans e3) (.int _)⟩⟩
theorem ed_eqO {c : Str} {R : List D → D → Prop} {E : XK} {fs gs : List (Str × D)} {b : Bool} (ha : EvD K ta σ H (.obj c fs)) (hb : EvD K tb σ H (.obj c gs)) (hR : R [.obj c fs, .obj c gs] (.bl b)) : EvD K (tOp (rEqO K (He.ga K c) (spD K R) E) ta tb) σ H (.bl b) := ed_op ha hb fun v1 v2 H1 _ a1 a2 Q q => by
  cases a1 with
  | obj h1 f1 =>
    cases a2 with
    | obj h2 f2 => exact ⟨_, _, _, _, _, _, rfl, rfl, h1, h2, _, .bl b, .cons (.obj h1 f1) (.cons (.obj h2 f2) .nil), hR, fun v H' e i => by cases i; exact ⟨b, rfl, q _ H' e (.bl _)⟩⟩
theorem ed_neO {c : Str} {R : List D → D → Prop} {E : XK} {fs gs : List (Str × D)} {b : Bool} (ha : EvD K ta σ H (.obj c fs)) (hb : EvD K tb σ H (.obj c gs)) (hR : R [.obj c fs, .obj c gs] (.bl b)) : EvD K (tOp (rNeO K (He.ga K c) (spD K R) E) ta tb) σ H (.bl (!b)) := ed_op ha hb fun v1 v2 H1 _ a1 a2 Q q => by
  cases a1 with
  | obj h1 f1 =>
    cases a2 with
    | obj h2 f2 => exact ⟨_, _, _, _, _, _, rfl, rfl, h1, h2, _, .bl b, .cons (.obj h1 f1) (.cons (.obj h2 f2) .nil), hR, fun v H' e i => by cases i; exact ⟨b, rfl, q _ H' e (.bl _)⟩⟩
theorem et_truO {c : Str} {R : List D → D → Prop} {E : XK} {fs : List (Str × D)} {b : Bool} (h : EvD K te σ H (.obj c fs)) (hR : R [.obj c fs] (.bl b)) : EvT (tTruO (He.ga K c) (spD K R) E te) σ H b := fun H1 e Q q =>
  h H1 e _ fun v H2 e2 a => by
    cases a with
    | obj ho af => exact ⟨_, _, _, rfl, ho, [.obj c fs], .bl b, .cons (.obj ho af) .nil, hR, fun v H' e3 i => by cases i; exact ⟨b, rfl, q H' (e2.trans e3)⟩⟩
/-! ### a new object, to be changed -/
def EvO' (K : PySem.W.Frag) (te : TE) (σ : L2.St) (H : Hp) (c : Str) (fs : List (Str × D)) : Prop := ∀ H1, Ex H H1 → ∀ Q : VK, (∀ x dx fvs H2, H1 x = none → Ex H1 H2 → H2 x = some (.ins (He.ga K c) dx fvs) → AllF K H2 fvs fs → Q (.ref x) H2) → te σ H1 Q
theorem eo_make {c : Str} {R : List D → List (Str × D) → Prop} {E : XK} {tr : TA} {fs : List (Str × D)} {dvs : List V} (h : EvDA K tr σ H ds) (hd : ∀ H, All K H dvs es) (hR : R (ds ++ es) fs) : EvO' K (tMake (He.ga K c) (spI K c R) dvs E tr) σ H c fs := fun H1 e Q q =>
  h H1 e _ fun vs H2 e2 a x dx hx hdx ne => by
    have e3 : Ex H2 (upd (upd H2 dx (.own x)) x (.ins (He.ga K c) dx [])) := (Ex.new hdx).trans (Ex.new (by
      rw [upd_ne ne.symm]
      exact hx))
    refine ⟨x, dx, vs ++ dvs, ds ++ es, fs, H2, rfl, upd_same, hx, e3, a.app (hd H2), hR, fun H' fvs keep hx' af => ⟨rfl, q _ _ _ H' (fresh_back e2 hx) ?_ hx' af⟩⟩
    exact e2.trans fun b o hb => keep b o (ne_of_none hb hx) (e3 b o hb)
theorem q_asgO {D : Ends} {tz : TS} {i : Nat} {c : Str} {fs : List (Str × WD.D)} (h : EvO' K te σ H c fs) (k : ∀ x dx fvs H1, H x = none → Ex H H1 → H1 x = some (.ins (He.ga K c) dx fvs) → AllF K H1 fvs fs → tz D (σ.set i (some (.ref x))) H1) : tSeq (tAsg te (gName i)) tz D σ H := h H (Ex.refl H) _ k
/-- tuples sliced: any slice that leaves something out -/
theorem ed_slT {tl th : TO} {lo hi : Option Int} (h : EvD K te σ H (.tup ds)) (h1 : EvO tl σ H lo) (h2 : EvO th σ H hi) (hw : ¬ (HT.sIx ds.length 0 lo = 0 ∧ HT.sIx ds.length ds.length hi = ds.length)) : EvD K (tSl (rSlT K) te tl th) σ H (.tup (cutD ds lo hi)) := fun H1 e _ q =>
  h H1 e _ fun v H2 e2 a => by
    cases a with
    | tup hs a =>
      exact h1 H2 (e.trans e2) _ fun H3 e3 => h2 H3 ((e.trans e2).trans e3) _ fun H4 e4 =>
        ⟨_, _, rfl, ex_t (e3.trans e4) hs, by rw [a.len]; exact hw, fun p hp => q _ _ (((e2.trans e3).trans e4).trans (Ex.new hp)) (.tup (st_of upd_same) (cutA (a.ex ((e3.trans e4).trans (Ex.new hp)))))⟩
theorem sIx_some (n : Nat) (k : Nat) : HT.sIx n 0 (some (k : Int)) = min k n := HT.sIx_nat n 0 k
theorem sIx_someH (n : Nat) (k : Nat) : HT.sIx n n (some (k : Int)) = min k n := HT.sIx_nat n n k
theorem cut_to (xs : List D) (k : Nat) : cutD xs none (some (k : Int)) = xs.take k := by
  unfold cutD
  rw [sIx_someH, HT.sIx_none, Nat.sub_zero, List.drop_zero]
  by_cases h : k ≤ xs.length
  · rw [Nat.min_eq_left h]
  · rw [Nat.min_eq_right (by omega), List.take_of_length_le (Nat.le_refl _), List.take_of_length_le (by omega)]
theorem cut_from (xs : List D) (k : Nat) : cutD xs (some (k : Int)) none = xs.drop k := by
  unfold cutD
  rw [sIx_some, HT.sIx_none]
  by_cases h : k ≤ xs.length
  · rw [Nat.min_eq_left h, List.take_of_length_le (by rw [List.length_drop]; exact Nat.le_refl _)]
  · rw [Nat.min_eq_right (by omega), Nat.sub_self, List.drop_eq_nil_of_le (Nat.le_refl _), List.drop_eq_nil_of_le (by omega)] <;> rfl
end WD
end
section
set_option Elab.async false
set_option linter.all false
set_option maxRecDepth 100000
namespace WD
open PySem PySem.Spec PyProof.Rows L2 Evl
variable {K : PySem.W.Frag} {σ : L2.St} {H H' H0 H1 : Hp} {ta tb te tx tc : TE} {d d1 d2 d3 : D} {ds es : List D}
theorem ed_catA (ha : EvD K ta σ H (.tup ds)) (hb : EvD K tb σ H (.tup es)) (hl : ds.length + es.length ≤ 100000) : EvD K (tOp (rCatA K) ta tb) σ H (.tup (ds ++ es)) := ed_op ha hb fun v1 v2 H1 _ a1 a2 Q q => by
  cases a1 with
  | tup s1 a1 =>
    cases a2 with
    | tup s2 a2 =>
      refine ⟨_, _, _, _, rfl, rfl, s1, s2, sz_of (by rw [a1.len, a2.len]; exact hl), ?_, ?_, ?_⟩
      · intro z
        subst z
        cases a1
        exact q _ _ (Ex.refl _) (.tup s2 a2)
      · intro _ z
        subst z
        cases a2
        rw [List.append_nil] at q
        exact q _ _ (Ex.refl _) (.tup s1 a1)
      · intro _ _ p hp
        exact q _ _ (Ex.new hp) (.tup (st_of upd_same) ((a1.ex (Ex.new hp)).app (a2.ex (Ex.new hp))))
theorem ed_slA {tl th : TO} {lo hi : Option Int} (h : EvD K te σ H (.tup ds)) (h1 : EvO tl σ H lo) (h2 : EvO th σ H hi) : EvD K (tSl (rSlA K) te tl th) σ H (.tup (cutD ds lo hi)) := fun H1 e _ q =>
  h H1 e _ fun v H2 e2 a => by
    cases a with
    | tup hs a =>
      refine h1 H2 (e.trans e2) _ fun H3 e3 => h2 H3 ((e.trans e2).trans e3) _ fun H4 e4 => ⟨_, _, rfl, ex_t (e3.trans e4) hs, ?_, ?_⟩
      · intro hw
        rw [a.len] at hw
        refine q _ _ ((e2.trans e3).trans e4) ?_
        have z : cutD ds lo hi = ds := by
          unfold cutD
          rw [hw.1, hw.2, List.drop_zero, Nat.sub_zero, List.take_length]
        rw [z]
        exact .tup (ex_t (e3.trans e4) hs) (a.ex (e3.trans e4))
      · intro _ p hp
        exact q _ _ (((e2.trans e3).trans e4).trans (Ex.new hp)) (.tup (st_of upd_same) (cutA (a.ex ((e3.trans e4).trans (Ex.new hp)))))
theorem Ex.updN {p : Addr} {o : HO} (e : Ex H0 H) (n : H0 p = none) : Ex H0 (upd H p o) := fun a u h => by
  rw [upd_ne (ne_of_none h n)]
  exact e a u h
theorem gtL {p : Addr} {xs : List V} {o : HO} (h : H p = some (.lst xs)) : Gt H (upd H p o) := Gt.upd h (fun _ z => by cases z) (fun _ _ z => by cases z)
theorem Is.updL {p : Addr} {xs : List V} {o : HO} {v : V} (a : Is K H v d) (h : H p = some (.lst xs)) (l : d.lf = true) : Is K (upd H p o) v d := a.gt (gtL h) l
theorem All.updL {p : Addr} {xs ys : List V} {o : HO} (a : All K H ys ds) (h : H p = some (.lst xs)) (l : D.lfs ds = true) : All K (upd H p o) ys ds := a.gt (gtL h) l
/-- what stands in the first ones -/
def S (v : List Rat) (j : Nat) : Rat := (v.take j).foldl (· + ·) 0
theorem S_zero (v : List Rat) : S v 0 = 0 := rfl
theorem S_succ (v : List Rat) (j : Nat) (h : j < v.length) : S v (j + 1) = S v j + v[j] := by
  unfold S
  rw [List.take_succ_eq_append_getElem h, List.foldl_append]
  rfl
theorem getD_frs (v : List Rat) (i : Nat) (h : i < v.length) : (frs v).getD i .non = fr v[i] := getD_map fr v i h
/-- a loop that puts things behind a list of its own, one each time -/
theorem q_grow {wi : TI} {g : TG} {tw tz : TS} {En : Ends} {n : Nat} {item f : Nat → WD.D} {W : L2.St → Prop} {p : Addr} {xs : List V} {es : List WD.D} (hp0 : H0 p = none) (e0 : Ex H0 H) (hp : H p = some (.lst xs)) (ax : All K H xs es) (hf : D.lfs es = true) (hF : ∀ i, i < n → (f i).lf = true) (hz : es.length + n < 100000)
    (hI : EvI K wi σ [p] H n item) (h0 : W σ)
    (hs : ∀ i x σ' H' ys, i < n → W σ' → Ex H0 H' → H' p = some (.lst ys) → All K H' ys (es ++ (List.range i).map f) → ys.length < 100000 → Is K H' x (item i) → ∀ Nx : L2.St → Hp → Prop,
      (∀ σ3 H3 v, W σ3 → Ex H' H3 → Is K H3 v (f i) → Nx σ3 (upd H3 p (.lst (ys ++ [v])))) → g x σ' H' fun σ2 H2 => tw { En with nx := Nx, ct := Nx, bk := tz En } σ2 H2)
    (hd : ∀ σ' H' ys, W σ' → Ex H0 H' → H' p = some (.lst ys) → All K H' ys (es ++ (List.range n).map f) → tz En σ' H') : tSeq (tFor wi g tw) tz En σ H := by
  have lfi : ∀ i, i ≤ n → D.lfs (es ++ (List.range i).map f) = true := fun i hi => lfs_app hf (by
    induction i with
    | zero => rfl
    | succ i ih =>
      rw [List.range_succ, List.map_append]
      refine lfs_app (ih (by omega)) ?_
      show ((f i).lf && true) = true
      rw [hF i (by omega)]
      rfl)
  refine q_for hI (fun i σ' H' => W σ' ∧ Ex H0 H' ∧ ∃ ys, H' p = some (.lst ys) ∧ All K H' ys (es ++ (List.range i).map f)) (fun H1 e => ⟨h0, e0.trans e, xs, e _ _ hp, by
    rw [List.range_zero, List.map_nil, List.append_nil]
    exact ax.ex e⟩) ?_ (fun σ' H' ⟨w, e, ys, hy, ay⟩ => hd σ' H' ys w e hy ay)
  rintro i x σ' H' H'' hi ⟨w, e, ys, hy, ay⟩ e2 a
  refine hs i x σ' H'' ys hi w (e.trans e2) (e2 _ _ hy) (ay.ex e2) ?_ a _ ?_
  · rw [ay.len, List.length_append, List.length_map, List.length_range]
    omega
  · intro σ3 H3 v w3 e3 av
    have hy3 := (e2.trans e3) _ _ hy
    refine ⟨⟨w3, Ex.updN ((e.trans e2).trans e3) hp0, _, upd_same, ?_⟩, (Mu.ex (e2.trans e3)).trans (Mu.upd (List.mem_singleton.mpr rfl) hy3)⟩
    rw [List.range_succ, List.map_append, ← List.append_assoc]
    exact All.app ((ay.ex (e2.trans e3)).updL hy3 (lfi i (by omega))) (.cons (av.updL hy3 (hF i hi)) .nil)
theorem EvI.is {wi : TI} {σ : L2.St} {L : List Addr} {H : Hp} {n m : Nat} {item : Nat → D} (h : EvI K wi σ L H n item) (q : n = m) : EvI K wi σ L H m item := q ▸ h
theorem ix_last (ds : List D) (d : D) : atI (ds ++ [d]) (-1) = some d := by
  unfold atI
  rw [show ixN (ds ++ [d]).length (-1) = some ds.length from by
    unfold ixN
    rw [List.length_append, if_neg (by decide), if_pos (by simp; omega)]
    congr 1
    simp
    omega]
  simp
end WD
end
section
set_option Elab.async false
set_option linter.all false
set_option maxRecDepth 100000
namespace WD
open PySem PySem.Spec PyProof.Rows L2 Evl
variable {X : Cx} {K : PySem.W.Frag}
/-! the same with the frozen part named: for what stands within a comprehension -/
theorem notInK (h : X.K = K) : OpR X (compareOp .NotIn) (rIn K true) := h ▸ op_notIn_seq
theorem inK (h : X.K = K) : OpR X (compareOp .In) (rIn K false) := h ▸ op_in_seq
theorem ixTK (h : X.K = K) : IxR X (rIxT K) := h ▸ ix_tup
theorem ixLK (h : X.K = K) : IxR X (rIxL K) := h ▸ ix_list
theorem slLK (h : X.K = K) : SlR X (rSlL K) := h ▸ sl_list
theorem slAK (h : X.K = K) : SlR X (rSlA K) := h ▸ sl_tupA
theorem catAK (h : X.K = K) : OpR X (binaryOp .Add) (rCatA K) := h ▸ op_catA
theorem lenK (h : X.K = K) : CallR X (.builtin "len") (rLenS K) := h ▸ call_lenS
theorem isiK (h : X.K = K) : CallR X (.builtin "isinstance") (rIsi K) := h ▸ call_isi
theorem eqDK (h : X.K = K) (hu : X.A.units + 64 < cLine) : OpR X (compareOp .Eq) (rEqD K) := h ▸ op_eqD hu
theorem neDK (h : X.K = K) (hu : X.A.units + 64 < cLine) : OpR X (compareOp .NotEq) (rNeD K) := h ▸ op_neD hu
theorem fldK {e : Expr} {ta : TE} {f : Str} {pos : Pos} (h : X.K = K) (he : PE X e ta) (hb : attributeBase e f X.env (eval e X.env) = eval e X.env) : PE X (.Attribute e f pos) (tFld K ta f) := h ▸ pe_fld he hb
end WD
end
section
set_option Elab.async false
set_option linter.all false
set_option maxRecDepth 100000
namespace WD
/-! small fractions -/
theorem smMk {k : Nat} {n : Int} {b : Nat} (h0 : b ≠ 0) (hn : n.natAbs < 2 ^ k) (hb : b < 2 ^ k) : Sm k (mkRat n b) := by
  rw [Rat.mkRat_def, dif_neg h0]
  refine ⟨?_, ?_⟩
  · rw [Rat.num_normalize]
    rw [Int.natAbs_ediv_of_dvd (Int.ofNat_dvd_left.mpr (Nat.gcd_dvd_left _ _))]
    exact Nat.lt_of_le_of_lt (Nat.div_le_self _ _) hn
  · rw [Rat.den_normalize]
    exact Nat.lt_of_le_of_lt (Nat.div_le_self _ _) hb
theorem Sm.add {n m : Nat} {p q : Rat} (a : Sm n p) (b : Sm m q) : Sm (n + m + 1) (p + q) := by
  rw [Rat.add_def']
  refine smMk (Nat.mul_ne_zero p.den_nz q.den_nz) ?_ ?_
  · refine Nat.lt_of_le_of_lt (Int.natAbs_add_le _ _) ?_
    rw [Int.natAbs_mul, Int.natAbs_mul, Int.natAbs_natCast, Int.natAbs_natCast, Nat.pow_succ, Nat.pow_add, Nat.mul_two]
    have h1 := Nat.mul_lt_mul_of_lt_of_le a.num (Nat.le_of_lt b.den) (Nat.two_pow_pos m)
    have h2 := Nat.mul_lt_mul_of_lt_of_le b.num (Nat.le_of_lt a.den) (Nat.two_pow_pos n)
    rw [Nat.mul_comm (2 ^ m) (2 ^ n)] at h2
    omega
  · have h := Nat.mul_lt_mul_of_lt_of_le a.den (Nat.le_of_lt b.den) (Nat.two_pow_pos m)
    rw [Nat.pow_succ, Nat.pow_add]
    omega
theorem Sm.mul {n m : Nat} {p q : Rat} (a : Sm n p) (b : Sm m q) : Sm (n + m) (p * q) := by
  rw [Rat.mul_def']
  refine smMk (Nat.mul_ne_zero p.den_nz q.den_nz) ?_ ?_
  · rw [Int.natAbs_mul, Nat.pow_add]
    exact Nat.mul_lt_mul_of_lt_of_le a.num (Nat.le_of_lt b.num) (Nat.two_pow_pos m)
  · rw [Nat.pow_add]
    exact Nat.mul_lt_mul_of_lt_of_le a.den (Nat.le_of_lt b.den) (Nat.two_pow_pos m)
theorem Sm.neg {n : Nat} {p : Rat} (a : Sm n p) : Sm n (-p) := ⟨by
  rw [Rat.neg_num, Int.natAbs_neg]
  exact a.num, by
  rw [Rat.neg_den]
  exact a.den⟩
theorem Sm.sub {n m : Nat} {p q : Rat} (a : Sm n p) (b : Sm m q) : Sm (n + m + 1) (p - q) := by
  rw [Rat.sub_eq_add_neg]
  exact a.add b.neg
theorem Sm.int {n : Nat} {i : Int} (h : i.natAbs < 2 ^ n) (hn : 1 ≤ n) : Sm n (i : Rat) := ⟨h, Nat.one_lt_two_pow (by omega)⟩
theorem fr_int (i : Int) : fr (i : Rat) = .tup [.int i, .int 1] := rfl
theorem fr_over {n : Nat} (h : n ≠ 0) : fr (mkRat 1 n) = .tup [.int 1, .int (n : Int)] := by
  have e := mkRat_pair (n := 1) h
  have g : Nat.gcd (1 : Int).natAbs n = 1 := Nat.gcd_one_left n
  rw [g] at e
  unfold fr
  rw [← e.1, ← e.2]
  simp
end WD
end
section
set_option Elab.async false
set_option linter.all false
set_option maxRecDepth 100000
namespace WD
open PySem PySem.Spec PyProof.Rows L2 Evl
section
variable {K : PySem.W.Frag} {σ : L2.St} {H H' : Hp} {ta tb te tx tc : TE} {t u : TT} {d d1 d2 d3 : D} {ds es : List D}
theorem Mu.un {L : List Addr} {p : Addr} {H H2 H' : Hp} (hp : H p = none) (e : Ex H H2) (mu : Mu (p :: L) H2 H') : Mu L H H' := ⟨fun a o n h => mu.1 a o (fun z => by
  rcases List.mem_cons.mp z with z | z
  · subst z
    rw [hp] at h
    cases h
  · exact n z) (e a o h), (Gt.of e).trans mu.2⟩
theorem Mu.more {L L' : List Addr} {H H' : Hp} (m : Mu L H H') (h : ∀ a ∈ L, a ∈ L') : Mu L' H H' := ⟨fun a o n k => m.1 a o (fun z => n (h a z)) k, m.2⟩
theorem Mu.keep {L : List Addr} {H H' : Hp} {a : Addr} {o : HO} (m : Mu L H H') (n : a ∉ L) (h : H a = some o) : H' a = some o := m.1 a o n h
/-- a list built while other things change: Inv by the turn -/
theorem en_lcM {wi : TI} {g : TG} {Q : VK} {n : Nat} {item : Nat → D} {vs : List Nat} {L : List Addr} (Inv : Nat → Hp → Prop) (f : Nat → Bool) (v : Nat → D) (hI : EvI K wi σ L H n item) (hL : ∀ l ∈ L, ∃ o, H l = some o) (hn : n ≤ 50000) (hf : ∀ i, i < n → f i = true → (v i).lf = true)
    (hst : ∀ i D Ha Hb, H D = none → Inv i Ha → Mu [D] Ha Hb → Inv i Hb) (h0 : Inv 0 H)
    (hs : ∀ i x H1, i < n → Inv i H1 → Mu L H H1 → Is K H1 x (item i) → ∀ (Y : VK) (N : Hp → Prop), (∀ y H4, f i = true → Is K H4 y (v i) → Inv (i + 1) H4 → Mu L H1 H4 → Y y H4) → (∀ H3, f i = false → Inv (i + 1) H3 → Mu L H1 H3 → N H3) →
      g x (wipe σ vs) H1 fun σ2 H2 => wipe σ2 vs = wipe σ vs ∧ t σ2 H2 fun b H3 => if b = true then te σ2 H3 Y else N H3)
    (q : ∀ p xs H', H p = none → Mu L H H' → Inv n H' → H' p = some (.lst xs) → All K H' xs (gives n f v) → Q (.ref p) H') : tLc wi g t te vs σ H Q := hI _ fun J H2 Ps e2 w Dl hD => by
  have hDH : H Dl = none := fresh_back e2 hD
  have hDL : Dl ∉ L := fun z => by
    obtain ⟨o, ho⟩ := hL _ z
    rw [hDH] at ho
    cases ho
  have hst' : ∀ i Ha Hb, Inv i Ha → Ex Ha Hb → Inv i Hb := fun i Ha Hb h e => hst i Dl Ha Hb hDH h (Mu.ex e)
  refine ⟨fun i m H' => m = n - i ∧ i ≤ n ∧ Mu (Dl :: L) (L2.upd H2 Dl (.lst [])) H' ∧ Inv i H' ∧ ∃ acc, H' Dl = some (.lst acc) ∧ All K H' acc (gives i f v), ⟨n, by simp, Nat.zero_le _, Mu.refl _ _, hst' 0 _ _ h0 (e2.trans (Ex.new hD)), [], upd_same, .nil⟩, ?_⟩
  rintro i m H' ⟨rfl, hi, mu, iv, acc, hacc, aa⟩
  have ps0 : Ps (L2.upd H2 Dl (.lst [])) := w.stays [] (by simp) H2 _ w.here (Mu.ex (Ex.new hD))
  have ps : Ps H' := w.stays (Dl :: L) (fun l h => by
    rcases List.mem_cons.mp h with h | h
    · exact .inr (by rw [h]; exact hD)
    · exact .inl h) _ H' ps0 mu
  have mu0 : Mu L H H' := Mu.un hDH (e2.trans (Ex.new hD)) mu
  by_cases hlt : i < n
  · obtain ⟨g1, g2⟩ := w.go H' ps i hlt
    refine .inr ⟨g1, fun H3 => Mu (Dl :: L) (L2.upd H2 Dl (.lst [])) H3 ∧ Inv (i + 1) H3 ∧ ∃ acc, H3 Dl = some (.lst acc) ∧ All K H3 acc (gives (i + 1) f v), fun H3 q => ⟨n - (i + 1), by omega, rfl, by omega, q.1, q.2⟩, fun x H3 hy => ?_⟩
    obtain ⟨e3, a⟩ := g2 x H3 hy
    have hacc3 := e3 _ _ hacc
    have aa3 := aa.ex e3
    have mu3 := mu.trans (Mu.ex e3)
    have lfa : D.lfs (gives i f v) = true := gives_lf i fun j hj => hf j (by omega)
    refine hs i x H3 hlt (hst' i _ _ iv e3) (mu0.trans (Mu.ex e3)) a _ _ ?_ ?_
    · intro y H6 f1 ay iv6 mu6
      have hacc6 := mu6.keep hDL hacc3
      refine ⟨acc, hacc6, sz_lt (by
        rw [aa.len]
        have := gives_len i f v
        omega), (mu3.trans (mu6.more fun a h => List.mem_cons_of_mem _ h)).trans (Mu.upd (List.mem_cons_self ..) hacc6), hst _ Dl _ _ hDH iv6 (Mu.upd (List.mem_singleton.mpr rfl) hacc6), _, upd_same, ?_⟩
      rw [gives_yes f1]
      have gt : Gt H6 (L2.upd H6 Dl (.lst (acc ++ [y]))) := Gt.lst hacc6
      exact ((aa3.gt mu6.2 lfa).gt gt lfa).app (All.one (ay.gt gt (hf i hlt f1)))
    · intro H6 f1 iv6 mu6
      refine ⟨mu3.trans (mu6.more fun a h => List.mem_cons_of_mem _ h), iv6, acc, mu6.keep hDL hacc3, ?_⟩
      rw [gives_no f1]
      exact aa3.gt mu6.2 lfa
  · have e : i = n := by omega
    subst e
    exact .inl ⟨w.stop H' ps, q Dl acc H' hDH mu0 iv hacc aa⟩
/-- o.m(..) that changes things -/
theorem em_meth {C dx x : Addr} {m : Str} {fvs : List (Str × V)} {sp : Sp} {tr : TA} {E : XK} {Q : VK} (ho : Ev te σ H (.ref x)) (hx : H x = some (.ins C dx fvs)) (hl : fvs.lookup m = none) (hr : EvDA K tr σ H ds) (k : ∀ vs H1, Ex H H1 → All K H1 vs ds → sp (.ref x :: vs) H1 Q E) : tMeth C m sp [] E te tr σ H Q :=
  ho H (Ex.refl H) _ fun H1 e1 => ⟨x, dx, fvs, rfl, e1 _ _ hx, hl, hr H1 e1 _ fun vs H2 e2 a => by
    rw [List.append_nil]
    exact k vs H2 (e1.trans e2) a⟩
theorem ed_fldX {C dx x : Addr} {f : Str} {fvs : List (Str × V)} {v : V} (ho : Ev te σ H (.ref x)) (hx : H x = some (.ins C dx fvs)) (hc : Cls K C) (hn : NoAttr K C f) (hl : fvs.lookup f = some v) (a : Is K H v d) : EvD K (tFld K te f) σ H d := fun H1 e Q q =>
  ho H1 e _ fun H2 e2 => ⟨x, C, dx, fvs, v, rfl, (e.trans e2) _ _ hx, hc, hn, hl, q v H2 e2 (a.ex (e.trans e2))⟩
theorem ev_fldX {C dx x : Addr} {f : Str} {fvs : List (Str × V)} {v : V} (ho : Ev te σ H (.ref x)) (hx : H x = some (.ins C dx fvs)) (hc : Cls K C) (hn : NoAttr K C f) (hl : fvs.lookup f = some v) : Ev (tFld K te f) σ H v := fun H1 e Q q =>
  ho H1 e _ fun H2 e2 => ⟨x, C, dx, fvs, v, rfl, (e.trans e2) _ _ hx, hc, hn, hl, q H2 e2⟩
theorem all_ints : ∀ (H : Hp) (ts : List Int), All K H (ts.map V.int) (iL ts)
  | _, [] => .nil
  | H, t :: ts => .cons (.int t) (all_ints H ts)
end
end WD
end
section
set_option Elab.async false
set_option linter.all false
set_option maxRecDepth 100000
namespace WD
open PySem PySem.Spec PyProof.Rows L2 Evl
section
variable {X : Cx} {K : PySem.W.Frag} {σ : L2.St} {H : Hp} {ta tb : TE}
def rLcm : List V → Hp → VK → Prop := fun vs H Q => ∃ a b : Nat, vs = [.int (a : Int), .int (b : Int)] ∧ a < 2 ^ 6000 ∧ b < 2 ^ 6000 ∧ Q (.int ((Nat.lcm a b : Nat) : Int)) H
theorem cr_lcm : CallR X (.builtin "math.lcm") rLcm := by
  intro pins s σ H vs us Q I r h
  obtain ⟨a, b, rfl, ha, hb, q⟩ := h
  obtain ⟨t, u, rfl⟩ := Vals.int2 r
  have e : (((Nat.lcm 1 ((a : Int)).natAbs).lcm ((b : Int)).natAbs : Nat) : Int) = ((Nat.lcm a b : Nat) : Int) := by
    rw [Int.natAbs_natCast, Int.natAbs_natCast, show Nat.lcm 1 a = a from by simp [Nat.lcm]]
  have l1 : (max 1 ((a : Int)).natAbs).log2 ≤ 6000 := PySem.W.mg_log (Nat.lt_of_lt_of_le (by
    rw [Int.natAbs_natCast]
    show max 1 a < 2 ^ 6000
    exact Nat.max_lt.mpr ⟨Nat.one_lt_two_pow (by decide), ha⟩) (Nat.pow_le_pow_right (by decide) (by decide)))
  have l2 : (max ((a : Int)).natAbs ((b : Int)).natAbs).log2 ≤ 6000 := PySem.W.mg_log (Nat.lt_of_lt_of_le (by
    rw [Int.natAbs_natCast, Int.natAbs_natCast]
    show max a b < 2 ^ 6000
    exact Nat.max_lt.mpr ⟨ha, hb⟩) (Nat.pow_le_pow_right (by decide) (by decide)))
  have hs : ((((Nat.lcm 1 ((a : Int)).natAbs).lcm ((b : Int)).natAbs : Nat) : Int)).natAbs.log2 < bitsLine := by
    rw [e, Int.natAbs_natCast]
    refine Nat.lt_of_le_of_lt (PySem.W.mg_log (k := 12000) ?_) (by decide)
    refine Nat.lt_of_lt_of_le (?_ : _ < 2 ^ 12000) (Nat.pow_le_pow_right (by decide) (by decide))
    have h1 : Nat.lcm a b ≤ a * b := by
      unfold Nat.lcm
      exact Nat.div_le_self _ _
    refine Nat.lt_of_le_of_lt h1 ?_
    rw [show (12000 : Nat) = 6000 + 6000 from rfl, Nat.pow_add]
    exact Nat.mul_lt_mul_of_lt_of_le ha (Nat.le_of_lt hb) (Nat.two_pow_pos _)
  refine call_function_meets PySem.W.MGF.kind_lcm PySem.W.MGF.plain_lcm PySem.W.MGF.entry_lcm (PySem.W.MGF.args_lcm _ _) (PySem.W.mg_run_lcm (a : Int) t (b : Int) u (by omega) (by omega) hs).meets ?_
  exact ⟨.int _, H, I.tok _, ⟨_, congrArg (fun z => Value.int z _) e⟩, q⟩
theorem ed_lcm {i j : Nat} (ha : EvD K ta σ H (.int (i : Int))) (hb : EvD K tb σ H (.int (j : Int))) (hi : i < 2 ^ 6000) (hj : j < 2 ^ 6000) : EvD K (tCB rLcm (tCons ta (tCons tb tNil))) σ H (.int ((Nat.lcm i j : Nat) : Int)) := fun H1 e Q q =>
  ha H1 e _ fun v H2 e2 a => hb H2 (e.trans e2) _ fun w H3 e3 b => by
    cases a; cases b
    exact ⟨i, j, rfl, hi, hj, q _ H3 (e2.trans e3) (.int _)⟩
end
end WD
end
section
set_option Elab.async false
set_option linter.all false
set_option maxRecDepth 100000
namespace WD
open PySem PySem.Spec PyProof.Rows L2 Evl
theorem tupK {X : Cx} {K : PySem.W.Frag} {es : List Expr} {k : Nat} {t : TGs} {n : Nat} {pos : Pos} (h : X.K = K) (hc : X.calm = true) (ht : PGs X es t)
    (hn : (assignEach es X.env).length = n := by rfl) (hst : (assignEach es X.env).findIdx? (·.1) = none := by rfl) : PG X (.Tuple es k pos) (gTup K n t) := h ▸ pg_tup hc ht hn hst
/-! fractions over one number below -/
theorem mkRat_den_dvd (n : Int) {d : Nat} (hd : d ≠ 0) : (mkRat n d).den ∣ d := by
  rw [Rat.mkRat_def, dif_neg hd, Rat.den_normalize]
  exact Nat.div_dvd_of_dvd (Nat.gcd_dvd_right _ _)
theorem num_of (q : Rat) : q * ((q.den : Int) : Rat) = (q.num : Rat) := by
  have h := Rat.mkRat_self q
  rw [Rat.mkRat_eq_div] at h
  have h1 : ((q.den : Nat) : Rat) = ((q.den : Int) : Rat) := rfl
  have h2 : ((q.den : Int) : Rat) ≠ 0 := by
    have := q.den_pos
    exact_mod_cast (by omega : (q.den : Int) ≠ 0)
  rw [h1] at h
  grind
theorem over_of_dvd {q : Rat} {M : Nat} (h : q.den ∣ M) : q * ((M : Int) : Rat) = ((q.num * ((M / q.den : Nat) : Int) : Int) : Rat) := by
  obtain ⟨c, rfl⟩ := h
  rw [Nat.mul_div_cancel_left _ q.den_pos, Rat.intCast_mul, Int.natCast_mul, Rat.intCast_mul, ← Rat.mul_assoc]
  rw [num_of]
theorem dvd_of_over {q : Rat} {M : Nat} {n : Int} (h0 : M ≠ 0) (h : q * ((M : Int) : Rat) = (n : Rat)) : q.den ∣ M := by
  have hm : ((M : Int) : Rat) ≠ 0 := by exact_mod_cast (show (M : Int) ≠ 0 by omega)
  have e : q = mkRat n M := by
    rw [Rat.mkRat_eq_div]
    have : ((M : Nat) : Rat) = ((M : Int) : Rat) := rfl
    grind
  rw [e]
  exact mkRat_den_dvd n h0
theorem den_add {p q : Rat} {M : Nat} (h0 : M ≠ 0) (hp : p.den ∣ M) (hq : q.den ∣ M) : (p + q).den ∣ M := by
  refine dvd_of_over (n := p.num * ((M / p.den : Nat) : Int) + q.num * ((M / q.den : Nat) : Int)) h0 ?_
  rw [Rat.add_mul, over_of_dvd hp, over_of_dvd hq, Rat.intCast_add]
theorem S_den {v : List Rat} {M : Nat} (h0 : M ≠ 0) (h : ∀ q ∈ v, q.den ∣ M) : ∀ j, j ≤ v.length → (S v j).den ∣ M
  | 0, _ => ⟨M, (Nat.one_mul M).symm⟩
  | j + 1, hj => by
    rw [S_succ v j hj]
    exact den_add h0 (S_den h0 h j (by omega)) (h _ (List.getElem_mem _))
theorem S_step {v : List Rat} (h : ∀ q ∈ v, 0 ≤ q) {j : Nat} (hj : j < v.length) : S v j ≤ S v (j + 1) := by
  rw [S_succ v j hj]
  have := h _ (List.getElem_mem hj)
  grind
theorem S_mono {v : List Rat} (h : ∀ q ∈ v, 0 ≤ q) {i : Nat} : ∀ {j : Nat}, i ≤ j → j ≤ v.length → S v i ≤ S v j
  | 0, h1, _ => by
    have : i = 0 := by omega
    subst this
    exact Rat.le_refl
  | j + 1, h1, h2 => by
    by_cases e : i = j + 1
    · subst e
      exact Rat.le_refl
    · exact Rat.le_trans (S_mono h (show i ≤ j by omega) (by omega)) (S_step h h2)
theorem S_nn {v : List Rat} (h : ∀ q ∈ v, 0 ≤ q) {j : Nat} (hj : j ≤ v.length) : 0 ≤ S v j := S_mono h (Nat.zero_le j) hj
/-- a row of sizes that are told -/
structure RowOk (A : List Int) (v : List Rat) (M W : Nat) : Prop where
  len : v.length = A.length
  a1 : 1 ≤ A.length
  al : A.length ≤ 24
  ar : ∀ a ∈ A, 1 ≤ a ∧ a ≤ 1000
  m0 : 0 < M
  m1 : M < 2 ^ 400
  w1 : W < 2 ^ 400
  nn : ∀ q ∈ v, 0 ≤ q
  dn : ∀ q ∈ v, q.den ∣ M
  tot : S v v.length ≤ ((W : Int) : Rat)
theorem sm_of {q : Rat} {M W : Nat} (m0 : 0 < M) (m1 : M < 2 ^ 400) (w1 : W < 2 ^ 400) (h0 : 0 ≤ q) (h1 : q ≤ ((W : Int) : Rat)) (hd : q.den ∣ M) : Sm 800 q := by
  have dl := Nat.le_of_dvd m0 hd
  refine ⟨?_, Nat.lt_of_le_of_lt dl (Nat.lt_of_lt_of_le m1 (Nat.pow_le_pow_right (by decide) (by decide)))⟩
  have hden : (0 : Rat) ≤ ((q.den : Int) : Rat) := by exact_mod_cast Int.natCast_nonneg q.den
  have e : ((q.num : Int) : Rat) = q * ((q.den : Int) : Rat) := (num_of q).symm
  have n0 : (0 : Rat) ≤ ((q.num : Int) : Rat) := by
    rw [e]
    exact Rat.mul_nonneg h0 hden
  have n1 : ((q.num : Int) : Rat) ≤ (((W : Int) * (q.den : Int) : Int) : Rat) := by
    rw [e, Rat.intCast_mul]
    exact Rat.mul_le_mul_of_nonneg_right h1 hden
  have z0 : 0 ≤ q.num := by exact_mod_cast n0
  have z1 : q.num ≤ (W : Int) * (q.den : Int) := by exact_mod_cast n1
  have z2 : q.num.natAbs ≤ W * q.den := by
    rw [← Int.natCast_mul] at z1
    omega
  have z3 : W * q.den ≤ W * M := Nat.mul_le_mul_left _ dl
  have z4 : W * M < 2 ^ 400 * 2 ^ 400 := Nat.mul_lt_mul_of_lt_of_le w1 (Nat.le_of_lt m1) (Nat.two_pow_pos _)
  rw [← Nat.pow_add] at z4
  omega
theorem RowOk.sumOk {A : List Int} {v : List Rat} {M W : Nat} (h : RowOk A v M W) {j : Nat} (hj : j ≤ v.length) : 0 ≤ S v j ∧ S v j ≤ ((W : Int) : Rat) ∧ (S v j).den ∣ M ∧ Sm 800 (S v j) := by
  have a := S_nn h.nn hj
  have b := Rat.le_trans (S_mono h.nn hj (Nat.le_refl _)) h.tot
  have c := S_den (by have := h.m0; omega) h.dn j hj
  exact ⟨a, b, c, sm_of h.m0 h.m1 h.w1 a b c⟩
theorem RowOk.le {A : List Int} {v : List Rat} {M W : Nat} (h : RowOk A v M W) {q : Rat} (hq : q ∈ v) : q ≤ ((W : Int) : Rat) := by
  obtain ⟨j, hj, rfl⟩ := List.getElem_of_mem hq
  have a := (h.sumOk (show j ≤ v.length by omega)).1
  have b := (h.sumOk (show j + 1 ≤ v.length by omega)).2.1
  rw [S_succ v j hj] at b
  grind
theorem RowOk.sm {A : List Int} {v : List Rat} {M W : Nat} (h : RowOk A v M W) {q : Rat} (hq : q ∈ v) : Sm 800 q := sm_of h.m0 h.m1 h.w1 (h.nn q hq) (h.le hq) (h.dn q hq)
section
variable {K : PySem.W.Frag} {σ : L2.St} {H : Hp} {te : TE} {ds : List D}
theorem EvI.item {wi : TI} {L : List Addr} {n : Nat} {item item' : Nat → D} (h : EvI K wi σ L H n item) (q : ∀ i, i < n → item i = item' i) : EvI K wi σ L H n item' := fun R r => h R fun J H2 Ps e w => r J H2 Ps e ⟨w.here, w.stays, fun H3 p i hi => ⟨(w.go H3 p i hi).1, fun x H4 y => ⟨((w.go H3 p i hi).2 x H4 y).1, q i hi ▸ ((w.go H3 p i hi).2 x H4 y).2⟩⟩, w.stop⟩
theorem q_fldN {En : Ends} {tz : TS} {ta : TE} {f : Str} {x C dx : Addr} {fvs : List (Str × V)} (hx : H x = some (.ins C dx fvs)) (h : EvN K te σ H ds) (ho : Ev ta σ H (.ref x)) (hc : Cls K C) (hn : NoAttr K C f) (hl : fvs.length < 1000)
    (k : ∀ p xs H1, H p = none → Ex H H1 → H1 p = some (.lst xs) → All K H1 xs ds → tz En σ (upd H1 x (.ins C dx (putF f (.ref p) fvs)))) : tSeq (sFld K ta te f) tz En σ H :=
  h H (Ex.refl H) _ fun p xs H1 hp e1 hx1 a => ho H1 e1 _ fun H2 e2 => ⟨x, C, dx, fvs, rfl, (e1.trans e2) _ _ hx, hc, hn, hl, k p xs H2 hp (e1.trans e2) (e2 _ _ hx1) (a.ex e2)⟩
theorem s_fldN {En : Ends} {ta : TE} {f : Str} {x C dx : Addr} {fvs : List (Str × V)} (hx : H x = some (.ins C dx fvs)) (h : EvN K te σ H ds) (ho : Ev ta σ H (.ref x)) (hc : Cls K C) (hn : NoAttr K C f) (hl : fvs.length < 1000)
    (k : ∀ p xs H1, H p = none → Ex H H1 → H1 p = some (.lst xs) → All K H1 xs ds → En.nx σ (upd H1 x (.ins C dx (putF f (.ref p) fvs)))) : sFld K ta te f En σ H :=
  h H (Ex.refl H) _ fun p xs H1 hp e1 hx1 a => ho H1 e1 _ fun H2 e2 => ⟨x, C, dx, fvs, rfl, (e1.trans e2) _ _ hx, hc, hn, hl, k p xs H2 hp (e1.trans e2) (e2 _ _ hx1) (a.ex e2)⟩
end
end WD
end
section
set_option Elab.async false
set_option linter.all false
set_option maxRecDepth 100000
namespace WD
open PySem PySem.Spec PyProof.Rows L2 Evl
section
variable {K : PySem.W.Frag} {σ : L2.St} {H : Hp} {te tv : TE}
def kvI (kf vi : Nat → Int) (n : Nat) : List (Key × V) := (List.range n).map fun k => (Sum.inl (kf k), V.int (vi k))
theorem putK_end (k : Key) (z : V) (kvs : List (Key × V)) (h : ∀ p ∈ kvs, p.1 ≠ k) : putK kvs k z = kvs ++ [(k, z)] := putK_new z (by
  unfold valV
  rw [List.find?_eq_none.mpr (fun p hp => by simp [h p hp])]
  rfl)
/-- a dict of ints by ints, from a comprehension with one name -/
theorem en_dc {wi : TI} {n j : Nat} {item : Nat → D} {vs : List Nat} {tk : TE} {Q : VK} (kf vi : Nat → Int) (hI : EvI K wi σ [] H n item) (hn : n ≤ 50000) (hinj : ∀ a b, a < n → b < n → kf a = kf b → a = b) (hw : ∀ x, wipe ((wipe σ vs).set j (some x)) vs = wipe σ vs)
    (hk : ∀ i x H1, i < n → Ex H H1 → Is K H1 x (item i) → EvD K tk ((wipe σ vs).set j (some x)) H1 (.int (kf i))) (hv : ∀ i x H1, i < n → Ex H H1 → Is K H1 x (item i) → EvD K tv ((wipe σ vs).set j (some x)) H1 (.int (vi i)))
    (q : ∀ p H', H p = none → Ex H H' → H' p = some (.dK (kvI kf vi n)) → Q (.ref p) H') : tDc wi (gName j) tYes tk tv vs σ H Q := hI _ fun J H2 Ps e2 w Dl hD => by
  have hDH : H Dl = none := fresh_back e2 hD
  refine ⟨fun i m H' => m = n - i ∧ i ≤ n ∧ Ps H' ∧ Ex H H' ∧ H' Dl = some (.dK (kvI kf vi i)), ⟨n, by simp, Nat.zero_le _, w.stays [] (by simp) H2 _ w.here (Mu.ex (Ex.new hD)), e2.trans (Ex.new hD), upd_same⟩, ?_⟩
  rintro i m H' ⟨rfl, hi, ps, eH, hd⟩
  by_cases hlt : i < n
  · obtain ⟨g1, g2⟩ := w.go H' ps i hlt
    refine .inr ⟨g1, fun H3 => Ps H3 ∧ Ex H H3 ∧ H3 Dl = some (.dK (kvI kf vi (i + 1))), fun H3 q => ⟨n - (i + 1), by omega, rfl, by omega, q.1, q.2⟩, fun x H3 hy => ?_⟩
    obtain ⟨e3, a⟩ := g2 x H3 hy
    show wipe ((wipe σ vs).set j (some x)) vs = wipe σ vs ∧ _
    refine ⟨hw x, ?_⟩
    show tk _ H3 _
    refine hk i x H3 hlt (eH.trans e3) a H3 (Ex.refl H3) _ fun y H4 e4 ay => ?_
    refine hv i x H3 hlt (eH.trans e3) a H4 e4 _ fun z H5 e5 az => ?_
    cases ay
    cases az
    have e35 := (e3.trans e4).trans e5
    refine ⟨kvI kf vi i, .inl (kf i), rfl, e35 _ _ hd, sz_lt (by
      unfold kvI
      rw [List.length_map, List.length_range]
      omega), ?_, ?_, ?_⟩
    · exact w.stays [Dl] (fun l h => .inr (by rw [List.mem_singleton.mp h]; exact hD)) H' _ ps ⟨fun b o nb h => by
        rw [upd_ne (fun z => nb (by rw [z]; exact List.mem_singleton.mpr rfl))]
        exact e35 _ _ h, (Gt.of e35).trans (Gt.upd (e35 _ _ hd) (fun _ z => by cases z) (fun _ _ z => by cases z))⟩
    · exact Ex.updN (eH.trans e35) hDH
    · rw [putK_end]
      · rw [upd_same]
        unfold kvI
        rw [List.range_succ, List.map_append]
        rfl
      · intro p hp
        unfold kvI at hp
        obtain ⟨k, hk, rfl⟩ := List.mem_map.mp hp
        have hk := List.mem_range.mp hk
        intro z
        have := hinj k i (by omega) hlt (Sum.inl.inj z)
        omega
  · have e : i = n := by omega
    subst e
    exact .inl ⟨w.stop H' ps, q Dl H' hDH eH hd⟩
end
end WD
end
section
set_option Elab.async false
set_option linter.all false
set_option maxRecDepth 100000
namespace WD
open PySem PySem.Spec PyProof.Rows L2 Evl
section
variable {K : PySem.W.Frag} {σ : L2.St} {H H' : Hp} {ta tb te tx tc : TE} {t u : TT} {d d1 d2 d3 : D} {ds es : List D}
/-- the same where what comes isn't told ahead: Inv by the turn and what was put -/
theorem en_lcP {wi : TI} {g : TG} {Q : VK} {n : Nat} {item : Nat → D} {vs : List Nat} {L : List Addr} (Inv : Nat → List D → Hp → Prop) (hI : EvI K wi σ L H n item) (hL : ∀ l ∈ L, ∃ o, H l = some o) (hn : n ≤ 50000)
    (hst : ∀ i ds D Ha Hb, H D = none → Inv i ds Ha → Mu [D] Ha Hb → Inv i ds Hb) (h0 : Inv 0 [] H)
    (hs : ∀ i ds x H1, i < n → Inv i ds H1 → Mu L H H1 → Is K H1 x (item i) → ∀ (Y : VK) (N : Hp → Prop), (∀ y H4 e, e.lf = true → Is K H4 y e → Inv (i + 1) (ds ++ [e]) H4 → Mu L H1 H4 → Y y H4) → (∀ H3, Inv (i + 1) ds H3 → Mu L H1 H3 → N H3) →
      g x (wipe σ vs) H1 fun σ2 H2 => wipe σ2 vs = wipe σ vs ∧ t σ2 H2 fun b H3 => if b = true then te σ2 H3 Y else N H3)
    (q : ∀ p xs ds H', H p = none → Mu L H H' → Inv n ds H' → H' p = some (.lst xs) → All K H' xs ds → Q (.ref p) H') : tLc wi g t te vs σ H Q := hI _ fun J H2 Ps e2 w Dl hD => by
  have hDH : H Dl = none := fresh_back e2 hD
  have hDL : Dl ∉ L := fun z => by
    obtain ⟨o, ho⟩ := hL _ z
    rw [hDH] at ho
    cases ho
  have hst' : ∀ i ds Ha Hb, Inv i ds Ha → Ex Ha Hb → Inv i ds Hb := fun i ds Ha Hb h e => hst i ds Dl Ha Hb hDH h (Mu.ex e)
  refine ⟨fun i m H' => m = n - i ∧ i ≤ n ∧ Mu (Dl :: L) (L2.upd H2 Dl (.lst [])) H' ∧ ∃ acc ds, Inv i ds H' ∧ ds.length ≤ i ∧ D.lfs ds = true ∧ H' Dl = some (.lst acc) ∧ All K H' acc ds, ⟨n, by simp, Nat.zero_le _, Mu.refl _ _, [], [], hst' 0 _ _ _ h0 (e2.trans (Ex.new hD)), Nat.le_refl _, rfl, upd_same, .nil⟩, ?_⟩
  rintro i m H' ⟨rfl, hi, mu, acc, ds, iv, dl, lfa, hacc, aa⟩
  have ps0 : Ps (L2.upd H2 Dl (.lst [])) := w.stays [] (by simp) H2 _ w.here (Mu.ex (Ex.new hD))
  have ps : Ps H' := w.stays (Dl :: L) (fun l h => by
    rcases List.mem_cons.mp h with h | h
    · exact .inr (by rw [h]; exact hD)
    · exact .inl h) _ H' ps0 mu
  have mu0 : Mu L H H' := Mu.un hDH (e2.trans (Ex.new hD)) mu
  by_cases hlt : i < n
  · obtain ⟨g1, g2⟩ := w.go H' ps i hlt
    refine .inr ⟨g1, fun H3 => Mu (Dl :: L) (L2.upd H2 Dl (.lst [])) H3 ∧ ∃ acc ds, Inv (i + 1) ds H3 ∧ ds.length ≤ i + 1 ∧ D.lfs ds = true ∧ H3 Dl = some (.lst acc) ∧ All K H3 acc ds, fun H3 q => ⟨n - (i + 1), by omega, rfl, by omega, q.1, q.2⟩, fun x H3 hy => ?_⟩
    obtain ⟨e3, a⟩ := g2 x H3 hy
    have hacc3 := e3 _ _ hacc
    have aa3 := aa.ex e3
    have mu3 := mu.trans (Mu.ex e3)
    refine hs i ds x H3 hlt (hst' i _ _ _ iv e3) (mu0.trans (Mu.ex e3)) a _ _ ?_ ?_
    · intro y H6 e lfe ay iv6 mu6
      have hacc6 := mu6.keep hDL hacc3
      have gt : Gt H6 (L2.upd H6 Dl (.lst (acc ++ [y]))) := Gt.lst hacc6
      refine ⟨acc, hacc6, sz_lt (by
        rw [aa.len]
        omega), (mu3.trans (mu6.more fun a h => List.mem_cons_of_mem _ h)).trans (Mu.upd (List.mem_cons_self ..) hacc6), acc ++ [y], ds ++ [e], hst _ _ Dl _ _ hDH iv6 (Mu.upd (List.mem_singleton.mpr rfl) hacc6), by rw [List.length_append, List.length_singleton]; omega, lfs_app lfa ?_, upd_same, ?_⟩
      · show (e.lf && true) = true
        rw [lfe]
        rfl
      · exact ((aa3.gt mu6.2 lfa).gt gt lfa).app (All.one (ay.gt gt lfe))
    · intro H6 iv6 mu6
      exact ⟨mu3.trans (mu6.more fun a h => List.mem_cons_of_mem _ h), acc, ds, iv6, by omega, lfa, mu6.keep hDL hacc3, aa3.gt mu6.2 lfa⟩
  · have e : i = n := by omega
    subst e
    exact .inl ⟨w.stop H' ps, q Dl acc ds H' hDH mu0 iv hacc aa⟩
end
end WD
end
section
set_option Elab.async false
set_option linter.all false
set_option maxRecDepth 100000
namespace WD
open PySem PySem.Spec PyProof.Rows L2 Evl RZ
section
variable {K : PySem.W.Frag} {σ : L2.St} {H H' : Hp} {ta tb te tx tc : TE} {t u : TT} {d d1 d2 d3 : D} {ds es : List D}
theorem Is.tup_inv {v : V} (h : Is K H v (.tup ds)) : ∃ p xs, v = .ref p ∧ SqT K H p xs ∧ All K H xs ds := by
  cases h with
  | tup h a => exact ⟨_, _, rfl, h, a⟩
theorem tup_gt {p : Addr} {xs : List V} (h : SqT K H p xs) (a : All K H xs ds) (g : Gt H H') (l : D.lfs ds = true) : SqT K H' p xs ∧ All K H' xs ds := by
  have h1 : Is K H' (.ref p) (.tup ds) := Is.gt g (.tup h a) l
  have a1 := a.gt g l
  have h2 := Is.tup h a
  rcases h with h | h
  · exact ⟨.inl (g p xs h), a1⟩
  · exact ⟨.inr h, a1⟩
theorem ei_zipT {L : List Addr} (h : EvD K ta σ H (.tup ds)) (h' : EvD K tb σ H (.tup es)) (hl : es.length ≤ ds.length) (hf : D.lfs ds = true) (hf' : D.lfs es = true) :
    EvI K (iZipA K (tCons ta (tCons tb tNil))) σ L H es.length (fun i => .tup [ds.getD i .non, es.getD i .non]) := fun R r =>
  h H (Ex.refl H) _ fun v H2 e2 i2 => h' H2 e2 _ fun v' H3 e3 i3 => by
    obtain ⟨p, xs, rfl, hp, a⟩ := Is.tup_inv (i2.ex e3)
    obtain ⟨p', xs', rfl, hp', a'⟩ := Is.tup_inv i3
    refine ⟨p, p', xs, xs', rfl, .inr ⟨hp, hp', r (ItzT K p p') H3 (fun H4 => (SqT K H4 p xs ∧ All K H4 xs ds) ∧ SqT K H4 p' xs' ∧ All K H4 xs' es) (e2.trans e3) ⟨⟨⟨hp, a⟩, hp', a'⟩, fun L' hL' H4 H5 q m => ⟨tup_gt q.1.1 q.1.2 m.2 hf, tup_gt q.2.1 q.2.2 m.2 hf'⟩, fun H4 q i hi => ?_, fun H4 q => ⟨xs, xs', q.1.1, q.2.1, .inr ?_⟩⟩⟩⟩
    · obtain ⟨d, hd⟩ : ∃ d, ds[i]? = some d := ⟨_, List.getElem?_eq_getElem (Nat.lt_of_lt_of_le hi hl)⟩
      obtain ⟨d', hd'⟩ : ∃ d, es[i]? = some d := ⟨_, List.getElem?_eq_getElem hi⟩
      obtain ⟨v, hv, b⟩ := q.1.2.get hd
      obtain ⟨v', hv', b'⟩ := q.2.2.get hd'
      refine ⟨⟨xs, xs', v, v', q.1.1, q.2.1, hv, hv'⟩, fun x H5 hy => ?_⟩
      obtain ⟨T, x1, x2, rfl, nT, rfl, f1, f2⟩ := hy
      have g1 := f1 xs q.1.1
      have g2 := f2 xs' q.2.1
      rw [hv] at g1
      rw [hv'] at g2
      cases g1
      cases g2
      rw [getD_some hd, getD_some hd']
      exact ⟨Ex.new nT, .tup (st_of upd_same) (.cons (b.ex (Ex.new nT)) (.cons (b'.ex (Ex.new nT)) .nil))⟩
    · rw [q.2.2.len]
      exact Nat.le_refl _
end
end WD
end
section
set_option Elab.async false
set_option linter.all false
set_option maxRecDepth 100000
namespace PySem
open Sem (wp)
namespace ZN
open PySem.F
/-- a zip that has handed out the tuple at T -/
abbrev Kept (h : Heap) (z TI TO T : Addr) (fl : Bool) : Prop := h.get? z = some { cls := .type "zip", dict := none, data := .fields #[rawInt T, .bool fl, .bool false, .ref TI, .ref TO], slots := #[] }
section
variable {prog : Program} {w : World} {A : Around} {E : Value → Shared → Prop} {s : Shared}
theorem alive_step {a : Addr} {o : Obj} {Q : Option Obj → Shared → Prop} (ho : s.heap.get? a = some o) (h : Q (some o) s) : wpAny (model prog w) A (loadIfAlive a) Q E s := PySem.W.kdx_alive ho h
/-- what was handed out is still there: the zip is marked, and makes its tuples anew -/
theorem free_kept {z TI TO T : Addr} {fl : Bool} {o : Obj} {Q : Bool → Shared → Prop} (hz : Kept s.heap z TI TO T fl) (hT : s.heap.get? T = some o)
    (hQ : ∀ h', Kept h' z TI TO T true → (∀ c o, c ≠ z → s.heap.get? c = some o → h'.get? c = some o) → h'.objs.size = s.heap.objs.size → Q false { s with heap := h' }) :
    wpAny (model prog w) A (Builtin.SmallTypes.ownedTupleIsFree (.ref z)) Q E s := by
  unfold Builtin.SmallTypes.ownedTupleIsFree
  refine wpAny_bind (wpAny_field hz rfl (x := rawInt T) rfl ?_)
  show wpAny _ _ (loadIfAlive ((T : Int)).toNat >>= _) _ _ _
  rw [Int.toNat_natCast]
  refine wpAny_bind (alive_step hT ?_)
  simp only [Option.isNone_some, Bool.false_eq_true, if_false]
  refine wpAny_bind (wpAny_field hz rfl (x := .bool fl) rfl ?_)
  cases fl with
  | true =>
    refine wpAny_ite_split (fun h => absurd h (by decide)) fun _ => ?_
    exact wpAny_pure (hQ s.heap hz (fun _ _ _ e => e) rfl)
  | false =>
    refine wpAny_ite_split (fun _ => ?_) fun h => absurd (by decide) h
    refine wpAny_bind (wpAny_setField_rec hz (by simp) fun h₁ hz₁ hs₁ => ?_)
    exact wpAny_pure (hQ h₁ hz₁ (fun c o n e => hs₁.extBut c o n e) hs₁.1)
theorem next_kept {z TI TO T i1 i2 l1 l2 : Addr} {fl : Bool} {o : Obj} {k1 k2 : Nat} {xs ys : Array Value} {x y : Value} {Q : Value → Shared → Prop} (D : ZipApart z TI TO i1 i2 l1 l2)
    (hz : Kept s.heap z TI TO T fl) (hT : s.heap.get? T = some o) (hTI : IsPair s.heap TI (.ref i1) (.ref i2))
    (h1 : s.heap.IsListIter i1 l1 k1) (h2 : s.heap.IsListIter i2 l2 k2) (hl1 : s.heap.IsList l1 xs) (hl2 : s.heap.IsList l2 ys) (hx : xs[k1]? = some x) (hy : ys[k2]? = some y)
    (hQ : ∀ h', Kept h' z TI TO T true → h'.IsListIter i1 l1 (k1 + 1) → h'.IsListIter i2 l2 (k2 + 1) → IsPair h' s.heap.objs.size x y → h'.objs.size = s.heap.objs.size + 1 →
      (∀ c o, c ≠ z → c ≠ i1 → c ≠ i2 → s.heap.get? c = some o → h'.get? c = some o) → Q (.ref s.heap.objs.size) { s with heap := h' }) :
    wpAny (model prog w) A (Builtin.«zip.__next__» ⟨[.ref z], []⟩) (fun fin s' => ∃ v, fin = .done (.ret v) ∧ Q v s') E s := by
  show wpAny _ _ (field (.ref z) 2 >>= _) _ _ _
  refine wpAny_bind (wpAny_field hz rfl (x := .bool false) rfl ?_)
  show wpAny _ _ (field (.ref z) 3 >>= _) _ _ _
  refine wpAny_bind (wpAny_field hz rfl (x := .ref TI) rfl ?_)
  refine wpAny_bind (wpAny_seqItems hTI rfl ?_)
  show wpAny _ _ (Builtin.SmallTypes.ownedTupleIsFree (.ref z) >>= _) _ _ _
  refine wpAny_bind (free_kept hz hT fun h₁ hz₁ hk₁ n₁ => ?_)
  rw [if_neg (by decide)]
  dsimp only
  simp only [List.forIn_toArray, List.forIn_cons, List.forIn_nil]
  have b1 := h1.at fun o e => hk₁ _ o D.i1z e
  have c1 := hl1.at fun o e => hk₁ _ o D.l1z e
  have b2 := h2.at fun o e => hk₁ _ o D.i2z e
  have c2 := hl2.at fun o e => hk₁ _ o D.l2z e
  refine wpAny_bind (wpAny_bind (wpAny_bind (wpAny_holding ?_)))
  show wpAny _ _ (Builtin.SmallTypes.nextOf (.ref i1) >>= _) _ _ _
  refine wpAny_bind (wpAny_nextOf_list_item b1 c1 hx fun h₂ d1 s₂ => wpAny_pure (wpAny_pure ?_))
  have d2 := b2.extBut s₂.extBut D.i12.symm
  have e2 := c2.extBut s₂.extBut D.l2i1
  show wpAny _ _ _ _ _ _
  refine wpAny_bind (wpAny_bind (wpAny_holding ?_))
  show wpAny _ _ (Builtin.SmallTypes.nextOf (.ref i2) >>= _) _ _ _
  refine wpAny_bind (wpAny_nextOf_list_item d2 e2 hy fun h₃ f2 s₃ => wpAny_pure (wpAny_pure (wpAny_pure ?_)))
  have f1 := d1.extBut s₃.extBut D.i12
  have n₃ : h₃.objs.size = s.heap.objs.size := by rw [s₃.1, s₂.1, n₁]
  have z₃ : Kept h₃ z TI TO T true := s₃.extBut _ _ D.i2z.symm (s₂.extBut _ _ D.i1z.symm hz₁)
  show wpAny _ _ (newTuple [x, y] >>= _) _ _ _
  refine wpAny_bind (wpAny_newTuple ?_)
  refine wpAny_pure ⟨_, rfl, ?_⟩
  have up : ∀ c o, h₃.get? c = some o → (h₃.push { cls := .type "tuple", data := .seq ([x, y] : List Value).toArray }).get? c = some o := fun c o e => Heap.get?_push_of_some _ e
  have k₃ : ∀ c o, c ≠ z → c ≠ i1 → c ≠ i2 → s.heap.get? c = some o → h₃.get? c = some o := fun c o n1 n2 n3 e => s₃.extBut _ _ n3 (s₂.extBut _ _ n2 (hk₁ c o n1 e))
  show Q (.ref h₃.objs.size) _
  rw [n₃]
  exact hQ (h₃.push { cls := .type "tuple", data := .seq ([x, y] : List Value).toArray }) (up _ _ z₃) (f1.at fun o e => up _ o e) (f2.at fun o e => up _ o e) (by rw [← n₃]; exact Heap.get?_push_size _ rfl) (by rw [Heap.size_push, n₃]) fun c o n1 n2 n3 e => up c o (k₃ c o n1 n2 n3 e)
theorem end_kept {z TI TO T i1 i2 l1 l2 : Addr} {fl : Bool} {o : Obj} {k1 : Nat} {xs : Array Value} {Q : Fin → Shared → Prop} (hh : A.handled = none) (D : ZipApart z TI TO i1 i2 l1 l2)
    (hz : Kept s.heap z TI TO T fl) (hT : s.heap.get? T = some o) (hTI : IsPair s.heap TI (.ref i1) (.ref i2))
    (h1 : s.heap.IsListIter i1 l1 k1) (hl1 : s.heap.IsList l1 xs) (hx : xs[k1]? = none)
    (hE : ∀ h' e, (∀ c o, c ≠ z → c ≠ i1 → s.heap.get? c = some o → h'.get? c = some o) → (∃ o, h'.get? e = some o ∧ o.cls = .type "StopIteration") → E (.ref e) { s with heap := h' }) :
    wpAny (model prog w) A (Builtin.«zip.__next__» ⟨[.ref z], []⟩) Q E s := by
  show wpAny _ _ (field (.ref z) 2 >>= _) _ _ _
  refine wpAny_bind (wpAny_field hz rfl (x := .bool false) rfl ?_)
  show wpAny _ _ (field (.ref z) 3 >>= _) _ _ _
  refine wpAny_bind (wpAny_field hz rfl (x := .ref TI) rfl ?_)
  refine wpAny_bind (wpAny_seqItems hTI rfl ?_)
  show wpAny _ _ (Builtin.SmallTypes.ownedTupleIsFree (.ref z) >>= _) _ _ _
  refine wpAny_bind (free_kept hz hT fun h₁ hz₁ hk₁ n₁ => ?_)
  rw [if_neg (by decide)]
  dsimp only
  simp only [List.forIn_toArray, List.forIn_cons, List.forIn_nil]
  refine wpAny_bind (wpAny_bind (wpAny_bind (wpAny_holding ?_)))
  show wpAny _ _ (Builtin.SmallTypes.nextOf (.ref i1) >>= _) _ _ _
  refine wpAny_bind (wpAny_nextOf_list_end hh (h1.at fun o e => hk₁ _ o D.i1z e) (hl1.at fun o e => hk₁ _ o D.l1z e) hx fun h₂ e s₂ he => ?_)
  exact hE h₂ e (fun c o n1 n2 x => s₂ _ _ n2 (hk₁ c o n1 x)) he
theorem pyNext_kept {z TI TO T i1 i2 l1 l2 : Addr} {fl : Bool} {o : Obj} {k1 k2 : Nat} {xs ys : Array Value} {x y : Value} {Q : Option Value → Shared → Prop} (D : ZipApart z TI TO i1 i2 l1 l2)
    (hz : Kept s.heap z TI TO T fl) (hT : s.heap.get? T = some o) (hTI : IsPair s.heap TI (.ref i1) (.ref i2))
    (h1 : s.heap.IsListIter i1 l1 k1) (h2 : s.heap.IsListIter i2 l2 k2) (hl1 : s.heap.IsList l1 xs) (hl2 : s.heap.IsList l2 ys) (hx : xs[k1]? = some x) (hy : ys[k2]? = some y)
    (hQ : ∀ h', Kept h' z TI TO T true → h'.IsListIter i1 l1 (k1 + 1) → h'.IsListIter i2 l2 (k2 + 1) → IsPair h' s.heap.objs.size x y → h'.objs.size = s.heap.objs.size + 1 →
      (∀ c o, c ≠ z → c ≠ i1 → c ≠ i2 → s.heap.get? c = some o → h'.get? c = some o) → Q (some (.ref s.heap.objs.size)) { s with heap := h' }) : wpAny (model prog w) A (pyNext (.ref z)) Q E s := by
  have ty : s.TypeIs (.ref z) "zip" := ⟨_, hz, rfl⟩
  unfold pyNext
  refine wpAny_bind (wpAny_attempt (wpAny_callSpecial?_slot (name := Str.ofString "__next__") ty slot_zip_next (wpAny_call_entry slot_zip_next ty entry_zip_next ?_ (args_zip_next_1 _))))
  exact next_kept D hz hT hTI h1 h2 hl1 hl2 hx hy fun h' a1 a2 a3 a4 a5 a6 => wpAny_pure (hQ h' a1 a2 a3 a4 a5 a6)
theorem pyNext_over {z TI TO T i1 i2 l1 l2 : Addr} {fl : Bool} {o : Obj} {k1 : Nat} {xs : Array Value} {Q : Option Value → Shared → Prop} (hh : A.handled = none) (D : ZipApart z TI TO i1 i2 l1 l2)
    (hz : Kept s.heap z TI TO T fl) (hT : s.heap.get? T = some o) (hTI : IsPair s.heap TI (.ref i1) (.ref i2)) (h1 : s.heap.IsListIter i1 l1 k1) (hl1 : s.heap.IsList l1 xs) (hx : xs[k1]? = none)
    (hQ : ∀ h', (∀ c o, c ≠ z → c ≠ i1 → s.heap.get? c = some o → h'.get? c = some o) → Q none { s with heap := h' }) : wpAny (model prog w) A (pyNext (.ref z)) Q E s := by
  have ty : s.TypeIs (.ref z) "zip" := ⟨_, hz, rfl⟩
  unfold pyNext
  refine wpAny_bind (wpAny_attempt (wpAny_callSpecial?_slot (name := Str.ofString "__next__") ty slot_zip_next (wpAny_call_entry slot_zip_next ty entry_zip_next (end_kept hh D hz hT hTI h1 hl1 hx fun h' e hk he => ?_) (args_zip_next_1 _))))
  obtain ⟨oe, ho, hc⟩ := he
  refine wpAny_bind (wpAny_isInstance (T := "StopIteration") (b := true) ⟨oe, ho, hc⟩ isSubtype_stop ?_)
  exact wpAny_pure (hQ _ hk)
/-- where list(zip(..)) stands behind i tuples, which lie at as -/
structure Zs (h : Heap) (z TI TO i1 i2 l1 l2 S : Addr) (xs ys : Array Value) (i : Nat) (as : List Addr) : Prop where
  st : (as = [] ∧ IsZip h z TI TO .none ∧ ∃ a b, IsPair h TO a b) ∨ (∃ T fl, T ∈ as ∧ Kept h z TI TO T fl)
  ti : IsPair h TI (.ref i1) (.ref i2)
  h1 : h.IsListIter i1 l1 i
  h2 : h.IsListIter i2 l2 i
  q1 : h.IsList l1 xs
  q2 : h.IsList l2 ys
  le : as.length = i
  ps : ∀ (j : Nat) (a : Addr), as[j]? = some a → ∃ x y, xs[j]? = some x ∧ ys[j]? = some y ∧ IsPair h a x y
  ap : ∀ a ∈ as, a ≠ z ∧ a ≠ TO ∧ a ≠ i1 ∧ a ≠ i2 ∧ S < a
  up : as.Pairwise (· < ·)
theorem Zs.over {h h' : Heap} {z TI TO i1 i2 l1 l2 S : Addr} {xs ys : Array Value} {i : Nat} {as : List Addr} (q : Zs h z TI TO i1 i2 l1 l2 S xs ys i as) (hz : z ≠ S) (hTI : TI ≠ S) (hTO : TO ≠ S) (hi1 : i1 ≠ S) (hi2 : i2 ≠ S) (hl1 : l1 ≠ S) (hl2 : l2 ≠ S)
    (k : ∀ c o, c ≠ S → h.get? c = some o → h'.get? c = some o) : Zs h' z TI TO i1 i2 l1 l2 S xs ys i as := by
  refine ⟨?_, k _ _ hTI q.ti, q.h1.at fun o e => k _ o hi1 e, q.h2.at fun o e => k _ o hi2 e, q.q1.at fun o e => k _ o hl1 e, q.q2.at fun o e => k _ o hl2 e, q.le, fun j a ha => ?_, q.ap, q.up⟩
  · rcases q.st with ⟨e, a, b, c, d⟩ | ⟨T, fl, m, d⟩
    · exact .inl ⟨e, k _ _ hz a, b, c, k _ _ hTO d⟩
    · exact .inr ⟨T, fl, m, k _ _ hz d⟩
  · obtain ⟨x, y, e1, e2, e3⟩ := q.ps j a ha
    exact ⟨x, y, e1, e2, k _ _ (Nat.ne_of_gt (q.ap a (List.mem_of_getElem? ha)).2.2.2.2) e3⟩
theorem step_item {z TI TO i1 i2 l1 l2 S : Addr} {xs ys : Array Value} {i : Nat} {as : List Addr} {x y : Value} {Q : Option Value → Shared → Prop} (D : ZipApart z TI TO i1 i2 l1 l2) (hS : S < s.heap.objs.size) (zs : Zs s.heap z TI TO i1 i2 l1 l2 S xs ys i as) (hx : xs[i]? = some x) (hy : ys[i]? = some y)
    (hTOl : TO < s.heap.objs.size)
    (hQ : ∀ h' a, Zs h' z TI TO i1 i2 l1 l2 S xs ys (i + 1) (as ++ [a]) → a = s.heap.objs.size → h'.objs.size = s.heap.objs.size + 1 → (∀ c o, c ≠ z → c ≠ TO → c ≠ i1 → c ≠ i2 → s.heap.get? c = some o → h'.get? c = some o) → Q (some (.ref a)) { s with heap := h' }) : wpAny (model prog w) A (pyNext (.ref z)) Q E s := by
  have lz : z < s.heap.objs.size := by
    rcases zs.st with ⟨_, a, _⟩ | ⟨T, fl, _, d⟩
    · exact Heap.lt_size a
    · exact Heap.lt_size d
  have li1 : i1 < s.heap.objs.size := by obtain ⟨_, e, _⟩ := zs.h1; exact Heap.lt_size e
  have li2 : i2 < s.heap.objs.size := by obtain ⟨_, e, _⟩ := zs.h2; exact Heap.lt_size e
  have fin : ∀ h', (∃ fl T, T ∈ as ++ [s.heap.objs.size] ∧ Kept h' z TI TO T fl) → h'.IsListIter i1 l1 (i + 1) → h'.IsListIter i2 l2 (i + 1) → IsPair h' s.heap.objs.size x y → h'.objs.size = s.heap.objs.size + 1 →
      (∀ c o, c ≠ z → c ≠ TO → c ≠ i1 → c ≠ i2 → s.heap.get? c = some o → h'.get? c = some o) → Q (some (.ref s.heap.objs.size)) { s with heap := h' } := by
    rintro h' ⟨fl, T, hm, hk⟩ a1 a2 a3 a4 k
    refine hQ h' _ ⟨.inr ⟨T, fl, hm, hk⟩, k _ _ D.TIz D.TITO D.TIi1 D.TIi2 zs.ti, a1, a2, zs.q1.at fun o e => k _ o D.l1z D.l1TO D.l1i1 D.l1i2 e, zs.q2.at fun o e => k _ o D.l2z D.l2TO D.l2i1 D.l2i2 e, by rw [List.length_append, zs.le]; rfl, fun j a ha => ?_, fun a ha => ?_, ?_⟩ rfl a4 k
    · rcases Nat.lt_or_ge j as.length with hj | hj
      · rw [List.getElem?_append_left hj] at ha
        obtain ⟨x', y', e1, e2, e3⟩ := zs.ps j a ha
        obtain ⟨n1, n2, n3, n4, n5⟩ := zs.ap a (List.mem_of_getElem? ha)
        exact ⟨x', y', e1, e2, k _ _ n1 n2 n3 n4 e3⟩
      · rw [List.getElem?_append_right hj] at ha
        have hj0 : j - as.length = 0 := by
          cases hd : j - as.length with
          | zero => rfl
          | succ m =>
            rw [hd] at ha
            simp at ha
        rw [hj0] at ha
        cases ha
        have : j = i := by
          have := zs.le
          omega
        subst this
        exact ⟨x, y, hx, hy, a3⟩
    · rcases List.mem_append.mp ha with ha | ha
      · exact zs.ap a ha
      · rw [List.mem_singleton.mp ha]
        exact ⟨Nat.ne_of_gt lz, Nat.ne_of_gt hTOl, Nat.ne_of_gt li1, Nat.ne_of_gt li2, hS⟩
    · refine List.pairwise_append.mpr ⟨zs.up, List.pairwise_singleton _ _, fun a ha b hb => ?_⟩
      rw [List.mem_singleton.mp hb]
      obtain ⟨j, hj⟩ := List.getElem?_of_mem ha
      obtain ⟨_, _, _, _, e3⟩ := zs.ps j a hj
      exact Heap.lt_size e3
  rcases zs.st with ⟨e, hz, b, c, hTO⟩ | ⟨T, fl, hm, hk⟩
  · exact wpAny_pyNext_zip_item D hz zs.ti hTO zs.h1 zs.h2 zs.q1 zs.q2 hx hy fun h' a1 a2 a3 a4 a5 a6 a7 => fin h' ⟨false, s.heap.objs.size, by simp, a1⟩ a3 a4 a5 a6 a7
  · obtain ⟨j, hj⟩ := List.getElem?_of_mem hm
    obtain ⟨x', y', _, _, e3⟩ := zs.ps j T hj
    exact pyNext_kept D hk e3 zs.ti zs.h1 zs.h2 zs.q1 zs.q2 hx hy fun h' a1 a2 a3 a4 a5 a6 => fin h' ⟨true, T, List.mem_append_left _ hm, a1⟩ a2 a3 a4 a5 fun c o n1 _ n3 n4 e => a6 c o n1 n3 n4 e
theorem step_over {z TI TO i1 i2 l1 l2 S : Addr} {xs ys : Array Value} {i : Nat} {as : List Addr} {Q : Option Value → Shared → Prop} (hh : A.handled = none) (D : ZipApart z TI TO i1 i2 l1 l2) (zs : Zs s.heap z TI TO i1 i2 l1 l2 S xs ys i as) (hx : xs[i]? = none)
    (hQ : ∀ h', (∀ c o, c ≠ z → c ≠ TO → c ≠ i1 → c ≠ i2 → s.heap.get? c = some o → h'.get? c = some o) → Q none { s with heap := h' }) : wpAny (model prog w) A (pyNext (.ref z)) Q E s := by
  rcases zs.st with ⟨e, hz, b, c, hTO⟩ | ⟨T, fl, hm, hk⟩
  · exact wpAny_pyNext_zip_end hh D hz zs.ti hTO zs.h1 zs.h2 zs.q1 zs.q2 (.inl hx) hQ
  · obtain ⟨j, hj⟩ := List.getElem?_of_mem hm
    obtain ⟨x', y', _, _, e3⟩ := zs.ps j T hj
    exact pyNext_over hh D hk e3 zs.ti zs.h1 zs.q1 hx fun h' k => hQ h' fun c o n1 _ n3 _ e => k c o n1 n3 e
variable {R : Result → Shared → Prop}
/-- the loop that takes all that a zip gives -/
theorem loop {z TI TO i1 i2 l1 l2 S : Addr} {xs ys : Array Value} (hh : A.handled = none) (D : ZipApart z TI TO i1 i2 l1 l2) (hxy : xs.size = ys.size) (hn : xs.size ≤ sizeLine) (hz : z ≠ S) (hTI : TI ≠ S) (hTO : TO ≠ S) (hi1 : i1 ≠ S) (hi2 : i2 ≠ S) (hl1 : l1 ≠ S) (hl2 : l2 ≠ S) (res : Value) (h₀ : Heap)
    (hold : ∀ c o, h₀.get? c = some o → c ≠ z ∧ c ≠ TO ∧ c ≠ i1 ∧ c ≠ i2 ∧ c ≠ S)
    (hR : ∀ h' tk acc c (as : List Addr), (∀ c o, h₀.get? c = some o → h'.get? c = some o) → h'.get? S = some { cls := .type "list", dict := none, data := .seq acc c, slots := #[] } → acc.toList = as.map Value.ref → as.length = xs.size →
      (∀ (j : Nat) (a : Addr), as[j]? = some a → ∃ x y, xs[j]? = some x ∧ ys[j]? = some y ∧ IsPair h' a x y) → (∀ a ∈ as, S < a) → as.Pairwise (· < ·) → R (.ok (.ret res)) { s with heap := h', toks := tk }) :
    ∀ (m i : Nat) (h : Heap) (tk : Nat) (acc : Array Value) (c : Nat) (as : List Addr), xs.size - i = m → i ≤ xs.size → Zs h z TI TO i1 i2 l1 l2 S xs ys i as → TO < h.objs.size → (∀ c o, h₀.get? c = some o → h.get? c = some o) →
      h.get? S = some { cls := .type "list", dict := none, data := .seq acc c, slots := #[] } → acc.toList = as.map Value.ref →
      codeAny (model prog w) A (.builtin "list.extend.loop" ⟨[.ref S, .ref z, res], []⟩) R { s with heap := h, toks := tk } := by
  intro m
  induction m with
  | zero =>
    intro i h tk acc c as hm hi zs lTO kp hS ha
    have e : i = xs.size := by omega
    refine codeAny_builtin entry_extend_loop ?_
    rw [Around.under_plainId plain_extend_loop _]
    show wpAny _ A.in1 (pyNext (.ref z) >>= _) _ _ _
    refine wpAny_bind (step_over (A := A.in1) hh D zs (by rw [e]; simp) fun h' k => ?_)
    refine wpAny_pure (hR h' tk acc c as (fun c o x => ?_) (k _ _ hz.symm hTO.symm hi1.symm hi2.symm hS) ha (by rw [zs.le, e]) (fun j a hj => ?_) (fun a x => (zs.ap a x).2.2.2.2) zs.up)
    · obtain ⟨n1, n2, n3, n4, _⟩ := hold c o x
      exact k c o n1 n2 n3 n4 (kp c o x)
    · obtain ⟨x, y, e1, e2, e3⟩ := zs.ps j a hj
      obtain ⟨n1, n2, n3, n4, _⟩ := zs.ap a (List.mem_of_getElem? hj)
      exact ⟨x, y, e1, e2, k _ _ n1 n2 n3 n4 e3⟩
  | succ m ih =>
    intro i h tk acc c as hm hi zs lTO kp hS ha
    have lt : i < xs.size := by omega
    have lt2 : i < ys.size := by omega
    refine codeAny_builtin entry_extend_loop ?_
    rw [Around.under_plainId plain_extend_loop _]
    show wpAny _ A.in1 (pyNext (.ref z) >>= _) _ _ _
    refine wpAny_bind (step_item (A := A.in1) D (Heap.lt_size hS) zs (Array.getElem?_eq_getElem lt) (Array.getElem?_eq_getElem lt2) lTO fun h' a zs' ea es k => ?_)
    have hS' := k _ _ hz.symm hTO.symm hi1.symm hi2.symm hS
    show wpAny _ A.in1 (updateSeq S (·.push (.ref a)) >>= _) _ _ _
    have as1 : acc.size = i := by
      rw [← Array.length_toList, ha, List.length_map, zs.le]
    refine wpAny_bind (wpAny_updateSeq hS' rfl (wpAny_pure ⟨plainId_quiet plain_extend_loop _, ?_⟩) (by rw [as1]; omega) (by show (acc.push (.ref a)).size ≤ sizeLine + 1; rw [Array.size_push, as1]; omega))
    have oth : ∀ b o, b ≠ S → h'.get? b = some o → (h'.update S (Obj.mapSeq (·.push (.ref a)))).get? b = some o := fun b o n e => (Heap.get?_update_other _ _ n.symm).trans e
    refine ih (i + 1) (h'.update S (Obj.mapSeq (·.push (.ref a)))) tk (acc.push (.ref a)) _ (as ++ [a]) (by omega) (by omega) (zs'.over hz hTI hTO hi1 hi2 hl1 hl2 oth) ?_ (fun c o x => ?_) (Heap.get?_update_self _ hS' rfl) (by rw [Array.toList_push, ha, List.map_append]; rfl)
    · have : (h'.update S (Obj.mapSeq (·.push (.ref a)))).objs.size = h'.objs.size := (Heap.SameBut.update ..).1
      rw [this, es]
      exact Nat.lt_succ_of_lt lTO
    · obtain ⟨n1, n2, n3, n4, n5⟩ := hold c o x
      exact oth c o n5 (k c o n1 n2 n3 n4 (kp c o x))
theorem zip_no_len : typeLookup (.type "zip") "__len__" = pure none := by rw [typeLookup_type, builtinLookup_eq_fast]; kernel_rfl
theorem zip_no_hint : typeLookup (.type "zip") "__length_hint__" = pure none := by rw [typeLookup_type, builtinLookup_eq_fast]; kernel_rfl
theorem extend_zip {z TI TO i1 i2 l1 l2 S : Addr} {xs ys : Array Value} (hh : A.handled = none) (D : ZipApart z TI TO i1 i2 l1 l2) (hxy : xs.size = ys.size) (hn : xs.size ≤ sizeLine) (hz : z ≠ S) (hTI : TI ≠ S) (hTO : TO ≠ S) (hi1 : i1 ≠ S) (hi2 : i2 ≠ S) (hl1 : l1 ≠ S) (hl2 : l2 ≠ S) (res : Value) (h₀ : Heap) (c₀ : Nat)
    (hold : ∀ c o, h₀.get? c = some o → c ≠ z ∧ c ≠ TO ∧ c ≠ i1 ∧ c ≠ i2 ∧ c ≠ S) (kp : ∀ c o, h₀.get? c = some o → s.heap.get? c = some o) (zs : Zs s.heap z TI TO i1 i2 l1 l2 S xs ys 0 []) (lTO : TO < s.heap.objs.size)
    (hS : s.heap.get? S = some { cls := .type "list", data := .seq #[] c₀ })
    (hR : ∀ h' tk acc c (as : List Addr), (∀ c o, h₀.get? c = some o → h'.get? c = some o) → h'.get? S = some { cls := .type "list", dict := none, data := .seq acc c, slots := #[] } → acc.toList = as.map Value.ref → as.length = xs.size →
      (∀ (j : Nat) (a : Addr), as[j]? = some a → ∃ x y, xs[j]? = some x ∧ ys[j]? = some y ∧ IsPair h' a x y) → (∀ a ∈ as, S < a) → as.Pairwise (· < ·) → R (.ok (.ret res)) { s with heap := h', toks := tk }) :
    wpAny (model prog w) A.in1 (Builtin.List.listExtendWith (.ref S) (.ref z) res)
      (fun fin s' => match fin with | .done f => R (.ok f) s' | .again c' => c'.quiet = true ∧ codeAny (model prog w) A c' R s') (fun e s' => R (.error e) s') s := by
  obtain ⟨zo, ezo, czo⟩ : ∃ f0, IsZip s.heap z TI TO f0 ∧ f0 = .none := by
    rcases zs.st with ⟨_, a, _⟩ | ⟨T, fl, m, _⟩
    · exact ⟨_, a, rfl⟩
    · cases m
  have ty : s.TypeIs (.ref z) "zip" := ⟨_, ezo, rfl⟩
  unfold Builtin.List.listExtendWith
  refine wpAny_bind (wpAny_typeOf ty ?_)
  have e1 : Builtin.List.listSameRef (.ref S) (.ref z) = false := by simp [Builtin.List.listSameRef, hz.symm]
  have e2 : (Value.type "zip" == Value.type "list") = false := by decide
  have e3 : (Value.type "zip" == Value.type "tuple") = false := by decide
  simp only [e1, e2, e3, Bool.or_false, Bool.false_eq_true, if_false]
  refine wpAny_bind (wpAny_pyIter_zip ezo ?_)
  refine wpAny_bind (wpAny_holding ?_)
  unfold Builtin.List.listLengthHint
  refine wpAny_bind (wpAny_specialOf ty zip_no_len ?_)
  show wpAny _ A.in1 (specialOf (Value.ref z) (Str.ofString "__length_hint__") >>= _) _ _ _
  refine wpAny_bind (wpAny_specialOf ty zip_no_hint ?_)
  refine wpAny_pure ?_
  show wpAny _ A.in1 (rule "list.extend.makes-room" >>= fun _ => Builtin.List.listTouch (.ref S) >>= fun _ => again (.builtin "list.extend.loop" ⟨[.ref S, .ref z, res], []⟩)) _ _ _
  refine wpAny_bind (wpAny_rule ?_)
  refine wpAny_bind ?_
  show wpAny _ A.in1 (updateSeq S (·.push .none) >>= fun _ => updateSeq S (·.pop)) _ _ _
  refine wpAny_bind (wpAny_updateSeq hS rfl ?_)
  have u1 := Heap.get?_update_self (Obj.mapSeq (·.push Value.none)) hS rfl
  refine wpAny_updateSeq (hz := by seq_fits) u1 rfl ?_
  have u2 := Heap.get?_update_self (Obj.mapSeq (·.pop)) u1 rfl
  have oth : ∀ b o, b ≠ S → s.heap.get? b = some o → ((s.heap.update S (Obj.mapSeq (·.push Value.none))).update S (Obj.mapSeq (·.pop))).get? b = some o :=
    fun b o n e => (Heap.get?_update_other _ _ n.symm).trans ((Heap.get?_update_other _ _ n.symm).trans e)
  refine wpAny_pure ⟨plainId_quiet plain_extend_loop _, ?_⟩
  refine loop (s := s) hh D hxy hn hz hTI hTO hi1 hi2 hl1 hl2 res h₀ hold hR xs.size 0 _ _ #[] _ [] (Nat.sub_zero _) (Nat.zero_le _) (zs.over hz hTI hTO hi1 hi2 hl1 hl2 oth) ?_ (fun c o e => oth c o (hold c o e).2.2.2.2 (kp c o e)) u2 rfl
  have z1 : ((s.heap.update S (Obj.mapSeq (·.push Value.none))).update S (Obj.mapSeq (·.pop))).objs.size = s.heap.objs.size := ((Heap.SameBut.update ..).1).trans (Heap.SameBut.update ..).1
  rw [z1]
  exact lTO
theorem list_of_zip {z TI TO i1 i2 l1 l2 : Addr} {xs ys : Array Value} {Q : Value → Shared → Prop} (hh : A.handled = none) (D : ZipApart z TI TO i1 i2 l1 l2) (hxy : xs.size = ys.size) (hn : xs.size ≤ sizeLine) (hz : IsZip s.heap z TI TO .none) (hTI : IsPair s.heap TI (.ref i1) (.ref i2)) (hTO : ∃ a b, IsPair s.heap TO a b)
    (h1 : s.heap.IsListIter i1 l1 0) (h2 : s.heap.IsListIter i2 l2 0) (q1 : s.heap.IsList l1 xs) (q2 : s.heap.IsList l2 ys) (h₀ : Heap) (hold : ∀ c o, h₀.get? c = some o → c ≠ z ∧ c ≠ TO ∧ c ≠ i1 ∧ c ≠ i2) (kp : ∀ c o, h₀.get? c = some o → s.heap.get? c = some o)
    (hQ : ∀ h' tk acc c (as : List Addr), (∀ c o, h₀.get? c = some o → h'.get? c = some o) → h'.get? s.heap.objs.size = some { cls := .type "list", dict := none, data := .seq acc c, slots := #[] } → acc.toList = as.map Value.ref → as.length = xs.size →
      (∀ (j : Nat) (a : Addr), as[j]? = some a → ∃ x y, xs[j]? = some x ∧ ys[j]? = some y ∧ IsPair h' a x y) → (∀ a ∈ as, s.heap.objs.size < a) → as.Pairwise (· < ·) → Q (.ref s.heap.objs.size) { s with heap := h', toks := tk }) :
    wpAny (model prog w) A (call (.type "list") [.ref z]) Q E s := by
  have up : ∀ c o, s.heap.get? c = some o → (s.heap.push { cls := .type "list", data := .seq #[] }).get? c = some o := fun c o e => Heap.get?_push_of_some _ e
  have ne : ∀ {c : Addr} {o : Obj}, s.heap.get? c = some o → c ≠ s.heap.objs.size := fun e => Nat.ne_of_lt (Heap.lt_size e)
  obtain ⟨pa, pb, hTO⟩ := hTO
  have n1 : i1 ≠ s.heap.objs.size := by obtain ⟨_, e, _⟩ := h1; exact ne e
  have n2 : i2 ≠ s.heap.objs.size := by obtain ⟨_, e, _⟩ := h2; exact ne e
  have n3 : l1 ≠ s.heap.objs.size := by obtain ⟨_, e, _⟩ := q1; exact ne e
  have n4 : l2 ≠ s.heap.objs.size := by obtain ⟨_, e, _⟩ := q2; exact ne e
  refine callType_codes (Q₁ := fun obj s₁ => obj = .ref s.heap.objs.size ∧ s₁ = { s with heap := s.heap.push { cls := .type "list", data := .seq #[] } }) called_list (typeCall_list_1 _) entry_list_init (code_list_new _ ⟨rfl, rfl⟩) fun obj s₁ he => ?_
  obtain ⟨rfl, rfl⟩ := he
  have hS : (s.heap.push { cls := .type "list", data := .seq #[] }).get? s.heap.objs.size = some { cls := .type "list", data := .seq #[] } := Heap.get?_push_size _ rfl
  refine ⟨⟨_, hS, rfl⟩, args_list_init_2 _ _, ?_⟩
  show wpAny _ _ (do let old ← Builtin.List.listItems (.ref s.heap.objs.size); Builtin.List.listUpdate (.ref s.heap.objs.size) (fun _ => #[]); letGo old.toList.reverse; Builtin.List.listExtendWith (.ref s.heap.objs.size) (.ref z) .none) _ _ _
  refine wpAny_bind ?_
  unfold Builtin.List.listItems
  refine wpAny_bind (wpAny_seqItems hS rfl (wpAny_pure ?_))
  show wpAny _ _ (updateSeq s.heap.objs.size (fun _ => #[]) >>= fun _ => letGo (#[] : Array Value).toList.reverse >>= fun _ => Builtin.List.listExtendWith (.ref s.heap.objs.size) (.ref z) .none) _ _ _
  refine wpAny_bind (wpAny_updateSeq hS rfl ?_)
  have u1 := Heap.get?_update_self (Obj.mapSeq (fun _ => (#[] : Array Value))) hS rfl
  have oth : ∀ c o, s.heap.get? c = some o → ((s.heap.push { cls := .type "list", data := .seq #[] }).update s.heap.objs.size (Obj.mapSeq (fun _ => (#[] : Array Value)))).get? c = some o := fun c o e => (Heap.get?_update_other _ _ (ne e).symm).trans (up c o e)
  refine wpAny_bind (wpAny_letGo ?_)
  refine extend_zip (A := A.in1) hh D hxy hn (ne hz) (ne hTI) (ne hTO) n1 n2 n3 n4 .none h₀ _ (fun c o e => ⟨(hold c o e).1, (hold c o e).2.1, (hold c o e).2.2.1, (hold c o e).2.2.2, ne (kp c o e)⟩) (fun c o e => oth c o (kp c o e))
    ⟨.inl ⟨rfl, oth _ _ hz, pa, pb, oth _ _ hTO⟩, oth _ _ hTI, h1.at fun o e => oth _ o e, h2.at fun o e => oth _ o e, q1.at fun o e => oth _ o e, q2.at fun o e => oth _ o e, rfl, fun j a h => by simp at h, (fun a h => nomatch h), List.Pairwise.nil⟩ (Heap.lt_size (oth _ _ hTO)) u1
    fun h' tk acc c as a1 a2 a3 a4 a5 a6 a7 => ⟨rfl, hQ h' tk acc c as a1 a2 a3 a4 a5 a6 a7⟩
end
end ZN
end PySem
end
section
set_option Elab.async false
set_option linter.all false
set_option maxRecDepth 100000
set_option maxHeartbeats 2000000
namespace ZL
open PySem PySem.Spec PyProof.Rows L2
/-- tuples of two at their addresses -/
def putZ : Hp → List Addr → List V → List V → Hp
  | H, a :: as, x :: xs, y :: ys => putZ (upd H a (.tup [x, y])) as xs ys
  | H, _, _, _ => H
theorem putZ_off {b : Addr} : ∀ (as : List Addr) (xs ys : List V) (H : Hp), b ∉ as → putZ H as xs ys b = H b
  | [], _, _, _, _ => rfl
  | _ :: _, [], _, _, _ => rfl
  | _ :: _, _ :: _, [], _, _ => rfl
  | a :: as, x :: xs, y :: ys, H, h => by
    have h1 := putZ_off as xs ys (upd H a (.tup [x, y])) fun z => h (List.mem_cons_of_mem _ z)
    have h2 : b ≠ a := fun z => h (by rw [z]; exact List.mem_cons_self ..)
    exact h1.trans (upd_ne h2)
theorem putZ_at : ∀ (as : List Addr) (xs ys : List V) (H : Hp), as.length = xs.length → as.length = ys.length → as.Nodup → ∀ (j : Nat) (t : Addr) (x y : V), as[j]? = some t → xs[j]? = some x → ys[j]? = some y → putZ H as xs ys t = some (.tup [x, y])
  | [], _, _, _, _, _, _, j, t, x, y, h, _, _ => by simp at h
  | _ :: _, [], _, _, h, _, _, _, _, _, _, _, _, _ => by cases h
  | _ :: _, _ :: _, [], _, _, h, _, _, _, _, _, _, _, _ => by cases h
  | a :: as, x :: xs, y :: ys, H, h1, h2, nd, j, t, u, v, e1, e2, e3 => by
    have n := List.nodup_cons.mp nd
    cases j with
    | zero =>
      cases e1
      cases e2
      cases e3
      show putZ (upd H a (.tup [x, y])) as xs ys a = _
      rw [putZ_off as xs ys _ n.1]
      exact upd_same
    | succ j => exact putZ_at as xs ys _ (Nat.succ.inj h1) (Nat.succ.inj h2) n.2 j t u v e1 e2 e3
theorem vals_at : ∀ {xs : List V} {us : List Value}, Vals xs us → ∀ {j : Nat} {u : Value}, us[j]? = some u → ∃ x, xs[j]? = some x ∧ RelV x u
  | _, _, .nil, j, u, h => by simp at h
  | _, _, .cons r t, 0, u, h => by
    cases h
    exact ⟨_, rfl, r⟩
  | _, _, .cons r t, j + 1, u, h => vals_at t h
section
variable {X : Cx} {e e2 : Expr} {ta : TA} {p p2 pos pos2 : Pos}
theorem laid {pins : List (Addr × Obj)} {σ : L2.St} {H : Hp} {s : Shared} {h' : Heap} {tk : Nat} {xs ys : List V} {us vs : List Value} {acc : Array Value} {c : Nat} {as : List Addr} {S : Addr} (I : Inv X pins σ H s) (hz : xs.length ≤ sizeLine) (r1 : Vals xs us) (r2 : Vals ys vs) (hxy : xs.length = ys.length)
    (hk : ∀ b o, s.heap.get? b = some o → h'.get? b = some o) (hSl : s.heap.objs.size ≤ S) (hS : h'.get? S = some { cls := .type "list", dict := none, data := .seq acc c, slots := #[] }) (hl : as.length = xs.length) (hacc : acc.toList = as.map Value.ref) (abv : ∀ a ∈ as, S < a) (up : as.Pairwise (· < ·))
    (hp : ∀ (j : Nat) (a : Addr), as[j]? = some a → ∃ x y, us[j]? = some x ∧ vs[j]? = some y ∧ IsPair h' a x y) :
    ∃ H' : Hp, (∀ b o, H b = some o → H' b = some o) ∧ H S = none ∧ (∀ t ∈ as, H t = none) ∧ S ∉ as ∧ H' S = some (.lst (as.map V.ref)) ∧ (∀ (j : Nat) (t : Addr) (x y : V), as[j]? = some t → xs[j]? = some x → ys[j]? = some y → H' t = some (.tup [x, y])) ∧ Inv X pins σ H' { s with heap := h', toks := tk } := by
  have sn : S ∉ as := fun z => Nat.lt_irrefl _ (abv _ z)
  have nd : as.Nodup := List.Pairwise.imp (fun {a b} (h : a < b) => Nat.ne_of_lt h) up
  have new : ∀ t ∈ as, H t = none := fun t ht => I.hok.fresh (Nat.le_of_lt (Nat.lt_of_le_of_lt hSl (abv t ht)))
  have newS : H S = none := I.hok.fresh hSl
  generalize hH0 : upd H S (.lst (as.map V.ref)) = H0
  have a1 : H0 S = some (.lst (as.map V.ref)) := by rw [← hH0]; exact upd_same
  have a2 : ∀ b, b ≠ S → H0 b = H b := fun b n => by rw [← hH0]; exact upd_ne n
  have off : ∀ b, b ∉ as → b ≠ S → putZ H0 as xs ys b = H b := fun b n1 n2 => (putZ_off as xs ys H0 n1).trans (a2 b n2)
  have low : ∀ b o, s.heap.get? b = some o → b ∉ as ∧ b ≠ S := fun b o e => ⟨fun z => absurd (Heap.lt_size e) (Nat.not_lt.mpr (Nat.le_of_lt (Nat.lt_of_le_of_lt hSl (abv b z)))), fun z => absurd (Heap.lt_size e) (Nat.not_lt.mpr (by rw [z]; exact hSl))⟩
  have kp : ∀ b u, H b = some u → putZ H0 as xs ys b = some u := fun b u e => by
    rw [off b (fun z => by rw [new b z] at e; cases e) (fun z => by rw [z, newS] at e; cases e)]
    exact e
  have eS : putZ H0 as xs ys S = some (.lst (as.map V.ref)) := (putZ_off as xs ys H0 sn).trans a1
  have at' := putZ_at as xs ys H0 hl (hl.trans hxy) nd
  refine ⟨putZ H0 as xs ys, kp, newS, new, sn, eS, at', ?_⟩
  refine I.call' (ch := []) rfl ⟨fun b o q _ _ _ => hk b o q, fun b o q _ _ _ => ⟨o.slots, hk b o q⟩, fun b o q n _ => ?_, fun b o q _ => ⟨o, hk b o q⟩, fun b xs q => kp b _ q, fun b o u q => kp b _ q, fun b ps q => ⟨#[], by rw [kp b _ q]; simp⟩⟩ (fun b u q => ?_) I.bare fun b z => by simp at z
  · obtain ⟨z1, z2⟩ := low b o q
    exact (off b z1 z2).trans n
  · by_cases hb : b ∈ as
    · obtain ⟨j, hj⟩ := List.getElem?_of_mem hb
      obtain ⟨x, y, f1, f2, f3⟩ := hp j b hj
      obtain ⟨x', g1, g2⟩ := vals_at r1 f1
      obtain ⟨y', g3, g4⟩ := vals_at r2 f2
      rw [at' j b x' y' hj g1 g3] at q
      cases q
      exact ⟨by show 2 ≤ sizeLine; decide, [x, y], .cons g2 (.cons g4 .nil), ⟨_, f3, rfl, _, rfl⟩⟩
    · by_cases hb2 : b = S
      · rw [hb2] at q ⊢
        rw [eS] at q
        cases q
        refine ⟨by rw [List.length_map]; omega, acc.toList, c, by rw [hacc]; exact LiI.vals_refs as, ?_⟩
        rw [Array.toArray_toList]
        exact hS
      · rw [off b hb hb2] at q
        exact (I.hok b u q).stay (fun d v _ y => hk d v y) (fun d y => kp d _ y) fun d xs y => kp d _ y
/-- list(zip(e, e2)) of two lists of one length -/
def tListZip (K : PySem.W.Frag) (ta : TA) : TE := fun σ H Q => ta σ H fun vs H1 => ∃ a b xs ys, vs = [.ref a, .ref b] ∧ SqL K H1 a xs ∧ SqL K H1 b ys ∧ xs.length = ys.length ∧
  ∀ (H' : Hp) (p : Addr) (ts : List Addr), (∀ b o, H1 b = some o → H' b = some o) → H1 p = none → (∀ t ∈ ts, H1 t = none) → p ∉ ts → H' p = some (.lst (ts.map V.ref)) → ts.length = xs.length →
    (∀ (j : Nat) (t : Addr) (x y : V), ts[j]? = some t → xs[j]? = some x → ys[j]? = some y → H' t = some (.tup [x, y])) → Q (.ref p) H'
theorem pe_listZip (hc : X.calm = true) (ha : PA X [e, e2] ta) (hg : Gl X "list") (hm : X.mg "list" = none) (hgz : Gl X "zip") (hmz : X.mg "zip" = none)
    (hs : starEach [.Call (.Name "zip" p2) [e, e2] [] pos2] X.env = (false, eval (.Call (.Name "zip" p2) [e, e2] [] pos2) X.env) :: starEach [] X.env := by rfl)
    (hs2 : starEach [e, e2] X.env = (false, eval e X.env) :: starEach [e2] X.env := by rfl) (hpl : (backTo pos2 (starEach [e2] X.env)).any (·.1) = false := by rfl) :
    PE X (.Call (.Name "list" p) [.Call (.Name "zip" p2) [e, e2] [] pos2] [] pos) (tListZip X.K ta) := by
  refine ⟨fun pins s σ H Q I h => ?_⟩
  refine wpAny_Call_Name_kw (ld_blt I hg hm (show bootBuiltins "list" = some (.type "list") by decide +kernel) ?_)
  refine PyProof.Rows.callWith_type1 ?_ hs rfl
  rw [hs]
  show wpAny _ _ (spliced ((false, eval (.Call (.Name "zip" p2) [e, e2] [] pos2) X.env) :: backTo pos (starEach [] X.env))) _ _ s
  refine Calls.spliced_cons ?_
  refine Call_ (ld_blt I hgz hmz PyProof.Rows.boot_zip (PyProof.Rows.callWith_type1 (thn (ha.run pos2 pins s σ H _ I h) fun us s1 ⟨vs, H1, I1, r1, q1⟩ => ?_) hs2 hpl))
  obtain ⟨a, b, xs, ys, ex, hqx, hqy, hxy, q⟩ := q1
  subst ex
  cases r1 with
  | cons r rr =>
    cases rr with
    | cons r' rr =>
      cases rr
      cases r
      cases r'
      obtain ⟨us, rv, p1, z1⟩ := I1.list hqx
      obtain ⟨ws, rv2, p2', z2⟩ := I1.list hqy
      have la : a < s1.heap.objs.size := p1.lt
      have lb : b < s1.heap.objs.size := p2'.lt
      refine call_zip_2 p1.isList p2'.isList fun h' hz hTI hTO h1 h2 hsz hk => ?_
      refine Calls.spliced_nil ?_
      have lu := rv.length
      have lw := rv2.length
      refine ZN.list_of_zip (I1.ok.hd hc) (PySem.W.ktu_apart s1.heap.objs.size a b la lb) (by simp; omega) (by simp; omega) hz hTI ⟨_, _, hTO⟩ h1 h2 (p1.isList.at fun o x => hk _ o x) (p2'.isList.at fun o x => hk _ o x) s1.heap (fun c o x => ?_) hk fun h'' tk acc c as k1 k2 k3 k4 k5 k6 k7 => ?_
      · have l : c < s1.heap.objs.size := Heap.lt_size x
        exact ⟨Nat.ne_of_lt (Nat.lt_of_lt_of_le l (Nat.le_add_right _ 4)), Nat.ne_of_lt (Nat.lt_of_lt_of_le l (Nat.le_add_right _ 3)), Nat.ne_of_lt l, Nat.ne_of_lt (Nat.lt_of_lt_of_le l (Nat.le_add_right _ 1))⟩
      · obtain ⟨H', g1, g2, g3, g4, g5, g6, J⟩ := laid (tk := tk) I1 z1 rv rv2 hxy k1 (by show s1.heap.objs.size ≤ h'.objs.size; omega) k2 (by rw [k4]; simp; omega) k3 k6 k7 (fun j t hj => by
          obtain ⟨x, y, e1, e2, e3⟩ := k5 j t hj
          exact ⟨x, y, by simpa using e1, by simpa using e2, e3⟩)
        exact ⟨.ref _, H', J, rfl, q H' _ as g1 g2 g3 g4 g5 (by rw [k4]; simp; omega) g6⟩
end
end ZL
end
section
set_option Elab.async false
set_option linter.all false
set_option maxRecDepth 100000
namespace WD
open PySem PySem.Spec PyProof.Rows L2 Evl StX
section
variable {K : PySem.W.Frag} {σ : L2.St} {H H' : Hp} {ta tb te tx tc : TE} {t u : TT} {d d1 d2 d3 : D} {ds es : List D}
theorem ea_star {tr : TA} (h : EvD K te σ H (.lst ds)) (hr : EvDA K tr σ H es) : EvDA K (tStar K te tr) σ H (ds ++ es) := fun H1 e Q q =>
  h H1 e _ fun v H2 e2 a => by
    cases a with
    | lst r a =>
      exact ⟨_, _, rfl, .inr (.inl r), hr H2 (e.trans e2) _ fun ys H3 e3 b => q _ H3 (e2.trans e3) ((a.ex e3).app b)⟩
theorem en_listZip {xs ys : List Int} (h : EvD K ta σ H (.lst (iL xs))) (h' : EvD K tb σ H (.lst (iL ys))) (hl : xs.length = ys.length) : EvN K (ZL.tListZip K (tCons ta (tCons tb tNil))) σ H ((xs.zip ys).map fun p => .tup [.int p.1, .int p.2]) := fun H1 e Q q =>
  h H1 e _ fun v H2 e2 a => h' H2 (e.trans e2) _ fun w H3 e3 b => by
    cases a with
    | lst r a =>
      cases b with
      | lst r' b =>
        have a1 := allIL a
        have b1 := allIL b
        subst a1
        subst b1
        refine ⟨_, _, _, _, rfl, .inl (ex_rd e3 r), .inl r', by rw [List.length_map, List.length_map, hl], fun H' p ts k hp nt np hx lt ht => q p _ H' (fresh_back (e2.trans e3) hp) ((e2.trans e3).trans k) hx ?_⟩
        rw [List.length_map] at lt
        have gen : ∀ (ts : List Addr) (xs ys : List Int), ts.length = xs.length → xs.length = ys.length → (∀ (j : Nat) (t : Addr) (x y : V), ts[j]? = some t → (xs.map V.int)[j]? = some x → (ys.map V.int)[j]? = some y → H' t = some (.tup [x, y])) → All K H' (ts.map V.ref) ((xs.zip ys).map fun p => .tup [.int p.1, .int p.2]) := by
          intro ts
          induction ts with
          | nil =>
            intro xs ys h1 h2 _
            cases xs with
            | nil => exact .nil
            | cons _ _ => cases h1
          | cons t ts ih =>
            intro xs ys h1 h2 hh
            cases xs with
            | nil => cases h1
            | cons x xs =>
              cases ys with
              | nil => cases h2
              | cons y ys =>
                exact .cons (.tup (st_of (hh 0 t (.int x) (.int y) rfl rfl rfl)) (.cons (.int x) (.cons (.int y) .nil))) (ih xs ys (Nat.succ.inj h1) (Nat.succ.inj h2) fun j t' x' y' a1 a2 a3 => hh (j + 1) t' x' y' a1 a2 a3)
        exact gen ts xs ys lt hl ht
end
end WD
end
section
set_option Elab.async false
set_option linter.all false
set_option maxRecDepth 100000
set_option maxHeartbeats 4000000
/-! an own exception whose __init__(self, a) says super().__init__("..") and self.f = a: made, raised, its field read -/
namespace SupX
open PySem PySem.W PySem.Calls PyProof.Rows PySem.HandSPX
/-- the body -/
def supBody (txt f a : Str) (sn : Str) (k : Nat) (p0 p1 p2 p3 p4 p5 p6 p7 p8 p9 : Pos) : List Stmt :=
  [.Expr (.Call (.Attribute (.Call (.Name "super" p0) [] [] p1) "__init__" p2) [.Constant (.str txt) k p3] [] p4) p5, .Assign [.Attribute (.Name sn p6) f p7] (.Name a p8) p9]
section
variable {prog : Program} {w : World} {A : Around} {E : Value → Shared → Prop} {h : Heap} {g : Array GenState} {d : Drawn} {t : Nat} {os : OsState}
/-- ValueError.__init__ bound to an exception, called -/
theorem call_bound {B nw ini : String} {bmB : List Value} (fb : ExcBaseFacts B nw ini bmB) {nm q : Str} {C N u e t0 : Addr} {bs bm : List Value} {hdct : Bool} {sn : List Str} {sub : List Value} {ab : Bool} {col : Option Bool} {dd : Option Addr} {k0 k1 k2 k3 k5 : Option Value} {us : List Value} {Q : Value → Shared → Prop}
    (hC : h.get? C = some (excClassObj nm q C N bs bm hdct sn sub ab col dd k0 k1 k2 k3 k5 nw)) (he : h.get? e = some (excO C t0)) (hu : h.get? u = some (kxs_mw ini e)) (hl : us.length ≤ sizeLine)
    (hq : ∀ h' t1, (∀ b o, b ≠ e → h.get? b = some o → h'.get? b = some o) → h'.get? e = some (excO C t1) → Q .none ⟨h', g, d, t, os⟩) : wpAny (model prog w) A (call (.ref u) us) Q E ⟨h, g, d, t, os⟩ := by
  apply wpAny_call; apply codeAny_of_tree
  show wpAny _ A.in1 (callAny (.ref u) ⟨us, []⟩) _ _ _
  unfold callAny; apply wpAny_bind; apply wpAny_load hu
  have mw : (Value.type "method-wrapper" == Value.type "method" || Value.type "method-wrapper" == Value.type "builtin_function_or_method" || Value.type "method-wrapper" == Value.type "method-wrapper") = true := by decide
  simp only [kxs_mw, mw, if_true]
  apply KFB.if_so (by decide); apply wpAny_bind; apply check_bound_init fb.toExcCallFacts hC he rfl
  refine wpAny_bind (wpAny_pure (wpAny_pure ⟨plainId_quiet fb.init.plain _, codeAny_builtin fb.initEntry ?_⟩))
  exact exc_init_tree (cls := .ref C) (t0 := t0) (dv := none) (c2 := .none) (c3 := .none) (b4 := .bool false) he hl fun h' k e2 _ => hq h' _ k e2
end
/-- what the written part says of the class x at C, its __init__ at fI: super().__init__(txt), then self.f = its argument -/
structure Sup (prog : Program) (K : Frag) (mg : Str → Option Value) (C fI : Addr) (x f txt : Str) : Prop where
  gC : mg x = some (.ref C)
  cls : ∃ nm q N bs bm sn sub ab col dd k0 k1 k2 k3 k5, K.lookup C = some (excClassObj nm q C N bs bm true sn sub ab col dd k0 k1 k2 k3 k5 "ValueError.__new__") ∧ refsVE bm = true
  sa : findIn K (.ref C) "__setattr__" = some (some (.builtin "object.__setattr__"))
  ga : findIn K (.ref C) "__getattribute__" = some (some (.builtin "BaseException.__getattribute__"))
  gg : findIn K (.ref C) "__getattr__" = some none
  noN : findIn K (.ref C) f = some none
  iC : findIn K (.ref C) "__init__" = some (some (.ref fI))
  tC : typeIn K (.ref fI) = some (.type "function")
  kC : keepIn K (.ref C) = true
  exC : subIn K (.ref C) (.type "BaseException") = some true
  veC : subIn K (.ref C) (.type "ValueError") = some true
  tyC : typeIn K (.ref C) = some (.type "type")
  hdC : hasDictIn K C = true
  meC : mroIn K C (.ref C) = some true
  te : exmOne K (.ref C) (.ref C) = some true
  sup : ks_superIn K C C "__init__" = some (some (.builtin "ValueError.__init__"))
  opq : nsIn K cStatics "thirdparty.any" = some none
  noS : mg "super" = none
  top : (prog.main.scope.names.lookup ("super" : Str)).isSome = false
  fn : ∃ (oc : Value) (od : Option Addr) (qual a sn : Str) (pr : Arguments) (sc : Scope) (kV doc pm : Value) (an : Option Addr) (cda cc : Addr) (ct : Value) (osl : Array (Option Value)) (ar : Arg) (k : Nat) (p0 p1 p2 p3 p4 p5 p6 p7 p8 p9 : Pos),
    K.lookup fI = some ⟨oc, od, .func (ksFn "__init__" qual pr (supBody txt f a sn k p0 p1 p2 p3 p4 p5 p6 p7 p8 p9) sc .none kV doc pm an (.ref cda) ct cc), osl⟩ ∧ codeIn K (.ref cda) qual = true ∧
    (∃ cl cld csl, K.lookup cc = some ⟨cl, cld, .cell (some (.ref C)), csl⟩) ∧ (∃ ccl cdd vs ccs file tf, K.lookup cda = some ⟨ccl, cdd, .fields vs, ccs⟩ ∧ vs[2]? = some (.str file tf) ∧ ((prog.main.file : Str) == file) = true) ∧
    (∀ u v : Value, bindArgs (ksFn "__init__" qual pr (supBody txt f a sn k p0 p1 p2 p3 p4 p5 p6 p7 p8 p9) sc .none kV doc pm an (.ref cda) ct cc) ⟨[u, v], []⟩ = pure [(sn, u), (a, v)]) ∧
    (pr.posonlyargs ++ pr.args).head? = some ar ∧ ar.arg = sn ∧ a ≠ sn ∧ (sn == ("__debug__" : Str)) = false ∧ (a == ("__debug__" : Str)) = false ∧ (∀ y ∈ sc.names, y.2 ≠ .cell) ∧ sc.names.lookup sn = some .local ∧ sc.names.lookup a = some .local ∧ sc.names.lookup ("super" : Str) = some .globalImplicit ∧
    sc.names.lookup ("__class__" : Str) = some .free ∧ sc.kind = .function ∧ sc.isCoroutine = false ∧ sc.isGenerator = false ∧
    (∀ L : Addr, ∃ pl : Sem Bool, eval (.Call (.Attribute (.Call (.Name "super" p0) [] [] p1) "__init__" p2) [.Constant (.str txt) k p3] [] p4) (ksEnv qual sc L fI (.ref cda) cc) = (do
      let ov ← attributeBase (.Call (.Name "super" p0) [] [] p1) "__init__" (ksEnv qual sc L fI (.ref cda) cc) (eval (.Call (.Name "super" p0) [] [] p1) (ksEnv qual sc L fI (.ref cda) cc))
      standAt p2.atName
      let (f, first) ← holding [ov] (getMethod ov "__init__" pl)
      callWith p4 f first (backTo p4 (starEach [.Constant (.str txt) k p3] (ksEnv qual sc L fI (.ref cda) cc))) [])) ∧
    (∀ L : Addr, interactive (ksEnv qual sc L fI (.ref cda) cc) = false) ∧
    (∀ L : Addr, swapsWith (.Call (.Attribute (.Call (.Name "super" p0) [] [] p1) "__init__" p2) [.Constant (.str txt) k p3] [] p4) none p5.line (ksEnv qual sc L fI (.ref cda) cc) = pure false) ∧
    (∀ L : Addr, swapsWith (.Name a p8) (some (.Attribute (.Name sn p6) f p7)) p9.line (ksEnv qual sc L fI (.ref cda) cc) = pure false) ∧
    (∀ L : Addr, starEach [.Constant (.str txt) k p3] (ksEnv qual sc L fI (.ref cda) cc) = (false, eval (.Constant (.str txt) k p3) (ksEnv qual sc L fI (.ref cda) cc)) :: starEach [] (ksEnv qual sc L fI (.ref cda) cc)) ∧
    (∀ L : Addr, starEach [] (ksEnv qual sc L fI (.ref cda) cc) = [])
/-- what __init__ leaves -/
structure SupEnd (h h' : Heap) (x C dx : Addr) (f : Str) (v : Value) : Prop where
  keep : ∀ b o, b ≠ x → h.get? b = some o → h'.get? b = some o
  obj : ∃ t1 : Addr, h'.get? x = some { cls := .ref C, dict := some dx, data := .fields #[.ref t1, .none, .none, .none, .bool false, .none] }
  dbig : h.objs.size ≤ dx
  dne : dx ≠ x
  ns : h'.Ns1 dx (fun y => if y = f then some v else none)
section
variable {prog : Program} {w : World} {A : Around} {E : Value → Shared → Prop} {R : Result → Shared → Prop} {s : Shared} {K : Frag} {mg mb : Str → Option Value} {C fI : Addr} {x f txt : Str}
theorem sup_init (T : Sup prog K mg C fI x f txt) {e t0 : Addr} {v : Value} (X : K.In s.heap) (G : s.heap.Ns mainGlobals mg) (B : s.heap.Ns builtinsNs mb) (bt : mb "super" = some (.type "super")) (hlim : s.heap.NoLimit) (he : s.heap.get? e = some (excO C t0)) (hnx : K.lookup e = none)
    (hroom : A.depth < recursionLimit) (hq : ∀ h' tk dx, SupEnd s.heap h' e C dx f v → R (.ok (.ret .none)) { s with heap := h', toks := tk }) : codeAny (model prog w) A (.call (.ref fI) ⟨[.ref e, v], []⟩) R s := by
  obtain ⟨oc, od, qual, a, sn, pr, sc, kV, doc, pm, an, cda, cc, ct, osl, ar, k, p0, p1, p2, p3, p4, p5, p6, p7, p8, p9, ho, hcd, ⟨cl, cld, csl, hcc⟩, ⟨ccl, cdd, vs, ccs, file, tf, hcda, hvs, hfile⟩, hbind, hp, rfl, nsn, dsn, da, hcell, l1, l2, l3, l4, kd, hco, hgen, hev, hint, hw1, hw2, hst, hst0⟩ := T.fn
  obtain ⟨nm, q, N, bs, bm, sn, sub, ab, col, dd, k0, k1, k2, k3, k5, hC, hbm⟩ := T.cls
  have hcl : clsIn K C = some { name := nm, bases := bs, mro := .ref C :: bm, ns := N, qualname := q, hasDict := true, slotNames := sn, subclasses := sub, abstract := ab, collection := col, hasDel := false } := by unfold clsIn; rw [hC] <;> rfl
  refine ks_codeAny_call_defAt (binds := [(ar.arg, .ref e), (a, v)]) hroom (X _ _ ho) rfl hlim (codeRec_of X hcd) rfl (BindsTo.of_eq (hbind _ _)) hcell (fun y hy => ?_) (fun h1 hns k1 => ?_) hco hgen kd
  · rcases List.mem_cons.mp hy with rfl | hy
    · exact l1
    · rw [List.mem_singleton.mp hy]; exact l2
  have X1 : K.In h1 := X.keeps k1
  have he1 := k1 _ _ he
  have hC1 : h1.get? C = some (excClassObj nm q C N bs bm true sn sub ab col dd _ _ _ _ _ "ValueError.__new__") := X1 _ _ hC
  have xC : e ≠ C := fun z => by rw [z, hC] at hnx; cases hnx
  have G1 : h1.Ns mainGlobals mg := G.keeps k1
  have B1 : h1.Ns builtinsNs mb := B.keeps k1
  have KF := kxs_ValueError
  show PySem.wpAt (model prog w) (A.deeper (ksEnv qual sc s.heap.objs.size fI (.ref cda) cc)) (.func (supBody txt f a ar.arg k p0 p1 p2 p3 p4 p5 p6 p7 p8 p9) (ksEnv qual sc s.heap.objs.size fI (.ref cda) cc)) (execs (supBody txt f a ar.arg k p0 p1 p2 p3 p4 p5 p6 p7 p8 p9) (ksEnv qual sc s.heap.objs.size fI (.ref cda) cc)) _ _ _
  generalize hA2 : A.deeper (ksEnv qual sc s.heap.objs.size fI (.ref cda) cc) = A2
  unfold supBody
  obtain ⟨pl, hev⟩ := hev s.heap.objs.size
  refine ks_wpAt_execs_cons (ks_wpAt_Expr_any (ks_wpAt_MethodCall (ks_wpAt_super_base (env := ksEnv qual sc s.heap.objs.size fI (.ref cda) cc) l3 l4 (by decide) rfl (X1 _ _ ho) rfl hp rfl (X1 _ _ hcda) rfl hvs hfile T.top ?_) hev) (hint _) (hw1 _))
  refine ks_loadName_global kd l3 (loadGlobal_builtin (env := ksEnv qual sc s.heap.objs.size fI (.ref cda) cc) G1 T.noS B1 bt ⟨rfl, ?_⟩)
  refine wpAny_loadName_free (c := cc) kd l4 (by rfl) ⟨_, X1 _ _ hcc, rfl⟩ (wpAny_loadName_local kd l1 hns (v := .ref e) ?_ ?_)
  · show List.lookup ar.arg [(a, v), (ar.arg, .ref e)] = some (.ref e)
    rw [List.lookup_cons, List.lookup_cons_self]
    have z : (ar.arg == a) = false := by simpa using nsn.symm
    rw [z]
  refine ks_wpAny_isType_cls hC1 rfl ⟨rfl, ?_⟩
  refine ks_wpAny_call_super hC1 rfl he1 rfl (fun c z => by cases z) (looks_mroIn X1 T.meC) fun h2 hso k2 => ?_
  have X2 : K.In h2 := X1.keeps k2
  have he2 := k2 _ _ he1
  have I2 : InstAt h2 e (excO C t0) C none := ⟨he2, rfl, rfl, trivial⟩
  have hf := T.sup
  unfold ks_superIn at hf
  rw [hcl] at hf
  refine kxs_getMethod KF hso (looks_opaque X2 T.opq) (l₀ := .ref C :: bm) (fun A Q E s k q => wpAny_bind ((looks_clsIn X2 hcl) A _ E s k (wpAny_pure q))) rfl X2 hf (I2.type.andThen (looks_subIn X2 T.veC)) xC (by decide) ?_
  have k3 : ∀ b o, h2.get? b = some o → (h2.push (kxs_mw "ValueError.__init__" e)).get? b = some o := fun b o z => Heap.get?_push_of_some _ z
  show wpAny _ _ (callWith p4 (.ref h2.objs.size) [] (backTo p4 (starEach [.Constant (.str txt) k p3] (ksEnv qual sc s.heap.objs.size fI (.ref cda) cc))) []) _ _ _
  rw [hst, hst0]
  refine kxs_callWith (i := "ValueError.__init__") (x := e) (by rfl) (evalArgs_plain ?_)
  refine spliced_cons (wpAny_Constant_str (k := k) (pos := p3) (spliced_nil ?_))
  have hu : (h2.push (kxs_mw "ValueError.__init__" e)).get? h2.objs.size = some (kxs_mw "ValueError.__init__" e) := Heap.get?_push_size _ rfl
  refine ⟨hu, ?_⟩
  refine call_bound PySem.F.excBase_ValueError (k3 _ _ (k2 _ _ hC1)) (k3 _ _ he2) hu (by show 1 ≤ sizeLine; rw [sizeLine_eq]; decide) fun h4 t4 k4 he4 => ?_
  have kk : ∀ b o, b ≠ e → s.heap.get? b = some o → h4.get? b = some o := fun b o hb z => k4 b o hb (k3 b o (k2 b o (k1 b o z)))
  have X4 : K.In h4 := fun b o z => kk b o (fun y => by rw [y, hnx] at z; cases z) (X b o z)
  have eL : s.heap.objs.size ≠ e := Nat.ne_of_gt (Heap.lt_size he)
  have lt4 : s.heap.objs.size < h4.objs.size := by
    obtain ⟨oL, es, ep, hL, r⟩ := hns
    exact Heap.lt_size (k4 _ _ eL (k3 _ _ (k2 _ _ hL)))
  have hns4 : h4.Ns s.heap.objs.size (fun y => List.lookup y [(ar.arg, Value.ref e), (a, v)].reverse) := by
    obtain ⟨oL, es, ep, hL, r⟩ := hns
    exact ⟨oL, es, ep, k4 _ _ eL (k3 _ _ (k2 _ _ hL)), r⟩
  show PySem.wpAt _ _ _ (execs [.Assign [.Attribute (.Name ar.arg p6) f p7] (.Name a p8) p9] (ksEnv qual sc s.heap.objs.size fI (.ref cda) cc)) _ _ _
  refine wpAt_of_wpAny (wpAny_execs_cons (plainObj_wpAny_Assign_Attribute ?_ (hw2 _)))
  refine wpAny_Name (wpAny_loadName_local kd l2 hns4 (v := v) ?_ ?_) da
  · show List.lookup a [(a, v), (ar.arg, .ref e)] = some v
    rw [List.lookup_cons_self]
  refine wpAny_Name (wpAny_loadName_local kd l1 hns4 (v := .ref e) ?_ ?_) dsn
  · show List.lookup ar.arg [(a, v), (ar.arg, .ref e)] = some (.ref e)
    rw [List.lookup_cons, List.lookup_cons_self]
    have z : (ar.arg == a) = false := by simpa using nsn.symm
    rw [z]
  refine set_plain X4 (ox := excO C t4) (od := none) ⟨he4, rfl, rfl, trivial⟩ T.sa ?_
  refine exc_osa X4 he4 hcl (show refsVE (.ref C :: bm) = true from hbm) rfl T.noN (fun h5 tk5 dx k5 dn dne hx5 hn5 => ?_)
  show wpAny _ _ (execs [] _) _ _ _
  exact wpAny_execs_nil (hq h5 tk5 dx ⟨fun b o hb z => k5 b o hb (kk b o hb z), ⟨t4, hx5⟩, Nat.le_of_lt (Nat.lt_of_lt_of_le lt4 dn), dne, hn5⟩)
/-- one that is made -/
structure SupMade (h h' : Heap) (e C d : Addr) (f : Str) (v : Value) : Prop where
  keep : ∀ b o, h.get? b = some o → h'.get? b = some o
  new : h.objs.size ≤ e
  obj : ∃ oe vs, h'.get? e = some oe ∧ oe.cls = .ref C ∧ oe.dict = some d ∧ oe.data = .fields vs ∧ vs[1]? = some .none
  dbig : h.objs.size ≤ d
  dne : d ≠ e
  ns : h'.Ns1 d (fun y => if y = f then some v else none)
theorem sup_made (T : Sup prog K mg C fI x f txt) {v : Value} (X : K.In s.heap) (G : s.heap.Ns mainGlobals mg) (B : s.heap.Ns builtinsNs mb) (bt : mb "super" = some (.type "super")) (hlim : s.heap.NoLimit) (hroom : A.depth + 1 < recursionLimit)
    (hq : ∀ h' tk e d, SupMade s.heap h' e C d f v → R (.ok (.ret (.ref e))) { s with heap := h', toks := tk }) : codeAny (model prog w) A (.call (.ref C) ⟨[v], []⟩) R s := by
  obtain ⟨nm, q, N, bs, bm, sn, sub, ab, col, dd, k0, k1, k2, k3, k5, hC, hbm⟩ := T.cls
  rcases s with ⟨hp, g, dr, tk, os⟩
  have up : ∀ b o, hp.get? b = some o → ((hp.push (kdv_tup [v])).push (excO C hp.objs.size)).get? b = some o := fun b o z => Heap.get?_push_of_some _ (Heap.get?_push_of_some _ z)
  have new : ((hp.push (kdv_tup [v])).push (excO C hp.objs.size)).get? (hp.objs.size + 1) = some (excO C hp.objs.size) := by heap_get
  have out : K.lookup (hp.objs.size + 1) = none := by
    cases z : K.lookup (hp.objs.size + 1) with
    | none => rfl
    | some o =>
      have y : hp.get? (hp.objs.size + 1) = some o := X _ _ z
      exact absurd (Nat.lt_of_succ_lt (Heap.lt_size y)) (Nat.lt_irrefl _)
  have one : [v].length ≤ sizeLine := by show 1 ≤ sizeLine; rw [sizeLine_eq]; decide
  refine call_own PySem.F.excBase_ValueError (fun Y => refsVE_contains Y bm hbm) (X _ _ hC) (looks_findIn X T.iC) (fun self => bind_fn X self T.tC) one ?_
  refine sup_init (s := ⟨(hp.push (kdv_tup [v])).push (excO C hp.objs.size), g, dr, tk, os⟩) T (X.keeps up) (G.keeps up) (B.keeps up) bt (hlim.keeps up) new out ?_ fun h' tk' dx F => ?_
  · show A.depth + 1 < recursionLimit
    exact hroom
  · have old : ∀ b o, hp.get? b = some o → h'.get? b = some o := fun b o z => F.keep b o (Nat.ne_of_lt (Nat.lt_succ_of_lt (Heap.lt_size z))) (up b o z)
    have big : hp.objs.size ≤ dx := by
      have y := F.dbig
      rw [Heap.size_push, Heap.size_push] at y
      exact Nat.le_trans (Nat.le_add_right _ 2) y
    obtain ⟨t1, ob⟩ := F.obj
    exact ⟨rfl, hq h' tk' (hp.objs.size + 1) dx ⟨old, Nat.le_succ _, ⟨_, _, ob, rfl, rfl, rfl, rfl⟩, big, F.dne, F.ns⟩⟩
end
end SupX
namespace L2
open PySem PySem.Spec PyProof.Rows
theorem relO_sup {v : V} {u : Value} (r : RelV v u) (f g : Str) : RelO (List.lookup g [(f, v)]) (if g = f then some u else none) := by
  by_cases z : g = f
  · subst z
    rw [if_pos rfl, List.lookup_cons_self]
    exact r
  · have y : (g == f) = false := by simpa using z
    rw [if_neg z, List.lookup_cons, y]
    exact True.intro
section
variable {X : Cx} {C fI : Addr} {x f txt : Str}
/-- C(e) -/
def tMkSup (C : Addr) (f : Str) (ta : TA) : St → Hp → XK → Prop := fun σ H Q => ta σ H fun vs H1 => ∃ v, vs = [v] ∧ ∀ d, H1 d = none → Q (.ref C) (some d) (upd H1 d (.xd [(f, v)]))
theorem pmk_sup {a : Expr} {ta : TA} {p pos : Pos} {k : Nat} (T : SupX.Sup X.prog X.K X.mg C fI x f txt) (hr : Room k X.A) (ha : PA X [a] ta) (hg : Gl X x) (hd : (x == ("__debug__" : Str)) = false := by decide)
    (hst : starEach (a :: []) X.env = (false, eval a X.env) :: starEach [] X.env := by rfl) (hpl : (backTo pos (starEach [] X.env)).any (·.1) = false := by rfl) :
    PMk X (.Call (.Name x p) [a] [] pos) (tMkSup C f ta) := by
  intro pins s σ H Q I h
  refine wpAny_Call_Name_kw (ld_glob I hg T.gC ?_ hd)
  refine PySem.W.callWith_K (h₀ := X.base) I.ok.mod.kin T.kC (thn (ha.run pos pins s σ H _ I h) fun us s1 ⟨vs, H1, I1, r1, v, ev, q1⟩ => ⟨I1.kIn, ?_⟩) hst hpl
  subst ev
  obtain ⟨u, rfl, ru⟩ := r1.one
  show wpAny _ _ (call (.ref C) [u]) _ _ _
  have lim := I1.nolimit
  obtain ⟨mb, nb, eb⟩ := I1.ok.mod.blt
  have glo : s1.heap.Ns mainGlobals X.mg := I1.ok.mod.glob.keeps I1.bk
  have blt : s1.heap.Ns builtinsNs mb := nb.keeps I1.bk
  obtain ⟨hp, g, dr, tk, os⟩ := s1
  refine wpAny_call (SupX.sup_made (s := ⟨hp, g, dr, tk, os⟩) T I1.kIn glo blt ((eb _ (by decide +kernel)).trans (by decide +kernel)) lim (by have := hr.dp; omega) fun h' tk' e d M => ?_)
  show MkP X pins σ Q (.ref e) ⟨h', g, dr, tk', os⟩
  obtain ⟨oe, fv, hoe, hc, hd2, hdat, h1⟩ := M.obj
  obtain ⟨G', g1, g2⟩ := restrict h' fun b => decide (b ≠ e)
  have gk : ∀ b, b ≠ e → G'.get? b = h'.get? b := fun b hb => g1 b (decide_eq_true hb)
  have ge : G'.get? e = none := g2 e (by simp)
  have old : ∀ b o, hp.get? b = some o → G'.get? b = some o := fun b o q => (gk b (Nat.ne_of_lt (Nat.lt_of_lt_of_le (Heap.lt_size q) M.new))).trans (M.keep b o q)
  have ob : ObjOk X.prog X.w (upd H1 d (.xd [(f, v)])) G' d (.xd [(f, v)]) := ⟨_, M.ns.at (fun o q => (gk d M.dne).trans q), fun g => relO_sup ru f g⟩
  have J : Inv X pins σ (upd H1 d (.xd [(f, v)])) ⟨G', g, dr, tk', os⟩ := I1.laid (t' := tk') old M.dbig ob
  refine ⟨e, oe, fv, ⟨G', g, dr, tk', os⟩, _, .ref C, some d, rfl, J, fun b o q => ?_, ge, hoe, ⟨hc, hd2⟩, hdat, h1, ?_, rfl, I1.bare, raises_own T.exC T.tyC, q1 d (I1.hok.fresh M.dbig)⟩
  · by_cases hb : b = e
    · have q' : G'.get? b = some o := q
      rw [hb, ge] at q'; cases q'
    · exact (gk b hb).symm.trans q
  · rw [upd_ne (Ne.symm M.dne)]
    exact I1.hok.fresh M.new
/-- raise C(e) -/
def tRaiseSup (C : Addr) (f : Str) (W : WX) (ta : TA) : TS := fun _ σ H => tMkSup C f ta σ H fun cls d H' => W cls d σ H'
theorem ps_raiseSup {a : Expr} {ta : TA} {W : WX} {p pos pos2 : Pos} {k : Nat} (hc : X.calm = true) (T : SupX.Sup X.prog X.K X.mg C fI x f txt) (hr : Room k X.A) (tk : Takes X W) (ha : PA X [a] ta) (hg : Gl X x) (hd : (x == ("__debug__" : Str)) = false := by decide)
    (hst : starEach (a :: []) X.env = (false, eval a X.env) :: starEach [] X.env := by rfl) (hpl : (backTo pos (starEach [] X.env)).any (·.1) = false := by rfl) :
    PS X (.Raise (some (.Call (.Name x p) [a] [] pos)) none pos2) (tRaiseSup C f W ta) := ps_raise hc tk (pmk_sup T hr ha hg hd hst hpl)
/-- n.f, n the exception that the suite holds (at a; its class cls, its dict d) -/
def tBySup (C : Addr) (f : Str) (a : Addr) (cls : Value) (d : Option Addr) (te : TE) : TE := fun σ H Q => te σ H fun x H1 => x = .ref a ∧ cls = .ref C ∧ ∃ (dd : Addr) (v : V), d = some dd ∧ H1 dd = some (.xd [(f, v)]) ∧ Q v H1
theorem pe_bySup {a : Addr} {oe : Obj} {cls : Value} {d : Option Addr} {pn : List (Addr × Obj)} {e : Expr} {te : TE} {pos : Pos} (T : SupX.Sup X.prog X.K X.mg C fI x f txt) (hz : Zc cls d oe) (hf : ∃ vs, oe.data = .fields vs) (he : PE (X.suite a ((a, oe) :: pn)) e te)
    (hb : attributeBase e f X.env (eval e X.env) = eval e X.env := by rfl) (hn : PySem.W.copiedNames.contains f = false := by decide) :
    PE (X.suite a ((a, oe) :: pn)) (.Attribute e f pos) (tBySup C f a cls d te) := by
  refine ⟨fun pins s σ H Q I h => ?_⟩
  refine attr_of hb (thn (he.run pins s σ H _ I h) fun u s1 hh => ?_)
  obtain ⟨x, H1, I1, rx, ex, ec, dd, v, ed, ea, q⟩ := hh
  subst ex
  obtain rfl : u = Value.ref a := rx
  subst ec
  subst ed
  obtain ⟨ha, _⟩ := I1.pin (a, oe) (List.mem_append_left _ List.mem_cons_self)
  obtain ⟨vs, hd⟩ := hf
  have hx : ObjOk X.prog X.w H1 s1.heap dd (.xd [(f, v)]) := I1.hok dd _ ea
  obtain ⟨mA, hns, hr⟩ := hx
  obtain ⟨od, ho, hl⟩ := lookIn_ns hns
  have l : List.lookup f [(f, v)] = some v := List.lookup_cons_self
  obtain ⟨u, hu, ru⟩ := RelO.some_of (v := v) (o := mA f) (by rw [← l]; exact hr f)
  have J : PySem.W.InstAt s1.heap a oe C (some od) := ⟨ha, hz.1, by unfold PySem.W.notCls; rw [hd] <;> rfl, by rw [hz.2]; exact ho⟩
  exact HandSPX.exc_get I1.kIn J T.ga T.gg T.exC (PySem.W.findObj_own T.hdC T.noN rfl (by rw [hl, hu])) (handed_of ru) ⟨v, H1, I1.tok _, ru, q⟩
end
end L2
end
section
set_option Elab.async false
set_option linter.all false
set_option maxRecDepth 100000
set_option maxHeartbeats 4000000
/-! the head's facts, with own exceptions that say super().__init__(..) -/
namespace SupX
open PySem PySem.W PySem.Calls PyProof.Rows PySem.HandSPX L2
def clsB (K : Frag) (C : Addr) : Bool := match K.lookup C with
  | some ⟨.type t, _, .cls cd, sl⟩ => decide (t = "type") && (decide (cd.mro.head? = some (.ref C)) && (refsVE (cd.mro.drop 1) && (cd.hasDict && (!cd.hasDel && (decide (sl.size = 6) && decide (sl[4]? = some (some (.builtin "ValueError.__new__"))))))))
  | _ => false
theorem clsB_ok {K : Frag} {C : Addr} (h : clsB K C = true) : ∃ nm q N bs bm sn sub ab col dd k0 k1 k2 k3 k5, K.lookup C = some (excClassObj nm q C N bs bm true sn sub ab col dd k0 k1 k2 k3 k5 "ValueError.__new__") ∧ refsVE bm = true := by
  unfold clsB at h
  cases e : K.lookup C with
  | none => rw [e] at h; cases h
  | some o =>
    obtain ⟨oc, od, dt, sl⟩ := o
    rw [e] at h
    cases oc with
    | type t =>
      cases dt with
      | cls cd =>
        obtain ⟨nm, bs, mro, ns, qn, hd, sn, sub, ab, col, del⟩ := cd
        obtain ⟨h1, h⟩ := He.ba h
        obtain ⟨h2, h⟩ := He.ba h
        obtain ⟨h3, h⟩ := He.ba h
        obtain ⟨h4, h⟩ := He.ba h
        obtain ⟨h5, h⟩ := He.ba h
        obtain ⟨h6, h7⟩ := He.ba h
        have h1 := of_decide_eq_true h1
        have h2 := of_decide_eq_true h2
        have h6 := of_decide_eq_true h6
        have h7 := of_decide_eq_true h7
        subst h1
        cases mro with
        | nil => cases h2
        | cons c bm =>
          cases h2
          cases hd with
          | false => cases h4
          | true =>
            cases del with
            | true => cases h5
            | false =>
              obtain ⟨l⟩ := sl
              match l, h6, h7 with
              | [k0, k1, k2, k3, k4, k5], _, h7 =>
                cases h7
                exact ⟨nm, qn, ns, bs, bm, sn, sub, ab, col, od, k0, k1, k2, k3, k5, rfl, h3⟩
      | _ => cases h
    | _ => cases dt <;> cases h
/-- a def that closes over its class: its text -/
abbrev FnC : Type := Option (Str × Str × Arguments × FuncBody × Scope × Addr × List Str × Addr)
def fnC (K : Frag) (f : Addr) : FnC := match K.lookup f with
  | some ⟨_, _, .func fd, _⟩ => some (fd.name, fd.qualname, fd.params, fd.body, fd.scope, fd.globals, fd.closure.map (·.1), fd.builtins)
  | _ => none
/-- an exception's class: its name, its field, its __init__, as the text has them -/
structure XcD where
  x : Str
  f : Str
  txt : Str
  qual : Str
  st : Stmt
def XcD.C (K : Frag) (d : XcD) : Addr := He.ga K d.x
def XcD.i (K : Frag) (d : XcD) : Addr := He.ma K (d.C K) "__init__"
def XcD.val (d : XcD) : FnC := some ("__init__", d.qual, defArgs d.st, .stmts (defBody d.st), defScope d.st, mainGlobals, ["__class__"], builtinsNs)
def cellB (K : Frag) (c C : Addr) : Bool := match K.lookup c with
  | some ⟨_, _, .cell (some (.ref a)), _⟩ => decide (a = C)
  | _ => false
def codeB (K : Frag) (file : Str) (cd : Value) : Bool := match cd with
  | .ref c => (match K.lookup c with
    | some ⟨_, _, .fields vs, _⟩ => (match (vs[2]? : Option Value) with
      | some (Value.str f _) => decide (f = file)
      | _ => false)
    | _ => false)
  | _ => false
def initB (K : Frag) (file : Str) (d : XcD) : Bool := match K.lookup (d.i K) with
  | some ⟨_, _, .func fd, _⟩ => codeIn K fd.code d.qual && (codeB K file fd.code && (fd.closure.all (fun q => cellB K q.2 (d.C K)) && decide (fd.defaults = .none)))
  | _ => false
def XcD.ok (K : Frag) (file : Str) (d : XcD) : Bool := He.eqO (nsIn K mainGlobals d.x) (some (some (.ref (d.C K)))) && (clsB K (d.C K) && (He.eqO (findIn K (.ref (d.C K)) "__setattr__") (some (some (.builtin "object.__setattr__"))) &&
  (He.eqO (findIn K (.ref (d.C K)) "__getattribute__") (some (some (.builtin "BaseException.__getattribute__"))) && (He.eqO (findIn K (.ref (d.C K)) "__getattr__") (some none) && (He.eqO (findIn K (.ref (d.C K)) d.f) (some none) &&
  (He.eqO (findIn K (.ref (d.C K)) "__init__") (some (some (.ref (d.i K)))) && (decide (typeIn K (.ref (d.i K)) = some (.type "function")) && (keepIn K (.ref (d.C K)) && (decide (subIn K (.ref (d.C K)) (.type "BaseException") = some true) &&
  (decide (subIn K (.ref (d.C K)) (.type "ValueError") = some true) && (decide (typeIn K (.ref (d.C K)) = some (.type "type")) && (hasDictIn K (d.C K) && (decide (mroIn K (d.C K) (.ref (d.C K)) = some true) &&
  (decide (exmOne K (.ref (d.C K)) (.ref (d.C K)) = some true) && (He.eqO (ks_superIn K (d.C K) (d.C K) "__init__") (some (some (.builtin "ValueError.__init__"))) && (He.eqO (nsIn K cStatics "thirdparty.any") (some none) && (He.eqO (nsIn K mainGlobals "super") (some none) && initB K file d)))))))))))))))))
/-- what the text of such an __init__ gives, however it stands in the heap -/
def TextOk (d : XcD) : Prop := ∃ (a sn : Str) (ar : Arg) (k : Nat) (p0 p1 p2 p3 p4 p5 p6 p7 p8 p9 : Pos), defBody d.st = supBody d.txt d.f a sn k p0 p1 p2 p3 p4 p5 p6 p7 p8 p9 ∧
  (∀ (kV doc pm : Value) (an : Option Addr) (cda cc : Addr) (ct u v : Value), bindArgs (ksFn "__init__" d.qual (defArgs d.st) (supBody d.txt d.f a sn k p0 p1 p2 p3 p4 p5 p6 p7 p8 p9) (defScope d.st) .none kV doc pm an (.ref cda) ct cc) ⟨[u, v], []⟩ = pure [(sn, u), (a, v)]) ∧
  ((defArgs d.st).posonlyargs ++ (defArgs d.st).args).head? = some ar ∧ ar.arg = sn ∧ a ≠ sn ∧ (sn == ("__debug__" : Str)) = false ∧ (a == ("__debug__" : Str)) = false ∧ (∀ y ∈ (defScope d.st).names, y.2 ≠ .cell) ∧ (defScope d.st).names.lookup sn = some .local ∧ (defScope d.st).names.lookup a = some .local ∧
  (defScope d.st).names.lookup ("super" : Str) = some .globalImplicit ∧ (defScope d.st).names.lookup ("__class__" : Str) = some .free ∧ (defScope d.st).kind = .function ∧ (defScope d.st).isCoroutine = false ∧ (defScope d.st).isGenerator = false ∧
  ∀ (L fI cda cc : Addr),
    (∃ pl : Sem Bool, eval (.Call (.Attribute (.Call (.Name "super" p0) [] [] p1) "__init__" p2) [.Constant (.str d.txt) k p3] [] p4) (ksEnv d.qual (defScope d.st) L fI (.ref cda) cc) = (do
      let ov ← attributeBase (.Call (.Name "super" p0) [] [] p1) "__init__" (ksEnv d.qual (defScope d.st) L fI (.ref cda) cc) (eval (.Call (.Name "super" p0) [] [] p1) (ksEnv d.qual (defScope d.st) L fI (.ref cda) cc))
      standAt p2.atName
      let (f, first) ← holding [ov] (getMethod ov "__init__" pl)
      callWith p4 f first (backTo p4 (starEach [.Constant (.str d.txt) k p3] (ksEnv d.qual (defScope d.st) L fI (.ref cda) cc))) [])) ∧
    interactive (ksEnv d.qual (defScope d.st) L fI (.ref cda) cc) = false ∧
    swapsWith (.Call (.Attribute (.Call (.Name "super" p0) [] [] p1) "__init__" p2) [.Constant (.str d.txt) k p3] [] p4) none p5.line (ksEnv d.qual (defScope d.st) L fI (.ref cda) cc) = pure false ∧
    swapsWith (.Name a p8) (some (.Attribute (.Name sn p6) d.f p7)) p9.line (ksEnv d.qual (defScope d.st) L fI (.ref cda) cc) = pure false ∧
    starEach [.Constant (.str d.txt) k p3] (ksEnv d.qual (defScope d.st) L fI (.ref cda) cc) = (false, eval (.Constant (.str d.txt) k p3) (ksEnv d.qual (defScope d.st) L fI (.ref cda) cc)) :: starEach [] (ksEnv d.qual (defScope d.st) L fI (.ref cda) cc) ∧
    starEach [] (ksEnv d.qual (defScope d.st) L fI (.ref cda) cc) = []
theorem sup_of {prog : Program} {K : Frag} {h : Heap} {mg : Str → Option Value} {file : Str} {d : XcD} (X : K.In h) (G : h.Ns mainGlobals mg) (t : TextOk d) (e : fnC K (d.i K) = d.val) (c : d.ok K file = true) (hp : prog.main.file = file) (ht : (prog.main.scope.names.lookup ("super" : Str)).isSome = false) :
    Sup prog K mg (d.C K) (d.i K) d.x d.f d.txt := by
  obtain ⟨c1, c⟩ := He.ba c
  obtain ⟨c2, c⟩ := He.ba c
  obtain ⟨c3, c⟩ := He.ba c
  obtain ⟨c4, c⟩ := He.ba c
  obtain ⟨c5, c⟩ := He.ba c
  obtain ⟨c6, c⟩ := He.ba c
  obtain ⟨c7, c⟩ := He.ba c
  obtain ⟨c8, c⟩ := He.ba c
  obtain ⟨c9, c⟩ := He.ba c
  obtain ⟨c10, c⟩ := He.ba c
  obtain ⟨c11, c⟩ := He.ba c
  obtain ⟨c12, c⟩ := He.ba c
  obtain ⟨c13, c⟩ := He.ba c
  obtain ⟨c14, c⟩ := He.ba c
  obtain ⟨c15, c⟩ := He.ba c
  obtain ⟨c16, c⟩ := He.ba c
  obtain ⟨c17, c⟩ := He.ba c
  obtain ⟨c18, c⟩ := He.ba c
  refine { gC := mg_of X G (He.eqO_ok c1), cls := clsB_ok c2, sa := He.eqO_ok c3, ga := He.eqO_ok c4, gg := He.eqO_ok c5, noN := He.eqO_ok c6, iC := He.eqO_ok c7, tC := of_decide_eq_true c8, kC := c9, exC := of_decide_eq_true c10, veC := of_decide_eq_true c11, tyC := of_decide_eq_true c12, hdC := c13, meC := of_decide_eq_true c14, te := of_decide_eq_true c15, sup := He.eqO_ok c16, opq := He.eqO_ok c17, noS := mg_none_of X G (He.eqO_ok c18), top := ht, fn := ?_ }
  obtain ⟨a, sn, ar, k, p0, p1, p2, p3, p4, p5, p6, p7, p8, p9, tb, t1, t2, t3, t4, t5, t6, t7, t8, t9, t10, t11, t12, t13, t14, t15⟩ := t
  unfold initB at c
  unfold fnC at e
  cases q : K.lookup (d.i K) with
  | none => rw [q] at c; cases c
  | some o =>
    obtain ⟨oc, od, dt, osl⟩ := o
    rw [q] at c e
    cases dt with
    | func fd =>
      obtain ⟨n1, n2, n3, n4, n5, n6, n7, n8, n9, n10, n11, n12, n13, n14, n15⟩ := fd
      have e2 : (some (n1, n2, n3, n4, n5, n6, n7.map (·.1), n15) : FnC) = d.val := e
      unfold XcD.val at e2
      simp only [Option.some.injEq, Prod.mk.injEq] at e2
      obtain ⟨h1, h2, h3, h4, h5, h6, h7, h8⟩ := e2
      have c' : (codeIn K n13 d.qual && (codeB K file n13 && (n7.all (fun q => cellB K q.2 (d.C K)) && decide (n8 = .none)))) = true := c
      obtain ⟨b1, b⟩ := He.ba c'
      obtain ⟨b2, b⟩ := He.ba b
      obtain ⟨b3, b4⟩ := He.ba b
      have b4 := of_decide_eq_true b4
      subst h1 h2 h3 h4 h5 h6 h8 b4
      rw [tb] at q
      match n7, h7, b3 with
      | [(z, cc)], h7, b3 =>
        have hz : z = "__class__" := by simpa using h7
        subst hz
        have b3 : cellB K cc (d.C K) = true := by simpa using b3
        cases n13 with
        | ref cda =>
          refine ⟨oc, od, d.qual, a, sn, defArgs d.st, defScope d.st, n9, n10, n11, n12, cda, cc, n14, osl, ar, k, p0, p1, p2, p3, p4, p5, p6, p7, p8, p9, by rw [tb], b1, ?_, ?_, t1 _ _ _ _ _ _ _, t2, t3, t4, t5, t6, t7, t8, t9, t10, t11, t12, t13, t14, fun L => (t15 L _ cda cc).1, fun L => (t15 L _ cda cc).2.1, fun L => (t15 L _ cda cc).2.2.1, fun L => (t15 L _ cda cc).2.2.2.1, fun L => (t15 L _ cda cc).2.2.2.2.1, fun L => (t15 L _ cda cc).2.2.2.2.2⟩
          · unfold cellB at b3
            split at b3
            · rename_i c1 c2 a sl ho
              have := of_decide_eq_true b3
              subst this
              exact ⟨_, _, _, ho⟩
            · cases b3
          · have b2 : (match K.lookup cda with
              | some ⟨_, _, .fields vs, _⟩ => (match (vs[2]? : Option Value) with
                | some (Value.str f _) => decide (f = file)
                | _ => false)
              | _ => false) = true := b2
            cases y : K.lookup cda with
            | none => rw [y] at b2; cases b2
            | some o2 =>
              obtain ⟨o2c, o2d, o2t, o2s⟩ := o2
              simp only [y] at b2
              cases o2t with
              | fields vs =>
                simp only at b2
                split at b2
                · rename_i f tf hv
                  exact ⟨_, _, vs, _, f, tf, rfl, hv, by rw [hp, of_decide_eq_true b2]; exact beq_self_eq_true _⟩
                · cases b2
              | _ => cases b2
        | _ => cases b1
    | _ => cases c
/-! ### the Hook -/
abbrev AlS : Type := He.AlD × Bool × List FnC
def frS (g : Addr → Option Obj) (n : Nat) : Frag := He.frG g (He.asD g n ++ [cStatics])
def obsS (fa : List He.Fa) (fn : List He.DefD) (xs : List XcD) (file : Str) (ex : Frag → Bool) (K : Frag) : AlS := (He.obsD fa fn K, ex K && xs.all (fun d => d.ok K file), xs.map fun d => fnC K (d.i K))
def valS (fn : List He.DefD) (xs : List XcD) : AlS := (He.valD fn, true, xs.map XcD.val)
def SaysS (fa : List He.Fa) (fn : List He.DefD) (xs : List XcD) (file : Str) (ex : Frag → Bool) (K : Frag) : Prop := obsS fa fn xs file ex K = valS fn xs
def obsSG (n : Nat) (fa : List He.Fa) (fn : List He.DefD) (xs : List XcD) (file : Str) (ex : Frag → Bool) (g : Addr → Option Obj) : AlS := obsS fa fn xs file ex (frS g n)
def hookS (n : Nat) (fa : List He.Fa) (fn : List He.DefD) (xs : List XcD) (file : Str) (ex : Frag → Bool) : Hook where
  α := AlS
  obs := fun s => obsSG n fa fn xs file ex s.heap.get?
  val := fun _ => valS fn xs
  says := fun _ h => ∃ K : Frag, K.In h ∧ SaysS fa fn xs file ex K
  of := fun _ _ e => ⟨_, He.frG_in, e⟩
  keeps := fun _ _ _ ⟨K, hK, c⟩ k => ⟨K, Frag.In.keeps hK k, c⟩
theorem obsSG_eq {n : Nat} {fa : List He.Fa} {fn : List He.DefD} {xs : List XcD} {file : Str} {ex : Frag → Bool} {g : Addr → Option Obj} {s : Shared} (h : ∀ a, g a = s.heap.get? a) : obsSG n fa fn xs file ex g = (hookS n fa fn xs file ex).obs s := by
  have e : g = s.heap.get? := funext h
  rw [e] <;> rfl
section
variable {fa : List He.Fa} {fn : List He.DefD} {xs : List XcD} {file : Str} {ex : Frag → Bool} {K : Frag}
theorem SaysS.d (c : SaysS fa fn xs file ex K) : He.SaysD fa fn K := congrArg (fun z : AlS => z.1) c
theorem SaysS.two (c : SaysS fa fn xs file ex K) : (ex K && xs.all (fun d => d.ok K file)) = true := congrArg (fun z : AlS => z.2.1) c
theorem SaysS.exq (c : SaysS fa fn xs file ex K) : ex K = true := (He.ba c.two).1
theorem SaysS.xok (c : SaysS fa fn xs file ex K) (i : Nat) {d : XcD} (h : xs[i]? = some d := by rfl) : d.ok K file = true := List.all_eq_true.mp (He.ba c.two).2 d (List.mem_of_getElem? h)
theorem SaysS.xfn (c : SaysS fa fn xs file ex K) (i : Nat) {d : XcD} (h : xs[i]? = some d := by rfl) : fnC K (d.i K) = d.val := by
  have e : (xs.map fun d => fnC K (d.i K)) = xs.map XcD.val := congrArg (fun z : AlS => z.2.2) c
  have e2 : (xs.map fun d => fnC K (d.i K))[i]? = (xs.map XcD.val)[i]? := by rw [e]
  rw [List.getElem?_map, List.getElem?_map, h] at e2
  exact Option.some.inj e2
end
end SupX
namespace WD
open PySem PySem.Spec PyProof.Rows L2
/-- no list stands in the written part -/
def noLst (K : PySem.W.Frag) : Bool := K.all fun p => match p.2.cls with
  | .type c => decide (c ≠ "list")
  | _ => true
theorem rd_of {K : PySem.W.Frag} {H : Hp} {a : Addr} {xs : List V} (n : noLst K = true) (h : SqL K H a xs) : Rd H a (.lst xs) := by
  rcases h with h | ⟨o, its, k, h1, h2, _⟩
  · exact h
  · have mem : (a, o) ∈ K := by
      have key : ∀ l : List (Addr × Obj), l.lookup a = some o → (a, o) ∈ l := by
        intro l
        induction l with
        | nil => intro h; cases h
        | cons q l ih =>
          obtain ⟨b, u⟩ := q
          intro h
          rw [List.lookup_cons] at h
          cases z : (a == b) with
          | true =>
            rw [z] at h
            cases h
            rw [beq_iff_eq.mp z]
            exact List.mem_cons_self
          | false =>
            rw [z] at h
            exact List.mem_cons_of_mem _ (ih h)
      exact key K h1
    have y := List.all_eq_true.mp n _ mem
    simp only [h2] at y
    exact absurd rfl (of_decide_eq_true y)
end WD
end
section
set_option Elab.async false
set_option linter.all false
set_option maxRecDepth 100000
namespace My
open PySem PySem.Spec PyProof.Rows L2 Evl WD
def topS (i : Nat) : Stmt := PySem.Challenge.pw_weirlines_k01_whole_programs.main.body.getD i (.Pass ⟨0, 0, 0, 0⟩)
abbrev s_is_integer : Stmt := topS 3
abbrev s_is_fraction : Stmt := topS 4
abbrev s_is_amount : Stmt := topS 5
abbrev s_reduced : Stmt := topS 6
abbrev s_exact : Stmt := topS 7
abbrev s_plus : Stmt := topS 8
abbrev s_minus : Stmt := topS 9
abbrev s_times : Stmt := topS 10
abbrev s_common_bottom : Stmt := topS 11
abbrev c_Line : Stmt := topS 12
abbrev s_Line___init__ : Stmt := inClass c_Line 0
abbrev s_Line_top : Stmt := inClass c_Line 1
abbrev s_Line_even : Stmt := inClass c_Line 2
abbrev s_Line_inside : Stmt := inClass c_Line 3
abbrev s_Line_water : Stmt := inClass c_Line 4
abbrev c_WeirError : Stmt := topS 14
abbrev c_BadRow : Stmt := topS 15
abbrev c_BadWeir : Stmt := topS 16
abbrev s_BadWeir___init__ : Stmt := inClass c_BadWeir 0
abbrev c_BadOrder : Stmt := topS 17
abbrev s_BadOrder___init__ : Stmt := inClass c_BadOrder 0
abbrev c_BadProgram : Stmt := topS 19
abbrev s_BadProgram___init__ : Stmt := inClass c_BadProgram 0
abbrev c_BadStart : Stmt := topS 20
abbrev c_Program : Stmt := topS 24
abbrev s_Program___init__ : Stmt := inClass c_Program 0
abbrev s_Program___len__ : Stmt := inClass c_Program 1
abbrev s_Program___eq__ : Stmt := inClass c_Program 2
abbrev s_Program___add__ : Stmt := inClass c_Program 3
abbrev s_Program_order : Stmt := inClass c_Program 4
abbrev s_Program_done : Stmt := inClass c_Program 5
abbrev s_is_round : Stmt := topS 25
abbrev s_check_rounds : Stmt := topS 26
abbrev s_check_many : Stmt := topS 27
abbrev s_check_told : Stmt := topS 28
abbrev s_openings : Stmt := topS 29
abbrev s_halvings : Stmt := topS 30
abbrev s_evened : Stmt := topS 31
abbrev c_Row : Stmt := topS 36
abbrev s_Row___init__ : Stmt := inClass c_Row 0
abbrev s_Row___len__ : Stmt := inClass c_Row 1
abbrev s_Row___getitem__ : Stmt := inClass c_Row 2
abbrev s_Row___iter__ : Stmt := inClass c_Row 3
abbrev s_Row___contains__ : Stmt := inClass c_Row 4
abbrev s_Row___eq__ : Stmt := inClass c_Row 5
abbrev s_Row_weirs : Stmt := inClass c_Row 6
abbrev s_Row_heights : Stmt := inClass c_Row 7
abbrev s_Row_sums : Stmt := inClass c_Row 8
abbrev s_Row_reaches : Stmt := inClass c_Row 9
abbrev s_Row_opened : Stmt := inClass c_Row 10
abbrev s_with_volumes : Stmt := topS 37
abbrev s_check_areas : Stmt := topS 38
abbrev s_check_volumes : Stmt := topS 39
abbrev s_check_locks : Stmt := topS 40
abbrev s_check_row : Stmt := topS 41
abbrev s_check_order : Stmt := topS 42
abbrev s_line_of : Stmt := topS 43
abbrev s_behind : Stmt := topS 44
abbrev s__law_draw : Stmt := topS 46
abbrev s__law_rounds : Stmt := topS 47
abbrev s__law_weirs : Stmt := topS 48
abbrev s__law_order : Stmt := topS 49
abbrev s__law_play : Stmt := topS 50
abbrev s__law_scale : Stmt := topS 51
abbrev s__law_part : Stmt := topS 52
abbrev s__law_done : Stmt := topS 53
abbrev s__law_refused : Stmt := topS 54
abbrev s_law : Stmt := topS 55
def d_is_integer : He.DefD := ⟨("is_integer", none), "is_integer", "is_integer", defArgs s_is_integer, defBody s_is_integer, defScope s_is_integer, [], []⟩
def d_is_fraction : He.DefD := ⟨("is_fraction", none), "is_fraction", "is_fraction", defArgs s_is_fraction, defBody s_is_fraction, defScope s_is_fraction, [], []⟩
def d_is_amount : He.DefD := ⟨("is_amount", none), "is_amount", "is_amount", defArgs s_is_amount, defBody s_is_amount, defScope s_is_amount, [], []⟩
def d_reduced : He.DefD := ⟨("reduced", none), "reduced", "reduced", defArgs s_reduced, defBody s_reduced, defScope s_reduced, [], []⟩
def d_exact : He.DefD := ⟨("exact", none), "exact", "exact", defArgs s_exact, defBody s_exact, defScope s_exact, [], []⟩
def d_plus : He.DefD := ⟨("plus", none), "plus", "plus", defArgs s_plus, defBody s_plus, defScope s_plus, [], []⟩
def d_minus : He.DefD := ⟨("minus", none), "minus", "minus", defArgs s_minus, defBody s_minus, defScope s_minus, [], []⟩
def d_times : He.DefD := ⟨("times", none), "times", "times", defArgs s_times, defBody s_times, defScope s_times, [], []⟩
def d_common_bottom : He.DefD := ⟨("common_bottom", none), "common_bottom", "common_bottom", defArgs s_common_bottom, defBody s_common_bottom, defScope s_common_bottom, [], []⟩
def d_Line___init__ : He.DefD := ⟨("Line", some "__init__"), "__init__", "Line.__init__", defArgs s_Line___init__, defBody s_Line___init__, defScope s_Line___init__, [.adr (He.dflAt (("Line", some "__init__")) 0)], []⟩
def d_Line_top : He.DefD := ⟨("Line", some "top"), "top", "Line.top", defArgs s_Line_top, defBody s_Line_top, defScope s_Line_top, [], []⟩
def d_Line_even : He.DefD := ⟨("Line", some "even"), "even", "Line.even", defArgs s_Line_even, defBody s_Line_even, defScope s_Line_even, [], []⟩
def d_Line_inside : He.DefD := ⟨("Line", some "inside"), "inside", "Line.inside", defArgs s_Line_inside, defBody s_Line_inside, defScope s_Line_inside, [], []⟩
def d_Line_water : He.DefD := ⟨("Line", some "water"), "water", "Line.water", defArgs s_Line_water, defBody s_Line_water, defScope s_Line_water, [], []⟩
def d_Program___init__ : He.DefD := ⟨("Program", some "__init__"), "__init__", "Program.__init__", defArgs s_Program___init__, defBody s_Program___init__, defScope s_Program___init__, [], []⟩
def d_Program___len__ : He.DefD := ⟨("Program", some "__len__"), "__len__", "Program.__len__", defArgs s_Program___len__, defBody s_Program___len__, defScope s_Program___len__, [], []⟩
def d_Program___eq__ : He.DefD := ⟨("Program", some "__eq__"), "__eq__", "Program.__eq__", defArgs s_Program___eq__, defBody s_Program___eq__, defScope s_Program___eq__, [], []⟩
def d_Program___add__ : He.DefD := ⟨("Program", some "__add__"), "__add__", "Program.__add__", defArgs s_Program___add__, defBody s_Program___add__, defScope s_Program___add__, [], []⟩
def d_Program_order : He.DefD := ⟨("Program", some "order"), "order", "Program.order", defArgs s_Program_order, defBody s_Program_order, defScope s_Program_order, [], []⟩
def d_Program_done : He.DefD := ⟨("Program", some "done"), "done", "Program.done", defArgs s_Program_done, defBody s_Program_done, defScope s_Program_done, [], []⟩
def d_is_round : He.DefD := ⟨("is_round", none), "is_round", "is_round", defArgs s_is_round, defBody s_is_round, defScope s_is_round, [], []⟩
def d_check_rounds : He.DefD := ⟨("check_rounds", none), "check_rounds", "check_rounds", defArgs s_check_rounds, defBody s_check_rounds, defScope s_check_rounds, [], []⟩
def d_check_many : He.DefD := ⟨("check_many", none), "check_many", "check_many", defArgs s_check_many, defBody s_check_many, defScope s_check_many, [], []⟩
def d_check_told : He.DefD := ⟨("check_told", none), "check_told", "check_told", defArgs s_check_told, defBody s_check_told, defScope s_check_told, [], []⟩
def d_openings : He.DefD := ⟨("openings", none), "openings", "openings", defArgs s_openings, defBody s_openings, defScope s_openings, [], []⟩
def d_halvings : He.DefD := ⟨("halvings", none), "halvings", "halvings", defArgs s_halvings, defBody s_halvings, defScope s_halvings, [], []⟩
def d_evened : He.DefD := ⟨("evened", none), "evened", "evened", defArgs s_evened, defBody s_evened, defScope s_evened, [], []⟩
def d_Row___init__ : He.DefD := ⟨("Row", some "__init__"), "__init__", "Row.__init__", defArgs s_Row___init__, defBody s_Row___init__, defScope s_Row___init__, [.adr (He.dflAt (("Row", some "__init__")) 0)], []⟩
def d_Row___len__ : He.DefD := ⟨("Row", some "__len__"), "__len__", "Row.__len__", defArgs s_Row___len__, defBody s_Row___len__, defScope s_Row___len__, [], []⟩
def d_Row___getitem__ : He.DefD := ⟨("Row", some "__getitem__"), "__getitem__", "Row.__getitem__", defArgs s_Row___getitem__, defBody s_Row___getitem__, defScope s_Row___getitem__, [], []⟩
def d_Row___iter__ : He.DefD := ⟨("Row", some "__iter__"), "__iter__", "Row.__iter__", defArgs s_Row___iter__, defBody s_Row___iter__, defScope s_Row___iter__, [], []⟩
def d_Row___contains__ : He.DefD := ⟨("Row", some "__contains__"), "__contains__", "Row.__contains__", defArgs s_Row___contains__, defBody s_Row___contains__, defScope s_Row___contains__, [], []⟩
def d_Row___eq__ : He.DefD := ⟨("Row", some "__eq__"), "__eq__", "Row.__eq__", defArgs s_Row___eq__, defBody s_Row___eq__, defScope s_Row___eq__, [], []⟩
def d_Row_weirs : He.DefD := ⟨("Row", some "weirs"), "weirs", "Row.weirs", defArgs s_Row_weirs, defBody s_Row_weirs, defScope s_Row_weirs, [], []⟩
def d_Row_sums : He.DefD := ⟨("Row", some "sums"), "sums", "Row.sums", defArgs s_Row_sums, defBody s_Row_sums, defScope s_Row_sums, [], []⟩
def d_Row_opened : He.DefD := ⟨("Row", some "opened"), "opened", "Row.opened", defArgs s_Row_opened, defBody s_Row_opened, defScope s_Row_opened, [.adr (He.dflAt (("Row", some "opened")) 0)], []⟩
def d_with_volumes : He.DefD := ⟨("with_volumes", none), "with_volumes", "with_volumes", defArgs s_with_volumes, defBody s_with_volumes, defScope s_with_volumes, [], []⟩
def d_check_areas : He.DefD := ⟨("check_areas", none), "check_areas", "check_areas", defArgs s_check_areas, defBody s_check_areas, defScope s_check_areas, [], []⟩
def d_check_volumes : He.DefD := ⟨("check_volumes", none), "check_volumes", "check_volumes", defArgs s_check_volumes, defBody s_check_volumes, defScope s_check_volumes, [], []⟩
def d_check_locks : He.DefD := ⟨("check_locks", none), "check_locks", "check_locks", defArgs s_check_locks, defBody s_check_locks, defScope s_check_locks, [], []⟩
def d_check_row : He.DefD := ⟨("check_row", none), "check_row", "check_row", defArgs s_check_row, defBody s_check_row, defScope s_check_row, [], []⟩
def d_check_order : He.DefD := ⟨("check_order", none), "check_order", "check_order", defArgs s_check_order, defBody s_check_order, defScope s_check_order, [], []⟩
def d_line_of : He.DefD := ⟨("line_of", none), "line_of", "line_of", defArgs s_line_of, defBody s_line_of, defScope s_line_of, [], []⟩
def d_behind : He.DefD := ⟨("behind", none), "behind", "behind", defArgs s_behind, defBody s_behind, defScope s_behind, [], []⟩
def d__law_draw : He.DefD := ⟨("_law_draw", none), "_law_draw", "_law_draw", defArgs s__law_draw, defBody s__law_draw, defScope s__law_draw, [], []⟩
def d__law_rounds : He.DefD := ⟨("_law_rounds", none), "_law_rounds", "_law_rounds", defArgs s__law_rounds, defBody s__law_rounds, defScope s__law_rounds, [], []⟩
def d__law_weirs : He.DefD := ⟨("_law_weirs", none), "_law_weirs", "_law_weirs", defArgs s__law_weirs, defBody s__law_weirs, defScope s__law_weirs, [], []⟩
def d__law_order : He.DefD := ⟨("_law_order", none), "_law_order", "_law_order", defArgs s__law_order, defBody s__law_order, defScope s__law_order, [], []⟩
def d__law_play : He.DefD := ⟨("_law_play", none), "_law_play", "_law_play", defArgs s__law_play, defBody s__law_play, defScope s__law_play, [], []⟩
def d__law_scale : He.DefD := ⟨("_law_scale", none), "_law_scale", "_law_scale", defArgs s__law_scale, defBody s__law_scale, defScope s__law_scale, [], []⟩
def d__law_part : He.DefD := ⟨("_law_part", none), "_law_part", "_law_part", defArgs s__law_part, defBody s__law_part, defScope s__law_part, [], []⟩
def d__law_done : He.DefD := ⟨("_law_done", none), "_law_done", "_law_done", defArgs s__law_done, defBody s__law_done, defScope s__law_done, [], []⟩
def d__law_refused : He.DefD := ⟨("_law_refused", none), "_law_refused", "_law_refused", defArgs s__law_refused, defBody s__law_refused, defScope s__law_refused, [], []⟩
def d_law : He.DefD := ⟨("law", none), "law", "law", defArgs s_law, defBody s_law, defScope s_law, [], []⟩
def fn0 : List He.DefD := [d_is_integer, d_is_fraction, d_is_amount, d_reduced, d_exact, d_plus, d_minus, d_times, d_common_bottom, d_Line___init__, d_Line_top, d_Line_even, d_Line_inside, d_Line_water, d_Program___init__, d_Program___len__, d_Program___eq__, d_Program___add__, d_Program_order, d_Program_done]
def fn1 : List He.DefD := [d_is_round, d_check_rounds, d_check_many, d_check_told, d_openings, d_halvings, d_evened, d_Row___init__, d_Row___len__, d_Row___getitem__, d_Row___iter__, d_Row___contains__, d_Row___eq__, d_Row_weirs, d_Row_sums, d_Row_opened, d_with_volumes, d_check_areas, d_check_volumes, d_check_locks]
def fn2 : List He.DefD := [d_check_row, d_check_order, d_line_of, d_behind, d__law_draw, d__law_rounds, d__law_weirs, d__law_order, d__law_play, d__law_scale, d__law_part, d__law_done, d__law_refused, d_law]
def fn : List He.DefD := fn0 ++ fn1 ++ fn2
def fa0 : List He.Fa := [.glo "is_integer", .glo "is_fraction", .glo "is_amount", .glo "reduced", .glo "exact", .glo "plus", .glo "minus", .glo "times", .glo "common_bottom", .glo "Line", .cls "Line", .mkr "Line", .meth "Line" "top", .meth "Line" "even", .meth "Line" "inside", .meth "Line" "water", .noat "Line" "areas", .noat "Line" "bottom", .noat "Line" "bottoms", .noat "Line" "tops"]
def fa1 : List He.Fa := [.glo "WeirError", .glo "BadRow", .glo "BadWeir", .glo "BadOrder", .glo "BadProgram", .glo "BadStart", .int "MOST_ROUNDS" 12, .int "MOST_MANY" 400, .glo "Program", .cls "Program", .mkr "Program", .meth "Program" "__len__", .meth "Program" "__eq__", .meth "Program" "__add__", .meth "Program" "order", .meth "Program" "done", .noat "Program" "rounds", .glo "is_round", .glo "check_rounds", .glo "check_many"]
def fa2 : List He.Fa := [.glo "check_told", .glo "openings", .glo "halvings", .glo "evened", .int "MOST_BASINS" 24, .int "MOST_AREA" 1000, .int "MOST_OPENINGS" 20000, .glo "Row", .cls "Row", .mkr "Row", .meth "Row" "__len__", .meth "Row" "__getitem__", .meth "Row" "__iter__", .meth "Row" "__contains__", .meth "Row" "__eq__", .meth "Row" "weirs", .meth "Row" "sums", .meth "Row" "opened", .noat "Row" "areas", .noat "Row" "locks"]
def fa3 : List He.Fa := [.noat "Row" "volumes", .glo "with_volumes", .glo "check_areas", .glo "check_volumes", .glo "check_locks", .glo "check_row", .glo "check_order", .glo "line_of", .glo "behind", .glo "_law_draw", .glo "_law_rounds", .glo "_law_weirs", .glo "_law_order", .glo "_law_play", .glo "_law_scale", .glo "_law_part", .glo "_law_done", .glo "_law_refused", .glo "law", .free "ValueError"]
def fa4 : List He.Fa := [.free "abs", .free "bool", .free "enumerate", .free "int", .free "isinstance", .free "len", .free "list", .free "range", .free "reversed", .free "set", .free "sorted", .free "sum", .free "super", .free "tuple"]
def fa : List He.Fa := fa0 ++ fa1 ++ fa2 ++ fa3 ++ fa4
def loose0 : List PySem.Str := ["_wall", "is_integer", "is_fraction", "is_amount", "reduced", "exact", "plus", "minus", "times", "common_bottom", "Line", "WeirError", "BadRow", "BadWeir", "BadOrder", "BadProgram", "BadStart", "MOST_ROUNDS", "MOST_MANY", "Program"]
def loose1 : List PySem.Str := ["is_round", "check_rounds", "check_many", "check_told", "openings", "halvings", "evened", "MOST_BASINS", "MOST_AREA", "MOST_OPENINGS", "Row", "with_volumes", "check_areas", "check_volumes", "check_locks", "check_row", "check_order", "line_of", "behind", "_law_draw"]
def loose2 : List PySem.Str := ["_law_rounds", "_law_weirs", "_law_order", "_law_play", "_law_scale", "_law_part", "_law_done", "_law_refused"]
def loose : List PySem.Str := loose0 ++ loose1 ++ loose2
def x_BadWeir : SupX.XcD := ⟨"BadWeir", "number", "no weir that can be opened here", "BadWeir.__init__", s_BadWeir___init__⟩
def x_BadOrder : SupX.XcD := ⟨"BadOrder", "place", "no order of weirs that can be opened here", "BadOrder.__init__", s_BadOrder___init__⟩
def x_BadProgram : SupX.XcD := ⟨"BadProgram", "place", "no program of rounds", "BadProgram.__init__", s_BadProgram___init__⟩
def xs : List SupX.XcD := [x_BadWeir, x_BadOrder, x_BadProgram]
def fileS : Str := PySem.Challenge.pw_weirlines_k01_whole_programs.main.file
open He in
def exL (K : PySem.W.Frag) : List Bool := [eqO (PySem.W.nsIn K mainGlobals "gcd") (some (some (.builtin "math.gcd"))),
  eqO (PySem.W.nsIn K mainGlobals "lcm") (some (some (.builtin "math.lcm"))),
  eqO (PySem.W.findIn K (.ref (He.ga K "Line")) "__ne__") (some (some (.builtin "object.__ne__"))),
  eqO (PySem.W.findIn K (.ref (He.ga K "Line")) "__class__") (some (some (.builtin "object.__class__"))),
  decide (PySem.W.mroIn K (He.ga K "Line") (.type "object") = some true),
  decide (PySem.W.kitOne K (.ref (He.ga K "Line")) (.ref (He.ga K "Line")) = some true),
  decide (PySem.W.kitOne K (.ref (He.ga K "Line")) (.type "tuple") = some false),
  eqO (PySem.W.findIn K (.ref (He.ga K "Program")) "__ne__") (some (some (.builtin "object.__ne__"))),
  eqO (PySem.W.findIn K (.ref (He.ga K "Program")) "__class__") (some (some (.builtin "object.__class__"))),
  decide (PySem.W.mroIn K (He.ga K "Program") (.type "object") = some true),
  decide (PySem.W.kitOne K (.ref (He.ga K "Program")) (.ref (He.ga K "Program")) = some true),
  decide (PySem.W.kitOne K (.ref (He.ga K "Program")) (.type "tuple") = some false),
  eqO (PySem.W.findIn K (.ref (He.ga K "Row")) "__ne__") (some (some (.builtin "object.__ne__"))),
  eqO (PySem.W.findIn K (.ref (He.ga K "Row")) "__class__") (some (some (.builtin "object.__class__"))),
  decide (PySem.W.mroIn K (He.ga K "Row") (.type "object") = some true),
  decide (PySem.W.kitOne K (.ref (He.ga K "Row")) (.ref (He.ga K "Row")) = some true),
  decide (PySem.W.kitOne K (.ref (He.ga K "Row")) (.type "tuple") = some false),
  eqO (PySem.W.specialIn K (.builtin "object.__class__") "__get__") (some (some (.builtin "getset_descriptor.__get__"))),
  decide (PySem.W.takesIn K (.builtin "object.__class__") = some true),
  WD.tupA K (He.dflAt (("Line", some "__init__")) 0 K) [],
  WD.tupA K (He.dflAt (("Row", some "__init__")) 0 K) [],
  WD.tupA K (He.dflAt (("Row", some "opened")) 0 K) [V.int 1, V.int 1],
  PySem.W.excIn K (He.ga K "BadStart") [.type "ValueError", .type "Exception", .type "BaseException", .type "object"] "ValueError.__new__",
  PySem.W.keepIn K (.ref (He.ga K "BadStart")),
  decide (PySem.W.subIn K (.ref (He.ga K "BadStart")) (.type "BaseException") = some true),
  decide (PySem.W.typeIn K (.ref (He.ga K "BadStart")) = some (.type "type")),
  decide (PySem.W.exmOne K (.ref (He.ga K "BadStart")) (.ref (He.ga K "BadStart")) = some true),
  PySem.W.selfFirst K (He.ga K "Program"),
  decide (PySem.W.subIn K (.type "int") (.ref (He.ga K "Program")) = some false),
  decide (PySem.W.kitOne K (.type "int") (.ref (He.ga K "Program")) = some false),
  WD.noLst K]
def exB (K : PySem.W.Frag) : Bool := (exL K).all id
structure Txt (K : PySem.W.Frag) (mg : Str → Option Value) : Prop where
  h : ∃ hp : Heap, K.In hp ∧ hp.Ns mainGlobals mg
  s : SupX.SaysS fa fn xs fileS exB K
theorem Txt.c {K : PySem.W.Frag} {mg : Str → Option Value} (T : Txt K mg) : He.SaysD fa fn K := T.s.d
theorem Txt.e {K : PySem.W.Frag} {mg : Str → Option Value} (T : Txt K mg) : exB K = true := T.s.exq
section
variable {K : PySem.W.Frag} {mg : Str → Option Value}
theorem Txt.ex (T : Txt K mg) (i : Nat) {b : Bool} (h : (exL K)[i]? = some b := by rfl) : b = true := List.all_eq_true.mp T.e b (List.mem_of_getElem? h)
theorem Txt.glo (T : Txt K mg) {x : Str} (c : (He.Fa.glo x).ok K = true) : mg x = some (.ref (He.ga K x)) := by
  obtain ⟨hp, kx, gx⟩ := T.h
  exact He.glo_ok kx gx c
theorem Txt.free (T : Txt K mg) {x : Str} (c : (He.Fa.free x).ok K = true) : mg x = none := by
  obtain ⟨hp, kx, gx⟩ := T.h
  exact He.free_ok kx gx c
theorem Txt.int (T : Txt K mg) {x : Str} {i : Int} (c : (He.Fa.int x i).ok K = true) : ∃ t, mg x = some (.int i t) := by
  obtain ⟨hp, kx, gx⟩ := T.h
  exact He.int_ok kx gx c
theorem Txt.blt (T : Txt K mg) {x : Str} {v : Value} (c : He.eqO (PySem.W.nsIn K mainGlobals x) (some (some v)) = true) : mg x = some v := by
  obtain ⟨hp, kx, gx⟩ := T.h
  exact PySem.W.mg_of kx gx (He.eqO_ok c)
theorem Txt.m_is_integer (T : Txt K mg) : mg "is_integer" = some (.ref (He.ga K "is_integer")) := T.glo (T.c.fact 0 (f := .glo "is_integer"))
theorem Txt.m_is_fraction (T : Txt K mg) : mg "is_fraction" = some (.ref (He.ga K "is_fraction")) := T.glo (T.c.fact 1 (f := .glo "is_fraction"))
theorem Txt.m_is_amount (T : Txt K mg) : mg "is_amount" = some (.ref (He.ga K "is_amount")) := T.glo (T.c.fact 2 (f := .glo "is_amount"))
theorem Txt.m_reduced (T : Txt K mg) : mg "reduced" = some (.ref (He.ga K "reduced")) := T.glo (T.c.fact 3 (f := .glo "reduced"))
theorem Txt.m_exact (T : Txt K mg) : mg "exact" = some (.ref (He.ga K "exact")) := T.glo (T.c.fact 4 (f := .glo "exact"))
theorem Txt.m_plus (T : Txt K mg) : mg "plus" = some (.ref (He.ga K "plus")) := T.glo (T.c.fact 5 (f := .glo "plus"))
theorem Txt.m_minus (T : Txt K mg) : mg "minus" = some (.ref (He.ga K "minus")) := T.glo (T.c.fact 6 (f := .glo "minus"))
theorem Txt.m_times (T : Txt K mg) : mg "times" = some (.ref (He.ga K "times")) := T.glo (T.c.fact 7 (f := .glo "times"))
theorem Txt.m_common_bottom (T : Txt K mg) : mg "common_bottom" = some (.ref (He.ga K "common_bottom")) := T.glo (T.c.fact 8 (f := .glo "common_bottom"))
theorem Txt.m_Line (T : Txt K mg) : mg "Line" = some (.ref (He.ga K "Line")) := T.glo (T.c.fact 9 (f := .glo "Line"))
theorem Txt.c_Line (T : Txt K mg) : Cls K (He.ga K "Line") := He.cls_ok (T.c.fact 10 (f := .cls "Line"))
theorem Txt.k_Line (T : Txt K mg) : Mk K (He.ga K "Line") (He.ma K (He.ga K "Line") "__init__") := He.mkr_ok (T.c.fact 11 (f := .mkr "Line"))
theorem Txt.x_Line_top (T : Txt K mg) : Meth K (He.ga K "Line") "top" (He.ma K (He.ga K "Line") "top") := He.meth_ok (T.c.fact 12 (f := .meth "Line" "top"))
theorem Txt.x_Line_even (T : Txt K mg) : Meth K (He.ga K "Line") "even" (He.ma K (He.ga K "Line") "even") := He.meth_ok (T.c.fact 13 (f := .meth "Line" "even"))
theorem Txt.x_Line_inside (T : Txt K mg) : Meth K (He.ga K "Line") "inside" (He.ma K (He.ga K "Line") "inside") := He.meth_ok (T.c.fact 14 (f := .meth "Line" "inside"))
theorem Txt.x_Line_water (T : Txt K mg) : Meth K (He.ga K "Line") "water" (He.ma K (He.ga K "Line") "water") := He.meth_ok (T.c.fact 15 (f := .meth "Line" "water"))
theorem Txt.n_Line_areas (T : Txt K mg) : NoAttr K (He.ga K "Line") "areas" := He.noat_ok (T.c.fact 16 (f := .noat "Line" "areas"))
theorem Txt.n_Line_bottom (T : Txt K mg) : NoAttr K (He.ga K "Line") "bottom" := He.noat_ok (T.c.fact 17 (f := .noat "Line" "bottom"))
theorem Txt.n_Line_bottoms (T : Txt K mg) : NoAttr K (He.ga K "Line") "bottoms" := He.noat_ok (T.c.fact 18 (f := .noat "Line" "bottoms"))
theorem Txt.n_Line_tops (T : Txt K mg) : NoAttr K (He.ga K "Line") "tops" := He.noat_ok (T.c.fact 19 (f := .noat "Line" "tops"))
theorem Txt.m_WeirError (T : Txt K mg) : mg "WeirError" = some (.ref (He.ga K "WeirError")) := T.glo (T.c.fact 20 (f := .glo "WeirError"))
theorem Txt.m_BadRow (T : Txt K mg) : mg "BadRow" = some (.ref (He.ga K "BadRow")) := T.glo (T.c.fact 21 (f := .glo "BadRow"))
theorem Txt.m_BadWeir (T : Txt K mg) : mg "BadWeir" = some (.ref (He.ga K "BadWeir")) := T.glo (T.c.fact 22 (f := .glo "BadWeir"))
theorem Txt.m_BadOrder (T : Txt K mg) : mg "BadOrder" = some (.ref (He.ga K "BadOrder")) := T.glo (T.c.fact 23 (f := .glo "BadOrder"))
theorem Txt.m_BadProgram (T : Txt K mg) : mg "BadProgram" = some (.ref (He.ga K "BadProgram")) := T.glo (T.c.fact 24 (f := .glo "BadProgram"))
theorem Txt.m_BadStart (T : Txt K mg) : mg "BadStart" = some (.ref (He.ga K "BadStart")) := T.glo (T.c.fact 25 (f := .glo "BadStart"))
theorem Txt.i_MOST_ROUNDS (T : Txt K mg) : ∃ t, mg "MOST_ROUNDS" = some (.int 12 t) := T.int (T.c.fact 26 (f := .int "MOST_ROUNDS" 12))
theorem Txt.i_MOST_MANY (T : Txt K mg) : ∃ t, mg "MOST_MANY" = some (.int 400 t) := T.int (T.c.fact 27 (f := .int "MOST_MANY" 400))
theorem Txt.m_Program (T : Txt K mg) : mg "Program" = some (.ref (He.ga K "Program")) := T.glo (T.c.fact 28 (f := .glo "Program"))
theorem Txt.c_Program (T : Txt K mg) : Cls K (He.ga K "Program") := He.cls_ok (T.c.fact 29 (f := .cls "Program"))
theorem Txt.k_Program (T : Txt K mg) : Mk K (He.ga K "Program") (He.ma K (He.ga K "Program") "__init__") := He.mkr_ok (T.c.fact 30 (f := .mkr "Program"))
theorem Txt.x_Program___len__ (T : Txt K mg) : Meth K (He.ga K "Program") "__len__" (He.ma K (He.ga K "Program") "__len__") := He.meth_ok (T.c.fact 31 (f := .meth "Program" "__len__"))
theorem Txt.x_Program___eq__ (T : Txt K mg) : Meth K (He.ga K "Program") "__eq__" (He.ma K (He.ga K "Program") "__eq__") := He.meth_ok (T.c.fact 32 (f := .meth "Program" "__eq__"))
theorem Txt.x_Program___add__ (T : Txt K mg) : Meth K (He.ga K "Program") "__add__" (He.ma K (He.ga K "Program") "__add__") := He.meth_ok (T.c.fact 33 (f := .meth "Program" "__add__"))
theorem Txt.x_Program_order (T : Txt K mg) : Meth K (He.ga K "Program") "order" (He.ma K (He.ga K "Program") "order") := He.meth_ok (T.c.fact 34 (f := .meth "Program" "order"))
theorem Txt.x_Program_done (T : Txt K mg) : Meth K (He.ga K "Program") "done" (He.ma K (He.ga K "Program") "done") := He.meth_ok (T.c.fact 35 (f := .meth "Program" "done"))
theorem Txt.n_Program_rounds (T : Txt K mg) : NoAttr K (He.ga K "Program") "rounds" := He.noat_ok (T.c.fact 36 (f := .noat "Program" "rounds"))
theorem Txt.m_is_round (T : Txt K mg) : mg "is_round" = some (.ref (He.ga K "is_round")) := T.glo (T.c.fact 37 (f := .glo "is_round"))
theorem Txt.m_check_rounds (T : Txt K mg) : mg "check_rounds" = some (.ref (He.ga K "check_rounds")) := T.glo (T.c.fact 38 (f := .glo "check_rounds"))
theorem Txt.m_check_many (T : Txt K mg) : mg "check_many" = some (.ref (He.ga K "check_many")) := T.glo (T.c.fact 39 (f := .glo "check_many"))
theorem Txt.m_check_told (T : Txt K mg) : mg "check_told" = some (.ref (He.ga K "check_told")) := T.glo (T.c.fact 40 (f := .glo "check_told"))
theorem Txt.m_openings (T : Txt K mg) : mg "openings" = some (.ref (He.ga K "openings")) := T.glo (T.c.fact 41 (f := .glo "openings"))
theorem Txt.m_halvings (T : Txt K mg) : mg "halvings" = some (.ref (He.ga K "halvings")) := T.glo (T.c.fact 42 (f := .glo "halvings"))
theorem Txt.m_evened (T : Txt K mg) : mg "evened" = some (.ref (He.ga K "evened")) := T.glo (T.c.fact 43 (f := .glo "evened"))
theorem Txt.i_MOST_BASINS (T : Txt K mg) : ∃ t, mg "MOST_BASINS" = some (.int 24 t) := T.int (T.c.fact 44 (f := .int "MOST_BASINS" 24))
theorem Txt.i_MOST_AREA (T : Txt K mg) : ∃ t, mg "MOST_AREA" = some (.int 1000 t) := T.int (T.c.fact 45 (f := .int "MOST_AREA" 1000))
theorem Txt.i_MOST_OPENINGS (T : Txt K mg) : ∃ t, mg "MOST_OPENINGS" = some (.int 20000 t) := T.int (T.c.fact 46 (f := .int "MOST_OPENINGS" 20000))
theorem Txt.m_Row (T : Txt K mg) : mg "Row" = some (.ref (He.ga K "Row")) := T.glo (T.c.fact 47 (f := .glo "Row"))
theorem Txt.c_Row (T : Txt K mg) : Cls K (He.ga K "Row") := He.cls_ok (T.c.fact 48 (f := .cls "Row"))
theorem Txt.k_Row (T : Txt K mg) : Mk K (He.ga K "Row") (He.ma K (He.ga K "Row") "__init__") := He.mkr_ok (T.c.fact 49 (f := .mkr "Row"))
theorem Txt.x_Row___len__ (T : Txt K mg) : Meth K (He.ga K "Row") "__len__" (He.ma K (He.ga K "Row") "__len__") := He.meth_ok (T.c.fact 50 (f := .meth "Row" "__len__"))
theorem Txt.x_Row___getitem__ (T : Txt K mg) : Meth K (He.ga K "Row") "__getitem__" (He.ma K (He.ga K "Row") "__getitem__") := He.meth_ok (T.c.fact 51 (f := .meth "Row" "__getitem__"))
theorem Txt.x_Row___iter__ (T : Txt K mg) : Meth K (He.ga K "Row") "__iter__" (He.ma K (He.ga K "Row") "__iter__") := He.meth_ok (T.c.fact 52 (f := .meth "Row" "__iter__"))
theorem Txt.x_Row___contains__ (T : Txt K mg) : Meth K (He.ga K "Row") "__contains__" (He.ma K (He.ga K "Row") "__contains__") := He.meth_ok (T.c.fact 53 (f := .meth "Row" "__contains__"))
theorem Txt.x_Row___eq__ (T : Txt K mg) : Meth K (He.ga K "Row") "__eq__" (He.ma K (He.ga K "Row") "__eq__") := He.meth_ok (T.c.fact 54 (f := .meth "Row" "__eq__"))
theorem Txt.x_Row_weirs (T : Txt K mg) : Meth K (He.ga K "Row") "weirs" (He.ma K (He.ga K "Row") "weirs") := He.meth_ok (T.c.fact 55 (f := .meth "Row" "weirs"))
theorem Txt.x_Row_sums (T : Txt K mg) : Meth K (He.ga K "Row") "sums" (He.ma K (He.ga K "Row") "sums") := He.meth_ok (T.c.fact 56 (f := .meth "Row" "sums"))
theorem Txt.x_Row_opened (T : Txt K mg) : Meth K (He.ga K "Row") "opened" (He.ma K (He.ga K "Row") "opened") := He.meth_ok (T.c.fact 57 (f := .meth "Row" "opened"))
theorem Txt.n_Row_areas (T : Txt K mg) : NoAttr K (He.ga K "Row") "areas" := He.noat_ok (T.c.fact 58 (f := .noat "Row" "areas"))
theorem Txt.n_Row_locks (T : Txt K mg) : NoAttr K (He.ga K "Row") "locks" := He.noat_ok (T.c.fact 59 (f := .noat "Row" "locks"))
theorem Txt.n_Row_volumes (T : Txt K mg) : NoAttr K (He.ga K "Row") "volumes" := He.noat_ok (T.c.fact 60 (f := .noat "Row" "volumes"))
theorem Txt.m_with_volumes (T : Txt K mg) : mg "with_volumes" = some (.ref (He.ga K "with_volumes")) := T.glo (T.c.fact 61 (f := .glo "with_volumes"))
theorem Txt.m_check_areas (T : Txt K mg) : mg "check_areas" = some (.ref (He.ga K "check_areas")) := T.glo (T.c.fact 62 (f := .glo "check_areas"))
theorem Txt.m_check_volumes (T : Txt K mg) : mg "check_volumes" = some (.ref (He.ga K "check_volumes")) := T.glo (T.c.fact 63 (f := .glo "check_volumes"))
theorem Txt.m_check_locks (T : Txt K mg) : mg "check_locks" = some (.ref (He.ga K "check_locks")) := T.glo (T.c.fact 64 (f := .glo "check_locks"))
theorem Txt.m_check_row (T : Txt K mg) : mg "check_row" = some (.ref (He.ga K "check_row")) := T.glo (T.c.fact 65 (f := .glo "check_row"))
theorem Txt.m_check_order (T : Txt K mg) : mg "check_order" = some (.ref (He.ga K "check_order")) := T.glo (T.c.fact 66 (f := .glo "check_order"))
theorem Txt.m_line_of (T : Txt K mg) : mg "line_of" = some (.ref (He.ga K "line_of")) := T.glo (T.c.fact 67 (f := .glo "line_of"))
theorem Txt.m_behind (T : Txt K mg) : mg "behind" = some (.ref (He.ga K "behind")) := T.glo (T.c.fact 68 (f := .glo "behind"))
theorem Txt.m__law_draw (T : Txt K mg) : mg "_law_draw" = some (.ref (He.ga K "_law_draw")) := T.glo (T.c.fact 69 (f := .glo "_law_draw"))
theorem Txt.m__law_rounds (T : Txt K mg) : mg "_law_rounds" = some (.ref (He.ga K "_law_rounds")) := T.glo (T.c.fact 70 (f := .glo "_law_rounds"))
theorem Txt.m__law_weirs (T : Txt K mg) : mg "_law_weirs" = some (.ref (He.ga K "_law_weirs")) := T.glo (T.c.fact 71 (f := .glo "_law_weirs"))
theorem Txt.m__law_order (T : Txt K mg) : mg "_law_order" = some (.ref (He.ga K "_law_order")) := T.glo (T.c.fact 72 (f := .glo "_law_order"))
theorem Txt.m__law_play (T : Txt K mg) : mg "_law_play" = some (.ref (He.ga K "_law_play")) := T.glo (T.c.fact 73 (f := .glo "_law_play"))
theorem Txt.m__law_scale (T : Txt K mg) : mg "_law_scale" = some (.ref (He.ga K "_law_scale")) := T.glo (T.c.fact 74 (f := .glo "_law_scale"))
theorem Txt.m__law_part (T : Txt K mg) : mg "_law_part" = some (.ref (He.ga K "_law_part")) := T.glo (T.c.fact 75 (f := .glo "_law_part"))
theorem Txt.m__law_done (T : Txt K mg) : mg "_law_done" = some (.ref (He.ga K "_law_done")) := T.glo (T.c.fact 76 (f := .glo "_law_done"))
theorem Txt.m__law_refused (T : Txt K mg) : mg "_law_refused" = some (.ref (He.ga K "_law_refused")) := T.glo (T.c.fact 77 (f := .glo "_law_refused"))
theorem Txt.m_law (T : Txt K mg) : mg "law" = some (.ref (He.ga K "law")) := T.glo (T.c.fact 78 (f := .glo "law"))
theorem Txt.z_ValueError (T : Txt K mg) : mg "ValueError" = none := T.free (T.c.fact 79 (f := .free "ValueError"))
theorem Txt.z_abs (T : Txt K mg) : mg "abs" = none := T.free (T.c.fact 80 (f := .free "abs"))
theorem Txt.z_bool (T : Txt K mg) : mg "bool" = none := T.free (T.c.fact 81 (f := .free "bool"))
theorem Txt.z_enumerate (T : Txt K mg) : mg "enumerate" = none := T.free (T.c.fact 82 (f := .free "enumerate"))
theorem Txt.z_int (T : Txt K mg) : mg "int" = none := T.free (T.c.fact 83 (f := .free "int"))
theorem Txt.z_isinstance (T : Txt K mg) : mg "isinstance" = none := T.free (T.c.fact 84 (f := .free "isinstance"))
theorem Txt.z_len (T : Txt K mg) : mg "len" = none := T.free (T.c.fact 85 (f := .free "len"))
theorem Txt.z_list (T : Txt K mg) : mg "list" = none := T.free (T.c.fact 86 (f := .free "list"))
theorem Txt.z_range (T : Txt K mg) : mg "range" = none := T.free (T.c.fact 87 (f := .free "range"))
theorem Txt.z_reversed (T : Txt K mg) : mg "reversed" = none := T.free (T.c.fact 88 (f := .free "reversed"))
theorem Txt.z_set (T : Txt K mg) : mg "set" = none := T.free (T.c.fact 89 (f := .free "set"))
theorem Txt.z_sorted (T : Txt K mg) : mg "sorted" = none := T.free (T.c.fact 90 (f := .free "sorted"))
theorem Txt.z_sum (T : Txt K mg) : mg "sum" = none := T.free (T.c.fact 91 (f := .free "sum"))
theorem Txt.z_super (T : Txt K mg) : mg "super" = none := T.free (T.c.fact 92 (f := .free "super"))
theorem Txt.z_tuple (T : Txt K mg) : mg "tuple" = none := T.free (T.c.fact 93 (f := .free "tuple"))
theorem Txt.b_gcd (T : Txt K mg) : mg "gcd" = some (.builtin "math.gcd") := T.blt (T.ex 0)
theorem Txt.b_lcm (T : Txt K mg) : mg "lcm" = some (.builtin "math.lcm") := T.blt (T.ex 1)
theorem Txt.ne_Line (T : Txt K mg) : PySem.W.findIn K (.ref (He.ga K "Line")) "__ne__" = some (some (.builtin "object.__ne__")) := He.eqO_ok (T.ex 2)
theorem Txt.cl_Line (T : Txt K mg) : PySem.W.findIn K (.ref (He.ga K "Line")) "__class__" = some (some (.builtin "object.__class__")) := He.eqO_ok (T.ex 3)
theorem Txt.ob_Line (T : Txt K mg) : PySem.W.mroIn K (He.ga K "Line") (.type "object") = some true := of_decide_eq_true (T.ex 4)
theorem Txt.ki_Line (T : Txt K mg) : PySem.W.kitOne K (.ref (He.ga K "Line")) (.ref (He.ga K "Line")) = some true := of_decide_eq_true (T.ex 5)
theorem Txt.kt_Line (T : Txt K mg) : PySem.W.kitOne K (.ref (He.ga K "Line")) (.type "tuple") = some false := of_decide_eq_true (T.ex 6)
theorem Txt.ne_Program (T : Txt K mg) : PySem.W.findIn K (.ref (He.ga K "Program")) "__ne__" = some (some (.builtin "object.__ne__")) := He.eqO_ok (T.ex 7)
theorem Txt.cl_Program (T : Txt K mg) : PySem.W.findIn K (.ref (He.ga K "Program")) "__class__" = some (some (.builtin "object.__class__")) := He.eqO_ok (T.ex 8)
theorem Txt.ob_Program (T : Txt K mg) : PySem.W.mroIn K (He.ga K "Program") (.type "object") = some true := of_decide_eq_true (T.ex 9)
theorem Txt.ki_Program (T : Txt K mg) : PySem.W.kitOne K (.ref (He.ga K "Program")) (.ref (He.ga K "Program")) = some true := of_decide_eq_true (T.ex 10)
theorem Txt.kt_Program (T : Txt K mg) : PySem.W.kitOne K (.ref (He.ga K "Program")) (.type "tuple") = some false := of_decide_eq_true (T.ex 11)
theorem Txt.ne_Row (T : Txt K mg) : PySem.W.findIn K (.ref (He.ga K "Row")) "__ne__" = some (some (.builtin "object.__ne__")) := He.eqO_ok (T.ex 12)
theorem Txt.cl_Row (T : Txt K mg) : PySem.W.findIn K (.ref (He.ga K "Row")) "__class__" = some (some (.builtin "object.__class__")) := He.eqO_ok (T.ex 13)
theorem Txt.ob_Row (T : Txt K mg) : PySem.W.mroIn K (He.ga K "Row") (.type "object") = some true := of_decide_eq_true (T.ex 14)
theorem Txt.ki_Row (T : Txt K mg) : PySem.W.kitOne K (.ref (He.ga K "Row")) (.ref (He.ga K "Row")) = some true := of_decide_eq_true (T.ex 15)
theorem Txt.kt_Row (T : Txt K mg) : PySem.W.kitOne K (.ref (He.ga K "Row")) (.type "tuple") = some false := of_decide_eq_true (T.ex 16)
theorem Txt.sp (T : Txt K mg) : PySem.W.specialIn K (.builtin "object.__class__") "__get__" = some (some (.builtin "getset_descriptor.__get__")) := He.eqO_ok (T.ex 17)
theorem Txt.tk (T : Txt K mg) : PySem.W.takesIn K (.builtin "object.__class__") = some true := of_decide_eq_true (T.ex 18)
theorem Txt.t_Line___init___0 (T : Txt K mg) : WD.tupA K (He.dflAt (("Line", some "__init__")) 0 K) [] = true := T.ex 19
theorem Txt.t_Row___init___0 (T : Txt K mg) : WD.tupA K (He.dflAt (("Row", some "__init__")) 0 K) [] = true := T.ex 20
theorem Txt.t_Row_opened_0 (T : Txt K mg) : WD.tupA K (He.dflAt (("Row", some "opened")) 0 K) [V.int 1, V.int 1] = true := T.ex 21
theorem Txt.noL (T : Txt K mg) : WD.noLst K = true := T.ex 30
theorem Txt.q_BadStart (T : Txt K mg) : PySem.W.excIn K (He.ga K "BadStart") [.type "ValueError", .type "Exception", .type "BaseException", .type "object"] "ValueError.__new__" = true := T.ex 22
theorem Txt.p_BadStart (T : Txt K mg) : PySem.W.keepIn K (.ref (He.ga K "BadStart")) = true := T.ex 23
theorem Txt.u_BadStart (T : Txt K mg) : PySem.W.subIn K (.ref (He.ga K "BadStart")) (.type "BaseException") = some true := of_decide_eq_true (T.ex 24)
theorem Txt.v_BadStart (T : Txt K mg) : PySem.W.typeIn K (.ref (He.ga K "BadStart")) = some (.type "type") := of_decide_eq_true (T.ex 25)
theorem Txt.w_BadStart (T : Txt K mg) : PySem.W.exmOne K (.ref (He.ga K "BadStart")) (.ref (He.ga K "BadStart")) = some true := of_decide_eq_true (T.ex 26)
theorem Txt.sn_Program (T : Txt K mg) : PySem.W.subIn K (.type "int") (.ref (He.ga K "Program")) = some false := of_decide_eq_true (T.ex 28)
theorem Txt.kn_Program (T : Txt K mg) : PySem.W.kitOne K (.type "int") (.ref (He.ga K "Program")) = some false := of_decide_eq_true (T.ex 29)
theorem Txt.sf_Program (T : Txt K mg) : PySem.W.selfFirst K (He.ga K "Program") = true := T.ex 27
theorem Txt.f_is_integer (T : Txt K mg) : ∃ fd, FunD K "is_integer" "is_integer" (defArgs s_is_integer) (defBody s_is_integer) (defScope s_is_integer) [] [] (He.fAd K (("is_integer", none))) fd := T.c.def_ 0 (d := d_is_integer)
theorem Txt.f_is_fraction (T : Txt K mg) : ∃ fd, FunD K "is_fraction" "is_fraction" (defArgs s_is_fraction) (defBody s_is_fraction) (defScope s_is_fraction) [] [] (He.fAd K (("is_fraction", none))) fd := T.c.def_ 1 (d := d_is_fraction)
theorem Txt.f_is_amount (T : Txt K mg) : ∃ fd, FunD K "is_amount" "is_amount" (defArgs s_is_amount) (defBody s_is_amount) (defScope s_is_amount) [] [] (He.fAd K (("is_amount", none))) fd := T.c.def_ 2 (d := d_is_amount)
theorem Txt.f_reduced (T : Txt K mg) : ∃ fd, FunD K "reduced" "reduced" (defArgs s_reduced) (defBody s_reduced) (defScope s_reduced) [] [] (He.fAd K (("reduced", none))) fd := T.c.def_ 3 (d := d_reduced)
theorem Txt.f_exact (T : Txt K mg) : ∃ fd, FunD K "exact" "exact" (defArgs s_exact) (defBody s_exact) (defScope s_exact) [] [] (He.fAd K (("exact", none))) fd := T.c.def_ 4 (d := d_exact)
theorem Txt.f_plus (T : Txt K mg) : ∃ fd, FunD K "plus" "plus" (defArgs s_plus) (defBody s_plus) (defScope s_plus) [] [] (He.fAd K (("plus", none))) fd := T.c.def_ 5 (d := d_plus)
theorem Txt.f_minus (T : Txt K mg) : ∃ fd, FunD K "minus" "minus" (defArgs s_minus) (defBody s_minus) (defScope s_minus) [] [] (He.fAd K (("minus", none))) fd := T.c.def_ 6 (d := d_minus)
theorem Txt.f_times (T : Txt K mg) : ∃ fd, FunD K "times" "times" (defArgs s_times) (defBody s_times) (defScope s_times) [] [] (He.fAd K (("times", none))) fd := T.c.def_ 7 (d := d_times)
theorem Txt.f_common_bottom (T : Txt K mg) : ∃ fd, FunD K "common_bottom" "common_bottom" (defArgs s_common_bottom) (defBody s_common_bottom) (defScope s_common_bottom) [] [] (He.fAd K (("common_bottom", none))) fd := T.c.def_ 8 (d := d_common_bottom)
theorem Txt.f_Line___init__ (T : Txt K mg) : ∃ fd, FunD K "__init__" "Line.__init__" (defArgs s_Line___init__) (defBody s_Line___init__) (defScope s_Line___init__) (d_Line___init__.dvs K) (d_Line___init__.kws K) (He.fAd K (("Line", some "__init__"))) fd := T.c.def_ 9 (d := d_Line___init__)
theorem Txt.f_Line_top (T : Txt K mg) : ∃ fd, FunD K "top" "Line.top" (defArgs s_Line_top) (defBody s_Line_top) (defScope s_Line_top) [] [] (He.fAd K (("Line", some "top"))) fd := T.c.def_ 10 (d := d_Line_top)
theorem Txt.f_Line_even (T : Txt K mg) : ∃ fd, FunD K "even" "Line.even" (defArgs s_Line_even) (defBody s_Line_even) (defScope s_Line_even) [] [] (He.fAd K (("Line", some "even"))) fd := T.c.def_ 11 (d := d_Line_even)
theorem Txt.f_Line_inside (T : Txt K mg) : ∃ fd, FunD K "inside" "Line.inside" (defArgs s_Line_inside) (defBody s_Line_inside) (defScope s_Line_inside) [] [] (He.fAd K (("Line", some "inside"))) fd := T.c.def_ 12 (d := d_Line_inside)
theorem Txt.f_Line_water (T : Txt K mg) : ∃ fd, FunD K "water" "Line.water" (defArgs s_Line_water) (defBody s_Line_water) (defScope s_Line_water) [] [] (He.fAd K (("Line", some "water"))) fd := T.c.def_ 13 (d := d_Line_water)
theorem Txt.f_Program___init__ (T : Txt K mg) : ∃ fd, FunD K "__init__" "Program.__init__" (defArgs s_Program___init__) (defBody s_Program___init__) (defScope s_Program___init__) [] [] (He.fAd K (("Program", some "__init__"))) fd := T.c.def_ 14 (d := d_Program___init__)
theorem Txt.f_Program___len__ (T : Txt K mg) : ∃ fd, FunD K "__len__" "Program.__len__" (defArgs s_Program___len__) (defBody s_Program___len__) (defScope s_Program___len__) [] [] (He.fAd K (("Program", some "__len__"))) fd := T.c.def_ 15 (d := d_Program___len__)
theorem Txt.f_Program___eq__ (T : Txt K mg) : ∃ fd, FunD K "__eq__" "Program.__eq__" (defArgs s_Program___eq__) (defBody s_Program___eq__) (defScope s_Program___eq__) [] [] (He.fAd K (("Program", some "__eq__"))) fd := T.c.def_ 16 (d := d_Program___eq__)
theorem Txt.f_Program___add__ (T : Txt K mg) : ∃ fd, FunD K "__add__" "Program.__add__" (defArgs s_Program___add__) (defBody s_Program___add__) (defScope s_Program___add__) [] [] (He.fAd K (("Program", some "__add__"))) fd := T.c.def_ 17 (d := d_Program___add__)
theorem Txt.f_Program_order (T : Txt K mg) : ∃ fd, FunD K "order" "Program.order" (defArgs s_Program_order) (defBody s_Program_order) (defScope s_Program_order) [] [] (He.fAd K (("Program", some "order"))) fd := T.c.def_ 18 (d := d_Program_order)
theorem Txt.f_Program_done (T : Txt K mg) : ∃ fd, FunD K "done" "Program.done" (defArgs s_Program_done) (defBody s_Program_done) (defScope s_Program_done) [] [] (He.fAd K (("Program", some "done"))) fd := T.c.def_ 19 (d := d_Program_done)
theorem Txt.f_is_round (T : Txt K mg) : ∃ fd, FunD K "is_round" "is_round" (defArgs s_is_round) (defBody s_is_round) (defScope s_is_round) [] [] (He.fAd K (("is_round", none))) fd := T.c.def_ 20 (d := d_is_round)
theorem Txt.f_check_rounds (T : Txt K mg) : ∃ fd, FunD K "check_rounds" "check_rounds" (defArgs s_check_rounds) (defBody s_check_rounds) (defScope s_check_rounds) [] [] (He.fAd K (("check_rounds", none))) fd := T.c.def_ 21 (d := d_check_rounds)
theorem Txt.f_check_many (T : Txt K mg) : ∃ fd, FunD K "check_many" "check_many" (defArgs s_check_many) (defBody s_check_many) (defScope s_check_many) [] [] (He.fAd K (("check_many", none))) fd := T.c.def_ 22 (d := d_check_many)
theorem Txt.f_check_told (T : Txt K mg) : ∃ fd, FunD K "check_told" "check_told" (defArgs s_check_told) (defBody s_check_told) (defScope s_check_told) [] [] (He.fAd K (("check_told", none))) fd := T.c.def_ 23 (d := d_check_told)
theorem Txt.f_openings (T : Txt K mg) : ∃ fd, FunD K "openings" "openings" (defArgs s_openings) (defBody s_openings) (defScope s_openings) [] [] (He.fAd K (("openings", none))) fd := T.c.def_ 24 (d := d_openings)
theorem Txt.f_halvings (T : Txt K mg) : ∃ fd, FunD K "halvings" "halvings" (defArgs s_halvings) (defBody s_halvings) (defScope s_halvings) [] [] (He.fAd K (("halvings", none))) fd := T.c.def_ 25 (d := d_halvings)
theorem Txt.f_evened (T : Txt K mg) : ∃ fd, FunD K "evened" "evened" (defArgs s_evened) (defBody s_evened) (defScope s_evened) [] [] (He.fAd K (("evened", none))) fd := T.c.def_ 26 (d := d_evened)
theorem Txt.f_Row___init__ (T : Txt K mg) : ∃ fd, FunD K "__init__" "Row.__init__" (defArgs s_Row___init__) (defBody s_Row___init__) (defScope s_Row___init__) (d_Row___init__.dvs K) (d_Row___init__.kws K) (He.fAd K (("Row", some "__init__"))) fd := T.c.def_ 27 (d := d_Row___init__)
theorem Txt.f_Row___len__ (T : Txt K mg) : ∃ fd, FunD K "__len__" "Row.__len__" (defArgs s_Row___len__) (defBody s_Row___len__) (defScope s_Row___len__) [] [] (He.fAd K (("Row", some "__len__"))) fd := T.c.def_ 28 (d := d_Row___len__)
theorem Txt.f_Row___getitem__ (T : Txt K mg) : ∃ fd, FunD K "__getitem__" "Row.__getitem__" (defArgs s_Row___getitem__) (defBody s_Row___getitem__) (defScope s_Row___getitem__) [] [] (He.fAd K (("Row", some "__getitem__"))) fd := T.c.def_ 29 (d := d_Row___getitem__)
theorem Txt.f_Row___iter__ (T : Txt K mg) : ∃ fd, FunD K "__iter__" "Row.__iter__" (defArgs s_Row___iter__) (defBody s_Row___iter__) (defScope s_Row___iter__) [] [] (He.fAd K (("Row", some "__iter__"))) fd := T.c.def_ 30 (d := d_Row___iter__)
theorem Txt.f_Row___contains__ (T : Txt K mg) : ∃ fd, FunD K "__contains__" "Row.__contains__" (defArgs s_Row___contains__) (defBody s_Row___contains__) (defScope s_Row___contains__) [] [] (He.fAd K (("Row", some "__contains__"))) fd := T.c.def_ 31 (d := d_Row___contains__)
theorem Txt.f_Row___eq__ (T : Txt K mg) : ∃ fd, FunD K "__eq__" "Row.__eq__" (defArgs s_Row___eq__) (defBody s_Row___eq__) (defScope s_Row___eq__) [] [] (He.fAd K (("Row", some "__eq__"))) fd := T.c.def_ 32 (d := d_Row___eq__)
theorem Txt.f_Row_weirs (T : Txt K mg) : ∃ fd, FunD K "weirs" "Row.weirs" (defArgs s_Row_weirs) (defBody s_Row_weirs) (defScope s_Row_weirs) [] [] (He.fAd K (("Row", some "weirs"))) fd := T.c.def_ 33 (d := d_Row_weirs)
theorem Txt.f_Row_sums (T : Txt K mg) : ∃ fd, FunD K "sums" "Row.sums" (defArgs s_Row_sums) (defBody s_Row_sums) (defScope s_Row_sums) [] [] (He.fAd K (("Row", some "sums"))) fd := T.c.def_ 34 (d := d_Row_sums)
theorem Txt.f_Row_opened (T : Txt K mg) : ∃ fd, FunD K "opened" "Row.opened" (defArgs s_Row_opened) (defBody s_Row_opened) (defScope s_Row_opened) (d_Row_opened.dvs K) (d_Row_opened.kws K) (He.fAd K (("Row", some "opened"))) fd := T.c.def_ 35 (d := d_Row_opened)
theorem Txt.f_with_volumes (T : Txt K mg) : ∃ fd, FunD K "with_volumes" "with_volumes" (defArgs s_with_volumes) (defBody s_with_volumes) (defScope s_with_volumes) [] [] (He.fAd K (("with_volumes", none))) fd := T.c.def_ 36 (d := d_with_volumes)
theorem Txt.f_check_areas (T : Txt K mg) : ∃ fd, FunD K "check_areas" "check_areas" (defArgs s_check_areas) (defBody s_check_areas) (defScope s_check_areas) [] [] (He.fAd K (("check_areas", none))) fd := T.c.def_ 37 (d := d_check_areas)
theorem Txt.f_check_volumes (T : Txt K mg) : ∃ fd, FunD K "check_volumes" "check_volumes" (defArgs s_check_volumes) (defBody s_check_volumes) (defScope s_check_volumes) [] [] (He.fAd K (("check_volumes", none))) fd := T.c.def_ 38 (d := d_check_volumes)
theorem Txt.f_check_locks (T : Txt K mg) : ∃ fd, FunD K "check_locks" "check_locks" (defArgs s_check_locks) (defBody s_check_locks) (defScope s_check_locks) [] [] (He.fAd K (("check_locks", none))) fd := T.c.def_ 39 (d := d_check_locks)
theorem Txt.f_check_row (T : Txt K mg) : ∃ fd, FunD K "check_row" "check_row" (defArgs s_check_row) (defBody s_check_row) (defScope s_check_row) [] [] (He.fAd K (("check_row", none))) fd := T.c.def_ 40 (d := d_check_row)
theorem Txt.f_check_order (T : Txt K mg) : ∃ fd, FunD K "check_order" "check_order" (defArgs s_check_order) (defBody s_check_order) (defScope s_check_order) [] [] (He.fAd K (("check_order", none))) fd := T.c.def_ 41 (d := d_check_order)
theorem Txt.f_line_of (T : Txt K mg) : ∃ fd, FunD K "line_of" "line_of" (defArgs s_line_of) (defBody s_line_of) (defScope s_line_of) [] [] (He.fAd K (("line_of", none))) fd := T.c.def_ 42 (d := d_line_of)
theorem Txt.f_behind (T : Txt K mg) : ∃ fd, FunD K "behind" "behind" (defArgs s_behind) (defBody s_behind) (defScope s_behind) [] [] (He.fAd K (("behind", none))) fd := T.c.def_ 43 (d := d_behind)
theorem Txt.f__law_draw (T : Txt K mg) : ∃ fd, FunD K "_law_draw" "_law_draw" (defArgs s__law_draw) (defBody s__law_draw) (defScope s__law_draw) [] [] (He.fAd K (("_law_draw", none))) fd := T.c.def_ 44 (d := d__law_draw)
theorem Txt.f__law_rounds (T : Txt K mg) : ∃ fd, FunD K "_law_rounds" "_law_rounds" (defArgs s__law_rounds) (defBody s__law_rounds) (defScope s__law_rounds) [] [] (He.fAd K (("_law_rounds", none))) fd := T.c.def_ 45 (d := d__law_rounds)
theorem Txt.f__law_weirs (T : Txt K mg) : ∃ fd, FunD K "_law_weirs" "_law_weirs" (defArgs s__law_weirs) (defBody s__law_weirs) (defScope s__law_weirs) [] [] (He.fAd K (("_law_weirs", none))) fd := T.c.def_ 46 (d := d__law_weirs)
theorem Txt.f__law_order (T : Txt K mg) : ∃ fd, FunD K "_law_order" "_law_order" (defArgs s__law_order) (defBody s__law_order) (defScope s__law_order) [] [] (He.fAd K (("_law_order", none))) fd := T.c.def_ 47 (d := d__law_order)
theorem Txt.f__law_play (T : Txt K mg) : ∃ fd, FunD K "_law_play" "_law_play" (defArgs s__law_play) (defBody s__law_play) (defScope s__law_play) [] [] (He.fAd K (("_law_play", none))) fd := T.c.def_ 48 (d := d__law_play)
theorem Txt.f__law_scale (T : Txt K mg) : ∃ fd, FunD K "_law_scale" "_law_scale" (defArgs s__law_scale) (defBody s__law_scale) (defScope s__law_scale) [] [] (He.fAd K (("_law_scale", none))) fd := T.c.def_ 49 (d := d__law_scale)
theorem Txt.f__law_part (T : Txt K mg) : ∃ fd, FunD K "_law_part" "_law_part" (defArgs s__law_part) (defBody s__law_part) (defScope s__law_part) [] [] (He.fAd K (("_law_part", none))) fd := T.c.def_ 50 (d := d__law_part)
theorem Txt.f__law_done (T : Txt K mg) : ∃ fd, FunD K "_law_done" "_law_done" (defArgs s__law_done) (defBody s__law_done) (defScope s__law_done) [] [] (He.fAd K (("_law_done", none))) fd := T.c.def_ 51 (d := d__law_done)
theorem Txt.f__law_refused (T : Txt K mg) : ∃ fd, FunD K "_law_refused" "_law_refused" (defArgs s__law_refused) (defBody s__law_refused) (defScope s__law_refused) [] [] (He.fAd K (("_law_refused", none))) fd := T.c.def_ 52 (d := d__law_refused)
theorem Txt.f_law (T : Txt K mg) : ∃ fd, FunD K "law" "law" (defArgs s_law) (defBody s_law) (defScope s_law) [] [] (He.fAd K (("law", none))) fd := T.c.def_ 53 (d := d_law)
theorem to_BadWeir : SupX.TextOk x_BadWeir := ⟨"number", "self", _, _, _, _, _, _, _, _, _, _, _, _, rfl, fun _ _ _ _ _ _ _ _ _ => rfl, rfl, rfl, by decide, by decide, by decide, by decide +kernel, rfl, rfl, rfl, rfl, rfl, rfl, rfl, fun _ _ _ _ => ⟨⟨_, rfl⟩, rfl, rfl, rfl, rfl, rfl⟩⟩
theorem Txt.s_BadWeir {P : Program} (T : Txt K mg) (hp : P.main.file = fileS) (ht : (P.main.scope.names.lookup ("super" : Str)).isSome = false) : SupX.Sup P K mg (He.ga K "BadWeir") (He.ma K (He.ga K "BadWeir") "__init__") "BadWeir" "number" "no weir that can be opened here" := by
  obtain ⟨h, X, G⟩ := T.h
  exact SupX.sup_of X G to_BadWeir (T.s.xfn 0) (T.s.xok 0) hp ht
theorem to_BadOrder : SupX.TextOk x_BadOrder := ⟨"place", "self", _, _, _, _, _, _, _, _, _, _, _, _, rfl, fun _ _ _ _ _ _ _ _ _ => rfl, rfl, rfl, by decide, by decide, by decide, by decide +kernel, rfl, rfl, rfl, rfl, rfl, rfl, rfl, fun _ _ _ _ => ⟨⟨_, rfl⟩, rfl, rfl, rfl, rfl, rfl⟩⟩
theorem Txt.s_BadOrder {P : Program} (T : Txt K mg) (hp : P.main.file = fileS) (ht : (P.main.scope.names.lookup ("super" : Str)).isSome = false) : SupX.Sup P K mg (He.ga K "BadOrder") (He.ma K (He.ga K "BadOrder") "__init__") "BadOrder" "place" "no order of weirs that can be opened here" := by
  obtain ⟨h, X, G⟩ := T.h
  exact SupX.sup_of X G to_BadOrder (T.s.xfn 1) (T.s.xok 1) hp ht
theorem to_BadProgram : SupX.TextOk x_BadProgram := ⟨"place", "self", _, _, _, _, _, _, _, _, _, _, _, _, rfl, fun _ _ _ _ _ _ _ _ _ => rfl, rfl, rfl, by decide, by decide, by decide, by decide +kernel, rfl, rfl, rfl, rfl, rfl, rfl, rfl, fun _ _ _ _ => ⟨⟨_, rfl⟩, rfl, rfl, rfl, rfl, rfl⟩⟩
theorem Txt.s_BadProgram {P : Program} (T : Txt K mg) (hp : P.main.file = fileS) (ht : (P.main.scope.names.lookup ("super" : Str)).isSome = false) : SupX.Sup P K mg (He.ga K "BadProgram") (He.ma K (He.ga K "BadProgram") "__init__") "BadProgram" "place" "no program of rounds" := by
  obtain ⟨h, X, G⟩ := T.h
  exact SupX.sup_of X G to_BadProgram (T.s.xfn 2) (T.s.xok 2) hp ht
end
theorem sc_is_integer : FnScope ["thing"] ["thing"] (defScope s_is_integer) := ⟨rfl, rfl, rfl, by decide +kernel, rfl, by decide +kernel, by decide +kernel⟩
theorem sc_is_fraction : FnScope ["thing"] ["thing"] (defScope s_is_fraction) := ⟨rfl, rfl, rfl, by decide +kernel, rfl, by decide +kernel, by decide +kernel⟩
theorem sc_is_amount : FnScope ["thing"] ["thing"] (defScope s_is_amount) := ⟨rfl, rfl, rfl, by decide +kernel, rfl, by decide +kernel, by decide +kernel⟩
theorem sc_reduced : FnScope ["top", "bottom", "shared"] ["top", "bottom"] (defScope s_reduced) := ⟨rfl, rfl, rfl, by decide +kernel, rfl, by decide +kernel, by decide +kernel⟩
theorem sc_exact : FnScope ["told"] ["told"] (defScope s_exact) := ⟨rfl, rfl, rfl, by decide +kernel, rfl, by decide +kernel, by decide +kernel⟩
theorem sc_plus : FnScope ["one", "other", "shared", "top", "rest"] ["one", "other"] (defScope s_plus) := ⟨rfl, rfl, rfl, by decide +kernel, rfl, by decide +kernel, by decide +kernel⟩
theorem sc_minus : FnScope ["one", "other"] ["one", "other"] (defScope s_minus) := ⟨rfl, rfl, rfl, by decide +kernel, rfl, by decide +kernel, by decide +kernel⟩
theorem sc_times : FnScope ["one", "other", "left", "right"] ["one", "other"] (defScope s_times) := ⟨rfl, rfl, rfl, by decide +kernel, rfl, by decide +kernel, by decide +kernel⟩
theorem sc_common_bottom : FnScope ["fractions", "bottom", "_", "below"] ["fractions"] (defScope s_common_bottom) := ⟨rfl, rfl, rfl, by decide +kernel, rfl, by decide +kernel, by decide +kernel⟩
theorem sc_Line___init__ : FnScope ["self", "areas", "sums", "others", "bottom", "top", "below", "_"] ["self", "areas", "sums", "others"] (defScope s_Line___init__) := ⟨rfl, rfl, rfl, by decide +kernel, rfl, by decide +kernel, by decide +kernel⟩
theorem sc_Line_top : FnScope ["self", "at"] ["self", "at"] (defScope s_Line_top) := ⟨rfl, rfl, rfl, by decide +kernel, rfl, by decide +kernel, by decide +kernel⟩
theorem sc_Line_even : FnScope ["self", "weir", "first", "second", "top", "shared"] ["self", "weir"] (defScope s_Line_even) := ⟨rfl, rfl, rfl, by decide +kernel, rfl, by decide +kernel, by decide +kernel⟩
theorem sc_Line_inside : FnScope ["self", "basin"] ["self", "basin"] (defScope s_Line_inside) := ⟨rfl, rfl, rfl, by decide +kernel, rfl, by decide +kernel, by decide +kernel⟩
theorem sc_Line_water : FnScope ["self", "basin"] ["self"] (defScope s_Line_water) := ⟨rfl, rfl, rfl, by decide +kernel, rfl, by decide +kernel, by decide +kernel⟩
theorem sc_Program___init__ : FnScope ["self", "rounds"] ["self", "rounds"] (defScope s_Program___init__) := ⟨rfl, rfl, rfl, by decide +kernel, rfl, by decide +kernel, by decide +kernel⟩
theorem sc_Program___len__ : FnScope ["self"] ["self"] (defScope s_Program___len__) := ⟨rfl, rfl, rfl, by decide +kernel, rfl, by decide +kernel, by decide +kernel⟩
theorem sc_Program___eq__ : FnScope ["self", "other"] ["self", "other"] (defScope s_Program___eq__) := ⟨rfl, rfl, rfl, by decide +kernel, rfl, by decide +kernel, by decide +kernel⟩
theorem sc_Program___add__ : FnScope ["self", "other"] ["self", "other"] (defScope s_Program___add__) := ⟨rfl, rfl, rfl, by decide +kernel, rfl, by decide +kernel, by decide +kernel⟩
theorem sc_Program_order : FnScope ["self", "many"] ["self", "many"] (defScope s_Program_order) := ⟨rfl, rfl, rfl, by decide +kernel, rfl, by decide +kernel, by decide +kernel⟩
theorem sc_Program_done : FnScope ["self", "volumes", "told", "bottom", "often", "tops", "volume", "top", "under"] ["self", "volumes"] (defScope s_Program_done) := ⟨rfl, rfl, rfl, by decide +kernel, rfl, by decide +kernel, by decide +kernel⟩
theorem sc_is_round : FnScope ["thing", "step", "rest"] ["thing"] (defScope s_is_round) := ⟨rfl, rfl, rfl, by decide +kernel, rfl, by decide +kernel, by decide +kernel⟩
theorem sc_check_rounds : FnScope ["rounds", "place", "told"] ["rounds"] (defScope s_check_rounds) := ⟨rfl, rfl, rfl, by decide +kernel, rfl, by decide +kernel, by decide +kernel⟩
theorem sc_check_many : FnScope ["many"] ["many"] (defScope s_check_many) := ⟨rfl, rfl, rfl, by decide +kernel, rfl, by decide +kernel, by decide +kernel⟩
theorem sc_check_told : FnScope ["volumes", "volume"] ["volumes"] (defScope s_check_told) := ⟨rfl, rfl, rfl, by decide +kernel, rfl, by decide +kernel, by decide +kernel⟩
theorem sc_openings : FnScope ["rounds", "many", "found", "told", "weir"] ["rounds", "many"] (defScope s_openings) := ⟨rfl, rfl, rfl, by decide +kernel, rfl, by decide +kernel, by decide +kernel⟩
theorem sc_halvings : FnScope ["rounds", "many", "told"] ["rounds", "many"] (defScope s_halvings) := ⟨rfl, rfl, rfl, by decide +kernel, rfl, by decide +kernel, by decide +kernel⟩
theorem sc_evened : FnScope ["rounds", "tops", "late", "weir"] ["rounds", "tops"] (defScope s_evened) := ⟨rfl, rfl, rfl, by decide +kernel, rfl, by decide +kernel, by decide +kernel⟩
theorem sc_Row___init__ : FnScope ["self", "areas", "volumes", "locks", "volume"] ["self", "areas", "volumes", "locks"] (defScope s_Row___init__) := ⟨rfl, rfl, rfl, by decide +kernel, rfl, by decide +kernel, by decide +kernel⟩
theorem sc_Row___len__ : FnScope ["self"] ["self"] (defScope s_Row___len__) := ⟨rfl, rfl, rfl, by decide +kernel, rfl, by decide +kernel, by decide +kernel⟩
theorem sc_Row___getitem__ : FnScope ["self", "at"] ["self", "at"] (defScope s_Row___getitem__) := ⟨rfl, rfl, rfl, by decide +kernel, rfl, by decide +kernel, by decide +kernel⟩
theorem sc_Row___iter__ : FnScope ["self"] ["self"] (defScope s_Row___iter__) := ⟨rfl, rfl, rfl, by decide +kernel, rfl, by decide +kernel, by decide +kernel⟩
theorem sc_Row___contains__ : FnScope ["self", "weir"] ["self", "weir"] (defScope s_Row___contains__) := ⟨rfl, rfl, rfl, by decide +kernel, rfl, by decide +kernel, by decide +kernel⟩
theorem sc_Row___eq__ : FnScope ["self", "other"] ["self", "other"] (defScope s_Row___eq__) := ⟨rfl, rfl, rfl, by decide +kernel, rfl, by decide +kernel, by decide +kernel⟩
theorem sc_Row_weirs : FnScope ["self", "weir"] ["self"] (defScope s_Row_weirs) := ⟨rfl, rfl, rfl, by decide +kernel, rfl, by decide +kernel, by decide +kernel⟩
theorem sc_Row_sums : FnScope ["self", "found", "volume"] ["self"] (defScope s_Row_sums) := ⟨rfl, rfl, rfl, by decide +kernel, rfl, by decide +kernel, by decide +kernel⟩
theorem sc_Row_opened : FnScope ["self", "weir", "share", "first", "second", "ahead", "beyond", "even", "late", "part", "moved"] ["self", "weir", "share"] (defScope s_Row_opened) := ⟨rfl, rfl, rfl, by decide +kernel, rfl, by decide +kernel, by decide +kernel⟩
theorem sc_with_volumes : FnScope ["row", "volumes", "late"] ["row", "volumes"] (defScope s_with_volumes) := ⟨rfl, rfl, rfl, by decide +kernel, rfl, by decide +kernel, by decide +kernel⟩
theorem sc_check_areas : FnScope ["areas", "area"] ["areas"] (defScope s_check_areas) := ⟨rfl, rfl, rfl, by decide +kernel, rfl, by decide +kernel, by decide +kernel⟩
theorem sc_check_volumes : FnScope ["volumes", "many", "volume"] ["volumes", "many"] (defScope s_check_volumes) := ⟨rfl, rfl, rfl, by decide +kernel, rfl, by decide +kernel, by decide +kernel⟩
theorem sc_check_locks : FnScope ["locks", "many", "lock"] ["locks", "many"] (defScope s_check_locks) := ⟨rfl, rfl, rfl, by decide +kernel, rfl, by decide +kernel, by decide +kernel⟩
theorem sc_check_row : FnScope ["row"] ["row"] (defScope s_check_row) := ⟨rfl, rfl, rfl, by decide +kernel, rfl, by decide +kernel, by decide +kernel⟩
theorem sc_check_order : FnScope ["row", "order", "place", "weir"] ["row", "order"] (defScope s_check_order) := ⟨rfl, rfl, rfl, by decide +kernel, rfl, by decide +kernel, by decide +kernel⟩
theorem sc_line_of : FnScope ["row"] ["row"] (defScope s_line_of) := ⟨rfl, rfl, rfl, by decide +kernel, rfl, by decide +kernel, by decide +kernel⟩
theorem sc_behind : FnScope ["row", "order", "openings", "line", "weir"] ["row", "order"] (defScope s_behind) := ⟨rfl, rfl, rfl, by decide +kernel, rfl, by decide +kernel, by decide +kernel⟩
theorem sc__law_draw : FnScope ["script", "at", "many", "row", "cell", "turn", "step", "mixed"] ["script", "at", "many"] (defScope s__law_draw) := ⟨rfl, rfl, rfl, by decide +kernel, rfl, by decide +kernel, by decide +kernel⟩
theorem sc__law_rounds : FnScope ["script", "at", "most", "way", "rows", "every", "turn"] ["script", "at", "most", "way"] (defScope s__law_rounds) := ⟨rfl, rfl, rfl, by decide +kernel, rfl, by decide +kernel, by decide +kernel⟩
theorem sc__law_weirs : FnScope ["told", "many", "weir"] ["told", "many"] (defScope s__law_weirs) := ⟨rfl, rfl, rfl, by decide +kernel, rfl, by decide +kernel, by decide +kernel⟩
theorem sc__law_order : FnScope ["rounds", "many", "found", "told"] ["rounds", "many"] (defScope s__law_order) := ⟨rfl, rfl, rfl, by decide +kernel, rfl, by decide +kernel, by decide +kernel⟩
theorem sc__law_play : FnScope ["rounds", "numbers", "found", "weir", "even"] ["rounds", "numbers"] (defScope s__law_play) := ⟨rfl, rfl, rfl, by decide +kernel, rfl, by decide +kernel, by decide +kernel⟩
theorem sc__law_scale : FnScope ["rounds", "many"] ["rounds", "many"] (defScope s__law_scale) := ⟨rfl, rfl, rfl, by decide +kernel, rfl, by decide +kernel, by decide +kernel⟩
theorem sc__law_part : FnScope ["top", "below", "one", "other"] ["top", "below"] (defScope s__law_part) := ⟨rfl, rfl, rfl, by decide +kernel, rfl, by decide +kernel, by decide +kernel⟩
theorem sc__law_done : FnScope ["rounds", "volumes", "scale", "number", "volume"] ["rounds", "volumes"] (defScope s__law_done) := ⟨rfl, rfl, rfl, by decide +kernel, rfl, by decide +kernel, by decide +kernel⟩
theorem sc__law_refused : FnScope ["script", "rounds", "program", "place", "bad", "error", "number"] ["script", "rounds", "program"] (defScope s__law_refused) := ⟨rfl, rfl, rfl, by decide +kernel, rfl, by decide +kernel, by decide +kernel⟩
theorem sc_law : FnScope ["script", "way", "rounds", "more", "many", "volumes", "program", "both", "below", "parts", "good", "at", "volume", "top", "bottom"] ["script"] (defScope s_law) := ⟨rfl, rfl, rfl, by decide +kernel, rfl, by decide +kernel, by decide +kernel⟩
end My
end
section
set_option Elab.async false
set_option linter.all false
set_option maxRecDepth 100000
set_option maxHeartbeats 0
namespace My
open PySem PySem.Spec PyProof.Rows L2
abbrev R : PySem.W.OpenRow := PySem.W.OpenLaw.row PySem.Challenge.rw_weirlines_k01_whole_programs
abbrev hk : PySem.W.Hook := SupX.hookS 5 fa fn xs fileS exB
def ob (s : PySem.W.SharedT) : SupX.AlS := SupX.obsSG 5 fa fn xs fileS exB (HandSHeadRun.getT s)
theorem ob_eq (s : PySem.W.SharedT) : ob s = hk.obs s.abs := SupX.obsSG_eq (HandSHeadRun.getT_eq s)
theorem run (w : World) : HandSHeadRun.RunEqI R (PySem.W.view R.prog [0, 55]) hk ob 6000 loose w := by
  unfold HandSHeadRun.RunEqI
  kernel_rfl
end My
end
section
set_option Elab.async false
set_option linter.all false
set_option maxRecDepth 100000
set_option maxHeartbeats 4000000
namespace My
open PySem PySem.Spec PyProof.Rows L2 Evl WD
local macro_rules | `(tactic| walk_at "exgo") => `(tactic| first | exact Ex.refl _ | assumption | (refine' Ex.trans ?ea ?eb; (case eb => assumption); (case ea => walk_at "exgo")))
local macro_rules | `(tactic| walk_at "is") => `(tactic| first | assumption | (refine' Is.ex ?e ?h; (case h => assumption); (case e => walk_at "exgo")) | exact Is.int _ | exact Is.bl _ | exact Is.non)
local macro_rules | `(tactic| walk_at "ev") => `(tactic| first
  | exact ed_int | exact ed_bl | exact ed_non | exact ed_str
  | ((with_reducible apply ed_var) <;> first | exact rfl | walk_at "is")
  | ((with_reducible apply ed_add) <;> walk_at "ev")
  | ((with_reducible apply ed_sub) <;> walk_at "ev")
  | ((with_reducible apply ed_neg) <;> walk_at "ev")
  | ((with_reducible apply ed_mulW) <;> try walk_at "ev")
  | ((with_reducible apply ed_divW) <;> try walk_at "ev")
  | ((with_reducible apply ed_mod) <;> try walk_at "ev")
  | ((with_reducible apply ed_ixT) <;> first | exact rfl | walk_at "ev" | skip)
  | ((with_reducible apply ed_ixL) <;> first | exact rfl | walk_at "ev" | skip)
  | ((with_reducible apply ed_lt) <;> walk_at "ev")
  | ((with_reducible apply ed_le) <;> walk_at "ev")
  | ((with_reducible apply ed_gt) <;> walk_at "ev")
  | ((with_reducible apply ed_ge) <;> walk_at "ev")
  | ((with_reducible apply ed_eqI) <;> walk_at "ev")
  | ((with_reducible apply ed_neI) <;> walk_at "ev")
  | ((with_reducible apply ed_gcd) <;> walk_at "ev")
  | ((with_reducible apply ed_abs) <;> walk_at "ev")
  | ((with_reducible apply ed_intI) <;> walk_at "ev")
  | ((with_reducible apply ed_intB) <;> walk_at "ev")
  | ((with_reducible apply ed_max2) <;> walk_at "ev")
  | ((with_reducible apply ed_min2) <;> walk_at "ev")
  | ((with_reducible apply ed_lenT) <;> walk_at "ev")
  | ((with_reducible apply ed_lenL) <;> walk_at "ev")
  | ((with_reducible apply ed_tuple) <;> walk_at "ev")
  | ((with_reducible apply ed_tupleT) <;> walk_at "ev")
  | ((with_reducible apply ed_tup) <;> first | walk_at "ea" | (simp; done) | skip)
  | ((with_reducible apply et_t) <;> walk_at "ev")
  | ((with_reducible apply et_v) <;> walk_at "ev"))
local macro_rules | `(tactic| walk_at "ea") => `(tactic| first
  | exact ea0
  | ((with_reducible apply ea1) <;> first | walk_at "ev" | walk_at "ea" | skip))

section
variable {P : Program} {w : World} {K : PySem.W.Frag} {mg : Str → Option Value} {base : Heap}
def R_reduced (ds : List D) (d : D) : Prop := ∃ (n : Int) (b : Nat), ds = [.int n, .int (b : Int)] ∧ 0 < b ∧ b < 2 ^ 9000 ∧ d = fr (mkRat n b)
theorem divW_gcd {i : Int} {x b : Nat} (hb : 0 < b) (hs : b < 2 ^ 9000) (hx : x ∣ b) : CDivW i (x : Int) := wide_div (b := 9000) (by
  have := Nat.pos_of_dvd_of_pos hx hb
  omega) (Nat.lt_of_le_of_lt (Nat.le_of_dvd hb hx) hs) (by decide) (by decide)
theorem All.inv1 {H : Hp} {vs : List V} {d : D} (a : All K H vs [d]) : ∃ v, vs = [v] ∧ Is K H v d := by
  cases a with
  | cons a1 a => cases a; exact ⟨_, rfl, a1⟩
theorem All.inv2 {H : Hp} {vs : List V} {d1 d2 : D} (a : All K H vs [d1, d2]) : ∃ v w, vs = [v, w] ∧ Is K H v d1 ∧ Is K H w d2 := by
  cases a with
  | cons a1 a => 
    obtain ⟨w, rfl, a2⟩ := All.inv1 a
    exact ⟨_, _, rfl, a1, a2⟩
theorem All.inv3 {H : Hp} {vs : List V} {d1 d2 d3 : D} (a : All K H vs [d1, d2, d3]) : ∃ v w x, vs = [v, w, x] ∧ Is K H v d1 ∧ Is K H w d2 ∧ Is K H x d3 := by
  cases a with
  | cons a1 a => 
    obtain ⟨w, x, rfl, a2⟩ := All.inv2 a
    exact ⟨_, _, _, rfl, a1, a2⟩
theorem ok_reduced (T : Txt K mg) : FnG P w K mg base 1 (He.ga K "reduced") ["top", "bottom"] (spD K R_reduced) := by
  refine fnG (N := ["top", "bottom", "shared"]) (st := s_reduced) T.f_reduced sc_reduced (fun vs H Q E h => ?_) (fun _ _ _ _ _ _ us hl => match us, hl with | [_, _], _ => rfl) (fun cdv A outer s H vs Q E hr h => ⟨_, (pss_cons (ps_asg (pe_callBfun cr_gcd (by rfl) T.b_gcd (pa_cons (pv 0) (pa_cons (pv 1) pa_nil))) (pg_name (i := 2) sc_reduced.nd rfl (.inl rfl))) (pss_one (ps_ret (pe_tup (pa_cons (pe_op op_fdivW (pv 0) (pv 2)) (pa_cons (pe_op op_fdivW (pv 1) (pv 2)) pa_nil)))))), ?_⟩)
  · obtain ⟨ds, d, a, ⟨n, b, rfl, _⟩, _⟩ := h
    exact a.len
  · obtain ⟨ds, d, a, ⟨n, b, rfl, hb, hs, rfl⟩, q⟩ := h
    obtain ⟨e1, e2⟩ := mkRat_pair (n := n) (d := b) (by omega)
    obtain ⟨v, v', rfl, a1, a2⟩ := All.inv2 a
    try dsimp only [cxOf, Cx.nox, Cx.wish]
    refine' q_asgD (K := K) ?e1 ?k1; (case e1 => (walk_at "ev")); intro v1 H1 x1 i1
    have hd : ∀ i : Int, CDivW i ((Nat.gcd n.natAbs b : Nat) : Int) := fun i => divW_gcd hb hs (Nat.gcd_dvd_right _ _)
    refine' s_retD (K := K) ?e2 ?k2; (case e2 => (walk_at "ev"; all_goals (exact hd _))); intro v2 H2 x2 i2
    refine q _ _ (x1.trans x2) ?_
    have e : fr (mkRat n b) = .tup [.int (n / ((Nat.gcd n.natAbs b : Nat) : Int)), .int ((b : Int) / ((Nat.gcd n.natAbs b : Nat) : Int))] := by
      rw [e1, e2] <;> rfl
    rw [e]
    exact i2
def R_plus (ds : List D) (d : D) : Prop := ∃ p q : Rat, ds = [fr p, fr q] ∧ Sm 4000 p ∧ Sm 4000 q ∧ d = fr (p + q)
theorem lt_pow_succ {n k : Nat} {i : Int} (h : i.natAbs < 2 ^ k) : (i / (n : Int)).natAbs < 2 ^ (k + 1) := by
  have h1 := natAbs_div_le i n
  have h2 : 2 ^ (k + 1) = 2 ^ k * 2 := Nat.pow_succ ..
  have h3 : 0 < 2 ^ k := Nat.pow_pos (by decide)
  omega
theorem mulW {i j : Int} {a b : Nat} (ha : i.natAbs < 2 ^ a) (hb : j.natAbs < 2 ^ b) (h0 : 0 < a := by decide) (h1 : 0 < b := by decide) (h : a + b ≤ 1000000 := by decide) : CMulW i j := wide_mul ha hb h0 h1 h
theorem divW {i : Int} {j b : Nat} (h : 0 < j) (hb : j < 2 ^ b) (h0 : 0 < b := by decide) (h9 : b ≤ 9000 := by decide) : CDivW i (j : Int) := wide_div (by omega) hb h0 h9
theorem ok_plus (T : Txt K mg) : FnG P w K mg base 1 (He.ga K "plus") ["one", "other"] (spD K R_plus) := by
  refine fnG (N := ["one", "other", "shared", "top", "rest"]) (st := s_plus) T.f_plus sc_plus (fun vs H Q E h => ?_) (fun _ _ _ _ _ _ us hl => match us, hl with | [_, _], _ => rfl) (fun cdv A outer s H vs Q E hr h => ⟨_, (pss_cons (ps_asg (pe_callBfun cr_gcd (by rfl) T.b_gcd (pa_cons (pe_ix ix_tup (pv 0) pe_int (fun _ _ => rfl)) (pa_cons (pe_ix ix_tup (pv 1) pe_int (fun _ _ => rfl)) pa_nil))) (pg_name (i := 2) sc_plus.nd rfl (.inl rfl))) (pss_cons (ps_asg (pe_op op_add (pe_op op_mulW (pe_ix ix_tup (pv 0) pe_int (fun _ _ => rfl)) (pe_op op_fdivW (pe_ix ix_tup (pv 1) pe_int (fun _ _ => rfl)) (pv 2))) (pe_op op_mulW (pe_ix ix_tup (pv 1) pe_int (fun _ _ => rfl)) (pe_op op_fdivW (pe_ix ix_tup (pv 0) pe_int (fun _ _ => rfl)) (pv 2)))) (pg_name (i := 3) sc_plus.nd rfl (.inl rfl))) (pss_cons (ps_asg (pe_callBfun cr_gcd (by rfl) T.b_gcd (pa_cons (pv 3) (pa_cons (pv 2) pa_nil))) (pg_name (i := 4) sc_plus.nd rfl (.inl rfl))) (pss_one (ps_ret (pe_tup (pa_cons (pe_op op_fdivW (pv 3) (pv 4)) (pa_cons (pe_op op_mulW (pe_op op_fdivW (pe_ix ix_tup (pv 0) pe_int (fun _ _ => rfl)) (pv 2)) (pe_op op_fdivW (pe_ix ix_tup (pv 1) pe_int (fun _ _ => rfl)) (pv 4))) pa_nil)))))))), ?_⟩)
  · obtain ⟨ds, d, a, ⟨p, r, rfl, _⟩, _⟩ := h
    exact a.len
  · obtain ⟨ds, d, a, ⟨p, r, rfl, sp, sr, rfl⟩, q⟩ := h
    obtain ⟨e1, e2⟩ := add_pair p r
    obtain ⟨v, v', rfl, a1, a2⟩ := All.inv2 a
    have g0 : 0 < Nat.gcd p.den r.den := Nat.gcd_pos_of_pos_left _ p.den_pos
    have g1 : Nat.gcd p.den r.den < 2 ^ 4000 := Nat.lt_of_le_of_lt (Nat.le_of_dvd p.den_pos (Nat.gcd_dvd_left _ _)) sp.den
    have hd : ∀ i : Int, CDivW i ((Nat.gcd p.den r.den : Nat) : Int) := fun i => divW (b := 4000) g0 g1
    unfold fr at a1 a2
    try dsimp only [cxOf, Cx.nox, Cx.wish]
    refine' q_asgD (K := K) ?e3 ?k3; (case e3 => (walk_at "ev")); intro v1 H1 x1 i1
    refine' q_asgD (K := K) ?e4 ?k4; (case e4 => (walk_at "ev"; all_goals (first | exact hd _ | exact mulW (a := 4000) (b := 4001) sp.num (lt_pow_succ (i := (r.den : Int)) sr.den) | exact mulW (a := 4000) (b := 4001) sr.num (lt_pow_succ (i := (p.den : Int)) sp.den)))); intro v2 H2 x2 i2
    refine' q_asgD (K := K) ?e5 ?k5; (case e5 => (walk_at "ev")); intro v3 H3 x3 i3
    have hd2 : ∀ (i n : Int), CDivW i ((Nat.gcd n.natAbs (Nat.gcd p.den r.den) : Nat) : Int) := fun i n => divW (b := 4000) (Nat.gcd_pos_of_pos_right _ g0) (Nat.lt_of_le_of_lt (Nat.le_of_dvd g0 (Nat.gcd_dvd_right _ _)) g1)
    refine' s_retD (K := K) ?e6 ?k6; (case e6 => (walk_at "ev"; all_goals (first | exact hd _ | exact hd2 _ _ | exact mulW (a := 4001) (b := 4001) (lt_pow_succ (i := (p.den : Int)) sp.den) (lt_pow_succ (i := (r.den : Int)) sr.den)))); intro v4 H4 x4 i4
    refine q _ _ (((x1.trans x2).trans x3).trans x4) ?_
    unfold fr
    rw [← e1, ← e2]
    exact i4
def R_is_integer (ds : List D) (d : D) : Prop := ∃ x s, ds = [x] ∧ x.ty = some s ∧ d = .bl x.isInt
theorem ok_is_integer (T : Txt K mg) : FnG P w K mg base 1 (He.ga K "is_integer") ["thing"] (spD K R_is_integer) := by
  refine fnG (N := ["thing"]) (st := s_is_integer) T.f_is_integer sc_is_integer (fun vs H Q E h => ?_) (fun _ _ _ _ _ _ us hl => match us, hl with | [_], _ => rfl) (fun cdv A outer s H vs Q E hr h => ⟨_, (pss_one (ps_ret (pe_and (pe_callB call_isi (by rfl) T.z_isinstance (by decide +kernel) (pa_cons (pv 0) (pa_cons (pe_tyN (n := "int") (by rfl) T.z_int (by decide +kernel)) pa_nil))) (pe_one (pe_not (pe_callB call_isi (by rfl) T.z_isinstance (by decide +kernel) (pa_cons (pv 0) (pa_cons (pe_tyN (n := "bool") (by rfl) T.z_bool (by decide +kernel)) pa_nil)))))))), ?_⟩)
  · obtain ⟨ds, d, a, ⟨x, s, rfl, _⟩, _⟩ := h
    exact a.len
  · obtain ⟨ds, d, a, ⟨x, s, rfl, hs, rfl⟩, q⟩ := h
    obtain ⟨v, rfl, a1⟩ := All.inv1 a
    refine s_retD (d := .bl x.isInt) ?_ fun v2 H2 x2 i2 => q _ _ x2 i2
    cases x with
    | obj c fs => cases hs
    | int i => exact ed_andV (a := true) (b := true) (ed_isi (n := "int") (b := true) (ed_var rfl a1) rfl (by decide +kernel)) fun _ => ed_notV (a := false) (ed_isi (n := "bool") (b := false) (ed_var rfl a1) rfl (by decide +kernel))
    | bl i => exact ed_andV (ed_isi (n := "int") (b := true) (ed_var rfl a1) rfl (by decide +kernel)) fun _ => ed_notV (ed_isi (n := "bool") (b := true) (ed_var rfl a1) rfl (by decide +kernel))
    | _ => exact ed_andV (a := false) (b := false) (ed_isi (n := "int") (ed_var rfl a1) rfl (by decide +kernel)) fun z => nomatch z
def D.isFr : D → Bool
  | .int _ => true
  | .tup [.int _, .int j] => decide (1 ≤ j)
  | _ => false
def R_is_fraction (ds : List D) (d : D) : Prop := d = .bl true ∧ ((∃ i, ds = [.int i]) ∨ (∃ i j, ds = [.tup [.int i, .int j]] ∧ 1 ≤ j))
theorem ok_is_fraction (T : Txt K mg) : FnG P w K mg base 2 (He.ga K "is_fraction") ["thing"] (spD K R_is_fraction) := by
  refine fnG (N := ["thing"]) (st := s_is_fraction) T.f_is_fraction sc_is_fraction (fun vs H Q E h => ?_) (fun _ _ _ _ _ _ us hl => match us, hl with | [_], _ => rfl) (fun cdv A outer s H vs Q E hr h => ⟨_, (pss_cons (ps_if (pt_not (pt_val (pe_callB call_isi (by rfl) T.z_isinstance (by decide +kernel) (pa_cons (pv 0) (pa_cons (pe_tyN (n := "tuple") (by rfl) T.z_tuple (by decide +kernel)) pa_nil))))) (pss_one (ps_ret (pe_callG (ok_is_integer T) (hr.mono (by decide)) (by rfl) T.m_is_integer (pa_cons (pv 0) pa_nil)))) pss_nil) (pss_one (ps_ret (pe_and (pe_cmpR op_eq (pe_callB call_lenS (by rfl) T.z_len PySem.boot_len (pa_cons (pv 0) pa_nil)) pe_int (nomark _)) (pe_and (pe_callG (ok_is_integer T) (hr.mono (by decide)) (by rfl) T.m_is_integer (pa_cons (pe_ix ix_tup (pv 0) pe_int (fun _ _ => rfl)) pa_nil)) (pe_and (pe_callG (ok_is_integer T) (hr.mono (by decide)) (by rfl) T.m_is_integer (pa_cons (pe_ix ix_tup (pv 0) pe_int (fun _ _ => rfl)) pa_nil)) (pe_one (pe_cmpR op_ge (pe_ix ix_tup (pv 0) pe_int (fun _ _ => rfl)) pe_int (nomark _))))))))), ?_⟩)
  · obtain ⟨ds, d, a, ⟨_, h⟩, _⟩ := h
    rcases h with ⟨i, rfl⟩ | ⟨i, j, rfl, _⟩ <;> exact a.len
  · obtain ⟨ds, d, a, ⟨rfl, h⟩, q⟩ := h
    rcases h with ⟨i, rfl⟩ | ⟨i, j, rfl, hj⟩
    · obtain ⟨v, rfl, a1⟩ := All.inv1 a
      refine q_when (b := true) (et_not (a := false) (et_v (K := K) (ed_isi (n := "tuple") (ed_var rfl a1) rfl (by decide +kernel)))) (fun _ H1 x1 => ?_) (fun z => nomatch z)
      exact s_retD (K := K) (ed_call (ea1 (ed_var rfl (a1.ex x1)) ea0) ⟨_, "int", rfl, rfl, rfl⟩) fun v2 H2 x2 i2 => q _ _ (x1.trans x2) i2
    · obtain ⟨v, rfl, a1⟩ := All.inv1 a
      refine q_when (b := false) (et_not (a := true) (et_v (K := K) (ed_isi (n := "tuple") (ed_var rfl a1) rfl (by decide +kernel)))) (fun z => nomatch z) (fun _ H1 x1 => ?_)
      try dsimp only [cxOf, Cx.nox, Cx.wish]
      have b1 := a1.ex x1
      refine s_retD (d := .bl true) ?_ fun v2 H2 x2 i2 => q _ _ (x1.trans x2) i2
      refine ed_andV (a := true) (b := true) (EvD.is (d := .bl (decide ((([D.int i, D.int j] : List D).length : Int) = 2))) (by walk_at "ev") rfl) fun _ => ed_andV (a := true) (b := true) ?_ fun _ => ed_andV (a := true) (b := true) ?_ fun _ => EvD.is (d := .bl (decide (1 ≤ j))) (by walk_at "ev") (by rw [decide_eq_true hj])
      · exact ed_call (ea1 (by walk_at "ev") ea0) ⟨.int i, "int", rfl, rfl, rfl⟩
      · exact ed_call (ea1 (by walk_at "ev") ea0) ⟨.int j, "int", rfl, rfl, rfl⟩
def R_exact (ds : List D) (d : D) : Prop := (∃ i : Int, ds = [.int i] ∧ d = fr (i : Rat)) ∨ (∃ (i : Int) (b : Nat), ds = [.tup [.int i, .int (b : Int)]] ∧ 0 < b ∧ b < 2 ^ 9000 ∧ d = fr (mkRat i b))
theorem ok_exact (T : Txt K mg) : FnG P w K mg base 2 (He.ga K "exact") ["told"] (spD K R_exact) := by
  refine fnG (N := ["told"]) (st := s_exact) T.f_exact sc_exact (fun vs H Q E h => ?_) (fun _ _ _ _ _ _ us hl => match us, hl with | [_], _ => rfl) (fun cdv A outer s H vs Q E hr h => ⟨_, (pss_cons (ps_if (pt_val (pe_callB call_isi (by rfl) T.z_isinstance (by decide +kernel) (pa_cons (pv 0) (pa_cons (pe_tyN (n := "tuple") (by rfl) T.z_tuple (by decide +kernel)) pa_nil)))) (pss_one (ps_ret (pe_callG (ok_reduced T) (hr.mono (by decide)) (by rfl) T.m_reduced (pa_cons (pe_ix ix_tup (pv 0) pe_int (fun _ _ => rfl)) (pa_cons (pe_ix ix_tup (pv 0) pe_int (fun _ _ => rfl)) pa_nil))))) pss_nil) (pss_one (ps_ret (pe_tup (pa_cons (pv 0) (pa_cons pe_int pa_nil)))))), ?_⟩)
  · obtain ⟨ds, d, a, h, _⟩ := h
    rcases h with ⟨i, rfl, _⟩ | ⟨i, j, rfl, _⟩ <;> exact a.len
  · obtain ⟨ds, d, a, h, q⟩ := h
    rcases h with ⟨i, rfl, rfl⟩ | ⟨i, b, rfl, h0, h1, rfl⟩
    · obtain ⟨v, rfl, a1⟩ := All.inv1 a
      refine q_when (b := false) (et_v (K := K) (ed_isi (n := "tuple") (ed_var rfl a1) rfl (by decide +kernel))) (fun z => nomatch z) (fun _ H1 x1 => ?_)
      refine s_retD (d := fr (i : Rat)) ?_ fun v2 H2 x2 i2 => q _ _ (x1.trans x2) i2
      exact ed_tup (ea1 (ed_var rfl (a1.ex x1)) (ea1 ed_int ea0)) (by show 2 ≤ 100000; decide)
    · obtain ⟨v, rfl, a1⟩ := All.inv1 a
      refine q_when (b := true) (et_v (K := K) (ed_isi (n := "tuple") (ed_var rfl a1) rfl (by decide +kernel))) (fun _ H1 x1 => ?_) (fun z => nomatch z)
      try dsimp only [cxOf, Cx.nox, Cx.wish]
      have b1 := a1.ex x1
      refine s_retD (d := fr (mkRat i b)) ?_ fun v2 H2 x2 i2 => q _ _ (x1.trans x2) i2
      exact ed_call (ea1 (by walk_at "ev") (ea1 (by walk_at "ev") ea0)) ⟨i, b, rfl, h0, h1, rfl⟩
def R_minus (ds : List D) (d : D) : Prop := ∃ p q : Rat, ds = [fr p, fr q] ∧ Sm 4000 p ∧ Sm 4000 q ∧ d = fr (p - q)
theorem ok_minus (T : Txt K mg) : FnG P w K mg base 2 (He.ga K "minus") ["one", "other"] (spD K R_minus) := by
  refine fnG (N := ["one", "other"]) (st := s_minus) T.f_minus sc_minus (fun vs H Q E h => ?_) (fun _ _ _ _ _ _ us hl => match us, hl with | [_, _], _ => rfl) (fun cdv A outer s H vs Q E hr h => ⟨_, (pss_one (ps_ret (pe_callG (ok_plus T) (hr.mono (by decide)) (by rfl) T.m_plus (pa_cons (pv 0) (pa_cons (pe_tup (pa_cons (pe_un un_neg (pe_ix ix_tup (pv 1) pe_int (fun _ _ => rfl))) (pa_cons (pe_ix ix_tup (pv 1) pe_int (fun _ _ => rfl)) pa_nil))) pa_nil))))), ?_⟩)
  · obtain ⟨ds, d, a, ⟨p, r, rfl, _⟩, _⟩ := h
    exact a.len
  · obtain ⟨ds, d, a, ⟨p, r, rfl, sp, sr, rfl⟩, q⟩ := h
    obtain ⟨v, v', rfl, a1, a2⟩ := All.inv2 a
    try dsimp only [cxOf, Cx.nox, Cx.wish]
    have a2' : Is K H v' (.tup [.int r.num, .int (r.den : Int)]) := a2
    refine s_retD (d := fr (p - r)) ?_ fun v2 H2 x2 i2 => q _ _ x2 i2
    refine ed_call (ds := [fr p, fr (-r)]) (ea1 (by walk_at "ev") (ea1 ?_ ea0)) ⟨p, -r, rfl, sp, ⟨by rw [Rat.neg_num, Int.natAbs_neg]; exact sr.num, by rw [Rat.neg_den]; exact sr.den⟩, by rw [Rat.sub_eq_add_neg]⟩
    show EvD K _ _ _ (.tup [.int (-r).num, .int ((-r).den : Int)])
    rw [Rat.neg_num, Rat.neg_den]
    walk_at "ev"
def R_times (ds : List D) (d : D) : Prop := ∃ p q : Rat, ds = [fr p, fr q] ∧ Sm 4000 p ∧ Sm 4000 q ∧ d = fr (p * q)
theorem ok_times (T : Txt K mg) : FnG P w K mg base 1 (He.ga K "times") ["one", "other"] (spD K R_times) := by
  refine fnG (N := ["one", "other", "left", "right"]) (st := s_times) T.f_times sc_times (fun vs H Q E h => ?_) (fun _ _ _ _ _ _ us hl => match us, hl with | [_, _], _ => rfl) (fun cdv A outer s H vs Q E hr h => ⟨_, (pss_cons (ps_asg (pe_callBfun cr_gcd (by rfl) T.b_gcd (pa_cons (pe_ix ix_tup (pv 0) pe_int (fun _ _ => rfl)) (pa_cons (pe_ix ix_tup (pv 1) pe_int (fun _ _ => rfl)) pa_nil))) (pg_name (i := 2) sc_times.nd rfl (.inl rfl))) (pss_cons (ps_asg (pe_callBfun cr_gcd (by rfl) T.b_gcd (pa_cons (pe_ix ix_tup (pv 1) pe_int (fun _ _ => rfl)) (pa_cons (pe_ix ix_tup (pv 0) pe_int (fun _ _ => rfl)) pa_nil))) (pg_name (i := 3) sc_times.nd rfl (.inl rfl))) (pss_one (ps_ret (pe_tup (pa_cons (pe_op op_mulW (pe_op op_fdivW (pe_ix ix_tup (pv 0) pe_int (fun _ _ => rfl)) (pv 2)) (pe_op op_fdivW (pe_ix ix_tup (pv 1) pe_int (fun _ _ => rfl)) (pv 3))) (pa_cons (pe_op op_mulW (pe_op op_fdivW (pe_ix ix_tup (pv 0) pe_int (fun _ _ => rfl)) (pv 3)) (pe_op op_fdivW (pe_ix ix_tup (pv 1) pe_int (fun _ _ => rfl)) (pv 2))) pa_nil))))))), ?_⟩)
  · obtain ⟨ds, d, a, ⟨p, r, rfl, _⟩, _⟩ := h
    exact a.len
  · obtain ⟨ds, d, a, ⟨p, r, rfl, sp, sr, rfl⟩, q⟩ := h
    obtain ⟨e1, e2⟩ := mul_pair p r
    obtain ⟨v, v', rfl, a1, a2⟩ := All.inv2 a
    unfold fr at a1 a2
    try dsimp only [cxOf, Cx.nox, Cx.wish]
    refine' q_asgD (K := K) ?e7 ?k7; (case e7 => (walk_at "ev")); intro v1 H1 x1 i1
    refine' q_asgD (K := K) ?e8 ?k8; (case e8 => (walk_at "ev")); intro v2 H2 x2 i2
    have hl : ∀ i : Int, CDivW i ((Nat.gcd p.num.natAbs r.den : Nat) : Int) := fun i => divW (b := 4000) (Nat.gcd_pos_of_pos_right _ r.den_pos) (Nat.lt_of_le_of_lt (Nat.le_of_dvd r.den_pos (Nat.gcd_dvd_right _ _)) sr.den)
    have hr' : ∀ i : Int, CDivW i ((Nat.gcd r.num.natAbs p.den : Nat) : Int) := fun i => divW (b := 4000) (Nat.gcd_pos_of_pos_right _ p.den_pos) (Nat.lt_of_le_of_lt (Nat.le_of_dvd p.den_pos (Nat.gcd_dvd_right _ _)) sp.den)
    refine' s_retD (K := K) ?e9 ?k9; (case e9 => (walk_at "ev"; all_goals (first | exact hl _ | exact hr' _ | exact mulW (a := 4001) (b := 4001) (lt_pow_succ sp.num) (lt_pow_succ sr.num) | exact mulW (a := 4001) (b := 4001) (lt_pow_succ (i := (p.den : Int)) sp.den) (lt_pow_succ (i := (r.den : Int)) sr.den)))); intro v4 H4 x4 i4
    refine q _ _ ((x1.trans x2).trans x4) ?_
    unfold fr
    rw [← e1, ← e2]
    exact i4
def R_is_less (ds : List D) (d : D) : Prop := ∃ p q : Rat, ds = [fr p, fr q] ∧ Sm 4000 p ∧ Sm 4000 q ∧ d = .bl (decide (p < q))

end
end My
end
section
set_option Elab.async false
set_option linter.all false
set_option maxRecDepth 100000
set_option maxHeartbeats 4000000
namespace My
open PySem PySem.Spec PyProof.Rows L2 Evl WD
local macro_rules | `(tactic| walk_at "exgo") => `(tactic| first | exact Ex.refl _ | assumption | (refine' Ex.trans ?ea ?eb; (case eb => assumption); (case ea => walk_at "exgo")))
local macro_rules | `(tactic| walk_at "is") => `(tactic| first | assumption | (refine' Is.ex ?e ?h; (case h => assumption); (case e => walk_at "exgo")) | exact Is.int _ | exact Is.bl _ | exact Is.non)
local macro_rules | `(tactic| walk_at "ev") => `(tactic| first
  | exact ed_int | exact ed_bl | exact ed_non | exact ed_str
  | ((with_reducible apply ed_var) <;> first | exact rfl | walk_at "is")
  | ((with_reducible apply ed_add) <;> walk_at "ev")
  | ((with_reducible apply ed_sub) <;> walk_at "ev")
  | ((with_reducible apply ed_neg) <;> walk_at "ev")
  | ((with_reducible apply ed_mulW) <;> try walk_at "ev")
  | ((with_reducible apply ed_divW) <;> try walk_at "ev")
  | ((with_reducible apply ed_mod) <;> try walk_at "ev")
  | ((with_reducible apply ed_ixT) <;> first | exact rfl | walk_at "ev" | skip)
  | ((with_reducible apply ed_ixL) <;> first | exact rfl | walk_at "ev" | skip)
  | ((with_reducible apply ed_lt) <;> walk_at "ev")
  | ((with_reducible apply ed_le) <;> walk_at "ev")
  | ((with_reducible apply ed_gt) <;> walk_at "ev")
  | ((with_reducible apply ed_ge) <;> walk_at "ev")
  | ((with_reducible apply ed_eqI) <;> walk_at "ev")
  | ((with_reducible apply ed_neI) <;> walk_at "ev")
  | ((with_reducible apply ed_gcd) <;> walk_at "ev")
  | ((with_reducible apply ed_abs) <;> walk_at "ev")
  | ((with_reducible apply ed_intI) <;> walk_at "ev")
  | ((with_reducible apply ed_intB) <;> walk_at "ev")
  | ((with_reducible apply ed_max2) <;> walk_at "ev")
  | ((with_reducible apply ed_min2) <;> walk_at "ev")
  | ((with_reducible apply ed_lenT) <;> walk_at "ev")
  | ((with_reducible apply ed_lenL) <;> walk_at "ev")
  | ((with_reducible apply ed_tuple) <;> walk_at "ev")
  | ((with_reducible apply ed_tupleT) <;> walk_at "ev")
  | ((with_reducible apply ed_tup) <;> first | walk_at "ea" | (simp; done) | skip)
  | ((with_reducible apply et_t) <;> walk_at "ev")
  | ((with_reducible apply et_v) <;> walk_at "ev"))
local macro_rules | `(tactic| walk_at "ea") => `(tactic| first
  | exact ea0
  | ((with_reducible apply ea1) <;> first | walk_at "ev" | walk_at "ea" | skip))

section
variable {P : Program} {w : World} {K : PySem.W.Frag} {mg : Str → Option Value} {base : Heap}
/-- a volume as it is told -/
inductive Tv where
  | i (n : Int) | p (n : Int) (b : Nat)
def Tv.d : Tv → D
  | .i n => .int n
  | .p n b => .tup [.int n, .int (b : Int)]
def Tv.q : Tv → Rat
  | .i n => (n : Rat)
  | .p n b => mkRat n b
def Tv.ok : Tv → Prop
  | .i n => 0 ≤ n ∧ n.natAbs < 2 ^ 3999
  | .p n b => 0 ≤ n ∧ n.natAbs < 2 ^ 3999 ∧ 0 < b ∧ b < 2 ^ 3999
theorem pow_lt {n m : Nat} (h : n ≤ m) {x : Nat} (hx : x < 2 ^ n) : x < 2 ^ m := Nat.lt_of_lt_of_le hx (Nat.pow_le_pow_right (by decide) h)
theorem mk_nonneg {n : Int} {b : Nat} (hn : 0 ≤ n) : 0 ≤ mkRat n b := by
  rw [← Rat.num_nonneg, Rat.num_mkRat]
  split
  · exact Int.le_refl 0
  · exact Int.ediv_nonneg hn (by omega)
theorem mk_sm {n : Int} {b : Nat} (hn : n.natAbs < 2 ^ 3999) (hb : b < 2 ^ 3999) : Sm 4000 (mkRat n b) := by
  refine ⟨?_, ?_⟩
  · rw [Rat.num_mkRat]
    split
    · show 0 < 2 ^ 4000
      exact Nat.pow_pos (by decide)
    · exact lt_pow_succ hn
  · rw [Rat.den_mkRat]
    split
    · exact Nat.one_lt_two_pow (by decide)
    · exact Nat.lt_of_le_of_lt (Nat.div_le_self _ _) (pow_lt (by decide) hb)
theorem Tv.sm : ∀ {t : Tv}, t.ok → Sm 4000 t.q
  | .i n, h => ⟨by
      show n.natAbs < 2 ^ 4000
      exact pow_lt (by decide) h.2, by
      show 1 < 2 ^ 4000
      exact Nat.one_lt_two_pow (by decide)⟩
  | .p n b, h => mk_sm h.2.1 h.2.2.2
theorem Tv.nn : ∀ {t : Tv}, t.ok → 0 ≤ t.q
  | .i n, h => by
    show (0 : Rat) ≤ (n : Rat)
    exact Rat.intCast_nonneg.mpr h.1
  | .p n b, h => mk_nonneg h.1
theorem Tv.lf : ∀ t : Tv, t.d.lf = true
  | .i _ => rfl
  | .p _ _ => rfl
theorem Tv.isfr : ∀ {t : Tv}, t.ok → R_is_fraction [t.d] (.bl true)
  | .i n, _ => ⟨rfl, .inl ⟨n, rfl⟩⟩
  | .p n b, h => ⟨rfl, .inr ⟨n, b, rfl, by have := h.2.2.1; omega⟩⟩
theorem Tv.isex : ∀ {t : Tv}, t.ok → R_exact [t.d] (fr t.q)
  | .i n, _ => .inl ⟨n, rfl, rfl⟩
  | .p n b, h => .inr ⟨n, b, rfl, h.2.2.1, pow_lt (by decide) h.2.2.2, rfl⟩
def R_is_amount (ds : List D) (d : D) : Prop := ∃ t : Tv, t.ok ∧ ds = [t.d] ∧ d = .bl true
theorem ok_is_amount (T : Txt K mg) : FnG P w K mg base 3 (He.ga K "is_amount") ["thing"] (spD K R_is_amount) := by
  refine fnG (N := ["thing"]) (st := s_is_amount) T.f_is_amount sc_is_amount (fun vs H Q E h => ?_) (fun _ _ _ _ _ _ us hl => match us, hl with | [_], _ => rfl) (fun cdv A outer s H vs Q E hr h => ⟨_, (pss_one (ps_ret (pe_and (pe_callG (ok_is_fraction T) (hr.mono (by decide)) (by rfl) T.m_is_fraction (pa_cons (pv 0) pa_nil)) (pe_one (pe_cmpR op_ge (pe_ifExp (pt_val (pe_callB call_isi (by rfl) T.z_isinstance (by decide +kernel) (pa_cons (pv 0) (pa_cons (pe_tyN (n := "tuple") (by rfl) T.z_tuple (by decide +kernel)) pa_nil)))) (pe_ix ix_tup (pv 0) pe_int (fun _ _ => rfl)) (pv 0)) pe_int (nomark _)))))), ?_⟩)
  · obtain ⟨ds, d, a, ⟨t, _, rfl, _⟩, _⟩ := h
    exact a.len
  · obtain ⟨ds, d, a, ⟨t, ok, rfl, rfl⟩, q⟩ := h
    obtain ⟨v, rfl, a1⟩ := All.inv1 a
    refine s_retD (d := .bl true) ?_ fun v2 H2 x2 i2 => q _ _ x2 i2
    refine ed_andV (a := true) (b := true) (ed_call (ea1 (ed_var rfl a1) ea0) (Tv.isfr ok)) fun _ => ?_
    cases t with
    | i n => exact EvD.is (ed_ge (i := n) (j := 0) (ed_if (d1 := .non) (d2 := .int n) (b := false) (et_v (K := K) (ed_isi (n := "tuple") (ed_var rfl a1) rfl (by decide +kernel))) (fun z => nomatch z) fun _ => ed_var rfl a1) ed_int) (congrArg D.bl (decide_eq_true ok.1))
    | p n b => exact EvD.is (ed_ge (i := n) (j := 0) (ed_if (d1 := .int n) (d2 := .non) (b := true) (et_v (K := K) (ed_isi (n := "tuple") (ed_var rfl a1) rfl (by decide +kernel))) (fun _ => ed_ixT (ed_var rfl a1) ed_int rfl) fun z => nomatch z) ed_int) (congrArg D.bl (decide_eq_true ok.1))
def R_check_areas (ds : List D) (d : D) : Prop := ∃ A : List Int, ds = [.tup (iL A)] ∧ 1 ≤ A.length ∧ A.length ≤ 24 ∧ (∀ a ∈ A, 1 ≤ a ∧ a ≤ 1000) ∧ d = .non
theorem ok_check_areas (T : Txt K mg) : FnG P w K mg base 2 (He.ga K "check_areas") ["areas"] (spD K R_check_areas) := by
  refine fnG (N := ["areas", "area"]) (st := s_check_areas) T.f_check_areas sc_check_areas (fun vs H Q E h => ?_) (fun _ _ _ _ _ _ us hl => match us, hl with | [_], _ => rfl) (fun cdv A outer s H vs Q E hr h => ⟨_, (pss_cons (ps_if (PW.pt (pw_or (pt_not (pt_val (pe_callB call_isi (by rfl) T.z_isinstance (by decide +kernel) (pa_cons (pv 0) (pa_cons (pe_tyN (n := "tuple") (by rfl) T.z_tuple (by decide +kernel)) pa_nil))))) (pw_or1 (pt_not (pt_chain op_le op_le pe_int (pe_callB call_lenS (by rfl) T.z_len PySem.boot_len (pa_cons (pv 0) pa_nil)) (pe_globI (by rfl) T.i_MOST_BASINS)))))) (pss_one ps_never) pss_nil) (pss_one (ps_for PassesOwn.never rfl (pi_tup (pv 0)) (pg_name (i := 1) sc_check_areas.nd rfl (.inl rfl)) (pss_one (ps_if (PW.pt (pw_or (pt_not (pt_val (pe_callG (ok_is_integer T) (hr.mono (by decide)) (by rfl) T.m_is_integer (pa_cons (pv 1) pa_nil)))) (pw_or1 (pt_not (pt_chain op_le op_le pe_int (pv 1) (pe_globI (by rfl) T.i_MOST_AREA)))))) (pss_one ps_never) pss_nil))))), ?_⟩)
  · obtain ⟨ds, d, a, ⟨A, rfl, _⟩, _⟩ := h
    exact a.len
  · obtain ⟨ds, d, a, ⟨A, rfl, h1, h2, h3, rfl⟩, q⟩ := h
    obtain ⟨v, rfl, a1⟩ := All.inv1 a
    try dsimp only [cxOf, Cx.nox, Cx.wish]
    refine q_when (b := false || !(decide ((1 : Int) ≤ A.length) && decide ((A.length : Int) ≤ 24))) (et_or (et_not (a := true) (et_v (K := K) (ed_isi (n := "tuple") (ed_var rfl a1) rfl (by decide +kernel)))) fun _ => et_not (et_t (K := K) (ed_chain ed_int (d2 := .int (A.length : Int)) ?_ rd_le (fun _ => ed_int) (fun _ => rd_le)))) (fun z => ?_) (fun _ H1 x1 => ?_)
    · exact EvD.is (ed_lenT (K := K) (ed_var rfl a1)) (by rw [iLlen])
    · exfalso
      rw [decide_eq_true (show (1 : Int) ≤ A.length by omega), decide_eq_true (show (A.length : Int) ≤ 24 by omega)] at z
      cases z
    · have hI : EvI K (iTup K (tVar 0)) (start ["areas", "area"] [v]) [] H1 (iL A).length (fun i => (iL A).getD i .non) := ei_tup (ed_var rfl (a1.ex x1)) (iLlf A)
      refine s_look (W := fun σ => ∃ y, σ = [some v, y]) hI ⟨none, rfl⟩ ?_ (fun σ' H' _ e => q _ _ (x1.trans e) .non)
      rintro i x σ' H' H'' hi ⟨y, rfl⟩ e1 e2 ax Nx hN
      rw [iLlen] at hi
      rw [show (iL A).getD i .non = D.int A[i] from getD_map _ _ _ hi] at ax
      obtain ⟨b1, b2⟩ := h3 A[i] (List.getElem_mem hi)
      refine g_name (s_when (b := false || !(decide ((1 : Int) ≤ A[i]) && decide (A[i] ≤ 1000))) (et_or (et_not (a := true) (et_v (K := K) (ed_call (ea1 (ed_var rfl ax) ea0) ⟨_, "int", rfl, rfl, rfl⟩))) fun _ => et_not (et_t (K := K) (ed_chain ed_int (ed_var rfl ax) rd_le (fun _ => ed_int) (fun _ => rd_le)))) (fun z => ?_) (fun _ H3 x3 => hN _ _ ⟨_, rfl⟩ x3))
      exfalso
      rw [decide_eq_true b1, decide_eq_true b2] at z
      cases z
def R_check_volumes (ds : List D) (d : D) : Prop := ∃ ts : List Tv, ds = [.tup (ts.map Tv.d), .int (ts.length : Int)] ∧ (∀ t ∈ ts, t.ok) ∧ d = .non
theorem ok_check_volumes (T : Txt K mg) : FnG P w K mg base 4 (He.ga K "check_volumes") ["volumes", "many"] (spD K R_check_volumes) := by
  refine fnG (N := ["volumes", "many", "volume"]) (st := s_check_volumes) T.f_check_volumes sc_check_volumes (fun vs H Q E h => ?_) (fun _ _ _ _ _ _ us hl => match us, hl with | [_, _], _ => rfl) (fun cdv A outer s H vs Q E hr h => ⟨_, (pss_cons (ps_if (PW.pt (pw_or (pt_not (pt_val (pe_callB call_isi (by rfl) T.z_isinstance (by decide +kernel) (pa_cons (pv 0) (pa_cons (pe_tyN (n := "tuple") (by rfl) T.z_tuple (by decide +kernel)) pa_nil))))) (pw_or1 (pt_cmpR op_ne (pe_callB call_lenS (by rfl) T.z_len PySem.boot_len (pa_cons (pv 0) pa_nil)) (pv 1) (nomark _))))) (pss_one ps_never) pss_nil) (pss_one (ps_for PassesOwn.never rfl (pi_tup (pv 0)) (pg_name (i := 2) sc_check_volumes.nd rfl (.inl rfl)) (pss_one (ps_if (pt_not (pt_val (pe_callG (ok_is_amount T) (hr.mono (by decide)) (by rfl) T.m_is_amount (pa_cons (pv 2) pa_nil)))) (pss_one ps_never) pss_nil))))), ?_⟩)
  · obtain ⟨ds, d, a, ⟨A, rfl, _⟩, _⟩ := h
    exact a.len
  · obtain ⟨ds, d, a, ⟨ts, rfl, h3, rfl⟩, q⟩ := h
    obtain ⟨v, v', rfl, a1, a2⟩ := All.inv2 a
    try dsimp only [cxOf, Cx.nox, Cx.wish]
    refine q_when (b := false || !decide ((ts.length : Int) = ts.length)) (et_or (et_not (a := true) (et_v (K := K) (ed_isi (n := "tuple") (ed_var rfl a1) rfl (by decide +kernel)))) fun _ => et_t (K := K) (ed_neI (K := K) (i := (ts.length : Int)) ?_ (ed_var rfl a2))) (fun z => ?_) (fun _ H1 x1 => ?_)
    · exact EvD.is (ed_lenT (K := K) (ed_var rfl a1)) (by rw [List.length_map])
    · exfalso
      rw [decide_eq_true rfl] at z
      cases z
    · have hI : EvI K (iTup K (tVar 0)) (start ["volumes", "many", "volume"] [v, v']) [] H1 (ts.map Tv.d).length (fun i => (ts.map Tv.d).getD i .non) := ei_tup (ed_var rfl (a1.ex x1)) (lfs_map _ Tv.lf ts)
      refine s_look (W := fun σ => ∃ y, σ = [some v, some v', y]) hI ⟨none, rfl⟩ ?_ (fun σ' H' _ e => q _ _ (x1.trans e) .non)
      rintro i x σ' H' H'' hi ⟨y, rfl⟩ e1 e2 ax Nx hN
      rw [List.length_map] at hi
      rw [getD_map _ _ _ hi] at ax
      have hok := h3 ts[i] (List.getElem_mem hi)
      exact g_name (s_when (b := false) (et_not (a := true) (et_v (K := K) (ed_call (ea1 (ed_var rfl ax) ea0) ⟨_, hok, rfl, rfl⟩))) (fun z => nomatch z) (fun _ H3 x3 => hN _ _ ⟨_, rfl⟩ x3))

end
end My
end
section
set_option Elab.async false
set_option linter.all false
set_option maxRecDepth 100000
set_option maxHeartbeats 4000000
namespace My
open PySem PySem.Spec PyProof.Rows L2 Evl WD
local macro_rules | `(tactic| walk_at "exgo") => `(tactic| first | exact Ex.refl _ | assumption | (refine' Ex.trans ?ea ?eb; (case eb => assumption); (case ea => walk_at "exgo")))
local macro_rules | `(tactic| walk_at "is") => `(tactic| first | assumption | (refine' Is.ex ?e ?h; (case h => assumption); (case e => walk_at "exgo")) | exact Is.int _ | exact Is.bl _ | exact Is.non)
local macro_rules | `(tactic| walk_at "ev") => `(tactic| first
  | exact ed_int | exact ed_bl | exact ed_non | exact ed_str
  | ((with_reducible apply ed_var) <;> first | exact rfl | walk_at "is")
  | ((with_reducible apply ed_add) <;> walk_at "ev")
  | ((with_reducible apply ed_sub) <;> walk_at "ev")
  | ((with_reducible apply ed_neg) <;> walk_at "ev")
  | ((with_reducible apply ed_mulW) <;> try walk_at "ev")
  | ((with_reducible apply ed_divW) <;> try walk_at "ev")
  | ((with_reducible apply ed_mod) <;> try walk_at "ev")
  | ((with_reducible apply ed_ixT) <;> first | exact rfl | walk_at "ev" | skip)
  | ((with_reducible apply ed_ixL) <;> first | exact rfl | walk_at "ev" | skip)
  | ((with_reducible apply ed_lt) <;> walk_at "ev")
  | ((with_reducible apply ed_le) <;> walk_at "ev")
  | ((with_reducible apply ed_gt) <;> walk_at "ev")
  | ((with_reducible apply ed_ge) <;> walk_at "ev")
  | ((with_reducible apply ed_eqI) <;> walk_at "ev")
  | ((with_reducible apply ed_neI) <;> walk_at "ev")
  | ((with_reducible apply ed_gcd) <;> walk_at "ev")
  | ((with_reducible apply ed_abs) <;> walk_at "ev")
  | ((with_reducible apply ed_intI) <;> walk_at "ev")
  | ((with_reducible apply ed_intB) <;> walk_at "ev")
  | ((with_reducible apply ed_max2) <;> walk_at "ev")
  | ((with_reducible apply ed_min2) <;> walk_at "ev")
  | ((with_reducible apply ed_lenT) <;> walk_at "ev")
  | ((with_reducible apply ed_lenL) <;> walk_at "ev")
  | ((with_reducible apply ed_tuple) <;> walk_at "ev")
  | ((with_reducible apply ed_tupleT) <;> walk_at "ev")
  | ((with_reducible apply ed_tup) <;> first | walk_at "ea" | (simp; done) | skip)
  | ((with_reducible apply et_t) <;> walk_at "ev")
  | ((with_reducible apply et_v) <;> walk_at "ev"))
local macro_rules | `(tactic| walk_at "ea") => `(tactic| first
  | exact ea0
  | ((with_reducible apply ea1) <;> first | walk_at "ev" | walk_at "ea" | skip))

section
variable {P : Program} {w : World} {K : PySem.W.Frag} {mg : Str → Option Value} {base : Heap}
theorem inV_int {i : Int} : ∀ L : List Int, inV (.int i) (L.map V.int) = decide (i ∈ L)
  | [] => rfl
  | y :: ys => by
    show ((y == i) || inV (.int i) (ys.map V.int)) = _
    rw [inV_int ys, show (y == i) = decide (i = y) from by
      rw [Bool.eq_iff_iff, beq_iff_eq, decide_eq_true_iff]
      exact ⟨Eq.symm, Eq.symm⟩, ← Bool.decide_or]
    exact decide_eq_decide.mpr List.mem_cons.symm
theorem ed_ninT {σ : L2.St} {H : Hp} {ta tb : TE} {i : Int} {L : List Int} (ha : EvD K ta σ H (.int i)) (hb : EvD K tb σ H (.tup (iL L))) : EvD K (tOp (rIn K true) ta tb) σ H (.bl (!decide (i ∈ L))) := ed_op ha hb fun v1 v2 H1 _ a1 a2 Q q => by
  cases a1
  cases a2 with
  | tup h a =>
    rw [allIL a] at h
    refine ⟨_, _, rfl, .inr h, rfl, ?_, ?_⟩
    · rw [List.all_map]
      exact List.all_eq_true.mpr fun _ _ => rfl
    · show Q (.bl (!inV (.int i) (L.map V.int))) H1
      rw [inV_int]
      exact q _ H1 (Ex.refl H1) (.bl _)
theorem ed_ninL {σ : L2.St} {H : Hp} {ta tb : TE} {i : Int} {L : List Int} (ha : EvD K ta σ H (.int i)) (hb : EvD K tb σ H (.lst (iL L))) : EvD K (tOp (rIn K true) ta tb) σ H (.bl (!decide (i ∈ L))) := ed_op ha hb fun v1 v2 H1 _ a1 a2 Q q => by
  cases a1
  cases a2 with
  | lst h a =>
    rw [allIL a] at h
    refine ⟨_, _, rfl, .inl (.inl h), rfl, ?_, ?_⟩
    · rw [List.all_map]
      exact List.all_eq_true.mpr fun _ _ => rfl
    · show Q (.bl (!inV (.int i) (L.map V.int))) H1
      rw [inV_int]
      exact q _ H1 (Ex.refl H1) (.bl _)
theorem ed_inL {σ : L2.St} {H : Hp} {ta tb : TE} {i : Int} {L : List Int} (ha : EvD K ta σ H (.int i)) (hb : EvD K tb σ H (.lst (iL L))) : EvD K (tOp (rIn K false) ta tb) σ H (.bl (decide (i ∈ L))) := ed_op ha hb fun v1 v2 H1 _ a1 a2 Q q => by
  cases a1
  cases a2 with
  | lst h a =>
    rw [allIL a] at h
    refine ⟨_, _, rfl, .inl (.inl h), rfl, ?_, ?_⟩
    · rw [List.all_map]
      exact List.all_eq_true.mpr fun _ _ => rfl
    · show Q (.bl (inV (.int i) (L.map V.int))) H1
      rw [inV_int]
      exact q _ H1 (Ex.refl H1) (.bl _)
def R_check_locks (mk : List D → D) (ds : List D) (d : D) : Prop := ∃ (L : List Int) (n : Int), ds = [mk (iL L), .int n] ∧ (∀ l ∈ L, 0 < l ∧ l < n) ∧ d = .non
theorem ok_check_locks_L (T : Txt K mg) : FnG P w K mg base 2 (He.ga K "check_locks") ["locks", "many"] (spD K (R_check_locks .lst)) := by
  refine fnG (N := ["locks", "many", "lock"]) (st := s_check_locks) T.f_check_locks sc_check_locks (fun vs H Q E h => ?_) (fun _ _ _ _ _ _ us hl => match us, hl with | [_, _], _ => rfl) (fun cdv A outer s H vs Q E hr h => ⟨_, (pss_cons (ps_if (pt_not (pt_val (pe_callB call_isiT (by rfl) T.z_isinstance (by decide +kernel) (pa_cons (pv 0) (pa_cons (pe_tup (pa_cons (pe_tyN (n := "list") (by rfl) T.z_list (by decide +kernel)) (pa_cons (pe_tyN (n := "tuple") (by rfl) T.z_tuple (by decide +kernel)) pa_nil))) pa_nil))))) (pss_one ps_never) pss_nil) (pss_one (ps_for PassesOwn.never rfl (pi_list (pv 0)) (pg_name (i := 2) sc_check_locks.nd rfl (.inl rfl)) (pss_cons (ps_if (pt_not (pt_val (pe_callG (ok_is_integer T) (hr.mono (by decide)) (by rfl) T.m_is_integer (pa_cons (pv 2) pa_nil)))) (pss_one ps_never) pss_nil) (pss_one (ps_if (pt_not (pt_chain op_lt op_lt pe_int (pv 2) (pv 1))) (pss_one ps_never) pss_nil)))))), ?_⟩)
  · obtain ⟨ds, d, a, ⟨A, n, rfl, _⟩, _⟩ := h
    exact a.len
  · obtain ⟨ds, d, a, ⟨L, n, rfl, h3, rfl⟩, q⟩ := h
    obtain ⟨v, v', rfl, a1, a2⟩ := All.inv2 a
    try dsimp only [cxOf, Cx.nox, Cx.wish]
    refine q_when (b := false) (et_not (a := true || false) (et_v (K := K) (ed_isiT (n1 := "list") (n2 := "tuple") (ed_var rfl a1) rfl (by decide +kernel) (by decide +kernel)))) (fun z => nomatch z) (fun _ H1 x1 => ?_)
    have hI : EvI K (iList K (tVar 0)) (start ["locks", "many", "lock"] [v, v']) [] H1 (iL L).length (fun i => (iL L).getD i .non) := ei_list (es_var rfl (a1.ex x1) (Ex.refl _) (fun _ z => nomatch z)) (iLlf L)
    refine s_look (W := fun σ => ∃ y, σ = [some v, some v', y]) hI ⟨none, rfl⟩ ?_ (fun σ' H' _ e => q _ _ (x1.trans e) .non)
    rintro i x σ' H' H'' hi ⟨y, rfl⟩ e1 e2 ax Nx hN
    rw [iLlen] at hi
    rw [show (iL L).getD i .non = D.int L[i] from getD_map _ _ _ hi] at ax
    obtain ⟨b1, b2⟩ := h3 L[i] (List.getElem_mem hi)
    refine g_name (q_when (b := false) (et_not (a := true) (et_v (K := K) (ed_call (ea1 (ed_var rfl ax) ea0) ⟨_, "int", rfl, rfl, rfl⟩))) (fun z => nomatch z) (fun _ H3 x3 => ?_))
    refine s_when (b := !(decide (0 < L[i]) && decide (L[i] < n))) (et_not (et_t (K := K) (ed_chain ed_int (ed_var rfl (ax.ex x3)) rd_lt (fun _ => ed_var rfl (a2.ex (((x1.trans e1).trans e2).trans x3))) (fun _ => rd_lt)))) (fun z => ?_) (fun _ H4 x4 => hN _ _ ⟨_, rfl⟩ (x3.trans x4))
    exfalso
    rw [decide_eq_true b1, decide_eq_true b2] at z
    cases z
theorem ok_check_locks_T (T : Txt K mg) : FnG P w K mg base 2 (He.ga K "check_locks") ["locks", "many"] (spD K (R_check_locks .tup)) := by
  refine fnG (N := ["locks", "many", "lock"]) (st := s_check_locks) T.f_check_locks sc_check_locks (fun vs H Q E h => ?_) (fun _ _ _ _ _ _ us hl => match us, hl with | [_, _], _ => rfl) (fun cdv A outer s H vs Q E hr h => ⟨_, (pss_cons (ps_if (pt_not (pt_val (pe_callB call_isiT (by rfl) T.z_isinstance (by decide +kernel) (pa_cons (pv 0) (pa_cons (pe_tup (pa_cons (pe_tyN (n := "list") (by rfl) T.z_list (by decide +kernel)) (pa_cons (pe_tyN (n := "tuple") (by rfl) T.z_tuple (by decide +kernel)) pa_nil))) pa_nil))))) (pss_one ps_never) pss_nil) (pss_one (ps_for PassesOwn.never rfl (pi_tup (pv 0)) (pg_name (i := 2) sc_check_locks.nd rfl (.inl rfl)) (pss_cons (ps_if (pt_not (pt_val (pe_callG (ok_is_integer T) (hr.mono (by decide)) (by rfl) T.m_is_integer (pa_cons (pv 2) pa_nil)))) (pss_one ps_never) pss_nil) (pss_one (ps_if (pt_not (pt_chain op_lt op_lt pe_int (pv 2) (pv 1))) (pss_one ps_never) pss_nil)))))), ?_⟩)
  · obtain ⟨ds, d, a, ⟨A, n, rfl, _⟩, _⟩ := h
    exact a.len
  · obtain ⟨ds, d, a, ⟨L, n, rfl, h3, rfl⟩, q⟩ := h
    obtain ⟨v, v', rfl, a1, a2⟩ := All.inv2 a
    try dsimp only [cxOf, Cx.nox, Cx.wish]
    refine q_when (b := false) (et_not (a := false || true) (et_v (K := K) (ed_isiT (n1 := "list") (n2 := "tuple") (ed_var rfl a1) rfl (by decide +kernel) (by decide +kernel)))) (fun z => nomatch z) (fun _ H1 x1 => ?_)
    have hI : EvI K (iTup K (tVar 0)) (start ["locks", "many", "lock"] [v, v']) [] H1 (iL L).length (fun i => (iL L).getD i .non) := ei_tup (ed_var rfl (a1.ex x1)) (iLlf L)
    refine s_look (W := fun σ => ∃ y, σ = [some v, some v', y]) hI ⟨none, rfl⟩ ?_ (fun σ' H' _ e => q _ _ (x1.trans e) .non)
    rintro i x σ' H' H'' hi ⟨y, rfl⟩ e1 e2 ax Nx hN
    rw [iLlen] at hi
    rw [show (iL L).getD i .non = D.int L[i] from getD_map _ _ _ hi] at ax
    obtain ⟨b1, b2⟩ := h3 L[i] (List.getElem_mem hi)
    refine g_name (q_when (b := false) (et_not (a := true) (et_v (K := K) (ed_call (ea1 (ed_var rfl ax) ea0) ⟨_, "int", rfl, rfl, rfl⟩))) (fun z => nomatch z) (fun _ H3 x3 => ?_))
    refine s_when (b := !(decide (0 < L[i]) && decide (L[i] < n))) (et_not (et_t (K := K) (ed_chain ed_int (ed_var rfl (ax.ex x3)) rd_lt (fun _ => ed_var rfl (a2.ex (((x1.trans e1).trans e2).trans x3))) (fun _ => rd_lt)))) (fun z => ?_) (fun _ H4 x4 => hN _ _ ⟨_, rfl⟩ (x3.trans x4))
    exfalso
    rw [decide_eq_true b1, decide_eq_true b2] at z
    cases z
theorem own_Row (T : Txt K mg) : OwnTy K "Row" := ⟨T.c_Row, T.cl_Row, T.sp, T.tk, T.ob_Row⟩
def R_check_row (ds : List D) (d : D) : Prop := ∃ fs, ds = [.obj "Row" fs] ∧ d = .non
theorem ok_check_row (T : Txt K mg) : FnG P w K mg base 1 (He.ga K "check_row") ["row"] (spD K R_check_row) := by
  refine fnG (N := ["row"]) (st := s_check_row) T.f_check_row sc_check_row (fun vs H Q E h => ?_) (fun _ _ _ _ _ _ us hl => match us, hl with | [_], _ => rfl) (fun cdv A outer s H vs Q E hr h => ⟨_, (pss_one (ps_if (pt_not (pt_val (pe_callB call_isi (by rfl) T.z_isinstance (by decide +kernel) (pa_cons (pv 0) (pa_cons (pe_clsN (by rfl) T.m_Row) pa_nil))))) (pss_one ps_never) pss_nil)), ?_⟩)
  · obtain ⟨ds, d, a, ⟨fs, rfl, _⟩, _⟩ := h
    exact a.len
  · obtain ⟨ds, d, a, ⟨fs, rfl, rfl⟩, q⟩ := h
    obtain ⟨v, rfl, a1⟩ := All.inv1 a
    try dsimp only [cxOf, Cx.nox, Cx.wish]
    exact s_when (b := false) (et_not (a := true) (et_v (K := K) (ed_isiO (ed_var rfl a1) (own_Row T) T.ki_Row))) (fun z => nomatch z) (fun _ H1 x1 => q _ _ x1 .non)
def R_Row (mk : List D → D) (ds : List D) (fs : List (Str × D)) : Prop := ∃ (A L : List Int) (ts : List Tv), ds = [.tup (iL A), .tup (ts.map Tv.d), mk (iL L)] ∧ 1 ≤ A.length ∧ A.length ≤ 24 ∧ (∀ a ∈ A, 1 ≤ a ∧ a ≤ 1000) ∧
  ts.length = A.length ∧ (∀ t ∈ ts, t.ok) ∧ (∀ l ∈ L, 0 < l ∧ l < (A.length : Int)) ∧ L.length < 64 ∧ fs = rowF A (ts.map Tv.q) (asc L)
theorem ok_Row_init (T : Txt K mg) (mk : List D → D) (hm : ∀ (σ : L2.St) (H : Hp) (te : TE) (L : List Int), EvD K te σ H (mk (iL L)) → EvD K te σ H (.lst (iL L)) ∨ EvD K te σ H (.tup (iL L))) {x : Addr} {dx : Addr} {v1 v2 v3 : V} {H0 H : Hp} {A L : List Int} {ts : List Tv} {Q : VK}
    {tcl : TE}
    (hx : H x = some (.ins (He.ga K "Row") dx [])) (h0 : H0 x = none) (ex : Ex H0 H) (a1 : Is K H0 v1 (.tup (iL A))) (a2 : Is K H0 v2 (.tup (ts.map Tv.d))) (a3 : Is K H0 v3 (mk (iL L)))
    (hA1 : 1 ≤ A.length) (hA2 : A.length ≤ 24) (hA : ∀ a ∈ A, 1 ≤ a ∧ a ≤ 1000) (hl : ts.length = A.length) (hok : ∀ t ∈ ts, t.ok) (hL : ∀ l ∈ L, 0 < l ∧ l < (A.length : Int)) (hL6 : L.length < 64)
    (hcl : ∀ H1, Ex H H1 → EvD K tcl [some (.ref x), some v1, some v2, some v3, none] H1 .non)
    (q : ∀ H' fvs, (∀ a o, a ≠ x → H a = some o → H' a = some o) → H' x = some (.ins (He.ga K "Row") dx fvs) → AllF K H' fvs (rowF A (ts.map Tv.q) (asc L)) → Q .non H')
    {tA tV : TE} (hcA : ∀ H1, Ex H H1 → EvD K tA [some (.ref x), some v1, some v2, some v3, none] H1 .non) (hcV : ∀ H1, Ex H H1 → EvD K tV [some (.ref x), some v1, some v2, some v3, none] H1 .non)
    {tv : TE} (hv : ∀ H1, Ex H0 H1 → EvD K tv [some (.ref x), some v1, some v2, some v3, none] H1 (.tup (frs (ts.map Tv.q)))) :
    tSeq (tDrop tA) (tSeq (tDrop tV) (tSeq (tDrop tcl) (tSeq (sFld K (tVar 0) (tCB (rTupS K) (tCons (tVar 1) tNil)) "areas") (tSeq (sFld K (tVar 0) tv "volumes") (sFld K (tVar 0) (tCB (rTupS K) (tCons (tSortSet K (tVar 3)) tNil)) "locks")))))
      { nx := fun _ H' => Q .non H', rt := Q } [some (.ref x), some v1, some v2, some v3, none] H := by
  refine q_do (hcA H (Ex.refl H)) fun H1 e1 => q_do (hcV H1 e1) fun H2 e2 => q_do (hcl H2 (e1.trans e2)) fun H3 e3 => ?_
  have E3 := ex.trans ((e1.trans e2).trans e3)
  have hx3 := ((e1.trans e2).trans e3) _ _ hx
  refine q_fld hx3 (ed_tupleT (ed_var rfl (a1.ex E3))) (ev_ref rfl) T.c_Row T.n_Row_areas (by decide) fun u1 H4 e4 i1 => ?_
  have x1 : Xe x H (upd H4 x (.ins (He.ga K "Row") dx (putF "areas" u1 []))) := (Xe.ex (((e1.trans e2).trans e3).trans e4)).trans Xe.upd
  have E4 : Ex H0 (upd H4 x (.ins (He.ga K "Row") dx (putF "areas" u1 []))) := Xe.of_none ex x1 h0
  refine q_fld upd_same (hv _ E4) (ev_ref rfl) T.c_Row T.n_Row_volumes (Nat.lt_of_le_of_lt (length_putF _ _ _) (by decide)) fun u2 H5 e5 i2 => ?_
  have x2 : Xe x H (upd H5 x (.ins (He.ga K "Row") dx (putF "volumes" u2 (putF "areas" u1 [])))) := (x1.trans (Xe.ex e5)).trans Xe.upd
  have E5 : Ex H0 (upd H5 x (.ins (He.ga K "Row") dx (putF "volumes" u2 (putF "areas" u1 [])))) := Xe.of_none ex x2 h0
  refine s_fld upd_same (ed_tuple (en_sortSet (hm _ _ _ _ (ed_var rfl (a3.ex E5))) hL6).toD) (ev_ref rfl) T.c_Row T.n_Row_locks (Nat.lt_of_le_of_lt (Nat.le_trans (length_putF _ _ _) (Nat.succ_le_succ (length_putF _ _ _))) (by decide)) fun u3 H6 e6 i3 => ?_
  have gU : ∀ {Ha : Hp} {o o' : HO} {f : List (Str × V)} {C' d' : Addr}, Ha x = some (.ins C' d' f) → Gt Ha (upd Ha x o') := fun h => Gt.upd h (fun _ z => by cases z) (fun _ _ z => by cases z)
  refine q _ _ ((x2.trans (Xe.ex e6)).trans Xe.upd) upd_same ?_
  have g1 : Gt H4 (upd H4 x (.ins (He.ga K "Row") dx (putF "areas" u1 []))) := gU (o := .own 0) (e4 _ _ hx3)
  have g2 : Gt H5 (upd H5 x (.ins (He.ga K "Row") dx (putF "volumes" u2 (putF "areas" u1 [])))) := gU (o := .own 0) (e5 _ _ upd_same)
  have g3 : Gt H6 (upd H6 x (.ins (He.ga K "Row") dx (putF "locks" u3 (putF "volumes" u2 (putF "areas" u1 []))))) := gU (o := .own 0) (e6 _ _ upd_same)
  exact .cons (i1.gt (((g1.trans (Gt.of e5)).trans g2).trans ((Gt.of e6).trans g3)) (iLlf A)) (.cons (i2.gt (g2.trans ((Gt.of e6).trans g3)) (frs_lf _)) (.cons (i3.gt g3 (iLlf _)) .nil))
theorem ok_Row___init___L (T : Txt K mg) : FnH P w K mg base 5 (He.ma K (He.ga K "Row") "__init__") ["self", "areas", "volumes", "locks"] (spI K "Row" (R_Row .lst)) [] := by
  refine fnH 4 1 (N := ["self", "areas", "volumes", "locks", "volume"]) (st := s_Row___init__) T.f_Row___init__ sc_Row___init__ (fun vs H Q E h => ?_) (List.cons_ne_nil _ _) rfl (fun _ _ _ _ _ _ _ us its h1 h2 => match us, its, h1, h2 with | [u0, u1, u2, u3], [z0], _, _ => ⟨_, rfl, rfl⟩) (fun cdv A outer s H vs Q E hr h => ⟨_, (pss_cons (ps_expr (pe_callG (ok_check_areas T) (hr.mono (by decide)) (by rfl) T.m_check_areas (pa_cons (pv 1) pa_nil))) (pss_cons (ps_expr (pe_callG (ok_check_volumes T) (hr.mono (by decide)) (by rfl) T.m_check_volumes (pa_cons (pv 2) (pa_cons (pe_callB call_lenS (by rfl) T.z_len PySem.boot_len (pa_cons (pv 1) pa_nil)) pa_nil)))) (pss_cons (ps_expr (pe_callG (ok_check_locks_L T) (hr.mono (by decide)) (by rfl) T.m_check_locks (pa_cons (pv 3) (pa_cons (pe_callB call_lenS (by rfl) T.z_len PySem.boot_len (pa_cons (pv 1) pa_nil)) pa_nil)))) (pss_cons (ps_fld (pv 0) (pe_callTy call_tupS (by rfl) T.z_tuple (by decide +kernel) (pa_cons (pv 1) pa_nil)) rfl) (pss_cons (ps_fld (pv 0) (pe_callTy call_tupS (by rfl) T.z_tuple (by decide +kernel) (pa_cons (pe_lc (own := [("volume", 4)]) rfl sc_Row___init__.nd (pi_tup (pv 2)) (blkOk_by (own := [("volume", 4)]) (N := ["self", "areas", "volumes", "locks", "volume"]) (sc := defScope s_Row___init__) (by decide +kernel)) (fun _ _ _ _ _ => (pg_name (i := 4) sc_Row___init__.nd rfl (.inl rfl))) (fun _ _ _ _ _ => pts_nil) (fun _ _ _ _ _ => (pe_callG (ok_exact T) (hr.mono (by decide)) (by rfl) T.m_exact (pa_cons (pv 4) pa_nil)))) pa_nil)) rfl) (pss_one (ps_fld (pv 0) (pe_callTy call_tupS (by rfl) T.z_tuple (by decide +kernel) (pa_cons (pe_sortSet (by rfl) T.z_sorted (by rfl) T.z_set (pv 3)) pa_nil)) rfl))))))), ?_⟩)
  · obtain ⟨x, dx, us, ds, fs, H0, rfl, _, _, _, a, ⟨A, L, ts, rfl, _⟩, _⟩ := h
    exact congrArg Nat.succ a.len
  · obtain ⟨x, dx, us, ds, fs, H0, rfl, hx, h0, ex, a, ⟨A, L, ts, rfl, hA1, hA2, hA, hl, hok, hL, hL6, rfl⟩, q⟩ := h
    obtain ⟨v1, v2, v3, rfl, a1, a2, a3⟩ := All.inv3 a
    try dsimp only [cxOf, Cx.nox, Cx.wish]
    refine ok_Row_init T .lst (fun _ _ _ _ h => .inl h) hx h0 ex a1 a2 a3 hA1 hA2 hA hl hok hL hL6 ?_ q ?_ ?_ ?_
    · exact fun H1 e => ed_call (ea1 (ed_var rfl (a3.ex (ex.trans e))) (ea1 (EvD.is (ed_lenT (K := K) (ed_var rfl (a1.ex (ex.trans e)))) (by rw [iLlen])) ea0)) ⟨L, A.length, rfl, hL, rfl⟩
    · exact fun H1 e => ed_call (ea1 (ed_var rfl (a1.ex (ex.trans e))) ea0) ⟨A, rfl, hA1, hA2, hA, rfl⟩
    · exact fun H1 e => ed_call (ea1 (ed_var rfl (a2.ex (ex.trans e))) (ea1 (EvD.is (ed_lenT (K := K) (ed_var rfl (a1.ex (ex.trans e)))) (by rw [iLlen, hl])) ea0)) ⟨ts, rfl, hok, rfl⟩
    · intro H1 e
      refine ed_tuple (EvN.is (en_lc1 (n := (ts.map Tv.d).length) (item := fun i => (ts.map Tv.d).getD i .non) (fun _ => true) (fun i => ((ts.map Tv.q).map fr).getD i .non) (fun H2 e2 => ei_tup (ed_var rfl (a2.ex (e.trans e2))) (lfs_map _ Tv.lf ts)) ?_ ?_ (fun x => rfl) (fun i x H2 _ _ _ => et_yes) ?_) ?_).toD
      · rw [List.length_map]
        omega
      · intro i hi _
        rw [List.length_map] at hi
        rw [getD_map _ _ _ (by rw [List.length_map]; exact hi)]
        rfl
      · intro i x H2 hi e2 ax _
        rw [List.length_map] at hi
        rw [getD_map _ _ _ hi] at ax
        rw [getD_map _ _ _ (by rw [List.length_map]; exact hi), List.getElem_map]
        exact ed_call (ea1 (ed_var rfl ax) ea0) (Tv.isex (hok ts[i] (List.getElem_mem hi)))
      · rw [List.length_map]
        have z := map_gives fr (ts.map Tv.q) (fun i => ((ts.map Tv.q).map fr).getD i .non) (fun i hi => getD_map _ _ _ hi)
        rw [List.length_map] at z
        exact z
theorem ok_Row___init___T (T : Txt K mg) : FnH P w K mg base 5 (He.ma K (He.ga K "Row") "__init__") ["self", "areas", "volumes", "locks"] (spI K "Row" (R_Row .tup)) [.ref (He.dflAt ("Row", some "__init__") 0 K)] := by
  refine fnH 3 0 (N := ["self", "areas", "volumes", "locks", "volume"]) (st := s_Row___init__) T.f_Row___init__ sc_Row___init__ (fun vs H Q E h => ?_) (List.cons_ne_nil _ _) rfl (fun _ _ _ _ _ _ _ us its h1 h2 => match us, its, h1, h2 with | [u0, u1, u2], [z0], _, _ => ⟨_, rfl, rfl⟩) (fun cdv A outer s H vs Q E hr h => ⟨_, (pss_cons (ps_expr (pe_callG (ok_check_areas T) (hr.mono (by decide)) (by rfl) T.m_check_areas (pa_cons (pv 1) pa_nil))) (pss_cons (ps_expr (pe_callG (ok_check_volumes T) (hr.mono (by decide)) (by rfl) T.m_check_volumes (pa_cons (pv 2) (pa_cons (pe_callB call_lenS (by rfl) T.z_len PySem.boot_len (pa_cons (pv 1) pa_nil)) pa_nil)))) (pss_cons (ps_expr (pe_callG (ok_check_locks_T T) (hr.mono (by decide)) (by rfl) T.m_check_locks (pa_cons (pv 3) (pa_cons (pe_callB call_lenS (by rfl) T.z_len PySem.boot_len (pa_cons (pv 1) pa_nil)) pa_nil)))) (pss_cons (ps_fld (pv 0) (pe_callTy call_tupS (by rfl) T.z_tuple (by decide +kernel) (pa_cons (pv 1) pa_nil)) rfl) (pss_cons (ps_fld (pv 0) (pe_callTy call_tupS (by rfl) T.z_tuple (by decide +kernel) (pa_cons (pe_lc (own := [("volume", 4)]) rfl sc_Row___init__.nd (pi_tup (pv 2)) (blkOk_by (own := [("volume", 4)]) (N := ["self", "areas", "volumes", "locks", "volume"]) (sc := defScope s_Row___init__) (by decide +kernel)) (fun _ _ _ _ _ => (pg_name (i := 4) sc_Row___init__.nd rfl (.inl rfl))) (fun _ _ _ _ _ => pts_nil) (fun _ _ _ _ _ => (pe_callG (ok_exact T) (hr.mono (by decide)) (by rfl) T.m_exact (pa_cons (pv 4) pa_nil)))) pa_nil)) rfl) (pss_one (ps_fld (pv 0) (pe_callTy call_tupS (by rfl) T.z_tuple (by decide +kernel) (pa_cons (pe_sortSet (by rfl) T.z_sorted (by rfl) T.z_set (pv 3)) pa_nil)) rfl))))))), ?_⟩)
  · obtain ⟨x, dx, us, ds, fs, H0, rfl, _, _, _, a, ⟨A, L, ts, rfl, _⟩, _⟩ := h
    exact congrArg Nat.succ a.len
  · obtain ⟨x, dx, us, ds, fs, H0, rfl, hx, h0, ex, a, ⟨A, L, ts, rfl, hA1, hA2, hA, hl, hok, hL, hL6, rfl⟩, q⟩ := h
    obtain ⟨v1, v2, v3, rfl, a1, a2, a3⟩ := All.inv3 a
    try dsimp only [cxOf, Cx.nox, Cx.wish]
    refine ok_Row_init T .tup (fun _ _ _ _ h => .inr h) hx h0 ex a1 a2 a3 hA1 hA2 hA hl hok hL hL6 ?_ q ?_ ?_ ?_
    · exact fun H1 e => ed_call (ea1 (ed_var rfl (a3.ex (ex.trans e))) (ea1 (EvD.is (ed_lenT (K := K) (ed_var rfl (a1.ex (ex.trans e)))) (by rw [iLlen])) ea0)) ⟨L, A.length, rfl, hL, rfl⟩
    · exact fun H1 e => ed_call (ea1 (ed_var rfl (a1.ex (ex.trans e))) ea0) ⟨A, rfl, hA1, hA2, hA, rfl⟩
    · exact fun H1 e => ed_call (ea1 (ed_var rfl (a2.ex (ex.trans e))) (ea1 (EvD.is (ed_lenT (K := K) (ed_var rfl (a1.ex (ex.trans e)))) (by rw [iLlen, hl])) ea0)) ⟨ts, rfl, hok, rfl⟩
    · intro H1 e
      refine ed_tuple (EvN.is (en_lc1 (n := (ts.map Tv.d).length) (item := fun i => (ts.map Tv.d).getD i .non) (fun _ => true) (fun i => ((ts.map Tv.q).map fr).getD i .non) (fun H2 e2 => ei_tup (ed_var rfl (a2.ex (e.trans e2))) (lfs_map _ Tv.lf ts)) ?_ ?_ (fun x => rfl) (fun i x H2 _ _ _ => et_yes) ?_) ?_).toD
      · rw [List.length_map]
        omega
      · intro i hi _
        rw [List.length_map] at hi
        rw [getD_map _ _ _ (by rw [List.length_map]; exact hi)]
        rfl
      · intro i x H2 hi e2 ax _
        rw [List.length_map] at hi
        rw [getD_map _ _ _ hi] at ax
        rw [getD_map _ _ _ (by rw [List.length_map]; exact hi), List.getElem_map]
        exact ed_call (ea1 (ed_var rfl ax) ea0) (Tv.isex (hok ts[i] (List.getElem_mem hi)))
      · rw [List.length_map]
        have z := map_gives fr (ts.map Tv.q) (fun i => ((ts.map Tv.q).map fr).getD i .non) (fun i hi => getD_map _ _ _ hi)
        rw [List.length_map] at z
        exact z

end
end My
end
section
set_option Elab.async false
set_option linter.all false
set_option maxRecDepth 100000
set_option maxHeartbeats 4000000
namespace My
open PySem PySem.Spec PyProof.Rows L2 Evl WD
local macro_rules | `(tactic| walk_at "exgo") => `(tactic| first | exact Ex.refl _ | assumption | (refine' Ex.trans ?ea ?eb; (case eb => assumption); (case ea => walk_at "exgo")))
local macro_rules | `(tactic| walk_at "is") => `(tactic| first | assumption | (refine' Is.ex ?e ?h; (case h => assumption); (case e => walk_at "exgo")) | exact Is.int _ | exact Is.bl _ | exact Is.non)
local macro_rules | `(tactic| walk_at "ev") => `(tactic| first
  | exact ed_int | exact ed_bl | exact ed_non | exact ed_str
  | ((with_reducible apply ed_var) <;> first | exact rfl | walk_at "is")
  | ((with_reducible apply ed_add) <;> walk_at "ev")
  | ((with_reducible apply ed_sub) <;> walk_at "ev")
  | ((with_reducible apply ed_neg) <;> walk_at "ev")
  | ((with_reducible apply ed_mulW) <;> try walk_at "ev")
  | ((with_reducible apply ed_divW) <;> try walk_at "ev")
  | ((with_reducible apply ed_mod) <;> try walk_at "ev")
  | ((with_reducible apply ed_ixT) <;> first | exact rfl | walk_at "ev" | skip)
  | ((with_reducible apply ed_ixL) <;> first | exact rfl | walk_at "ev" | skip)
  | ((with_reducible apply ed_lt) <;> walk_at "ev")
  | ((with_reducible apply ed_le) <;> walk_at "ev")
  | ((with_reducible apply ed_gt) <;> walk_at "ev")
  | ((with_reducible apply ed_ge) <;> walk_at "ev")
  | ((with_reducible apply ed_eqI) <;> walk_at "ev")
  | ((with_reducible apply ed_neI) <;> walk_at "ev")
  | ((with_reducible apply ed_gcd) <;> walk_at "ev")
  | ((with_reducible apply ed_abs) <;> walk_at "ev")
  | ((with_reducible apply ed_intI) <;> walk_at "ev")
  | ((with_reducible apply ed_intB) <;> walk_at "ev")
  | ((with_reducible apply ed_max2) <;> walk_at "ev")
  | ((with_reducible apply ed_min2) <;> walk_at "ev")
  | ((with_reducible apply ed_lenT) <;> walk_at "ev")
  | ((with_reducible apply ed_lenL) <;> walk_at "ev")
  | ((with_reducible apply ed_tuple) <;> walk_at "ev")
  | ((with_reducible apply ed_tupleT) <;> walk_at "ev")
  | ((with_reducible apply ed_tup) <;> first | walk_at "ea" | (simp; done) | skip)
  | ((with_reducible apply et_t) <;> walk_at "ev")
  | ((with_reducible apply et_v) <;> walk_at "ev"))
local macro_rules | `(tactic| walk_at "ea") => `(tactic| first
  | exact ea0
  | ((with_reducible apply ea1) <;> first | walk_at "ev" | walk_at "ea" | skip))

section
variable {P : Program} {w : World} {K : PySem.W.Frag} {mg : Str → Option Value} {base : Heap}
def okR (v : List Rat) : Prop := (∀ q ∈ v, Sm 3000 q) ∧ (∀ i, i ≤ v.length → Sm 3000 (S v i)) ∧ v.length ≤ 24
def R_Row___len__ (ds : List D) (d : D) : Prop := ∃ A v L, ds = [rowD A v L] ∧ d = .int (A.length : Int)
theorem ok_Row___len__ (T : Txt K mg) : FnG P w K mg base 1 (He.ma K (He.ga K "Row") "__len__") ["self"] (spD K R_Row___len__) := by
  refine fnG (N := ["self"]) (st := s_Row___len__) T.f_Row___len__ sc_Row___len__ (fun vs H Q E h => ?_) (fun _ _ _ _ _ _ us hl => match us, hl with | [_], _ => rfl) (fun cdv A outer s H vs Q E hr h => ⟨_, (pss_one (ps_ret (pe_callB call_lenS (by rfl) T.z_len PySem.boot_len (pa_cons (pe_fld (pv 0) rfl) pa_nil)))), ?_⟩)
  · obtain ⟨ds, d, a, ⟨A, v, L, rfl, _⟩, _⟩ := h
    exact a.len
  · obtain ⟨ds, d, a, ⟨A, v, L, rfl, rfl⟩, q⟩ := h
    obtain ⟨u, rfl, a1⟩ := All.inv1 a
    try dsimp only [cxOf, Cx.nox, Cx.wish]
    exact s_retD (EvD.is (ed_lenT (K := K) (ed_fld (ed_var rfl a1) T.c_Row T.n_Row_areas rfl)) (by rw [iLlen])) fun v2 H2 x2 i2 => q _ _ x2 i2
def inR (A L : List Int) (i : Int) : Bool := decide (0 < i) && decide (i < A.length) && !decide (i ∈ L)
def R_Row___contains__ (ds : List D) (d : D) : Prop := ∃ A v L i, ds = [rowD A v L, .int i] ∧ d = .bl (inR A L i)
theorem ok_Row___contains__ (T : Txt K mg) : FnG P w K mg base 2 (He.ma K (He.ga K "Row") "__contains__") ["self", "weir"] (spD K R_Row___contains__) := by
  refine fnG (N := ["self", "weir"]) (st := s_Row___contains__) T.f_Row___contains__ sc_Row___contains__ (fun vs H Q E h => ?_) (fun _ _ _ _ _ _ us hl => match us, hl with | [_, _], _ => rfl) (fun cdv A outer s H vs Q E hr h => ⟨_, (pss_one (ps_ret (pe_and (pe_callG (ok_is_integer T) (hr.mono (by decide)) (by rfl) T.m_is_integer (pa_cons (pv 1) pa_nil)) (pe_and (pe_chain op_lt op_lt pe_int (pv 1) (pe_callB call_lenS (by rfl) T.z_len PySem.boot_len (pa_cons (pe_fld (pv 0) rfl) pa_nil))) (pe_one (pe_cmpR op_notIn_seq (pv 1) (pe_fld (pv 0) rfl) (by rfl))))))), ?_⟩)
  · obtain ⟨ds, d, a, ⟨A, v, L, i, rfl, _⟩, _⟩ := h
    exact a.len
  · obtain ⟨ds, d, a, ⟨A, v, L, i, rfl, rfl⟩, q⟩ := h
    obtain ⟨u, u', rfl, a1, a2⟩ := All.inv2 a
    try dsimp only [cxOf, Cx.nox, Cx.wish]
    refine s_retD (EvD.is (ed_andV (K := K) (a := true) (b := (decide (0 < i) && decide (i < A.length)) && !decide (i ∈ L)) (ed_call (ea1 (ed_var rfl a2) ea0) ⟨_, "int", rfl, rfl, rfl⟩) fun _ => ed_andV (ed_chain ed_int (ed_var rfl a2) rd_lt (fun _ => EvD.is (ed_lenT (K := K) (ed_fld (ed_var rfl a1) T.c_Row T.n_Row_areas rfl)) (by rw [iLlen])) (fun _ => rd_lt)) fun _ => ed_ninT (ed_var rfl a2) (ed_fld (ed_var rfl a1) T.c_Row T.n_Row_locks rfl)) (by rw [Bool.true_and]; rfl)) fun v2 H2 x2 i2 => q _ _ x2 i2
def wrs (A L : List Int) : List Int := ((List.range (A.length - 1)).map fun i : Nat => 1 + (i : Int)).filter fun i => !decide (i ∈ L)
def R_Row_weirs (ds : List D) (es : List D) : Prop := ∃ A v L, ds = [rowD A v L] ∧ A.length ≤ 24 ∧ es = iL (wrs A L)
theorem ok_Row_weirs (T : Txt K mg) : FnG P w K mg base 1 (He.ma K (He.ga K "Row") "weirs") ["self"] (spN K R_Row_weirs) := by
  refine fnG (N := ["self", "weir"]) (st := s_Row_weirs) T.f_Row_weirs sc_Row_weirs (fun vs H Q E h => ?_) (fun _ _ _ _ _ _ us hl => match us, hl with | [_], _ => rfl) (fun cdv A outer s H vs Q E hr h => ⟨_, (pss_one (ps_ret (pe_lc (own := [("weir", 1)]) rfl sc_Row_weirs.nd (pi_range2 (by rfl) T.z_range (pa_cons pe_int (pa_cons (pe_callB call_lenS (by rfl) T.z_len PySem.boot_len (pa_cons (pe_fld (pv 0) rfl) pa_nil)) pa_nil))) (blkOk_by (own := [("weir", 1)]) (N := ["self", "weir"]) (sc := defScope s_Row_weirs) (by decide +kernel)) (fun _ _ _ _ _ => (pg_name (i := 1) sc_Row_weirs.nd rfl (.inl rfl))) (fun _ _ _ _ _ => (pts_one (pt_cmpR (notInK (K := K) rfl) (pv 1) (fldK (K := K) rfl (pv 0) (by rfl)) (by rfl)))) (fun _ _ _ _ _ => (pv 1))))), ?_⟩)
  · obtain ⟨ds, d, a, ⟨A, v, L, rfl, _⟩, _⟩ := h
    exact a.len
  · obtain ⟨ds, d, a, ⟨A, v, L, rfl, hA, rfl⟩, q⟩ := h
    obtain ⟨u, rfl, a1⟩ := All.inv1 a
    try dsimp only [cxOf, Cx.nox, Cx.wish]
    refine s_retN (K := K) (EvN.is (en_lc1 (n := ((A.length : Int) - 1).toNat) (item := fun i => .int (1 + (i : Int))) (fun i => !decide (1 + (i : Int) ∈ L)) (fun i => .int (1 + (i : Int))) (fun H2 e2 => ei_r2 (ea1 ed_int (ea1 (EvD.is (ed_lenT (K := K) (ed_fld (ed_var rfl (a1.ex e2)) T.c_Row T.n_Row_areas rfl)) (by rw [iLlen])) ea0)) (by omega)) (by omega) (fun _ _ _ => rfl) (fun x => rfl) (fun i x H2 _ e2 ax => et_t (K := K) (ed_ninT (ed_var rfl ax) (ed_fld (ed_var rfl (a1.ex e2)) T.c_Row T.n_Row_locks rfl))) (fun i x H2 _ e2 ax _ => ed_var rfl ax)) ?_) fun p xs H' hp e hq ax => q p xs H' hp e hq ax
    unfold gives wrs iL
    rw [show ((A.length : Int) - 1).toNat = A.length - 1 from by omega, List.filter_map, List.map_map]
    rfl
def R_Row_sums (ds : List D) (es : List D) : Prop := ∃ A v L, ds = [rowD A v L] ∧ okR v ∧ es = (List.range (v.length + 1)).map fun j => fr (S v j)
theorem ok_Row_sums (T : Txt K mg) : FnG P w K mg base 2 (He.ma K (He.ga K "Row") "sums") ["self"] (spN K R_Row_sums) := by
  refine fnG (N := ["self", "found", "volume"]) (st := s_Row_sums) T.f_Row_sums sc_Row_sums (fun vs H Q E h => ?_) (fun _ _ _ _ _ _ us hl => match us, hl with | [_], _ => rfl) (fun cdv A outer s H vs Q E hr h => ⟨_, (pss_cons (ps_asg (pe_lst (pa_cons (pe_tup (pa_cons pe_int (pa_cons pe_int pa_nil))) pa_nil)) (pg_name (i := 1) sc_Row_sums.nd rfl (.inl rfl))) (pss_cons (ps_for PassesOwn.never rfl (pi_tup (pe_fld (pv 0) rfl)) (pg_name (i := 2) sc_Row_sums.nd rfl (.inl rfl)) (pss_one (ps_expr (pe_bm PySem.F.plainAttrs_list PySem.F.slot_list_append PySem.F.type_list_append mt_append (pv 1) (pa_cons (pe_callG (ok_plus T) (hr.mono (by decide)) (by rfl) T.m_plus (pa_cons (pe_ix ix_list (pv 1) (pe_un un_neg pe_int) (fun _ _ => rfl)) (pa_cons (pv 2) pa_nil))) pa_nil))))) (pss_one (ps_ret (pv 1))))), ?_⟩)
  · obtain ⟨ds, d, a, ⟨A, v, L, rfl, _⟩, _⟩ := h
    exact a.len
  · obtain ⟨ds, d, a, ⟨A, v, L, rfl, ⟨k1, k2, k3⟩, rfl⟩, q⟩ := h
    obtain ⟨u, rfl, a1⟩ := All.inv1 a
    try dsimp only [cxOf, Cx.nox, Cx.wish]
    refine q_asgN (K := K) (ds := [fr 0]) (en_lst (ea1 (ed_tup (ea1 ed_int (ea1 ed_int ea0)) (by show 2 ≤ 100000; decide)) ea0)) fun p xs H1 hp e1 hq ax => ?_
    refine q_grow (K := K) (f := fun j => fr (S v (j + 1))) (W := fun σ => ∃ y, σ = [some u, some (.ref p), y]) hp e1 hq ax rfl (fun _ _ => rfl) (n := v.length) (by show 1 + v.length < 100000; omega) (EvI.is (ei_tup (ed_fld (ed_var rfl (a1.ex e1)) T.c_Row T.n_Row_volumes rfl) (frs_lf v)) (frs_len v)) ⟨none, rfl⟩ ?_ ?_
    · rintro i x σ' H' ys hi ⟨y, rfl⟩ e hy ay hl ax Nx hN
      rw [getD_frs v i hi] at ax
      refine g_name (s_appD (K := K) (d := fr (S v (i + 1))) hy (ev_ref rfl) (ed_call (ea1 (ed_ixL (ed_var rfl (.lst (.inl hy) ay)) (ed_neg ed_int) ?_) (ea1 (ed_var rfl ax) ea0)) ⟨S v i, v[i], rfl, (k2 i (by omega)).mono (by decide), (k1 _ (List.getElem_mem hi)).mono (by decide), by rw [S_succ v i hi]⟩) hl fun z H2 e2 az => hN _ _ _ ⟨_, rfl⟩ e2 az)
      cases i with
      | zero => rfl
      | succ i =>
        rw [List.range_succ, List.map_append, ← List.append_assoc]
        exact ix_last _ _
    · rintro σ' H' ys ⟨y, rfl⟩ e hy ay
      refine ⟨_, rfl, q p ys H' hp e hy ?_⟩
      rw [List.range_succ_eq_map, List.map_cons, List.map_map]
      exact ay

end
end My
end
section
set_option Elab.async false
set_option linter.all false
set_option maxRecDepth 100000
set_option maxHeartbeats 4000000
namespace My
open PySem PySem.Spec PyProof.Rows L2 Evl WD
local macro_rules | `(tactic| walk_at "exgo") => `(tactic| first | exact Ex.refl _ | assumption | (refine' Ex.trans ?ea ?eb; (case eb => assumption); (case ea => walk_at "exgo")))
local macro_rules | `(tactic| walk_at "is") => `(tactic| first | assumption | (refine' Is.ex ?e ?h; (case h => assumption); (case e => walk_at "exgo")) | exact Is.int _ | exact Is.bl _ | exact Is.non)
local macro_rules | `(tactic| walk_at "ev") => `(tactic| first
  | exact ed_int | exact ed_bl | exact ed_non | exact ed_str
  | ((with_reducible apply ed_var) <;> first | exact rfl | walk_at "is")
  | ((with_reducible apply ed_add) <;> walk_at "ev")
  | ((with_reducible apply ed_sub) <;> walk_at "ev")
  | ((with_reducible apply ed_neg) <;> walk_at "ev")
  | ((with_reducible apply ed_mulW) <;> try walk_at "ev")
  | ((with_reducible apply ed_divW) <;> try walk_at "ev")
  | ((with_reducible apply ed_mod) <;> try walk_at "ev")
  | ((with_reducible apply ed_ixT) <;> first | exact rfl | walk_at "ev" | skip)
  | ((with_reducible apply ed_ixL) <;> first | exact rfl | walk_at "ev" | skip)
  | ((with_reducible apply ed_lt) <;> walk_at "ev")
  | ((with_reducible apply ed_le) <;> walk_at "ev")
  | ((with_reducible apply ed_gt) <;> walk_at "ev")
  | ((with_reducible apply ed_ge) <;> walk_at "ev")
  | ((with_reducible apply ed_eqI) <;> walk_at "ev")
  | ((with_reducible apply ed_neI) <;> walk_at "ev")
  | ((with_reducible apply ed_gcd) <;> walk_at "ev")
  | ((with_reducible apply ed_abs) <;> walk_at "ev")
  | ((with_reducible apply ed_intI) <;> walk_at "ev")
  | ((with_reducible apply ed_intB) <;> walk_at "ev")
  | ((with_reducible apply ed_max2) <;> walk_at "ev")
  | ((with_reducible apply ed_min2) <;> walk_at "ev")
  | ((with_reducible apply ed_lenT) <;> walk_at "ev")
  | ((with_reducible apply ed_lenL) <;> walk_at "ev")
  | ((with_reducible apply ed_tuple) <;> walk_at "ev")
  | ((with_reducible apply ed_tupleT) <;> walk_at "ev")
  | ((with_reducible apply ed_tup) <;> first | walk_at "ea" | (simp; done) | skip)
  | ((with_reducible apply et_t) <;> walk_at "ev")
  | ((with_reducible apply et_v) <;> walk_at "ev"))
local macro_rules | `(tactic| walk_at "ea") => `(tactic| first
  | exact ea0
  | ((with_reducible apply ea1) <;> first | walk_at "ev" | walk_at "ea" | skip))

section
variable {P : Program} {w : World} {K : PySem.W.Frag} {mg : Str → Option Value} {base : Heap}
theorem gtI {H : Hp} {x C d : Addr} {f : List (Str × V)} {o : HO} (h : H x = some (.ins C d f)) : Gt H (upd H x o) := Gt.upd h (fun _ z => by cases z) (fun _ _ z => by cases z)
theorem row_fvs {H : Hp} {A L : List Int} {v : List Rat} {fvs : List (Str × V)} (a : AllF K H fvs (rowF A v L)) : ∃ x1 x2 x3, fvs = ([("areas", x1), ("volumes", x2), ("locks", x3)] : List (Str × V)) := by
  cases a with
  | cons h1 a =>
    cases a with
    | cons h2 a =>
      cases a with
      | cons h3 a =>
        cases a
        exact ⟨_, _, _, rfl⟩
def R_with_volumes (ds : List D) (d : D) : Prop := ∃ A v v' L, ds = [rowD A v L, .tup (frs v')] ∧ d = rowD A v' L
theorem ok_with_volumes (T : Txt K mg) : FnG P w K mg base 7 (He.ga K "with_volumes") ["row", "volumes"] (spD K R_with_volumes) := by
  refine fnG (N := ["row", "volumes", "late"]) (st := s_with_volumes) T.f_with_volumes sc_with_volumes (fun vs H Q E h => ?_) (fun _ _ _ _ _ _ us hl => match us, hl with | [_, _], _ => rfl) (fun cdv A outer s H vs Q E hr h => ⟨_, (pss_cons (ps_asg (pe_makeH T.k_Row (ok_Row___init___T T) (hr.mono (by decide)) (by rfl) T.m_Row (pa_cons (pe_tup (pa_cons pe_int pa_nil)) (pa_cons (pe_tup (pa_cons pe_int pa_nil)) pa_nil))) (pg_name (i := 2) sc_with_volumes.nd rfl (.inl rfl))) (pss_cons (ps_fld (pv 2) (pe_fld (pv 0) rfl) rfl) (pss_cons (ps_fld (pv 2) (pe_callTy call_tupS (by rfl) T.z_tuple (by decide +kernel) (pa_cons (pv 1) pa_nil)) rfl) (pss_cons (ps_fld (pv 2) (pe_fld (pv 0) rfl) rfl) (pss_one (ps_ret (pv 2))))))), ?_⟩)
  · obtain ⟨ds, d, a, ⟨A, v, v', L, rfl, _⟩, _⟩ := h
    exact a.len
  · obtain ⟨ds, d, a, ⟨A, v, v', L, rfl, rfl⟩, q⟩ := h
    obtain ⟨u, u', rfl, a1, a2⟩ := All.inv2 a
    try dsimp only [cxOf, Cx.nox, Cx.wish]
    refine q_asgO (K := K) (eo_make (es := [.tup (iL [])]) (ea1 (ed_tup (ea1 ed_int ea0) (by show 1 ≤ 100000; decide)) (ea1 (ed_tup (ea1 ed_int ea0) (by show 1 ≤ 100000; decide)) ea0)) (fun H => .cons (.tup (tupA_ok T.t_Row___init___0 H) .nil) .nil)
      ⟨[1], [], [.i 0], rfl, by decide, by decide, by decide, rfl, fun t h => ?_, (fun l h => nomatch h), by decide, rfl⟩) fun x dx fvs H1 nx e1 hx af => ?_
    · cases List.mem_singleton.mp h
      exact ⟨Int.le_refl _, Nat.two_pow_pos _⟩
    · obtain ⟨x1, x2, x3, rfl⟩ := row_fvs af
      refine q_fld hx (ed_fld (ed_var rfl (a1.ex e1)) T.c_Row T.n_Row_areas rfl) (ev_ref rfl) T.c_Row T.n_Row_areas (by show 3 < 1000; decide) fun w1 H2 e2 i1 => ?_
      have E1 : Ex H (upd H2 x (.ins (He.ga K "Row") dx (putF "areas" w1 [("areas", x1), ("volumes", x2), ("locks", x3)]))) := Ex.updN (e1.trans e2) nx
      refine q_fld upd_same (ed_tupleT (ed_var rfl (a2.ex E1))) (ev_ref rfl) T.c_Row T.n_Row_volumes (by show 3 < 1000; decide) fun w2 H3 e3 i2 => ?_
      have E2 : Ex H (upd H3 x (.ins (He.ga K "Row") dx (putF "volumes" w2 (putF "areas" w1 [("areas", x1), ("volumes", x2), ("locks", x3)])))) := Ex.updN (E1.trans e3) nx
      refine q_fld upd_same (ed_fld (ed_var rfl (a1.ex E2)) T.c_Row T.n_Row_locks rfl) (ev_ref rfl) T.c_Row T.n_Row_locks (by show 3 < 1000; decide) fun w3 H4 e4 i3 => ?_
      have E3 := Ex.updN (o := .ins (He.ga K "Row") dx (putF "locks" w3 (putF "volumes" w2 (putF "areas" w1 [("areas", x1), ("volumes", x2), ("locks", x3)])))) (E2.trans e4) nx
      refine ⟨_, rfl, q _ _ E3 (.obj upd_same (.cons (i1.gt ((((gtI (e2 _ _ hx)).trans (Gt.of e3)).trans (gtI (e3 _ _ upd_same))).trans ((Gt.of e4).trans (gtI (e4 _ _ upd_same)))) (iLlf A)) (.cons (i2.gt ((gtI (e3 _ _ upd_same)).trans ((Gt.of e4).trans (gtI (e4 _ _ upd_same)))) (frs_lf _)) (.cons (i3.gt (gtI (e4 _ _ upd_same)) (iLlf _)) .nil))))⟩

end
end My
end
section
set_option Elab.async false
set_option linter.all false
set_option maxRecDepth 100000
set_option maxHeartbeats 4000000
namespace My
open PySem PySem.Spec PyProof.Rows L2 Evl WD
local macro_rules | `(tactic| walk_at "exgo") => `(tactic| first | exact Ex.refl _ | assumption | (refine' Ex.trans ?ea ?eb; (case eb => assumption); (case ea => walk_at "exgo")))
local macro_rules | `(tactic| walk_at "is") => `(tactic| first | assumption | (refine' Is.ex ?e ?h; (case h => assumption); (case e => walk_at "exgo")) | exact Is.int _ | exact Is.bl _ | exact Is.non)
local macro_rules | `(tactic| walk_at "ev") => `(tactic| first
  | exact ed_int | exact ed_bl | exact ed_non | exact ed_str
  | ((with_reducible apply ed_var) <;> first | exact rfl | walk_at "is")
  | ((with_reducible apply ed_add) <;> walk_at "ev")
  | ((with_reducible apply ed_sub) <;> walk_at "ev")
  | ((with_reducible apply ed_neg) <;> walk_at "ev")
  | ((with_reducible apply ed_mulW) <;> try walk_at "ev")
  | ((with_reducible apply ed_divW) <;> try walk_at "ev")
  | ((with_reducible apply ed_mod) <;> try walk_at "ev")
  | ((with_reducible apply ed_ixT) <;> first | exact rfl | walk_at "ev" | skip)
  | ((with_reducible apply ed_ixL) <;> first | exact rfl | walk_at "ev" | skip)
  | ((with_reducible apply ed_lt) <;> walk_at "ev")
  | ((with_reducible apply ed_le) <;> walk_at "ev")
  | ((with_reducible apply ed_gt) <;> walk_at "ev")
  | ((with_reducible apply ed_ge) <;> walk_at "ev")
  | ((with_reducible apply ed_eqI) <;> walk_at "ev")
  | ((with_reducible apply ed_neI) <;> walk_at "ev")
  | ((with_reducible apply ed_gcd) <;> walk_at "ev")
  | ((with_reducible apply ed_abs) <;> walk_at "ev")
  | ((with_reducible apply ed_intI) <;> walk_at "ev")
  | ((with_reducible apply ed_intB) <;> walk_at "ev")
  | ((with_reducible apply ed_max2) <;> walk_at "ev")
  | ((with_reducible apply ed_min2) <;> walk_at "ev")
  | ((with_reducible apply ed_lenT) <;> walk_at "ev")
  | ((with_reducible apply ed_lenL) <;> walk_at "ev")
  | ((with_reducible apply ed_tuple) <;> walk_at "ev")
  | ((with_reducible apply ed_tupleT) <;> walk_at "ev")
  | ((with_reducible apply ed_tup) <;> first | walk_at "ea" | (simp; done) | skip)
  | ((with_reducible apply et_t) <;> walk_at "ev")
  | ((with_reducible apply et_v) <;> walk_at "ev"))
local macro_rules | `(tactic| walk_at "ea") => `(tactic| first
  | exact ea0
  | ((with_reducible apply ea1) <;> first | walk_at "ev" | walk_at "ea" | skip))

section
variable {P : Program} {w : World} {K : PySem.W.Frag} {mg : Str → Option Value} {base : Heap}
theorem atI_nat {α : Type} {xs : List α} {j : Nat} (h : j < xs.length) : atI xs (j : Int) = some xs[j] := by
  unfold atI ixN
  rw [if_pos (Int.natCast_nonneg j), if_pos (by omega)]
  show xs[(j : Int).toNat]? = _
  rw [Int.toNat_natCast, List.getElem?_eq_getElem h]
theorem at_iL {A : List Int} {j : Nat} (h : j < A.length) : atI (iL A) (j : Int) = some (.int (A.getD j 1)) := by
  rw [atI_nat (by rw [iLlen]; exact h)]
  unfold iL
  rw [List.getElem_map, List.getD_eq_getElem?_getD, List.getElem?_eq_getElem h] <;> rfl
theorem at_frs {v : List Rat} {j : Nat} (h : j < v.length) : atI (frs v) (j : Int) = some (fr (v.getD j 0)) := by
  rw [atI_nat (by rw [frs_len]; exact h)]
  unfold WD.frs
  rw [List.getElem_map, List.getD_eq_getElem?_getD, List.getElem?_eq_getElem h] <;> rfl
theorem gd_mem {α : Type} {v : List α} {j : Nat} {z : α} (h : j < v.length) : v.getD j z ∈ v := by
  rw [List.getD_eq_getElem?_getD, List.getElem?_eq_getElem h]
  exact List.getElem_mem h
theorem sh_fr (q : Rat) : Sh (fr q) := ⟨rfl, rfl⟩
theorem eqv_fr (p q : Rat) : PyData.eqv (fr p).py (fr q).py = decide (p = q) := by
  show ((p.num == q.num) && (((p.den : Int) == (q.den : Int)) && true)) = _
  rw [Bool.eq_iff_iff, Bool.and_true, Bool.and_eq_true, beq_iff_eq, beq_iff_eq, decide_eq_true_iff]
  constructor
  · rintro ⟨a, b⟩
    exact Rat.ext a (Int.ofNat.inj b)
  · rintro rfl
    exact ⟨rfl, rfl⟩

end
end My
end
section
set_option Elab.async false
set_option linter.all false
set_option maxRecDepth 100000
set_option maxHeartbeats 4000000
namespace My
open PySem PySem.Spec PyProof.Rows L2 Evl WD
local macro_rules | `(tactic| walk_at "exgo") => `(tactic| first | exact Ex.refl _ | assumption | (refine' Ex.trans ?ea ?eb; (case eb => assumption); (case ea => walk_at "exgo")))
local macro_rules | `(tactic| walk_at "is") => `(tactic| first | assumption | (refine' Is.ex ?e ?h; (case h => assumption); (case e => walk_at "exgo")) | exact Is.int _ | exact Is.bl _ | exact Is.non)
local macro_rules | `(tactic| walk_at "ev") => `(tactic| first
  | exact ed_int | exact ed_bl | exact ed_non | exact ed_str
  | ((with_reducible apply ed_var) <;> first | exact rfl | walk_at "is")
  | ((with_reducible apply ed_add) <;> walk_at "ev")
  | ((with_reducible apply ed_sub) <;> walk_at "ev")
  | ((with_reducible apply ed_neg) <;> walk_at "ev")
  | ((with_reducible apply ed_mulW) <;> try walk_at "ev")
  | ((with_reducible apply ed_divW) <;> try walk_at "ev")
  | ((with_reducible apply ed_mod) <;> try walk_at "ev")
  | ((with_reducible apply ed_ixT) <;> first | exact rfl | walk_at "ev" | skip)
  | ((with_reducible apply ed_ixL) <;> first | exact rfl | walk_at "ev" | skip)
  | ((with_reducible apply ed_lt) <;> walk_at "ev")
  | ((with_reducible apply ed_le) <;> walk_at "ev")
  | ((with_reducible apply ed_gt) <;> walk_at "ev")
  | ((with_reducible apply ed_ge) <;> walk_at "ev")
  | ((with_reducible apply ed_eqI) <;> walk_at "ev")
  | ((with_reducible apply ed_neI) <;> walk_at "ev")
  | ((with_reducible apply ed_gcd) <;> walk_at "ev")
  | ((with_reducible apply ed_abs) <;> walk_at "ev")
  | ((with_reducible apply ed_intI) <;> walk_at "ev")
  | ((with_reducible apply ed_intB) <;> walk_at "ev")
  | ((with_reducible apply ed_max2) <;> walk_at "ev")
  | ((with_reducible apply ed_min2) <;> walk_at "ev")
  | ((with_reducible apply ed_lenT) <;> walk_at "ev")
  | ((with_reducible apply ed_lenL) <;> walk_at "ev")
  | ((with_reducible apply ed_tuple) <;> walk_at "ev")
  | ((with_reducible apply ed_tupleT) <;> walk_at "ev")
  | ((with_reducible apply ed_tup) <;> first | walk_at "ea" | (simp; done) | skip)
  | ((with_reducible apply et_t) <;> walk_at "ev")
  | ((with_reducible apply et_v) <;> walk_at "ev"))
local macro_rules | `(tactic| walk_at "ea") => `(tactic| first
  | exact ea0
  | ((with_reducible apply ea1) <;> first | walk_at "ev" | walk_at "ea" | skip))

section
variable {P : Program} {w : World} {K : PySem.W.Frag} {mg : Str → Option Value} {base : Heap}
structure LineIs (K : PySem.W.Frag) (H : Hp) (x p r : Addr) (A : List Int) (B : Nat) (s : List Rat) (ts : List Int) (bs : List Nat) (dx : Addr) (va : V) : Prop where
  ob : H x = some (.ins (He.ga K "Line") dx [("areas", va), ("bottom", .int (B : Int)), ("tops", .ref p), ("bottoms", .ref r)])
  ar : Is K H va (.tup (iL A))
  pr : p ≠ r
  xp : x ≠ p
  xr : x ≠ r
  tp : H p = some (.lst (ts.map V.int))
  bp : H r = some (.lst ((bs.map Int.ofNat).map V.int))
  lt : ts.length = s.length
  lb : bs.length = s.length
  eq : ∀ j (h : j < s.length), 0 < bs[j] ∧ bs[j] ∣ B ∧ ((ts[j] : Int) : Rat) = s[j] * ((bs[j] : Int) : Rat)
/-- a line: what stands ahead of each weir, told with a number below that is a multiple of all -/
def LineAt (K : PySem.W.Frag) (H : Hp) (x p r : Addr) (A : List Int) (B : Nat) (s : List Rat) : Prop := ∃ ts bs dx va, LineIs K H x p r A B s ts bs dx va
structure LineOk (A : List Int) (B : Nat) (s : List Rat) : Prop where
  len : s.length = A.length + 1
  al : A.length ≤ 24
  ar : ∀ a ∈ A, 1 ≤ a ∧ a ≤ 1000
  b0 : 0 < B
  bs : B < 2 ^ 2000
  lo : ∀ q ∈ s, 0 ≤ q
  hi : ∀ q ∈ s, q ≤ ((2 ^ 900 : Int) : Rat)
theorem LineAt.ex {H H' : Hp} {x p r : Addr} {A : List Int} {B : Nat} {s : List Rat} (h : LineAt K H x p r A B s) (e : Ex H H') : LineAt K H' x p r A B s := by
  obtain ⟨ts, bs, dx, va, h⟩ := h
  exact ⟨ts, bs, dx, va, ⟨e _ _ h.ob, h.ar.ex e, h.pr, h.xp, h.xr, e _ _ h.tp, e _ _ h.bp, h.lt, h.lb, h.eq⟩⟩
theorem LineAt.mu {H H' : Hp} {L : List Addr} {x p r : Addr} {A : List Int} {B : Nat} {s : List Rat} (h : LineAt K H x p r A B s) (m : Mu L H H') (n : ∀ l ∈ L, l ≠ x ∧ l ≠ p ∧ l ≠ r) : LineAt K H' x p r A B s := by
  obtain ⟨ts, bs, dx, va, h⟩ := h
  exact ⟨ts, bs, dx, va, ⟨m.keep (fun z => (n _ z).1 rfl) h.ob, h.ar.gt m.2 (iLlf A), h.pr, h.xp, h.xr, m.keep (fun z => (n _ z).2.1 rfl) h.tp, m.keep (fun z => (n _ z).2.2 rfl) h.bp, h.lt, h.lb, h.eq⟩⟩
theorem at_ints {L : List Int} {j : Nat} (h : j < L.length) : atI (iL L) (j : Int) = some (.int L[j]) := by
  rw [atI_nat (by rw [iLlen]; exact h)]
  unfold iL
  rw [List.getElem_map]
theorem ixN_nat {n j : Nat} (h : j < n) : ixN n (j : Int) = some j := by
  unfold ixN
  rw [if_pos (Int.natCast_nonneg j), if_pos (by omega)] <;> rfl
theorem top_small {A : List Int} {B : Nat} {s : List Rat} (ok : LineOk A B s) {j : Nat} (h : j < s.length) {t : Int} {b : Nat} (hb : b ≤ B) (e : (t : Rat) = s[j] * ((b : Int) : Rat)) : t.natAbs < 2 ^ 2901 := by
  have h0 := ok.lo _ (List.getElem_mem h)
  have h1 := ok.hi _ (List.getElem_mem h)
  have hb0 : (0 : Rat) ≤ ((b : Int) : Rat) := by exact_mod_cast Int.natCast_nonneg b
  have h2 : (0 : Rat) ≤ (t : Rat) := by
    rw [e]
    exact Rat.mul_nonneg h0 hb0
  have h3 : (t : Rat) ≤ ((2 ^ 900 * (b : Int) : Int) : Rat) := by
    rw [e, Rat.intCast_mul]
    exact Rat.mul_le_mul_of_nonneg_right h1 hb0
  have h4 : 0 ≤ t := by exact_mod_cast h2
  have h5 : t ≤ 2 ^ 900 * (b : Int) := by exact_mod_cast h3
  have h6 : b < 2 ^ 2000 := Nat.lt_of_le_of_lt hb ok.bs
  have h7 : t.natAbs ≤ 2 ^ 900 * b := by
    have : ((2 ^ 900 * b : Nat) : Int) = 2 ^ 900 * (b : Int) := by
      rw [Int.natCast_mul]
      rfl
    omega
  have h8 : 2 ^ 900 * b < 2 ^ 900 * 2 ^ 2000 := Nat.mul_lt_mul_of_pos_left h6 (Nat.two_pow_pos 900)
  rw [← Nat.pow_add] at h8
  exact Nat.lt_of_le_of_lt h7 (Nat.lt_of_lt_of_le h8 (Nat.pow_le_pow_right (by decide) (by decide)))
theorem top_eq {t : Int} {b B : Nat} {q : Rat} (h0 : 0 < b) (h : b ∣ B) (e : (t : Rat) = q * ((b : Int) : Rat)) : ((t * ((B : Int) / (b : Int)) : Int) : Rat) = q * ((B : Int) : Rat) := by
  obtain ⟨c, rfl⟩ := h
  rw [show (((b * c : Nat) : Int) / (b : Int)) = (c : Int) from by
    rw [Int.natCast_mul]
    exact Int.mul_ediv_cancel_left _ (by omega), Rat.intCast_mul, e, Int.natCast_mul, Rat.intCast_mul, Rat.mul_assoc]
def sp_top (K : PySem.W.Frag) : Sp := fun vs H Q _ => ∃ x p r A B s, ∃ j : Nat, vs = [.ref x, .int (j : Int)] ∧ LineAt K H x p r A B s ∧ LineOk A B s ∧ j < s.length ∧ ∀ (t : Int) H', Mu [p, r] H H' → LineAt K H' x p r A B s → (∀ h : j < s.length, (t : Rat) = s[j] * ((B : Int) : Rat)) → Q (.int t) H'
theorem ok_Line_top (T : Txt K mg) : FnG P w K mg base 1 (He.ma K (He.ga K "Line") "top") ["self", "at"] (sp_top K) := by
  refine fnG (N := ["self", "at"]) (st := s_Line_top) T.f_Line_top sc_Line_top (fun vs H Q E h => ?_) (fun _ _ _ _ _ _ us hl => match us, hl with | [_, _], _ => rfl) (fun cdv A outer s H vs Q E hr h => ⟨_, (pss_cons (ps_if (pt_cmpR op_ne (pe_ix ix_list (pe_fld (pv 0) rfl) (pv 1) (fun _ _ => rfl)) (pe_fld (pv 0) rfl) (nomark _)) (pss_cons (ps_asg (pe_op op_mulW (pe_ix ix_list (pe_fld (pv 0) rfl) (pv 1) (fun _ _ => rfl)) (pe_op op_fdivW (pe_fld (pv 0) rfl) (pe_ix ix_list (pe_fld (pv 0) rfl) (pv 1) (fun _ _ => rfl)))) (pg_sub (pe_fld (pv 0) rfl) (pv 1) set_list)) (pss_one (ps_asg (pe_fld (pv 0) rfl) (pg_sub (pe_fld (pv 0) rfl) (pv 1) set_list)))) pss_nil) (pss_one (ps_ret (pe_ix ix_list (pe_fld (pv 0) rfl) (pv 1) (fun _ _ => rfl))))), ?_⟩)
  · obtain ⟨x, p, r, A, B, s, j, rfl, _⟩ := h
    rfl
  · obtain ⟨x, p, r, A, B, s, j, rfl, ⟨ts, bs, dx, va, h⟩, ok, hj, q⟩ := h
    try dsimp only [cxOf, Cx.nox, Cx.wish]
    have jt : j < ts.length := by rw [h.lt]; exact hj
    have jb : j < bs.length := by rw [h.lb]; exact hj
    obtain ⟨q0, q1, q2⟩ := h.eq j hj
    have jb2 : j < (bs.map Int.ofNat).length := by rw [List.length_map]; exact jb
    have gb : (bs.map Int.ofNat)[j] = ((bs[j] : Nat) : Int) := List.getElem_map _
    have bl : bs[j] ≤ B := Nat.le_of_dvd ok.b0 q1
    have rtp : ∀ H1, Ex H H1 → EvD K (tFld K (tVar 0) "tops") [some (.ref x), some (.int (j : Int))] H1 (.lst (iL ts)) := fun H1 e => ed_fldX (ev_ref rfl) (e _ _ h.ob) T.c_Line T.n_Line_tops rfl (.lst (.inl (e _ _ h.tp)) (all_ints _ _))
    have rbp : ∀ H1, Ex H H1 → EvD K (tFld K (tVar 0) "bottoms") [some (.ref x), some (.int (j : Int))] H1 (.lst (iL (bs.map Int.ofNat))) := fun H1 e => ed_fldX (ev_ref rfl) (e _ _ h.ob) T.c_Line T.n_Line_bottoms rfl (.lst (.inl (e _ _ h.bp)) (all_ints _ _))
    have rbo : ∀ H1, Ex H H1 → EvD K (tFld K (tVar 0) "bottom") [some (.ref x), some (.int (j : Int))] H1 (.int (B : Int)) := fun H1 e => ed_fldX (ev_ref rfl) (e _ _ h.ob) T.c_Line T.n_Line_bottom rfl (.int _)
    have fin : ∀ (ts' : List Int) (bs' : List Nat) (H' : Hp), Mu [p, r] H H' → LineIs K H' x p r A B s ts' bs' dx va → (∀ h : j < ts'.length, ((ts'[j] : Int) : Rat) = s[j] * ((B : Int) : Rat)) → tRet (tOp (rIxL K) (tFld K (tVar 0) "tops") (tVar 1)) { nx := fun _ H' => Q .non H', rt := Q } [some (.ref x), some (.int (j : Int))] H' := by
      intro ts' bs' H' mu l' e'
      have jt' : j < ts'.length := by rw [l'.lt]; exact hj
      refine s_retD (K := K) (d := .int ts'[j]) (ed_ixL (ed_fldX (ev_ref rfl) l'.ob T.c_Line T.n_Line_tops rfl (.lst (.inl l'.tp) (all_ints _ _))) (ed_var rfl (.int _)) (at_ints jt')) fun v H2 e2 i2 => ?_
      cases i2
      exact q _ _ (mu.trans (Mu.ex e2)) (LineAt.ex ⟨ts', bs', dx, va, l'⟩ e2) fun _ => e' jt'
    refine q_when (b := !decide (((bs[j] : Nat) : Int) = (B : Int))) (et_t (EvD.is (ed_neI (K := K) (ed_ixL (d := .int ((bs[j] : Nat) : Int)) (rbp H (Ex.refl H)) (ed_var rfl (.int _)) (by rw [at_ints jb2, gb])) (rbo H (Ex.refl H))) rfl)) (fun hb H1 e1 => ?_) (fun hb H1 e1 => ?_)
    · have hx1 := e1 _ _ h.ob
      have htp1 := e1 _ _ h.tp
      have hbp1 := e1 _ _ h.bp
      refine q_setD (K := K) (d := .int (ts[j] * ((B : Int) / ((bs[j] : Nat) : Int)))) htp1 (ed_mulW (ed_ixL (rtp H1 e1) (ed_var rfl (.int _)) (by rw [at_ints jt])) (ed_divW (rbo H1 e1) (ed_ixL (rbp H1 e1) (ed_var rfl (.int _)) (by rw [at_ints jb2, gb])) (divW (b := 2000) q0 (Nat.lt_of_le_of_lt bl ok.bs))) (mulW (a := 2901) (b := 2000) (top_small ok hj bl q2) ?_)) (ev_fldX (ev_ref rfl) hx1 T.c_Line T.n_Line_tops rfl) (ed_var (d := .int (j : Int)) rfl (.int _)) (ixN_nat (by rw [List.length_map]; exact jt)) fun v1 H2 e2 i1 => ?_
      · rw [← Int.natCast_ediv, Int.natAbs_natCast]
        exact Nat.lt_of_le_of_lt (Nat.div_le_self _ _) ok.bs
      · cases i1
        have hx2 := e2 _ _ hx1
        have htp2 := e2 _ _ htp1
        have hbp2 := e2 _ _ hbp1
        have ox : ∀ o, (upd H2 p o) x = some (.ins (He.ga K "Line") dx [("areas", va), ("bottom", .int (B : Int)), ("tops", .ref p), ("bottoms", .ref r)]) := fun o => by rw [upd_ne h.xp]; exact hx2
        have orr : ∀ o, (upd H2 p o) r = some (.lst ((bs.map Int.ofNat).map V.int)) := fun o => by rw [upd_ne h.pr.symm]; exact hbp2
        refine s_setD (K := K) (d := .int (B : Int)) (orr _) (ed_fldX (ev_ref rfl) (ox _) T.c_Line T.n_Line_bottom rfl (.int _)) (ev_fldX (ev_ref rfl) (ox _) T.c_Line T.n_Line_bottoms rfl) (ed_var (d := .int (j : Int)) rfl (.int _)) (ixN_nat (by rw [List.length_map]; exact jb2)) fun v2 H3 e3 i2 => ?_
        cases i2
        have g2 : Gt H2 (upd H2 p (.lst ((ts.map V.int).set j (V.int (ts[j] * ((B : Int) / ((bs[j] : Nat) : Int))))))) := Gt.lst htp2
        have g3 : Gt H3 (upd H3 r (.lst (((bs.map Int.ofNat).map V.int).set j (V.int (B : Int))))) := Gt.lst (e3 _ _ (orr _))
        refine fin (ts.set j (ts[j] * ((B : Int) / ((bs[j] : Nat) : Int)))) (bs.set j B) _ ?_ ⟨?_, ?_, h.pr, h.xp, h.xr, ?_, ?_, by rw [List.length_set]; exact h.lt, by rw [List.length_set]; exact h.lb, ?_⟩ ?_
        · exact ((Mu.ex (e1.trans e2)).trans (Mu.upd (List.mem_cons_self ..) htp2)).trans ((Mu.ex e3).trans (Mu.upd (List.mem_cons_of_mem _ (List.mem_singleton.mpr rfl)) (e3 _ _ (orr _))))
        · rw [upd_ne h.xr]
          exact e3 _ _ (ox _)
        · exact (h.ar.ex (e1.trans e2)).gt (g2.trans ((Gt.of e3).trans g3)) (iLlf A)
        · rw [upd_ne h.pr, List.map_set]
          exact e3 _ _ upd_same
        · rw [List.map_set, List.map_set]
          exact upd_same
        · intro k hk
          obtain ⟨k0, k1, k2⟩ := h.eq k hk
          by_cases kj : j = k
          · subst kj
            rw [List.getElem_set_self, List.getElem_set_self]
            refine ⟨ok.b0, Nat.dvd_refl B, ?_⟩
            exact top_eq q0 q1 q2
          · rw [List.getElem_set_ne kj, List.getElem_set_ne kj]
            exact ⟨k0, k1, k2⟩
        · intro hh
          rw [List.getElem_set_self]
          exact top_eq q0 q1 q2
    · have hb2 : bs[j] = B := by
        have : decide (((bs[j] : Nat) : Int) = (B : Int)) = true := by
          cases hc : decide (((bs[j] : Nat) : Int) = (B : Int)) with
          | true => rfl
          | false =>
            rw [hc] at hb
            cases hb
        exact Int.ofNat.inj (of_decide_eq_true this)
      refine fin ts bs H1 (Mu.ex e1) ⟨e1 _ _ h.ob, h.ar.ex e1, h.pr, h.xp, h.xr, e1 _ _ h.tp, e1 _ _ h.bp, h.lt, h.lb, h.eq⟩ fun _ => ?_
      rw [q2, hb2]

end
end My
end
section
set_option Elab.async false
set_option linter.all false
set_option maxRecDepth 100000
set_option maxHeartbeats 4000000
namespace My
open PySem PySem.Spec PyProof.Rows L2 Evl WD
local macro_rules | `(tactic| walk_at "exgo") => `(tactic| first | exact Ex.refl _ | assumption | (refine' Ex.trans ?ea ?eb; (case eb => assumption); (case ea => walk_at "exgo")))
local macro_rules | `(tactic| walk_at "is") => `(tactic| first | assumption | (refine' Is.ex ?e ?h; (case h => assumption); (case e => walk_at "exgo")) | exact Is.int _ | exact Is.bl _ | exact Is.non)
local macro_rules | `(tactic| walk_at "ev") => `(tactic| first
  | exact ed_int | exact ed_bl | exact ed_non | exact ed_str
  | ((with_reducible apply ed_var) <;> first | exact rfl | walk_at "is")
  | ((with_reducible apply ed_add) <;> walk_at "ev")
  | ((with_reducible apply ed_sub) <;> walk_at "ev")
  | ((with_reducible apply ed_neg) <;> walk_at "ev")
  | ((with_reducible apply ed_mulW) <;> try walk_at "ev")
  | ((with_reducible apply ed_divW) <;> try walk_at "ev")
  | ((with_reducible apply ed_mod) <;> try walk_at "ev")
  | ((with_reducible apply ed_ixT) <;> first | exact rfl | walk_at "ev" | skip)
  | ((with_reducible apply ed_ixL) <;> first | exact rfl | walk_at "ev" | skip)
  | ((with_reducible apply ed_lt) <;> walk_at "ev")
  | ((with_reducible apply ed_le) <;> walk_at "ev")
  | ((with_reducible apply ed_gt) <;> walk_at "ev")
  | ((with_reducible apply ed_ge) <;> walk_at "ev")
  | ((with_reducible apply ed_eqI) <;> walk_at "ev")
  | ((with_reducible apply ed_neI) <;> walk_at "ev")
  | ((with_reducible apply ed_gcd) <;> walk_at "ev")
  | ((with_reducible apply ed_abs) <;> walk_at "ev")
  | ((with_reducible apply ed_intI) <;> walk_at "ev")
  | ((with_reducible apply ed_intB) <;> walk_at "ev")
  | ((with_reducible apply ed_max2) <;> walk_at "ev")
  | ((with_reducible apply ed_min2) <;> walk_at "ev")
  | ((with_reducible apply ed_lenT) <;> walk_at "ev")
  | ((with_reducible apply ed_lenL) <;> walk_at "ev")
  | ((with_reducible apply ed_tuple) <;> walk_at "ev")
  | ((with_reducible apply ed_tupleT) <;> walk_at "ev")
  | ((with_reducible apply ed_tup) <;> first | walk_at "ea" | (simp; done) | skip)
  | ((with_reducible apply et_t) <;> walk_at "ev")
  | ((with_reducible apply et_v) <;> walk_at "ev"))
local macro_rules | `(tactic| walk_at "ea") => `(tactic| first
  | exact ea0
  | ((with_reducible apply ea1) <;> first | walk_at "ev" | walk_at "ea" | skip))

section
variable {P : Program} {w : World} {K : PySem.W.Frag} {mg : Str → Option Value} {base : Heap}
theorem em_top {te : TE} {tr : TA} {E : XK} {Q : VK} {σ : L2.St} {H : Hp} {x p r : Addr} {A : List Int} {B : Nat} {s : List Rat} {j : Nat} (h : LineAt K H x p r A B s) (ok : LineOk A B s) (hj : j < s.length) (ho : Ev te σ H (.ref x)) (hr : EvDA K tr σ H [.int (j : Int)])
    (k : ∀ (t : Int) H', Mu [p, r] H H' → LineAt K H' x p r A B s → (t : Rat) = s[j] * ((B : Int) : Rat) → Q (.int t) H') : tMeth (He.ga K "Line") "top" (sp_top K) [] E te tr σ H Q := by
  obtain ⟨ts, bs, dx, va, l⟩ := id h
  refine em_meth ho l.ob rfl hr fun vs H1 e1 a => ?_
  obtain ⟨v, rfl, a1⟩ := All.inv1 a
  cases a1
  exact ⟨x, p, r, A, B, s, j, rfl, h.ex e1, ok, hj, fun t H' m l' e' => k t H' ((Mu.ex e1).trans m) l' (e' hj)⟩
theorem LineAt.areas {H : Hp} {x p r : Addr} {A : List Int} {B : Nat} {s : List Rat} (T : Txt K mg) (h : LineAt K H x p r A B s) {te : TE} {σ : L2.St} (ho : Ev te σ H (.ref x)) : EvD K (tFld K te "areas") σ H (.tup (iL A)) := by
  obtain ⟨ts, bs, dx, va, l⟩ := h
  exact ed_fldX ho l.ob T.c_Line T.n_Line_areas rfl l.ar
def sp_inside (K : PySem.W.Frag) : Sp := fun vs H Q _ => ∃ x p r A B s, ∃ j : Nat, vs = [.ref x, .int (j : Int)] ∧ LineAt K H x p r A B s ∧ LineOk A B s ∧ j + 1 < s.length ∧ ∀ (t : Int) H', Mu [p, r] H H' → LineAt K H' x p r A B s → (∀ h : j + 1 < s.length, (t : Rat) = (s[j + 1] - s[j]) * ((B : Int) : Rat)) → Q (.int t) H'
theorem ok_Line_inside (T : Txt K mg) : FnG P w K mg base 2 (He.ma K (He.ga K "Line") "inside") ["self", "basin"] (sp_inside K) := by
  refine fnG (N := ["self", "basin"]) (st := s_Line_inside) T.f_Line_inside sc_Line_inside (fun vs H Q E h => ?_) (fun _ _ _ _ _ _ us hl => match us, hl with | [_, _], _ => rfl) (fun cdv A outer s H vs Q E hr h => ⟨_, (pss_one (ps_ret (pe_op op_sub (pe_methG (pv 0) T.c_Line T.x_Line_top (ok_Line_top T) (hr.mono (by decide)) (pa_cons (pe_op op_add (pv 1) pe_int) pa_nil)) (pe_methG (pv 0) T.c_Line T.x_Line_top (ok_Line_top T) (hr.mono (by decide)) (pa_cons (pv 1) pa_nil))))), ?_⟩)
  · obtain ⟨x, p, r, A, B, s, j, rfl, _⟩ := h
    rfl
  · obtain ⟨x, p, r, A, B, s, j, rfl, h, ok, hj, q⟩ := h
    try dsimp only [cxOf, Cx.nox, Cx.wish]
    refine em_top (j := j + 1) h ok hj (ev_ref rfl) (ea1 (EvD.is (ed_add (ed_var rfl (.int _)) ed_int) (by rw [Int.natCast_add]; rfl)) ea0) fun t1 H1 m1 l1 e1 => ?_
    refine em_top (j := j) l1 ok (by omega) (ev_ref rfl) (ea1 (ed_var rfl (.int _)) ea0) fun t2 H2 m2 l2 e2 => ?_
    refine ⟨t1, t2, rfl, rfl, q (t1 - t2) H2 (m1.trans m2) l2 fun _ => ?_⟩
    rw [Rat.intCast_sub, e1, e2]
    grind
theorem em_inside {te : TE} {tr : TA} {E : XK} {Q : VK} {σ : L2.St} {H : Hp} {x p r : Addr} {A : List Int} {B : Nat} {s : List Rat} {j : Nat} (h : LineAt K H x p r A B s) (ok : LineOk A B s) (hj : j + 1 < s.length) (ho : Ev te σ H (.ref x)) (hr : EvDA K tr σ H [.int (j : Int)])
    (k : ∀ (t : Int) H', Mu [p, r] H H' → LineAt K H' x p r A B s → (t : Rat) = (s[j + 1] - s[j]) * ((B : Int) : Rat) → Q (.int t) H') : tMeth (He.ga K "Line") "inside" (sp_inside K) [] E te tr σ H Q := by
  obtain ⟨ts, bs, dx, va, l⟩ := id h
  refine em_meth ho l.ob rfl hr fun vs H1 e1 a => ?_
  obtain ⟨v, rfl, a1⟩ := All.inv1 a
  cases a1
  exact ⟨x, p, r, A, B, s, j, rfl, h.ex e1, ok, hj, fun t H' m l' e' => k t H' ((Mu.ex e1).trans m) l' (e' hj)⟩
/-- how the row rises at a weir, times both areas -/
def rise (A : List Int) (s : List Rat) (w : Nat) : Rat := (s.getD (w + 1) 0 - s.getD w 0) * ((A.getD (w - 1) 1 : Int) : Rat) - (s.getD w 0 - s.getD (w - 1) 0) * ((A.getD w 1 : Int) : Rat)
def sg (q : Rat) : Int := if 0 < q then 1 else if q < 0 then -1 else 0
theorem getD_in {α : Type} {v : List α} {j : Nat} {z : α} (h : j < v.length) : v.getD j z = v[j] := by
  rw [List.getD_eq_getElem?_getD, List.getElem?_eq_getElem h] <;> rfl
theorem diff_small {A : List Int} {B : Nat} {s : List Rat} (ok : LineOk A B s) {j : Nat} (h : j + 1 < s.length) {t : Int} (e : (t : Rat) = (s[j + 1] - s[j]) * ((B : Int) : Rat)) : t.natAbs < 2 ^ 2902 := by
  have a0 := ok.lo _ (List.getElem_mem h)
  have a1 := ok.hi _ (List.getElem_mem h)
  have b0 := ok.lo _ (List.getElem_mem (show j < s.length by omega))
  have b1 := ok.hi _ (List.getElem_mem (show j < s.length by omega))
  have hb0 : (0 : Rat) ≤ ((B : Int) : Rat) := by exact_mod_cast Int.natCast_nonneg B
  have c1 : (t : Rat) ≤ ((2 ^ 900 * (B : Int) : Int) : Rat) := by
    rw [e, Rat.intCast_mul]
    exact Rat.mul_le_mul_of_nonneg_right (by grind) hb0
  have c2 : ((-(2 ^ 900 * (B : Int)) : Int) : Rat) ≤ (t : Rat) := by
    rw [e, Rat.intCast_neg, Rat.intCast_mul, ← Rat.neg_mul]
    exact Rat.mul_le_mul_of_nonneg_right (by grind) hb0
  have d1 : t ≤ 2 ^ 900 * (B : Int) := by exact_mod_cast c1
  have d2 : -(2 ^ 900 * (B : Int)) ≤ t := by exact_mod_cast c2
  have h7 : t.natAbs ≤ 2 ^ 900 * B := by
    have : ((2 ^ 900 * B : Nat) : Int) = 2 ^ 900 * (B : Int) := by
      rw [Int.natCast_mul]
      rfl
    omega
  have h8 : 2 ^ 900 * B < 2 ^ 900 * 2 ^ 2000 := Nat.mul_lt_mul_of_pos_left ok.bs (Nat.two_pow_pos 900)
  rw [← Nat.pow_add] at h8
  exact Nat.lt_of_le_of_lt h7 (Nat.lt_of_lt_of_le h8 (Nat.pow_le_pow_right (by decide) (by decide)))

end
end My
end
section
set_option Elab.async false
set_option linter.all false
set_option maxRecDepth 100000
set_option maxHeartbeats 4000000
namespace My
open PySem PySem.Spec PyProof.Rows L2 Evl WD
local macro_rules | `(tactic| walk_at "exgo") => `(tactic| first | exact Ex.refl _ | assumption | (refine' Ex.trans ?ea ?eb; (case eb => assumption); (case ea => walk_at "exgo")))
local macro_rules | `(tactic| walk_at "is") => `(tactic| first | assumption | (refine' Is.ex ?e ?h; (case h => assumption); (case e => walk_at "exgo")) | exact Is.int _ | exact Is.bl _ | exact Is.non)
local macro_rules | `(tactic| walk_at "ev") => `(tactic| first
  | exact ed_int | exact ed_bl | exact ed_non | exact ed_str
  | ((with_reducible apply ed_var) <;> first | exact rfl | walk_at "is")
  | ((with_reducible apply ed_add) <;> walk_at "ev")
  | ((with_reducible apply ed_sub) <;> walk_at "ev")
  | ((with_reducible apply ed_neg) <;> walk_at "ev")
  | ((with_reducible apply ed_mulW) <;> try walk_at "ev")
  | ((with_reducible apply ed_divW) <;> try walk_at "ev")
  | ((with_reducible apply ed_mod) <;> try walk_at "ev")
  | ((with_reducible apply ed_ixT) <;> first | exact rfl | walk_at "ev" | skip)
  | ((with_reducible apply ed_ixL) <;> first | exact rfl | walk_at "ev" | skip)
  | ((with_reducible apply ed_lt) <;> walk_at "ev")
  | ((with_reducible apply ed_le) <;> walk_at "ev")
  | ((with_reducible apply ed_gt) <;> walk_at "ev")
  | ((with_reducible apply ed_ge) <;> walk_at "ev")
  | ((with_reducible apply ed_eqI) <;> walk_at "ev")
  | ((with_reducible apply ed_neI) <;> walk_at "ev")
  | ((with_reducible apply ed_gcd) <;> walk_at "ev")
  | ((with_reducible apply ed_abs) <;> walk_at "ev")
  | ((with_reducible apply ed_intI) <;> walk_at "ev")
  | ((with_reducible apply ed_intB) <;> walk_at "ev")
  | ((with_reducible apply ed_max2) <;> walk_at "ev")
  | ((with_reducible apply ed_min2) <;> walk_at "ev")
  | ((with_reducible apply ed_lenT) <;> walk_at "ev")
  | ((with_reducible apply ed_lenL) <;> walk_at "ev")
  | ((with_reducible apply ed_tuple) <;> walk_at "ev")
  | ((with_reducible apply ed_tupleT) <;> walk_at "ev")
  | ((with_reducible apply ed_tup) <;> first | walk_at "ea" | (simp; done) | skip)
  | ((with_reducible apply et_t) <;> walk_at "ev")
  | ((with_reducible apply et_v) <;> walk_at "ev"))
local macro_rules | `(tactic| walk_at "ea") => `(tactic| first
  | exact ea0
  | ((with_reducible apply ea1) <;> first | walk_at "ev" | walk_at "ea" | skip))

section
variable {P : Program} {w : World} {K : PySem.W.Frag} {mg : Str → Option Value} {base : Heap}
def evn (A : List Int) (s : List Rat) (j : Nat) : List Rat := s.set j ((((A.getD j 1 : Int) : Rat) * s.getD (j - 1) 0 + ((A.getD (j - 1) 1 : Int) : Rat) * s.getD (j + 1) 0) / ((A.getD (j - 1) 1 + A.getD j 1 : Int) : Rat))
def sp_even (K : PySem.W.Frag) : Sp := fun vs H Q _ => ∃ x p r A B s, ∃ j : Nat, vs = [.ref x, .int (j : Int)] ∧ LineAt K H x p r A B s ∧ LineOk A B s ∧ 1 ≤ j ∧ j < A.length ∧ ∀ (B' : Nat) H', Mu [x, p, r] H H' → LineAt K H' x p r A B' (evn A s j) → 0 < B' → B ∣ B' → B' ∣ B * (A.getD (j - 1) 1 + A.getD j 1).toNat → Q .non H'
theorem even_eq {t u g a b : Int} {B : Nat} {q : Rat} (hg : g ≠ 0) (ht : g ∣ t) (hu : g ∣ u) (hu0 : u ≠ 0) (e : (t : Rat) = q * ((B : Int) : Rat)) : ((t / g : Int) : Rat) = (q / (u : Rat)) * (((B : Int) * (u / g) : Int) : Rat) := by
  obtain ⟨c, rfl⟩ := ht
  obtain ⟨d, rfl⟩ := hu
  rw [Int.mul_ediv_cancel_left _ hg, Int.mul_ediv_cancel_left _ hg]
  have hd : d ≠ 0 := fun z => hu0 (by rw [z, Int.mul_zero])
  have hgr : (g : Rat) ≠ 0 := by exact_mod_cast hg
  have hdr : (d : Rat) ≠ 0 := by exact_mod_cast hd
  rw [Rat.intCast_mul] at e
  rw [Rat.intCast_mul, Rat.intCast_mul]
  grind
theorem ok_Line_even (T : Txt K mg) : FnG P w K mg base 2 (He.ma K (He.ga K "Line") "even") ["self", "weir"] (sp_even K) := by
  refine fnG (N := ["self", "weir", "first", "second", "top", "shared"]) (st := s_Line_even) T.f_Line_even sc_Line_even (fun vs H Q E h => ?_) (fun _ _ _ _ _ _ us hl => match us, hl with | [_, _], _ => rfl) (fun cdv A outer s H vs Q E hr h => ⟨_, (pss_cons (ps_par (i := 2) (j := 3) (by rfl) sc_Line_even.nd rfl rfl (by decide) rfl rfl (pa_cons (pe_ix ix_tup (pe_fld (pv 0) rfl) (pe_op op_sub (pv 1) pe_int) (fun _ _ => rfl)) (pa_cons (pe_ix ix_tup (pe_fld (pv 0) rfl) (pv 1) (fun _ _ => rfl)) pa_nil)) (by rfl)) (pss_cons (ps_asg (pe_op op_add (pe_op op_mulW (pv 3) (pe_methG (pv 0) T.c_Line T.x_Line_top (ok_Line_top T) (hr.mono (by decide)) (pa_cons (pe_op op_sub (pv 1) pe_int) pa_nil))) (pe_op op_mulW (pv 2) (pe_methG (pv 0) T.c_Line T.x_Line_top (ok_Line_top T) (hr.mono (by decide)) (pa_cons (pe_op op_add (pv 1) pe_int) pa_nil)))) (pg_name (i := 4) sc_Line_even.nd rfl (.inl rfl))) (pss_cons (ps_asg (pe_callBfun cr_gcd (by rfl) T.b_gcd (pa_cons (pv 4) (pa_cons (pe_op op_add (pv 2) (pv 3)) pa_nil))) (pg_name (i := 5) sc_Line_even.nd rfl (.inl rfl))) (pss_cons (ps_fld (pv 0) (pe_op op_mulW (pe_fld (pv 0) rfl) (pe_op op_fdivW (pe_op op_add (pv 2) (pv 3)) (pv 5))) rfl) (pss_cons (ps_asg (pe_op op_fdivW (pv 4) (pv 5)) (pg_sub (pe_fld (pv 0) rfl) (pv 1) set_list)) (pss_one (ps_asg (pe_fld (pv 0) rfl) (pg_sub (pe_fld (pv 0) rfl) (pv 1) set_list)))))))), ?_⟩)
  · obtain ⟨x, p, r, A, B, s, j, rfl, _⟩ := h
    rfl
  · obtain ⟨x, p, r, A, B, s, j, rfl, h, ok, j1, j2, q⟩ := h
    try dsimp only [cxOf, Cx.nox, Cx.wish]
    have hl := ok.len
    have ej : (((j : Nat) : Int) - 1) = ((j - 1 : Nat) : Int) := by omega
    have ej' : (((j : Nat) : Int) + 1) = ((j + 1 : Nat) : Int) := by omega
    have ha := ok.ar _ (gd_mem (z := 1) (show j - 1 < A.length by omega))
    have hb := ok.ar _ (gd_mem (z := 1) j2)
    have i1 : j - 1 < s.length := by omega
    have i2 : j + 1 < s.length := by omega
    have i3 : j < s.length := by omega
    revert ha hb
    unfold evn at q
    revert q
    generalize hA1 : A.getD (j - 1) 1 = a
    generalize hA2 : A.getD j 1 = b
    intro q ha hb
    refine q_parD (K := K) (d1 := .int a) (d2 := .int b) (ed_ixT (h.areas T (ev_ref rfl)) (ed_sub (ed_var rfl (.int _)) ed_int) (by rw [ej, at_iL (by omega), hA1])) (ed_ixT (h.areas T (ev_ref rfl)) (ed_var rfl (.int _)) (by rw [at_iL j2, hA2])) fun v1 v2 H1 e1 a1 a2 => ?_
    cases a1
    cases a2
    have h1 := h.ex e1
    refine ⟨_, rfl, ?_⟩
    refine em_top (j := j - 1) h1 ok i1 (ev_ref rfl) (ea1 (EvD.is (ed_sub (ed_var rfl (.int _)) ed_int) (by rw [ej])) ea0) fun t1 H2 m2 l2 q2 => ?_
    refine ⟨_, _, rfl, rfl, mulW (a := 10) (b := 2901) (by omega) (top_small ok i1 (Nat.le_refl B) q2), ?_⟩
    refine ⟨_, rfl, ?_⟩
    refine em_top (j := j + 1) l2 ok i2 (ev_ref rfl) (ea1 (EvD.is (ed_add (ed_var rfl (.int _)) ed_int) (by rw [ej'])) ea0) fun t3 H3 m3 l3 q3 => ?_
    refine ⟨_, _, rfl, rfl, mulW (a := 10) (b := 2901) (by omega) (top_small ok i2 (Nat.le_refl B) q3), ?_⟩
    refine ⟨_, _, rfl, rfl, ?_⟩
    have et : ((b * t1 + a * t3 : Int) : Rat) = (((b : Int) : Rat) * s.getD (j - 1) 0 + ((a : Int) : Rat) * s.getD (j + 1) 0) * ((B : Int) : Rat) := by
      rw [getD_in i1, getD_in i2, Rat.intCast_add, Rat.intCast_mul, Rat.intCast_mul, q2, q3]
      grind
    have M3 : Mu [x, p, r] H H3 := (Mu.ex e1).trans ((m2.trans m3).more fun a h => List.mem_cons_of_mem _ h)
    clear q2 q3 m2 m3 l2
    dsimp only
    revert et
    generalize b * t1 + a * t3 = t
    intro et
    refine q_asgD (K := K) (d := .int ((Nat.gcd t.natAbs (a + b).natAbs : Nat) : Int)) (ed_gcd (ed_var rfl (.int _)) (ed_add (ed_var rfl (.int _)) (ed_var rfl (.int _)))) fun v5 H4 e4 a5 => ?_
    cases a5
    obtain ⟨ts, bs, dx, va, l⟩ := l3.ex e4
    have g0 : 0 < Nat.gcd t.natAbs (a + b).natAbs := Nat.gcd_pos_of_pos_right _ (by omega)
    have g1 : Nat.gcd t.natAbs (a + b).natAbs ≤ (a + b).natAbs := Nat.le_of_dvd (by omega) (Nat.gcd_dvd_right _ _)
    have d1 : ((Nat.gcd t.natAbs (a + b).natAbs : Nat) : Int) ∣ t := Int.natAbs_dvd_natAbs.mp (by rw [Int.natAbs_natCast]; exact Nat.gcd_dvd_left _ _)
    have d2 : ((Nat.gcd t.natAbs (a + b).natAbs : Nat) : Int) ∣ (a + b) := Int.natAbs_dvd_natAbs.mp (by rw [Int.natAbs_natCast]; exact Nat.gcd_dvd_right _ _)
    revert g0 g1 d1 d2
    generalize hg : Nat.gcd t.natAbs (a + b).natAbs = g
    intro g0 g1 d1 d2
    have dq : ((a + b) / (g : Int)) = (((a + b).toNat / g : Nat) : Int) := by
      rw [Int.natCast_ediv, Int.toNat_of_nonneg (by omega)]
    have dl : (a + b).toNat / g ≤ (a + b).toNat := Nat.div_le_self _ _
    have dg : g ∣ (a + b).toNat := by
      have : (g : Int) ∣ ((a + b).toNat : Int) := by
        rw [Int.toNat_of_nonneg (by omega)]
        exact d2
      exact Int.natCast_dvd_natCast.mp this
    have dp : 0 < (a + b).toNat / g := Nat.div_pos (Nat.le_of_dvd (by omega) dg) g0
    have jt : j < ts.length := by rw [l.lt]; exact i3
    have jb : j < (bs.map Int.ofNat).length := by rw [List.length_map, l.lb]; exact i3
    have fe := even_eq (a := a) (b := b) (by omega) d1 d2 (by omega) et
    rw [dq, ← Int.natCast_mul] at fe
    refine q_fld (K := K) (d := .int ((B * ((a + b).toNat / g) : Nat) : Int)) l.ob (EvD.is (ed_mulW (ed_fldX (ev_ref rfl) l.ob T.c_Line T.n_Line_bottom rfl (.int _)) (ed_divW (ed_add (ed_var rfl (.int _)) (ed_var rfl (.int _))) (ed_var rfl (.int _)) (divW (b := 12) g0 (by omega))) (mulW (a := 2000) (b := 12) (by rw [Int.natAbs_natCast]; exact ok.bs) (by rw [dq, Int.natAbs_natCast]; omega))) (by rw [dq, Int.natCast_mul])) (ev_ref rfl) T.c_Line T.n_Line_bottom (by show 4 < 1000; decide) fun v6 H5 e5 a6 => ?_
    cases a6
    have ob5 : (upd H5 x (.ins (He.ga K "Line") dx (putF "bottom" (V.int ((B * ((a + b).toNat / g) : Nat) : Int)) [("areas", va), ("bottom", .int (B : Int)), ("tops", .ref p), ("bottoms", .ref r)]))) x = some (.ins (He.ga K "Line") dx [("areas", va), ("bottom", .int ((B * ((a + b).toNat / g) : Nat) : Int)), ("tops", .ref p), ("bottoms", .ref r)]) := upd_same
    have tp5 : (upd H5 x (.ins (He.ga K "Line") dx (putF "bottom" (V.int ((B * ((a + b).toNat / g) : Nat) : Int)) [("areas", va), ("bottom", .int (B : Int)), ("tops", .ref p), ("bottoms", .ref r)]))) p = some (.lst (ts.map V.int)) := by
      rw [upd_ne l.xp.symm]
      exact e5 _ _ l.tp
    have bp5 : (upd H5 x (.ins (He.ga K "Line") dx (putF "bottom" (V.int ((B * ((a + b).toNat / g) : Nat) : Int)) [("areas", va), ("bottom", .int (B : Int)), ("tops", .ref p), ("bottoms", .ref r)]))) r = some (.lst ((bs.map Int.ofNat).map V.int)) := by
      rw [upd_ne l.xr.symm]
      exact e5 _ _ l.bp
    have G5 : Gt H (upd H5 x (.ins (He.ga K "Line") dx (putF "bottom" (V.int ((B * ((a + b).toNat / g) : Nat) : Int)) [("areas", va), ("bottom", .int (B : Int)), ("tops", .ref p), ("bottoms", .ref r)]))) := (M3.2.trans (Gt.of (e4.trans e5))).trans (gtI (e5 _ _ l.ob))
    have G5' := (Gt.of e5).trans (gtI (o := .ins (He.ga K "Line") dx (putF "bottom" (V.int ((B * ((a + b).toNat / g) : Nat) : Int)) [("areas", va), ("bottom", .int (B : Int)), ("tops", .ref p), ("bottoms", .ref r)])) (e5 _ _ l.ob))
    have M5 : Mu [x, p, r] H (upd H5 x (.ins (He.ga K "Line") dx (putF "bottom" (V.int ((B * ((a + b).toNat / g) : Nat) : Int)) [("areas", va), ("bottom", .int (B : Int)), ("tops", .ref p), ("bottoms", .ref r)]))) := ⟨fun a o n k => by
      rw [upd_ne (fun z => n (by rw [z]; exact List.mem_cons_self ..))]
      exact (e4.trans e5) _ _ (M3.1 a o n k), G5⟩
    have va5 := l.ar.gt G5' (iLlf A)
    revert ob5 tp5 bp5 M5 va5
    generalize (upd H5 x (.ins (He.ga K "Line") dx (putF "bottom" (V.int ((B * ((a + b).toNat / g) : Nat) : Int)) [("areas", va), ("bottom", .int (B : Int)), ("tops", .ref p), ("bottoms", .ref r)]))) = J
    intro ob5 tp5 bp5 M5 va5
    refine q_setD (K := K) (d := .int (t / (g : Int))) tp5 (ed_divW (ed_var rfl (.int _)) (ed_var rfl (.int _)) (divW (b := 12) g0 (by omega))) (ev_fldX (ev_ref rfl) ob5 T.c_Line T.n_Line_tops rfl) (ed_var (d := .int (j : Int)) rfl (.int _)) (ixN_nat (by rw [List.length_map]; exact jt)) fun v7 H6 e6 a7 => ?_
    cases a7
    have ob6 : (upd H6 p (.lst ((ts.map V.int).set j (V.int (t / (g : Int)))))) x = some (.ins (He.ga K "Line") dx [("areas", va), ("bottom", .int ((B * ((a + b).toNat / g) : Nat) : Int)), ("tops", .ref p), ("bottoms", .ref r)]) := by
      rw [upd_ne l.xp]
      exact e6 _ _ ob5
    have bp6 : (upd H6 p (.lst ((ts.map V.int).set j (V.int (t / (g : Int)))))) r = some (.lst ((bs.map Int.ofNat).map V.int)) := by
      rw [upd_ne l.pr.symm]
      exact e6 _ _ bp5
    refine s_setD (K := K) (d := .int ((B * ((a + b).toNat / g) : Nat) : Int)) bp6 (ed_fldX (ev_ref rfl) ob6 T.c_Line T.n_Line_bottom rfl (.int _)) (ev_fldX (ev_ref rfl) ob6 T.c_Line T.n_Line_bottoms rfl) (ed_var (d := .int (j : Int)) rfl (.int _)) (ixN_nat (by rw [List.length_map]; exact jb)) fun v8 H7 e7 a8 => ?_
    cases a8
    refine q (B * ((a + b).toNat / g)) _ ?_ ⟨ts.set j (t / (g : Int)), bs.set j (B * ((a + b).toNat / g)), dx, va, ?_, ?_, l.pr, l.xp, l.xr, ?_, ?_, by rw [List.length_set, List.length_set]; exact l.lt, by rw [List.length_set, List.length_set]; exact l.lb, ?_⟩ (Nat.mul_pos ok.b0 dp) (Nat.dvd_mul_right _ _) (Nat.mul_dvd_mul_left _ (Nat.div_dvd_of_dvd dg))
    · exact (M5.trans ((Mu.ex e6).trans (Mu.upd (by simp) (e6 _ _ tp5)))).trans ((Mu.ex e7).trans (Mu.upd (by simp) (e7 _ _ bp6)))
    · rw [upd_ne l.xr]
      exact e7 _ _ ob6
    · exact va5.gt (((Gt.of e6).trans (Gt.lst (e6 _ _ tp5))).trans ((Gt.of e7).trans (Gt.lst (e7 _ _ bp6)))) (iLlf A)
    · rw [upd_ne l.pr, List.map_set]
      exact e7 _ _ upd_same
    · rw [List.map_set, List.map_set]
      exact upd_same
    · intro k hk
      rw [List.length_set] at hk
      obtain ⟨k0, k1, k2⟩ := l.eq k hk
      by_cases kj : j = k
      · subst kj
        rw [List.getElem_set_self, List.getElem_set_self, List.getElem_set_self]
        exact ⟨Nat.mul_pos ok.b0 dp, Nat.dvd_refl _, fe⟩
      · rw [List.getElem_set_ne kj, List.getElem_set_ne kj, List.getElem_set_ne kj]
        exact ⟨k0, Nat.dvd_trans k1 (Nat.dvd_mul_right _ _), k2⟩

end
end My
end
section
set_option Elab.async false
set_option linter.all false
set_option maxRecDepth 100000
set_option maxHeartbeats 4000000
namespace My
open PySem PySem.Spec PyProof.Rows L2 Evl WD
local macro_rules | `(tactic| walk_at "exgo") => `(tactic| first | exact Ex.refl _ | assumption | (refine' Ex.trans ?ea ?eb; (case eb => assumption); (case ea => walk_at "exgo")))
local macro_rules | `(tactic| walk_at "is") => `(tactic| first | assumption | (refine' Is.ex ?e ?h; (case h => assumption); (case e => walk_at "exgo")) | exact Is.int _ | exact Is.bl _ | exact Is.non)
local macro_rules | `(tactic| walk_at "ev") => `(tactic| first
  | exact ed_int | exact ed_bl | exact ed_non | exact ed_str
  | ((with_reducible apply ed_var) <;> first | exact rfl | walk_at "is")
  | ((with_reducible apply ed_add) <;> walk_at "ev")
  | ((with_reducible apply ed_sub) <;> walk_at "ev")
  | ((with_reducible apply ed_neg) <;> walk_at "ev")
  | ((with_reducible apply ed_mulW) <;> try walk_at "ev")
  | ((with_reducible apply ed_divW) <;> try walk_at "ev")
  | ((with_reducible apply ed_mod) <;> try walk_at "ev")
  | ((with_reducible apply ed_ixT) <;> first | exact rfl | walk_at "ev" | skip)
  | ((with_reducible apply ed_ixL) <;> first | exact rfl | walk_at "ev" | skip)
  | ((with_reducible apply ed_lt) <;> walk_at "ev")
  | ((with_reducible apply ed_le) <;> walk_at "ev")
  | ((with_reducible apply ed_gt) <;> walk_at "ev")
  | ((with_reducible apply ed_ge) <;> walk_at "ev")
  | ((with_reducible apply ed_eqI) <;> walk_at "ev")
  | ((with_reducible apply ed_neI) <;> walk_at "ev")
  | ((with_reducible apply ed_gcd) <;> walk_at "ev")
  | ((with_reducible apply ed_abs) <;> walk_at "ev")
  | ((with_reducible apply ed_intI) <;> walk_at "ev")
  | ((with_reducible apply ed_intB) <;> walk_at "ev")
  | ((with_reducible apply ed_max2) <;> walk_at "ev")
  | ((with_reducible apply ed_min2) <;> walk_at "ev")
  | ((with_reducible apply ed_lenT) <;> walk_at "ev")
  | ((with_reducible apply ed_lenL) <;> walk_at "ev")
  | ((with_reducible apply ed_tuple) <;> walk_at "ev")
  | ((with_reducible apply ed_tupleT) <;> walk_at "ev")
  | ((with_reducible apply ed_tup) <;> first | walk_at "ea" | (simp; done) | skip)
  | ((with_reducible apply et_t) <;> walk_at "ev")
  | ((with_reducible apply et_v) <;> walk_at "ev"))
local macro_rules | `(tactic| walk_at "ea") => `(tactic| first
  | exact ea0
  | ((with_reducible apply ea1) <;> first | walk_at "ev" | walk_at "ea" | skip))

section
variable {P : Program} {w : World} {K : PySem.W.Frag} {mg : Str → Option Value} {base : Heap}
structure SOk (s : List Rat) (M : Nat) : Prop where
  m0 : 0 < M
  m1 : M < 2 ^ 2000
  sl : s.length ≤ 50
  dn : ∀ q ∈ s, q.den ∣ M
  sm : ∀ q ∈ s, Sm 2000 q
def cmb (s : List Rat) : Nat := s.foldl (fun b q => Nat.lcm b q.den) 1
theorem cmb_take {s : List Rat} {i : Nat} (h : i < s.length) : cmb (s.take (i + 1)) = Nat.lcm (cmb (s.take i)) (s.getD i 0).den := by
  unfold cmb
  rw [List.take_succ_eq_append_getElem h, List.foldl_append, getD_in h]
  rfl
theorem cmb_ok {s : List Rat} {M : Nat} (ok : SOk s M) : ∀ i, i ≤ s.length → 0 < cmb (s.take i) ∧ cmb (s.take i) ∣ M ∧ ∀ k, k < i → (s.getD k 0).den ∣ cmb (s.take i)
  | 0, _ => ⟨Nat.one_pos, Nat.one_dvd M, fun k hk => absurd hk (Nat.not_lt_zero k)⟩
  | i + 1, hi => by
    obtain ⟨b0, b1, b2⟩ := cmb_ok ok i (by omega)
    rw [cmb_take (by omega)]
    have dM : (s.getD i 0).den ∣ M := ok.dn _ (gd_mem (by omega))
    refine ⟨Nat.lcm_pos b0 (s.getD i 0).den_pos, Nat.lcm_dvd b1 dM, fun k hk => ?_⟩
    by_cases hk2 : k = i
    · subst hk2
      exact Nat.dvd_lcm_right _ _
    · exact Nat.dvd_trans (b2 k (by omega)) (Nat.dvd_lcm_left _ _)
def R_common_bottom (ds : List D) (d : D) : Prop := ∃ s M, ds = [.lst (frs s)] ∧ SOk s M ∧ d = .int ((cmb s : Nat) : Int)
theorem ok_common_bottom (T : Txt K mg) : FnG P w K mg base 1 (He.ga K "common_bottom") ["fractions"] (spD K R_common_bottom) := by
  refine fnG (N := ["fractions", "bottom", "_", "below"]) (st := s_common_bottom) T.f_common_bottom sc_common_bottom (fun vs H Q E h => ?_) (fun _ _ _ _ _ _ us hl => match us, hl with | [_], _ => rfl) (fun cdv A outer s H vs Q E hr h => ⟨_, (pss_cons (ps_asg pe_int (pg_name (i := 1) sc_common_bottom.nd rfl (.inl rfl))) (pss_cons (ps_for PassesOwn.never rfl (pi_list (pv 0)) (pg_tup rfl (pgs_cons (pg_name (i := 2) sc_common_bottom.nd rfl (.inl rfl)) (pgs_cons (pg_name (i := 3) sc_common_bottom.nd rfl (.inl rfl)) pgs_nil))) (pss_one (ps_asg (pe_callBfun cr_lcm (by rfl) T.b_lcm (pa_cons (pv 1) (pa_cons (pv 3) pa_nil))) (pg_name (i := 1) sc_common_bottom.nd rfl (.inl rfl))))) (pss_one (ps_ret (pv 1))))), ?_⟩)
  · obtain ⟨ds, d, a, ⟨s, M, rfl, _⟩, _⟩ := h
    exact a.len
  · obtain ⟨ds, d, a, ⟨s, M, rfl, ok, rfl⟩, q⟩ := h
    obtain ⟨u, rfl, a1⟩ := All.inv1 a
    try dsimp only [cxOf, Cx.nox, Cx.wish]
    have hi : ∀ i (hi : i < s.length), (frs s).getD i .non = .tup [.int (s.getD i 0).num, .int ((s.getD i 0).den : Int)] := fun i hi => by
      rw [getD_frs s i hi, getD_in hi]
      rfl
    refine q_asgD (K := K) (d := .int ((1 : Nat) : Int)) ed_int fun v1 H1 e1 i1 => ?_
    cases i1
    refine q_for (K := K) (L := []) (n := s.length) (item := fun i => .tup [.int (s.getD i 0).num, .int ((s.getD i 0).den : Int)]) (EvI.item (EvI.is (ei_list (es_any (ed_var rfl (a1.ex e1))) (frs_lf s)) (frs_len s)) hi)
      (fun i σ' H' => ∃ (y4 y5 : Option V), σ' = [some u, some (.int ((cmb (s.take i) : Nat) : Int)), y4, y5] ∧ Ex H H') (fun H2 e2 => ⟨none, none, rfl, e1.trans e2⟩) ?_ ?_
    · rintro i y σ' H2 H3 hi ⟨y4, y5, rfl, eH⟩ e3 ay
      refine g_two ay fun z1 z2 az1 az2 => ?_
      cases az1
      cases az2
      have dM : (s.getD i 0).den ∣ M := ok.dn _ (gd_mem hi)
      obtain ⟨b0, b1, b2⟩ := cmb_ok ok i (by omega)
      rw [cmb_take hi]
      refine s_asgD (K := K) (d := .int ((Nat.lcm (cmb (s.take i)) (s.getD i 0).den : Nat) : Int)) (ed_lcm (ed_var rfl (.int _)) (ed_var rfl (.int _)) (Nat.lt_of_le_of_lt (Nat.le_of_dvd ok.m0 b1) (Nat.lt_of_lt_of_le ok.m1 (Nat.pow_le_pow_right (by decide) (by decide)))) (Nat.lt_of_le_of_lt (Nat.le_of_dvd ok.m0 dM) (Nat.lt_of_lt_of_le ok.m1 (Nat.pow_le_pow_right (by decide) (by decide))))) fun v4 H4 e4 i4 => ?_
      cases i4
      exact ⟨⟨_, _, rfl, (eH.trans e3).trans e4⟩, Mu.ex (e3.trans e4)⟩
    · rintro σ' H2 ⟨y4, y5, rfl, eH⟩
      rw [List.take_of_length_le (Nat.le_refl _)]
      refine s_retD (K := K) (d := .int ((cmb s : Nat) : Int)) (ed_var rfl (.int _)) fun v H3 e3 i3 => q _ _ (eH.trans e3) i3
theorem ea_starT {K : PySem.W.Frag} {σ : L2.St} {H : Hp} {te : TE} {tr : TA} {ds es : List D} (h : EvD K te σ H (.tup ds)) (hr : EvDA K tr σ H es) : EvDA K (StX.tStar K te tr) σ H (ds ++ es) := fun H1 e Q q =>
  h H1 e _ fun v H2 e2 a => by
    cases a with
    | tup r a => exact ⟨_, _, rfl, .inl r, hr H2 (e.trans e2) _ fun ys H3 e3 b => q _ H3 (e2.trans e3) ((a.ex e3).app b)⟩
def sp_Line_init (K : PySem.W.Frag) : Sp := fun vs H Q _ => ∃ x dx us H0 A s M, vs = .ref x :: us ∧ H x = some (.ins (He.ga K "Line") dx []) ∧ H0 x = none ∧ Ex H0 H ∧ All K H0 us [.tup (iL A), .lst (frs s), .tup []] ∧ SOk s M ∧
  ∀ p r B H', H0 p = none → H0 r = none → Ex H0 H' → LineAt K H' x p r A B s → 0 < B → B ∣ M → Q .non H'
theorem ok_Line___init__ (T : Txt K mg) : FnH P w K mg base 2 (He.ma K (He.ga K "Line") "__init__") ["self", "areas", "sums", "others"] (sp_Line_init K) [.ref (He.dflAt ("Line", some "__init__") 0 K)] := by
  refine fnH 3 0 (N := ["self", "areas", "sums", "others", "bottom", "top", "below", "_"]) (st := s_Line___init__) T.f_Line___init__ sc_Line___init__ (fun vs H Q E h => ?_) (List.cons_ne_nil _ _) rfl (fun _ _ _ _ _ _ _ us its h1 h2 => match us, its, h1, h2 with | [u0, u1, u2], [z0], _, _ => ⟨_, rfl, rfl⟩) (fun cdv A outer s H vs Q E hr h => ⟨_, (pss_cons (ps_asg (pe_callG (ok_common_bottom T) (hr.mono (by decide)) (by rfl) T.m_common_bottom (pa_cons (pe_lst (StX.pa_star (pv 2) (StX.pa_star (pv 3) pa_nil))) pa_nil)) (pg_name (i := 4) sc_Line___init__.nd rfl (.inr rfl))) (pss_cons (ps_fld (pv 0) (pv 1) rfl) (pss_cons (ps_fld (pv 0) (pv 4) rfl) (pss_cons (ps_fld (pv 0) (pe_lc (own := [("top", 5), ("below", 6)]) rfl sc_Line___init__.nd (pi_list (pv 2)) (blkOk_by (own := [("top", 5), ("below", 6)]) (N := ["self", "areas", "sums", "others", "bottom", "top", "below", "_"]) (sc := defScope s_Line___init__) (by decide +kernel)) (fun _ _ _ _ _ => (tupK (K := K) (n := 2) rfl rfl (pgs_cons (pg_name (i := 5) sc_Line___init__.nd rfl (.inl rfl)) (pgs_cons (pg_name (i := 6) sc_Line___init__.nd rfl (.inl rfl)) pgs_nil)))) (fun _ _ _ _ _ => pts_nil) (fun _ _ _ _ _ => (pe_op op_mulW (pv 5) (pe_op op_fdivW (pv 4) (pv 6))))) rfl) (pss_one (ps_fld (pv 0) (pe_lc (own := [("_", 7)]) rfl sc_Line___init__.nd (pi_list (pv 2)) (blkOk_by (own := [("_", 7)]) (N := ["self", "areas", "sums", "others", "bottom", "top", "below", "_"]) (sc := defScope s_Line___init__) (by decide +kernel)) (fun _ _ _ _ _ => (pg_name (i := 7) sc_Line___init__.nd rfl (.inl rfl))) (fun _ _ _ _ _ => pts_nil) (fun _ _ _ _ _ => (pv 4))) rfl)))))), ?_⟩)
  · obtain ⟨x, dx, us, H0, A, s, M, rfl, _, _, _, a, _⟩ := h
    exact congrArg Nat.succ a.len
  · obtain ⟨x, dx, us, H0, A, s, M, rfl, hx, h0, e0, a, ok, q⟩ := h
    obtain ⟨u1, u2, u3, rfl, a1, a2, a3⟩ := All.inv3 a
    try dsimp only [cxOf, Cx.nox, Cx.wish]
    have hi : ∀ i (hi : i < s.length), (frs s).getD i .non = .tup [.int (s.getD i 0).num, .int ((s.getD i 0).den : Int)] := fun i hi => by
      rw [getD_frs s i hi, getD_in hi]
      rfl
    have dpos : ∀ i (hi : i < s.length) (B : Nat), 0 < B → (s.getD i 0).den ∣ B → B ∣ M → CDivW (B : Int) ((s.getD i 0).den : Int) := fun i hi B b0 b1 b2 => divW (b := 2000) (s.getD i 0).den_pos (Nat.lt_of_le_of_lt (Nat.le_of_dvd ok.m0 (Nat.dvd_trans b1 b2)) ok.m1)
    obtain ⟨b0, b1, b2⟩ := cmb_ok ok s.length (Nat.le_refl _)
    rw [List.take_of_length_le (Nat.le_refl _)] at b0 b1 b2
    refine q_asgD (K := K) (d := .int ((cmb s : Nat) : Int)) (ed_call (R := R_common_bottom) (ea1 (EvD.is (EvN.toD (en_lst (ea_star (ed_var rfl (a2.ex e0)) (ea_starT (ed_var rfl (a3.ex e0)) ea0)) (by rw [List.append_nil, List.append_nil, frs_len]; have := ok.sl; omega))) (by rw [List.append_nil, List.append_nil])) ea0) ⟨s, M, rfl, ok, rfl⟩) fun v1 H2 eH i1 => ?_
    cases i1
    generalize cmb s = B at b0 b1 b2 ⊢
    have hx2 := eH _ _ hx
    have E2 := e0.trans eH
    refine q_fld hx2 (ed_var rfl (a1.ex E2)) (ev_ref rfl) T.c_Line T.n_Line_areas (by decide) fun w1 H3 e3 i3 => ?_
    have E3 : Ex H0 (upd H3 x (.ins (He.ga K "Line") dx (putF "areas" w1 []))) := Ex.updN (E2.trans e3) h0
    refine q_fld (K := K) (d := .int (B : Int)) upd_same (ed_var rfl (.int _)) (ev_ref rfl) T.c_Line T.n_Line_bottom (by show 1 < 1000; decide) fun w2 H4 e4 i4 => ?_
    cases i4
    have E4 : Ex H0 (upd H4 x (.ins (He.ga K "Line") dx (putF "bottom" (.int (B : Int)) (putF "areas" w1 [])))) := Ex.updN (E3.trans e4) h0
    refine q_fldN (K := K) (ds := iL (s.map fun q => q.num * ((B / q.den : Nat) : Int))) upd_same (EvN.is (en_lc2 (n := s.length) (c1 := fun i => .int (s.getD i 0).num) (c2 := fun i => .int ((s.getD i 0).den : Int)) (fun _ => true) (fun i => .int ((s.getD i 0).num * ((B / (s.getD i 0).den : Nat) : Int))) (fun H5 e5 => EvI.item (EvI.is (ei_list (es_any (ed_var rfl (a2.ex (E4.trans e5)))) (frs_lf s)) (frs_len s)) hi) (by have := ok.sl; omega) (fun _ _ _ => rfl) (fun x y => rfl) (fun i x y H5 _ _ _ _ => et_yes) (fun i z1 z2 H5 hi e5 az1 az2 _ => ?_)) ?_) (ev_ref rfl) T.c_Line T.n_Line_tops (by show 2 < 1000; decide) fun p xs H5 hp e5 hx5 ax => ?_
    · have dd := b2 i hi
      have dM : (s.getD i 0).den ∣ M := ok.dn _ (gd_mem hi)
      refine EvD.is (ed_mulW (K := K) (ed_var rfl az1) (ed_divW (ed_var rfl (.int _)) (ed_var rfl az2) (dpos i hi B b0 dd b1)) (mulW (a := 2000) (b := 2000) (ok.sm _ (gd_mem hi)).num ?_)) ?_
      · rw [← Int.natCast_ediv, Int.natAbs_natCast]
        exact Nat.lt_of_le_of_lt (Nat.div_le_self _ _) (Nat.lt_of_le_of_lt (Nat.le_of_dvd ok.m0 b1) ok.m1)
      · rw [← Int.natCast_ediv]
    · rw [gives_all]
      unfold iL
      rw [List.map_map]
      refine List.ext_getElem (by simp) fun i h1 h2 => ?_
      rw [List.getElem_map, List.getElem_map, List.getElem_range]
      rw [List.length_map, List.length_range] at h1
      rw [getD_in h1]
      rfl
    · have xs1 := allIL ax
      subst xs1
      have p0 : H0 p = none := fresh_back E4 hp
      have px : x ≠ p := fun z => by
        rw [← z, upd_same] at hp
        cases hp
      have E5 : Ex H0 (upd H5 x (.ins (He.ga K "Line") dx (putF "tops" (.ref p) (putF "bottom" (.int (B : Int)) (putF "areas" w1 []))))) := Ex.updN (E4.trans e5) h0
      refine s_fldN (K := K) (ds := iL (s.map fun _ => (B : Int))) upd_same (EvN.is (en_lc1 (n := s.length) (item := fun i => .tup [.int (s.getD i 0).num, .int ((s.getD i 0).den : Int)]) (fun _ => true) (fun i => .int (B : Int)) (fun H6 e6 => EvI.item (EvI.is (ei_list (es_any (ed_var rfl (a2.ex (E5.trans e6)))) (frs_lf s)) (frs_len s)) hi) (by have := ok.sl; omega) (fun _ _ _ => rfl) (fun x => rfl) (fun i x H6 _ _ _ => et_yes) (fun i z1 H6 hi e6 az1 _ => ed_var rfl (.int _))) ?_) (ev_ref rfl) T.c_Line T.n_Line_bottoms (by show 3 < 1000; decide) fun r ys H6 hr e6 hx6 ay => ?_
      · rw [gives_all]
        unfold iL
        rw [List.map_map]
        refine List.ext_getElem (by simp) fun i h1 h2 => ?_
        rw [List.getElem_map, List.getElem_map]
        rfl
      · have ys1 := allIL ay
        subst ys1
        have xr : x ≠ r := fun z => by
          rw [← z, upd_same] at hr
          cases hr
        have p5 : (upd H5 x (.ins (He.ga K "Line") dx (putF "tops" (.ref p) (putF "bottom" (.int (B : Int)) (putF "areas" w1 []))))) p = some (.lst ((s.map fun q => q.num * ((B / q.den : Nat) : Int)).map V.int)) := by
          rw [upd_ne px.symm]
          exact hx5
        have pr : p ≠ r := fun z => by
          rw [← z, p5] at hr
          cases hr
        refine q p r B _ p0 (fresh_back E5 hr) (Ex.updN (E5.trans e6) h0) ⟨(s.map fun q => q.num * ((B / q.den : Nat) : Int)), s.map fun _ => B, dx, w1, upd_same, ?_, pr, px, xr, ?_, ?_, List.length_map .., List.length_map .., ?_⟩ b0 b1
        · exact i3.gt ((gtI (e3 _ _ hx2)).trans ((Gt.of e4).trans ((gtI (e4 _ _ upd_same)).trans ((Gt.of e5).trans ((gtI (e5 _ _ upd_same)).trans ((Gt.of e6).trans (gtI (e6 _ _ upd_same)))))))) (iLlf A)
        · rw [upd_ne px.symm]
          exact e6 _ _ p5
        · rw [upd_ne xr.symm, show (s.map fun _ => B).map Int.ofNat = s.map fun _ => (B : Int) from by
            rw [List.map_map]
            rfl]
          exact hx6
        · intro j hj
          rw [List.getElem_map, List.getElem_map]
          refine ⟨b0, Nat.dvd_refl B, ?_⟩
          have := b2 j hj
          rw [getD_in hj] at this
          exact (over_of_dvd this).symm

end
end My
end
section
set_option Elab.async false
set_option linter.all false
set_option maxRecDepth 100000
set_option maxHeartbeats 4000000
namespace My
open PySem PySem.Spec PyProof.Rows L2 Evl WD
local macro_rules | `(tactic| walk_at "exgo") => `(tactic| first | exact Ex.refl _ | assumption | (refine' Ex.trans ?ea ?eb; (case eb => assumption); (case ea => walk_at "exgo")))
local macro_rules | `(tactic| walk_at "is") => `(tactic| first | assumption | (refine' Is.ex ?e ?h; (case h => assumption); (case e => walk_at "exgo")) | exact Is.int _ | exact Is.bl _ | exact Is.non)
local macro_rules | `(tactic| walk_at "ev") => `(tactic| first
  | exact ed_int | exact ed_bl | exact ed_non | exact ed_str
  | ((with_reducible apply ed_var) <;> first | exact rfl | walk_at "is")
  | ((with_reducible apply ed_add) <;> walk_at "ev")
  | ((with_reducible apply ed_sub) <;> walk_at "ev")
  | ((with_reducible apply ed_neg) <;> walk_at "ev")
  | ((with_reducible apply ed_mulW) <;> try walk_at "ev")
  | ((with_reducible apply ed_divW) <;> try walk_at "ev")
  | ((with_reducible apply ed_mod) <;> try walk_at "ev")
  | ((with_reducible apply ed_ixT) <;> first | exact rfl | walk_at "ev" | skip)
  | ((with_reducible apply ed_ixL) <;> first | exact rfl | walk_at "ev" | skip)
  | ((with_reducible apply ed_lt) <;> walk_at "ev")
  | ((with_reducible apply ed_le) <;> walk_at "ev")
  | ((with_reducible apply ed_gt) <;> walk_at "ev")
  | ((with_reducible apply ed_ge) <;> walk_at "ev")
  | ((with_reducible apply ed_eqI) <;> walk_at "ev")
  | ((with_reducible apply ed_neI) <;> walk_at "ev")
  | ((with_reducible apply ed_gcd) <;> walk_at "ev")
  | ((with_reducible apply ed_abs) <;> walk_at "ev")
  | ((with_reducible apply ed_intI) <;> walk_at "ev")
  | ((with_reducible apply ed_intB) <;> walk_at "ev")
  | ((with_reducible apply ed_max2) <;> walk_at "ev")
  | ((with_reducible apply ed_min2) <;> walk_at "ev")
  | ((with_reducible apply ed_lenT) <;> walk_at "ev")
  | ((with_reducible apply ed_lenL) <;> walk_at "ev")
  | ((with_reducible apply ed_tuple) <;> walk_at "ev")
  | ((with_reducible apply ed_tupleT) <;> walk_at "ev")
  | ((with_reducible apply ed_tup) <;> first | walk_at "ea" | (simp; done) | skip)
  | ((with_reducible apply et_t) <;> walk_at "ev")
  | ((with_reducible apply et_v) <;> walk_at "ev"))
local macro_rules | `(tactic| walk_at "ea") => `(tactic| first
  | exact ea0
  | ((with_reducible apply ea1) <;> first | walk_at "ev" | walk_at "ea" | skip))

section
variable {P : Program} {w : World} {K : PySem.W.Frag} {mg : Str → Option Value} {base : Heap}
def sms (v : List Rat) : List Rat := (List.range (v.length + 1)).map (S v)
theorem sms_len (v : List Rat) : (sms v).length = v.length + 1 := by
  unfold sms
  rw [List.length_map, List.length_range]
theorem sms_mem {v : List Rat} {q : Rat} (h : q ∈ sms v) : ∃ j, j ≤ v.length ∧ q = S v j := by
  unfold sms at h
  obtain ⟨j, hj, rfl⟩ := List.mem_map.mp h
  exact ⟨j, by have := List.mem_range.mp hj; omega, rfl⟩
theorem _root_.WD.RowOk.okR {A : List Int} {v : List Rat} {M W : Nat} (h : RowOk A v M W) : okR v := ⟨fun q hq => (h.sm hq).mono (by decide), fun i hi => (h.sumOk hi).2.2.2.mono (by decide), by rw [h.len]; exact h.al⟩
theorem _root_.WD.RowOk.sOk {A : List Int} {v : List Rat} {M W : Nat} (h : RowOk A v M W) : SOk (sms v) M := ⟨h.m0, Nat.lt_of_lt_of_le h.m1 (Nat.pow_le_pow_right (by decide) (by decide)), by
  rw [sms_len, h.len]
  have := h.al
  omega, fun q hq => by
    obtain ⟨j, hj, rfl⟩ := sms_mem hq
    exact (h.sumOk hj).2.2.1, fun q hq => by
    obtain ⟨j, hj, rfl⟩ := sms_mem hq
    exact (h.sumOk hj).2.2.2.mono (by decide)⟩
theorem _root_.WD.RowOk.lineOk {A : List Int} {v : List Rat} {M W B : Nat} (h : RowOk A v M W) (b0 : 0 < B) (b1 : B ∣ M) : LineOk A B (sms v) := ⟨by rw [sms_len, h.len], h.al, h.ar, b0, Nat.lt_of_le_of_lt (Nat.le_of_dvd h.m0 b1) (Nat.lt_of_lt_of_le h.m1 (Nat.pow_le_pow_right (by decide) (by decide))), fun q hq => by
    obtain ⟨j, hj, rfl⟩ := sms_mem hq
    exact (h.sumOk hj).1, fun q hq => by
    obtain ⟨j, hj, rfl⟩ := sms_mem hq
    refine Rat.le_trans (h.sumOk hj).2.1 ?_
    have : (W : Int) ≤ 2 ^ 900 := by
      have h1 := h.w1
      have h2 : (2 : Nat) ^ 400 ≤ 2 ^ 900 := Nat.pow_le_pow_right (by decide) (by decide)
      have h3 : ((2 ^ 900 : Nat) : Int) = 2 ^ 900 := rfl
      omega
    exact_mod_cast this⟩
def sp_line_of (K : PySem.W.Frag) : Sp := fun vs H Q _ => ∃ A v L M W, ∃ u, vs = [u] ∧ Is K H u (rowD A v L) ∧ RowOk A v M W ∧ ∀ x p r B H', H x = none → H p = none → H r = none → Ex H H' → LineAt K H' x p r A B (sms v) → LineOk A B (sms v) → B ∣ M → Q (.ref x) H'
theorem em_make {C : Addr} {sp : Sp} {tr : TA} {E : XK} {Q : VK} {σ : L2.St} {H : Hp} {ds es : List D} {dvs : List V} (hr : EvDA K tr σ H ds) (hd : ∀ H, All K H dvs es) (k : ∀ vs H1 x dx, Ex H H1 → All K H1 vs (ds ++ es) → H1 x = none → H1 dx = none → dx ≠ x → sp (.ref x :: vs) (upd (upd H1 dx (.own x)) x (.ins C dx [])) (fun v H2 => v = .non ∧ Q (.ref x) H2) E) : tMake C sp dvs E tr σ H Q :=
  hr H (Ex.refl H) _ fun vs H1 e1 a x dx hx hdx ne => k (vs ++ dvs) H1 x dx e1 (a.app (hd H1)) hx hdx ne
theorem ok_line_of (T : Txt K mg) : FnG P w K mg base 5 (He.ga K "line_of") ["row"] (sp_line_of K) := by
  refine fnG (N := ["row"]) (st := s_line_of) T.f_line_of sc_line_of (fun vs H Q E h => ?_) (fun _ _ _ _ _ _ us hl => match us, hl with | [_], _ => rfl) (fun cdv A outer s H vs Q E hr h => ⟨_, (pss_one (ps_ret (pe_makeH T.k_Line (ok_Line___init__ T) (hr.mono (by decide)) (by rfl) T.m_Line (pa_cons (pe_fld (pv 0) rfl) (pa_cons (pe_methG0 (pv 0) T.c_Row T.x_Row_sums (ok_Row_sums T) (hr.mono (by decide))) pa_nil))))), ?_⟩)
  · obtain ⟨A, v, L, M, W, u, rfl, _⟩ := h
    rfl
  · obtain ⟨A, v, L, M, W, u, rfl, a1, ok, q⟩ := h
    try dsimp only [cxOf, Cx.nox, Cx.wish]
    refine em_make (K := K) (ds := [.tup (iL A), .lst (WD.frs (sms v))]) (ea1 (K := K) (ed_fld (ed_var rfl a1) T.c_Row T.n_Row_areas rfl) (ea1 (d := .lst (frs (sms v))) (EvD.is (EvN.toD (en_meth (K := K) (R := R_Row_sums) (es := (List.range (v.length + 1)).map fun j => fr (S v j)) (ed_var rfl a1) rfl ea0 ⟨A, v, L, rfl, ok.okR, rfl⟩)) ?_) ea0)) (fun H2 => .cons (.tup (tupA_ok T.t_Line___init___0 H2) .nil) .nil) fun vs H1 x dx e1 a hx hdx ne => ?_
    · unfold WD.frs sms
      rw [List.map_map]
      rfl
    · have e3 : Ex H1 (upd (upd H1 dx (.own x)) x (.ins (He.ga K "Line") dx [])) := (Ex.new hdx).trans (Ex.new (by
        rw [upd_ne ne.symm]
        exact hx))
      exact ⟨x, dx, vs, H1, A, sms v, M, rfl, upd_same, hx, e3, a, ok.sOk, fun p r B H' hp hr e4 l b0 b1 => ⟨rfl, q x p r B H' (fresh_back e1 hx) (fresh_back e1 hp) (fresh_back e1 hr) (e1.trans e4) l (ok.lineOk b0 b1) b1⟩⟩
theorem em_line_of {E : XK} {Q : VK} {σ : L2.St} {H : Hp} {A L : List Int} {v : List Rat} {M W : Nat} {tu : TE} (h : EvD K tu σ H (rowD A v L)) (ok : RowOk A v M W) (k : ∀ x p r B H', H x = none → H p = none → H r = none → Ex H H' → LineAt K H' x p r A B (sms v) → LineOk A B (sms v) → B ∣ M → Q (.ref x) H') : tCall (sp_line_of K) [] E (tCons tu tNil) σ H Q :=
  h H (Ex.refl H) _ fun u H1 e1 a => ⟨A, v, L, M, W, u, rfl, a, ok, fun x p r B H' hx hp hr e l lo b => k x p r B H' (fresh_back e1 hx) (fresh_back e1 hp) (fresh_back e1 hr) (e1.trans e) l lo b⟩

end
end My
end
section
set_option Elab.async false
set_option linter.all false
set_option maxRecDepth 100000
set_option maxHeartbeats 4000000
namespace My
open PySem PySem.Spec PyProof.Rows L2 Evl WD
local macro_rules | `(tactic| walk_at "exgo") => `(tactic| first | exact Ex.refl _ | assumption | (refine' Ex.trans ?ea ?eb; (case eb => assumption); (case ea => walk_at "exgo")))
local macro_rules | `(tactic| walk_at "is") => `(tactic| first | assumption | (refine' Is.ex ?e ?h; (case h => assumption); (case e => walk_at "exgo")) | exact Is.int _ | exact Is.bl _ | exact Is.non)
local macro_rules | `(tactic| walk_at "ev") => `(tactic| first
  | exact ed_int | exact ed_bl | exact ed_non | exact ed_str
  | ((with_reducible apply ed_var) <;> first | exact rfl | walk_at "is")
  | ((with_reducible apply ed_add) <;> walk_at "ev")
  | ((with_reducible apply ed_sub) <;> walk_at "ev")
  | ((with_reducible apply ed_neg) <;> walk_at "ev")
  | ((with_reducible apply ed_mulW) <;> try walk_at "ev")
  | ((with_reducible apply ed_divW) <;> try walk_at "ev")
  | ((with_reducible apply ed_mod) <;> try walk_at "ev")
  | ((with_reducible apply ed_ixT) <;> first | exact rfl | walk_at "ev" | skip)
  | ((with_reducible apply ed_ixL) <;> first | exact rfl | walk_at "ev" | skip)
  | ((with_reducible apply ed_lt) <;> walk_at "ev")
  | ((with_reducible apply ed_le) <;> walk_at "ev")
  | ((with_reducible apply ed_gt) <;> walk_at "ev")
  | ((with_reducible apply ed_ge) <;> walk_at "ev")
  | ((with_reducible apply ed_eqI) <;> walk_at "ev")
  | ((with_reducible apply ed_neI) <;> walk_at "ev")
  | ((with_reducible apply ed_gcd) <;> walk_at "ev")
  | ((with_reducible apply ed_abs) <;> walk_at "ev")
  | ((with_reducible apply ed_intI) <;> walk_at "ev")
  | ((with_reducible apply ed_intB) <;> walk_at "ev")
  | ((with_reducible apply ed_max2) <;> walk_at "ev")
  | ((with_reducible apply ed_min2) <;> walk_at "ev")
  | ((with_reducible apply ed_lenT) <;> walk_at "ev")
  | ((with_reducible apply ed_lenL) <;> walk_at "ev")
  | ((with_reducible apply ed_tuple) <;> walk_at "ev")
  | ((with_reducible apply ed_tupleT) <;> walk_at "ev")
  | ((with_reducible apply ed_tup) <;> first | walk_at "ea" | (simp; done) | skip)
  | ((with_reducible apply et_t) <;> walk_at "ev")
  | ((with_reducible apply et_v) <;> walk_at "ev"))
local macro_rules | `(tactic| walk_at "ea") => `(tactic| first
  | exact ea0
  | ((with_reducible apply ea1) <;> first | walk_at "ev" | walk_at "ea" | skip))

section
variable {P : Program} {w : World} {K : PySem.W.Frag} {mg : Str → Option Value} {base : Heap}
def R_check_order (ds es : List D) : Prop := ∃ A v L O, ds = [rowD A v L, .lst (iL O)] ∧ O.length ≤ 400 ∧ (∀ o ∈ O, inR A L o = true) ∧ es = iL O
theorem ok_check_order (T : Txt K mg) : FnG P w K mg base 3 (He.ga K "check_order") ["row", "order"] (spN K R_check_order) := by
  refine fnG (N := ["row", "order", "place", "weir"]) (st := s_check_order) T.f_check_order sc_check_order (fun vs H Q E h => ?_) (fun _ _ _ _ _ _ us hl => match us, hl with | [_, _], _ => rfl) (fun cdv A outer s H vs Q E hr h => ⟨_, (pss_cons (ps_if (PW.pt (pw_or (pt_not (pt_val (pe_callB call_isiT (by rfl) T.z_isinstance (by decide +kernel) (pa_cons (pv 1) (pa_cons (pe_tup (pa_cons (pe_tyN (n := "list") (by rfl) T.z_list (by decide +kernel)) (pa_cons (pe_tyN (n := "tuple") (by rfl) T.z_tuple (by decide +kernel)) pa_nil))) pa_nil))))) (pw_or1 (pt_cmpR op_gt (pe_callB call_lenS (by rfl) T.z_len PySem.boot_len (pa_cons (pv 1) pa_nil)) (pe_globI (by rfl) T.i_MOST_OPENINGS) (nomark _))))) (pss_one ps_never) pss_nil) (pss_cons (ps_for PassesOwn.never rfl (pi_enum (by rfl) T.z_enumerate (pa_cons (pv 1) pa_nil)) (pg_tup rfl (pgs_cons (pg_name (i := 2) sc_check_order.nd rfl (.inl rfl)) (pgs_cons (pg_name (i := 3) sc_check_order.nd rfl (.inl rfl)) pgs_nil))) (pss_one (ps_if (pt_cmpR (notInO_of (ok_Row___contains__ T) T.x_Row___contains__ (hr.mono (by decide))) (pv 3) (pv 0) (by rfl)) (pss_one ps_never) pss_nil))) (pss_one (ps_ret (pe_callTy call_listS (by rfl) T.z_list (by decide +kernel) (pa_cons (pv 1) pa_nil)))))), ?_⟩)
  · obtain ⟨ds, d, a, ⟨A, v, L, O, rfl, _⟩, _⟩ := h
    exact a.len
  · obtain ⟨ds, d, a, ⟨A, v, L, O, rfl, hO, hi, rfl⟩, q⟩ := h
    obtain ⟨u, u', rfl, a1, a2⟩ := All.inv2 a
    try dsimp only [cxOf, Cx.nox, Cx.wish]
    refine q_when (b := false || decide ((O.length : Int) > 20000)) (et_or (et_not (a := true || false) (et_v (K := K) (ed_isiT (n1 := "list") (n2 := "tuple") (ed_var rfl a2) rfl (by decide +kernel) (by decide +kernel)))) fun _ => et_t (K := K) (ed_gt (EvD.is (ed_lenL (K := K) (ed_var rfl a2)) (by rw [iLlen])) ed_int)) (fun z => ?_) (fun _ H1 e1 => ?_)
    · exfalso
      rw [decide_eq_false (show ¬ ((O.length : Int) > 20000) by omega)] at z
      cases z
    · refine q_look (K := K) (W := fun σ => ∃ y z, σ = [some u, some u', y, z]) (EvI.is (ei_enum (es_any (ed_var rfl (a2.ex e1))) (iLlf O)) (iLlen O)) ⟨none, none, rfl⟩ ?_ ?_
      · rintro i x σ' H' H'' hii ⟨y, z, rfl⟩ e2 e3 ax Nx hN
        refine g_two ax fun z1 z2 az1 az2 => ?_
        rw [show (iL O).getD i .non = .int O[i] from getD_map _ _ _ hii] at az2
        refine s_when (b := false) (et_t (EvD.is (ed_inO (K := K) (neg := true) (b := true) (ed_var rfl az2) (ed_var rfl (a1.ex ((e1.trans e2).trans e3))) ⟨A, v, L, O[i], rfl, by rw [hi _ (List.getElem_mem hii)]⟩) rfl)) (fun z => nomatch z) (fun _ H4 e4 => hN _ _ ⟨_, _, rfl⟩ e4)
      · rintro σ' H' ⟨y, z, rfl⟩ e2
        exact s_retN (K := K) (en_list (ed_var rfl (a2.ex (e1.trans e2)))) fun p xs H3 hp e3 hx ax => q p xs H3 (fresh_back (e1.trans e2) hp) ((e1.trans e2).trans e3) hx ax

end
end My
end
section
set_option Elab.async false
set_option linter.all false
set_option maxRecDepth 100000
set_option maxHeartbeats 4000000
namespace My
open PySem PySem.Spec PyProof.Rows L2 Evl WD
local macro_rules | `(tactic| walk_at "exgo") => `(tactic| first | exact Ex.refl _ | assumption | (refine' Ex.trans ?ea ?eb; (case eb => assumption); (case ea => walk_at "exgo")))
local macro_rules | `(tactic| walk_at "is") => `(tactic| first | assumption | (refine' Is.ex ?e ?h; (case h => assumption); (case e => walk_at "exgo")) | exact Is.int _ | exact Is.bl _ | exact Is.non)
local macro_rules | `(tactic| walk_at "ev") => `(tactic| first
  | exact ed_int | exact ed_bl | exact ed_non | exact ed_str
  | ((with_reducible apply ed_var) <;> first | exact rfl | walk_at "is")
  | ((with_reducible apply ed_add) <;> walk_at "ev")
  | ((with_reducible apply ed_sub) <;> walk_at "ev")
  | ((with_reducible apply ed_neg) <;> walk_at "ev")
  | ((with_reducible apply ed_mulW) <;> try walk_at "ev")
  | ((with_reducible apply ed_divW) <;> try walk_at "ev")
  | ((with_reducible apply ed_mod) <;> try walk_at "ev")
  | ((with_reducible apply ed_ixT) <;> first | exact rfl | walk_at "ev" | skip)
  | ((with_reducible apply ed_ixL) <;> first | exact rfl | walk_at "ev" | skip)
  | ((with_reducible apply ed_lt) <;> walk_at "ev")
  | ((with_reducible apply ed_le) <;> walk_at "ev")
  | ((with_reducible apply ed_gt) <;> walk_at "ev")
  | ((with_reducible apply ed_ge) <;> walk_at "ev")
  | ((with_reducible apply ed_eqI) <;> walk_at "ev")
  | ((with_reducible apply ed_neI) <;> walk_at "ev")
  | ((with_reducible apply ed_gcd) <;> walk_at "ev")
  | ((with_reducible apply ed_abs) <;> walk_at "ev")
  | ((with_reducible apply ed_intI) <;> walk_at "ev")
  | ((with_reducible apply ed_intB) <;> walk_at "ev")
  | ((with_reducible apply ed_max2) <;> walk_at "ev")
  | ((with_reducible apply ed_min2) <;> walk_at "ev")
  | ((with_reducible apply ed_lenT) <;> walk_at "ev")
  | ((with_reducible apply ed_lenL) <;> walk_at "ev")
  | ((with_reducible apply ed_tuple) <;> walk_at "ev")
  | ((with_reducible apply ed_tupleT) <;> walk_at "ev")
  | ((with_reducible apply ed_tup) <;> first | walk_at "ea" | (simp; done) | skip)
  | ((with_reducible apply et_t) <;> walk_at "ev")
  | ((with_reducible apply et_v) <;> walk_at "ev"))
local macro_rules | `(tactic| walk_at "ea") => `(tactic| first
  | exact ea0
  | ((with_reducible apply ea1) <;> first | walk_at "ev" | walk_at "ea" | skip))

section
variable {P : Program} {w : World} {K : PySem.W.Frag} {mg : Str → Option Value} {base : Heap}
theorem em_even {te : TE} {tr : TA} {E : XK} {Q : VK} {σ : L2.St} {H : Hp} {x p r : Addr} {A : List Int} {B : Nat} {s : List Rat} {j : Nat} (h : LineAt K H x p r A B s) (ok : LineOk A B s) (j1 : 1 ≤ j) (j2 : j < A.length) (ho : Ev te σ H (.ref x)) (hr : EvDA K tr σ H [.int (j : Int)])
    (k : ∀ (B' : Nat) H', Mu [x, p, r] H H' → LineAt K H' x p r A B' (evn A s j) → 0 < B' → B ∣ B' → B' ∣ B * (A.getD (j - 1) 1 + A.getD j 1).toNat → Q .non H') : tMeth (He.ga K "Line") "even" (sp_even K) [] E te tr σ H Q := by
  obtain ⟨ts, bs, dx, va, l⟩ := id h
  refine em_meth ho l.ob rfl hr fun vs H1 e1 a => ?_
  obtain ⟨v, rfl, a1⟩ := All.inv1 a
  cases a1
  exact ⟨x, p, r, A, B, s, j, rfl, h.ex e1, ok, j1, j2, fun B' H' m l' b0 b1 b2 => k B' H' ((Mu.ex e1).trans m) l' b0 b1 b2⟩
theorem evn_len (A : List Int) (s : List Rat) (j : Nat) : (evn A s j).length = s.length := List.length_set
theorem evn_ne {A : List Int} {s : List Rat} {j k : Nat} (h : k ≠ j) : (evn A s j).getD k 0 = s.getD k 0 := by
  unfold evn
  rw [List.getD_eq_getElem?_getD, List.getElem?_set_ne (by omega)]
  exact List.getD_eq_getElem?_getD.symm
theorem mean_le {a b : Int} {x y hi : Rat} (ha : 1 ≤ a) (hb : 1 ≤ b) (hx : x ≤ hi) (hy : y ≤ hi) : ((b : Rat) * x + (a : Rat) * y) / ((a + b : Int) : Rat) ≤ hi := by
  have a0 : (0 : Rat) < (a : Rat) := by exact_mod_cast (show (0 : Int) < a by omega)
  have b0 : (0 : Rat) < (b : Rat) := by exact_mod_cast (show (0 : Int) < b by omega)
  have c0 : (0 : Rat) < ((a + b : Int) : Rat) := by exact_mod_cast (show (0 : Int) < a + b by omega)
  have h1 := Rat.mul_le_mul_of_nonneg_left hx (Rat.le_of_lt b0)
  have h2 := Rat.mul_le_mul_of_nonneg_left hy (Rat.le_of_lt a0)
  have e : ((b : Rat) * x + (a : Rat) * y) / ((a + b : Int) : Rat) * ((a + b : Int) : Rat) = (b : Rat) * x + (a : Rat) * y := by grind
  generalize ((b : Rat) * x + (a : Rat) * y) / ((a + b : Int) : Rat) = z at e ⊢
  apply Decidable.byContradiction
  intro n
  have n := Rat.not_le.mp n
  have h3 := Rat.mul_pos (show 0 < z - hi by grind) c0
  rw [Rat.intCast_add] at e h3
  grind
theorem mean_ge {a b : Int} {x y lo : Rat} (ha : 1 ≤ a) (hb : 1 ≤ b) (hx : lo ≤ x) (hy : lo ≤ y) : lo ≤ ((b : Rat) * x + (a : Rat) * y) / ((a + b : Int) : Rat) := by
  have a0 : (0 : Rat) < (a : Rat) := by exact_mod_cast (show (0 : Int) < a by omega)
  have b0 : (0 : Rat) < (b : Rat) := by exact_mod_cast (show (0 : Int) < b by omega)
  have c0 : (0 : Rat) < ((a + b : Int) : Rat) := by exact_mod_cast (show (0 : Int) < a + b by omega)
  have h1 := Rat.mul_le_mul_of_nonneg_left hx (Rat.le_of_lt b0)
  have h2 := Rat.mul_le_mul_of_nonneg_left hy (Rat.le_of_lt a0)
  have e : ((b : Rat) * x + (a : Rat) * y) / ((a + b : Int) : Rat) * ((a + b : Int) : Rat) = (b : Rat) * x + (a : Rat) * y := by grind
  generalize ((b : Rat) * x + (a : Rat) * y) / ((a + b : Int) : Rat) = z at e ⊢
  apply Decidable.byContradiction
  intro n
  have n := Rat.not_le.mp n
  have h3 := Rat.mul_pos (show 0 < lo - z by grind) c0
  rw [Rat.intCast_add] at e h3
  grind
theorem LineOk.evn {A : List Int} {B B' : Nat} {s : List Rat} (ok : LineOk A B s) {j : Nat} (j1 : 1 ≤ j) (j2 : j < A.length) (b0 : 0 < B') (b1 : B' < 2 ^ 2000) : LineOk A B' (evn A s j) := by
  have hl := ok.len
  have ha := ok.ar _ (gd_mem (z := 1) (show j - 1 < A.length by omega))
  have hb := ok.ar _ (gd_mem (z := 1) j2)
  have m1 : s.getD (j - 1) 0 ∈ s := gd_mem (by omega)
  have m2 : s.getD (j + 1) 0 ∈ s := gd_mem (by omega)
  refine ⟨(evn_len A s j).trans hl, ok.al, ok.ar, b0, b1, fun q hq => ?_, fun q hq => ?_⟩
  · unfold My.evn at hq
    rcases List.mem_or_eq_of_mem_set hq with hq | rfl
    · exact ok.lo q hq
    · exact mean_ge ha.1 hb.1 (ok.lo _ m1) (ok.lo _ m2)
  · unfold My.evn at hq
    rcases List.mem_or_eq_of_mem_set hq with hq | rfl
    · exact ok.hi q hq
    · exact mean_le ha.1 hb.1 (ok.hi _ m1) (ok.hi _ m2)
/-- what stands ahead of the weirs behind the first openings -/
def lns (A : List Int) (v : List Rat) (O : List Int) (k : Nat) : List Rat := (O.take k).foldl (fun s o => evn A s o.toNat) (sms v)
theorem lns_succ (A : List Int) (v : List Rat) (O : List Int) (k : Nat) (h : k < O.length) : lns A v O (k + 1) = evn A (lns A v O k) O[k].toNat := by
  unfold lns
  rw [List.take_succ_eq_append_getElem h, List.foldl_append]
  rfl
theorem g_setL {Q : L2.St → Hp → Prop} {σ : L2.St} {H : Hp} {ta tb : TE} {l : Addr} {xs : List V} {i : Int} {j : Nat} {v : V} (hl : H l = some (.lst xs)) (ho : Ev ta σ H (.ref l)) (hi : EvD K tb σ H (.int i)) (hj : ixN xs.length i = some j) (k : ∀ H1, Ex H H1 → Q σ (upd H1 l (.lst (xs.set j v)))) : gSub ta tb rSetL v σ H Q :=
  ho H (Ex.refl H) _ fun H2 e2 => hi H2 e2 _ fun w H3 e3 b => by
    cases b
    exact ⟨l, xs, i, j, rfl, rfl, (e2.trans e3) l _ hl, hj, k H3 (e2.trans e3)⟩

end
end My
end
section
set_option Elab.async false
set_option linter.all false
set_option maxRecDepth 100000
namespace WD
open PySem PySem.Spec PyProof.Rows L2 Evl
section
variable {P : Program} {w : World} {K : PySem.W.Frag} {mg : Str → Option Value} {base : Heap}
/-- a def that may raise, its body's reading -/
theorem fnX {x qual : Str} {st : Stmt} {f : Addr} {N ps : List Str} {k : Nat} {sp : Sp} (F : ∃ fd, FunD K x qual (defArgs st) (defBody st) (defScope st) [] [] f fd) (S : FnScope N ps (defScope st)) (len : ∀ vs H Q E, sp vs H Q E → vs.length = ps.length)
    (hb : ∀ (kV doc pm : Value) (an : Option Addr) (cdv ct : Value) (us : List Value), us.length = ps.length → bindArgs (PySem.W.fnOf x qual (defArgs st) (defBody st) (defScope st) .none kV doc pm an cdv ct) ⟨us, []⟩ = pure (ps.zip us))
    (hbody : ∀ (cdv : Value) (A : Around) (outer : List Env) (s : Shared) (H : Hp) (vs : List V) (Q : VK) (E : XK), Room k (A.deeper (envOfC qual (defScope st) s.heap.objs.size f cdv)) → sp vs H Q E →
      ∃ t, PSs (cxOf (L2.CX P w) P w K mg base N qual (defScope st) f cdv A outer s H E) (defBody st) t ∧ t { nx := fun _ H' => Q .non H', rt := Q } (start N vs) H) : FnG P w K mg base (k + 1) f ps sp := by
  obtain ⟨fd, F⟩ := F
  exact ⟨⟨fd, F.ok S len (fun cdv A outer s H vs Q E hr h => hbody cdv A outer s H vs Q E hr h), F.bindsN hb⟩, F.kp⟩
end
section
variable {X : Cx} {k : Nat} {f : Addr} {ps : List Str} {sp : Sp} {x : Str} {p pos : Pos} {e : Expr} {es : List Expr} {t : TA} {W : WX}
/-- a call that may raise -/
theorem pe_callSG (F : FnG X.prog X.w X.K X.mg X.base k f ps sp) (hr : Room k X.A) (hg : Gl X x) (hm : X.mg x = some (.ref f)) (tk : Takes X W) (ha : PA X (e :: es) t)
    (hdb : (x == ("__debug__" : Str)) = false := by decide) (hst : starEach (e :: es) X.env = (false, eval e X.env) :: starEach es X.env := by rfl) (hpl : (backTo pos (starEach es X.env)).any (·.1) = false := by rfl) :
    PE X (.Call (.Name x p) (e :: es) [] pos) (tCallS sp (WE W) t) := by
  obtain ⟨⟨fd, F, B⟩, kp⟩ := F
  exact pe_callS F hr hg hm kp B (fun σ => passAt tk σ) ha hdb hst hpl
end
section
variable {K : PySem.W.Frag} {σ : L2.St} {H : Hp} {ta : TA} {d : D} {ds : List D} {W : WX} {C : Addr} {f : Str} {En : Ends}
theorem s_raiseSup (h : EvDA K ta σ H [d]) (k : ∀ v dd H1, H dd = none → Ex H H1 → H1 dd = some (.xd [(f, v)]) → Is K H1 v d → D.lf d = true → W (.ref C) (some dd) σ H1) (hl : D.lf d = true) : tRaiseSup C f W ta En σ H :=
  h H (Ex.refl H) _ fun vs H1 e a => by
    cases a with
    | @cons v _ _ _ av a =>
    cases a
    exact ⟨v, rfl, fun dd hd => k v dd _ (fresh_back e hd) (e.trans (Ex.new hd)) upd_same (av.ex (Ex.new hd)) hl⟩
/-- a call that raises -/
theorem q_callS {sp : Sp} {tz : TS} {tg : TG} (h : EvDA K ta σ H ds) (k : ∀ vs H1 Q, Ex H H1 → All K H1 vs ds → sp vs H1 Q (WE W σ)) : tSeq (tAsg (tCallS sp (WE W) ta) tg) tz En σ H := h H (Ex.refl H) _ fun vs H1 e a => k vs H1 _ e a
theorem s_callS {sp : Sp} (h : EvDA K ta σ H ds) (k : ∀ vs H1 Q, Ex H H1 → All K H1 vs ds → sp vs H1 Q (WE W σ)) : tDrop (tCallS sp (WE W) ta) En σ H := h H (Ex.refl H) _ fun vs H1 e a => k vs H1 _ e a
end
end WD
end
section
set_option Elab.async false
set_option linter.all false
set_option maxRecDepth 100000
set_option maxHeartbeats 4000000
namespace RL
open PySem PySem.Spec PyProof.Rows PySem.F RT
section
variable {prog : Program} {w : World} {A : Around} {E : Value → Shared → Prop} {s : Shared}
/-- list(reversed(l)) -/
theorem call_list_rev {it l : Addr} {items : Array Value} {Q : Value → Shared → Prop} (hh : A.handled = none) (hit : s.heap.IsRevIter it l ((items.size : Int) - 1)) (hl : s.heap.IsList l items) (hne : l ≠ it) (hn : items.size ≤ sizeLine)
    (hQ : ∀ (h' : Heap) (tk : Nat) (acc : Array Value) (c : Nat), (∀ b o, b ≠ it → s.heap.get? b = some o → h'.get? b = some o) → h'.get? s.heap.objs.size = some { cls := .type "list", dict := none, data := .seq acc c, slots := #[] } → ItemsOf (fun i v => items[items.size - 1 - i]? = some v) acc items.size →
      Q (.ref s.heap.objs.size) { s with heap := h', toks := tk }) :
    wpAny (model prog w) A (call (.type "list") [.ref it]) Q E s := by
  have W := (Walks.listRev (prog := prog) (w := w) (A := A.in1.in1) hh it l hne items).toS
  obtain ⟨oi, hoi, _⟩ := id hit
  obtain ⟨ol, hol, _⟩ := id hl
  have hSi : s.heap.objs.size ≠ it := Nat.ne_of_gt (Heap.lt_size hoi)
  have hSl : s.heap.objs.size ≠ l := Nat.ne_of_gt (Heap.lt_size hol)
  have hSf : s.heap.objs.size ∉ [it, l] := by simp only [List.mem_cons, List.not_mem_nil, or_false, not_or]; exact ⟨hSi, hSl⟩
  refine callType_codes (Q₁ := fun obj s₁ => obj = .ref s.heap.objs.size ∧ s₁ = { s with heap := s.heap.push { cls := .type "list", data := .seq #[] } }) called_list (typeCall_list_1 _) entry_list_init (code_list_new _ ⟨rfl, rfl⟩) fun obj s₁ he => ?_
  obtain ⟨rfl, rfl⟩ := he
  have hS : (s.heap.push { cls := .type "list", data := .seq #[] }).get? s.heap.objs.size = some { cls := .type "list", data := .seq #[] } := Heap.get?_push_size _ rfl
  refine ⟨⟨_, hS, rfl⟩, args_list_init_2 _ _, ?_⟩
  show wpAny _ _ (do let old ← Builtin.List.listItems (.ref s.heap.objs.size); Builtin.List.listUpdate (.ref s.heap.objs.size) (fun _ => #[]); letGo old.toList.reverse; Builtin.List.listExtendWith (.ref s.heap.objs.size) (.ref it) .none) _ _ _
  refine wpAny_bind ?_
  unfold Builtin.List.listItems
  refine wpAny_bind (wpAny_seqItems hS rfl (wpAny_pure ?_))
  show wpAny _ _ (updateSeq s.heap.objs.size (fun _ => #[]) >>= fun _ => letGo (#[] : Array Value).toList.reverse >>= fun _ => Builtin.List.listExtendWith (.ref s.heap.objs.size) (.ref it) .none) _ _ _
  refine wpAny_bind (wpAny_updateSeq hS rfl ?_)
  have u1 := Heap.get?_update_self (Obj.mapSeq (fun _ => (#[] : Array Value))) hS rfl
  have oth : ∀ c o, s.heap.get? c = some o → ((s.heap.push { cls := .type "list", data := .seq #[] }).update s.heap.objs.size (Obj.mapSeq (fun _ => (#[] : Array Value)))).get? c = some o := fun c o e =>
    (Heap.get?_update_other _ _ (Nat.ne_of_gt (Heap.lt_size e))).trans (Heap.get?_push_of_some _ e)
  refine wpAny_bind (wpAny_letGo ?_)
  generalize hH : ((s.heap.push { cls := .type "list", data := .seq #[] }).update s.heap.objs.size (Obj.mapSeq (fun _ => (#[] : Array Value)))) = H1 at u1 oth ⊢
  have hit1 : H1.IsRevIter it l ((items.size : Int) - 1) := hit.at fun o e => oth _ o e
  have hl1 : H1.IsList l items := hl.at fun o e => oth _ o e
  have hT : ({ s with heap := H1 } : Shared).TypeIs (.ref it) "list_reverseiterator" := Heap.IsRevIter.typeIs (s := { s with heap := H1 }) hit1
  have h1 : Builtin.List.listSameRef (.ref s.heap.objs.size) (.ref it) = false := by simp [Builtin.List.listSameRef, hSi]
  unfold Builtin.List.listExtendWith
  refine wpAny_bind (wpAny_typeOf hT ?_)
  rw [if_neg (by rw [h1]; decide)]
  refine wpAny_bind (wpAny_pyIter_revIter (s := { s with heap := H1 }) hit1 ?_)
  refine wpAny_bind (wpAny_holding ?_)
  unfold Builtin.List.listLengthHint
  refine wpAny_bind (wpAny_specialOf hT nolen_lri ?_)
  show wpAny _ _ (specialOf (Value.ref it) (Str.ofString "__length_hint__") >>= _) _ _ _
  refine wpAny_bind (wpAny_specialOf hT hint_lri ?_)
  generalize hid : ("list_reverseiterator.__length_hint__" : String) = id0
  wp_delta
  rw [show splitId id0 = some ("list_reverseiterator", "__length_hint__") from by subst hid; decide +kernel]
  subst hid
  refine wpAny_bind (wpAny_isInstance (b := true) hT (by rw [isSubtype_type]; kernel_rfl) ?_)
  refine wpAny_pure ?_
  rw [if_neg (by decide)]
  have e0 : ((items.size : Nat) : Int) - 1 - ((0 : Nat) : Int) = (items.size : Int) - 1 := by omega
  refine wpAny_pure ⟨plainId_quiet plain_extend_loop _, codeAny_extend_loopS W hn _ hSf _ items.size 0 _ _ _ rfl (Nat.zero_le _) ⟨Nat.zero_le _, by rw [e0]; exact hit1, hl1⟩ u1 (ItemsOf.nil _) fun s' acc' c' hm hS' hacc => ?_⟩
  refine ⟨rfl, ?_⟩
  rw [Moved.eq_with hm]
  refine hQ s'.heap s'.toks acc' c' (fun b o hb e => hm.heap b o (fun hmem => ?_) (oth b o e)) hS' hacc
  rcases List.mem_cons.mp hmem with e' | hmem
  · exact absurd (Heap.lt_size e) (by rw [e']; exact Nat.lt_irrefl _)
  · exact hb (List.mem_singleton.mp hmem)
end
end RL
namespace L2
open PySem PySem.Spec PyProof.Rows
section
variable {X : Cx}
def tListRev (K : PySem.W.Frag) (te : TE) : TE := fun σ H Q => te σ H fun v H1 => ∃ (a : Addr) (xs : List V), v = .ref a ∧ SqL K H1 a xs ∧ ∀ q, H1 q = none → Q (.ref q) (upd H1 q (.lst xs.reverse))
theorem pe_listRev {e : Expr} {te : TE} {p p2 pos pos2 : Pos} (hc : X.calm = true) (hg : Gl X "list") (hm : X.mg "list" = none) (hg2 : Gl X "reversed") (hm2 : X.mg "reversed" = none) (he : PE X e te)
    (hs : starEach [e] X.env = (false, eval e X.env) :: starEach [] X.env := by rfl)
    (hs2 : starEach [.Call (.Name "reversed" p2) [e] [] pos2] X.env = (false, eval (.Call (.Name "reversed" p2) [e] [] pos2) X.env) :: starEach [] X.env := by rfl) :
    PE X (.Call (.Name "list" p) [.Call (.Name "reversed" p2) [e] [] pos2] [] pos) (tListRev X.K te) := by
  refine ⟨fun pins s σ H Q I h => ?_⟩
  refine Call_ (ld_blt I hg hm boot_list (PyProof.Rows.callWith_type1 (args_cons (Call_ (ld_blt I hg2 hm2 PyProof.Rows.boot_reversed (PyProof.Rows.callWith_type1 (args_cons (thn (he.run pins s σ H _ I h) fun u s1 ⟨v, H1, I1, r1, q1⟩ => args_nil ?_) hs) hs rfl))) hs2) hs2 rfl))
  obtain ⟨a, xs, ev, hq, q⟩ := q1
  subst ev
  obtain rfl : u = Value.ref a := r1
  obtain ⟨its, rv, p', hz⟩ := I1.list hq
  refine call_reversed_list p'.isList (args_nil ?_)
  have k0 : ∀ b o, s1.heap.get? b = some o → (s1.heap.push (revObj a ((its.toArray.size : Int) - 1))).get? b = some o := fun b o e => Heap.get?_push_of_some _ e
  have hl := p'.isList
  obtain ⟨ol, hol, _⟩ := id hl
  have hne : a ≠ s1.heap.objs.size := Nat.ne_of_lt (Heap.lt_size hol)
  have hn : its.toArray.size ≤ sizeLine := by rw [List.size_toArray, ← rv.length]; exact hz
  refine RL.call_list_rev (s := { s1 with heap := s1.heap.push (revObj a ((its.toArray.size : Int) - 1)) }) (I1.ok.hd hc) ⟨_, Heap.get?_push_size _ rfl, rfl, rfl⟩ (hl.push _) hne hn fun h' tk acc c hk hS hi => ?_
  have k1 : ∀ b o, s1.heap.get? b = some o → h'.get? b = some o := fun b o e => hk b o (Nat.ne_of_lt (Heap.lt_size e)) (k0 b o e)
  refine ⟨.ref _, upd H1 (s1.heap.push (revObj a ((its.toArray.size : Int) - 1))).objs.size (.lst xs.reverse), I1.laid (t' := tk) k1 (by rw [Heap.size_push]; omega) (show ObjOk X.prog X.w _ _ _ (.lst xs.reverse) from ⟨by rw [List.length_reverse]; exact hz, acc.toList, c, RT.vals_rev rv hi, ?_⟩), rfl, q _ (I1.hok.fresh (by rw [Heap.size_push]; omega))⟩
  rw [Array.toArray_toList]
  exact hS
/-- list(range(a, b, c)), c below 0: a, a + c .. -/
def tListRg3 (ta : TA) : TE := fun σ H Q => ta σ H fun vs H1 => ∃ (i j c : Int) (n : Nat), vs = [.int i, .int j, .int c] ∧ RgC i j c n ∧ n ≤ 2 ^ 20 ∧ ∀ q, H1 q = none → Q (.ref q) (upd H1 q (.lst ((List.range n).map fun k => V.int (i + (k : Nat) * c))))
theorem pe_listRg3 {a b c : Expr} {ta : TA} {p p2 pos pos2 : Pos} (hc : X.calm = true) (hg : Gl X "list") (hm : X.mg "list" = none) (hg2 : Gl X "range") (hm2 : X.mg "range" = none) (ha : PA X [a, b, c] ta)
    (hs : starEach [a, b, c] X.env = (false, eval a X.env) :: starEach [b, c] X.env := by rfl) (hpl : (backTo pos2 (starEach [b, c] X.env)).any (·.1) = false := by rfl)
    (hs2 : starEach [.Call (.Name "range" p2) [a, b, c] [] pos2] X.env = (false, eval (.Call (.Name "range" p2) [a, b, c] [] pos2) X.env) :: starEach [] X.env := by rfl) :
    PE X (.Call (.Name "list" p) [.Call (.Name "range" p2) [a, b, c] [] pos2] [] pos) (tListRg3 ta) := by
  refine ⟨fun pins s σ H Q I h => ?_⟩
  refine Call_ (ld_blt I hg hm boot_list (PyProof.Rows.callWith_type1 (args_cons (Call_ (ld_blt I hg2 hm2 boot_range (PyProof.Rows.callWith_type1 (thn (ha.run pos2 pins s σ H _ I h) fun us s1 ⟨vs, H1, I1, r1, q1⟩ => ?_) hs hpl))) hs2) hs2 rfl))
  obtain ⟨i, j, k, n, e, ⟨c0, c1, c2, c3⟩, hn, q⟩ := q1
  subst e
  cases r1 with
  | cons r rr =>
    cases rr with
    | cons r' rr =>
      cases rr with
      | cons r'' rr =>
        cases rr
        obtain ⟨t, rfl⟩ := r
        obtain ⟨t', rfl⟩ := r'
        obtain ⟨t'', rfl⟩ := r''
        refine call_range_3 c0 (args_nil ?_) (.inl (PyProof.noPylong_small c1))
        refine call_list_range (n := n) (I1.ok.hd hc) (IsRange.new ..) c2 c3 (Nat.le_trans hn (by decide)) fun h' tk acc cc hk e' hi => ?_
        have k0 : ∀ b o, s1.heap.get? b = some o → h'.get? b = some o := fun b o e => hk b o (Heap.get?_push_of_some _ e)
        refine ⟨.ref _, upd H1 _ (.lst ((List.range n).map fun m => V.int (i + (m : Nat) * k))), I1.laid (t' := tk) k0 (by rw [Heap.size_push]; omega) (show ObjOk X.prog X.w _ _ _ (.lst _) from ⟨?_, acc.toList, cc, ?_, ?_⟩), rfl, q _ (I1.hok.fresh (by rw [Heap.size_push]; omega))⟩
        · rw [List.length_map, List.length_range, sizeLine_eq]; omega
        · have el : acc.toList.length = n := by rw [Array.length_toList]; exact hi.1
          rw [← el]
          refine vals_of_get acc.toList _ fun m u hm => ?_
          obtain ⟨t, rfl⟩ := hi.2 m u (by rw [← hm, Array.getElem?_toList])
          exact ⟨t, rfl⟩
        · rw [Array.toArray_toList]; exact e'
/-- x in (.., ..), data of any depth in a tuple -/
def rInDT (K : PySem.W.Frag) : R2 := fun x y H Q => ∃ d ds, Dp K H x d ∧ Dp K H y (.tuple ds) ∧ PyData.canLay0 d = true ∧ PyData.canLayAll0 ds = true ∧ PyData.depthAll ds ≤ 60 ∧ Q (.bl (ds.any fun z => PyData.eqv z d)) H
theorem op_inDT (hu : X.A.units + 64 < cLine) : OpR X (compareOp .In) (rInDT X.K) := by
  intro pins s σ H x y v u Q I rx ry h
  obtain ⟨d, ds, hd, he, sd, se, hdp, q⟩ := h
  obtain ⟨as, r1⟩ := Dp.reads I d x v hd rx
  obtain ⟨bs, r2⟩ := Dp.reads I (.tuple ds) y u he ry
  exact SeqAt.in_tuple_reads r2 r1 se sd (by omega) ⟨.bl _, H, I, rfl, q⟩
/-- a + b, a an instance with an __add__ of the text -/
def rAddO (C : Addr) (sp : Sp) (E : XK) : R2 := fun x y H Q => ∃ a b dx dy fs gs, x = .ref a ∧ y = .ref b ∧ H a = some (.ins C dx fs) ∧ H b = some (.ins C dy gs) ∧ sp [.ref a, .ref b] H (fun v H' => ∃ c, v = .ref c ∧ Q (.ref c) H') E
def tAddS (C : Addr) (sp : Sp) (E : St → XK) (ta tb : TE) : TE := fun σ H Q => ta σ H fun x H1 => tb σ H1 fun y H2 => ∃ a b dx dy fs gs, x = .ref a ∧ y = .ref b ∧ H2 a = some (.ins C dx fs) ∧ H2 b = some (.ins C dy gs) ∧ sp [.ref a, .ref b] H2 (fun v H' => ∃ c, v = .ref c ∧ Q (.ref c) H') (E σ)
section
variable {CX : CXT} {C f : Addr} {fd : FuncData} {ps : List Str} {sp : Sp} {n : Nat} {pins : List (Addr × Obj)} {s : Shared} {σ : St} {H : Hp} {E : XK}
theorem run_addO (F : FnOk X.prog X.w X.K X.mg X.base CX n f fd ps sp) (hm : Meth X.K C "__add__" f) (hsf : PySem.W.selfFirst X.K C = true) (hb : Binds X.K fd ps []) (hx : PassesAt CX X σ E) (hr : Room n X.A)
    {a b dx dy : Addr} {fs gs : List (Str × V)} {Q : VK} (I : Inv X pins σ H s) (ha : H a = some (.ins C dx fs)) (hb' : H b = some (.ins C dy gs)) (hsp : sp [.ref a, .ref b] H (fun v H' => ∃ c, v = .ref c ∧ Q (.ref c) H') E) :
    wpAny (model X.prog X.w) X.A (binaryOp .Add (.ref a) (.ref b)) (EP X pins σ Q) X.xe s := by
  obtain ⟨mA, J, _⟩ := ins_get I.hok ha
  obtain ⟨mB, J', _⟩ := ins_get I.hok hb'
  obtain ⟨od, J, _⟩ := J.look
  obtain ⟨od', J', _⟩ := J'.look
  obtain ⟨m, hF⟩ := I.fr
  refine PySem.W.binop_K (op := .Add) hF I.ok.mod.kin J J'.type hsf hm.at_ hm.fn ?_
  refine wpAny_mono (run_fnS (E := fun _ => E) F hr hb hx I (.cons (show RelV (.ref a) (.ref a) from rfl) (.cons (show RelV (.ref b) (.ref b) from rfl) .nil)) hsp) (fun v s' z => ?_) fun _ _ x => x
  obtain ⟨w, H', I', rw', c, rfl, q⟩ := z
  cases rw'
  exact ⟨.ref c, H', I', rfl, q⟩
end
section
variable {C f : Addr} {ps : List Str} {sp : Sp} {n : Nat} {e1 e2 : Expr} {ta tb : TE} {pos : Pos} {W : WX}
theorem addO_of (F : WD.FnG X.prog X.w X.K X.mg X.base n f ps sp) (hm : Meth X.K C "__add__" f) (hsf : PySem.W.selfFirst X.K C = true) (hr : Room n X.A) : OpR X (binaryOp .Add) (rAddO C sp E0) := by
  obtain ⟨⟨fd, F, B⟩, kp⟩ := F
  intro pins s σ H x y v u Q I rx ry h
  obtain ⟨a, b, dx, dy, fs, gs, rfl, rfl, ha, hb', hsp⟩ := h
  cases rx
  cases ry
  exact run_addO F hm hsf B (fun pins H s e s' I c => passL pins σ H s e s' I c) hr I ha hb' hsp
theorem pe_addSG (F : WD.FnG X.prog X.w X.K X.mg X.base n f ps sp) (hm : Meth X.K C "__add__" f) (hsf : PySem.W.selfFirst X.K C = true) (hr : Room n X.A) (tk : Takes X W) (ha : PE X e1 ta) (hb : PE X e2 tb) : PE X (.BinOp e1 .Add e2 pos) (tAddS C sp (WE W) ta tb) := by
  obtain ⟨⟨fd, F, B⟩, kp⟩ := F
  refine ⟨fun pins s σ H Q I h => ?_⟩
  refine wpAny_BinOp (binT ha hb I h fun v u s2 x y H2 I2 rx ry q => ?_)
  obtain ⟨a, b, dx, dy, fs, gs, rfl, rfl, ha, hb', hsp⟩ := q
  cases rx
  cases ry
  exact run_addO F hm hsf B (passAt tk σ) hr I2 ha hb' hsp
def tMakeX (C : Addr) (sp : Sp) (E : St → XK) (t : TA) : TE := fun σ H Q => t σ H fun vs H1 => ∀ x dx, H1 x = none → H1 dx = none → dx ≠ x → sp (.ref x :: vs) (upd (upd H1 dx (.own x)) x (.ins C dx [])) (fun v H2 => v = .non ∧ Q (.ref x) H2) (E σ)
theorem run_makeS {CX : CXT} {fd : FuncData} {pins : List (Addr × Obj)} {σ : St} {H : Hp} {s : Shared} {Q : VK} {E : XK} {us : List Value} {vs : List V} (M : Mk X.K C f) (F : FnOk X.prog X.w X.K X.mg X.base CX n f fd ps sp) (hr : Room (n + 1) X.A) (hb : Binds X.K fd ps [])
    (hx : PassesAt CX X σ E) (I : Inv X pins σ H s) (r : Vals vs us)
    (h : ∀ x dx, H x = none → H dx = none → dx ≠ x → sp (.ref x :: vs) (upd (upd H dx (.own x)) x (.ins C dx [])) (fun v H2 => v = .non ∧ Q (.ref x) H2) E) :
    wpAny (model X.prog X.w) X.A (call (.ref C) us) (EP X pins σ Q) X.xe s := by
  have hq := h (s.heap.objs.size + 1) s.heap.objs.size (I.hok.fresh (Nat.le_succ _)) (I.hok.fresh (Nat.le_refl _)) (Nat.ne_of_lt (Nat.lt_succ_self _))
  have I2 := Inv.made (C := C) I
  have r2 : Vals (V.ref (s.heap.objs.size + 1) :: vs) (Value.ref (s.heap.objs.size + 1) :: us) := .cons rfl r
  have hl : (Value.ref (s.heap.objs.size + 1) :: us).length = ps.length := by
    have e := r2.length
    rw [F.len _ _ _ _ hq] at e
    exact e.symm
  refine wpAny_call (make_map (f := f) I.kIn M.makes M.init (beq_iff_eq.mp M.fn) (codeAny_mono (F.run _ X.stack _ _ ⟨Value.ref (s.heap.objs.size + 1) :: us, []⟩ (Value.ref (s.heap.objs.size + 1) :: us) _ _ E (hr.make C us [])
    (I2.env0.make C us []) (by
      have b := hb _ (Value.ref (s.heap.objs.size + 1) :: us) I2.kIn (by rw [List.append_nil]; exact hl)
      rw [List.append_nil] at b
      exact b) r2 hq) fun r s' hq' => ?_))
  cases r with
  | error e => exact hx pins _ _ e s' I2 hq'
  | ok fl =>
    cases fl with
    | ret u =>
      obtain ⟨v, H', I3, rv, ev, q3⟩ := I2.after hq'
      subst ev
      exact ⟨rv, ⟨V.ref (s.heap.objs.size + 1), H', I3, rfl, q3⟩⟩
    | next => exact False.elim hq'
    | brk => exact False.elim hq'
    | cont => exact False.elim hq'
theorem pe_makeSG {e : Expr} {es : List Expr} {x : Str} {p : Pos} {t : TA} (M : Mk X.K C f) (F : WD.FnG X.prog X.w X.K X.mg X.base n f ps sp) (hr : Room (n + 1) X.A) (hg : Gl X x) (hm : X.mg x = some (.ref C)) (tk : Takes X W) (ha : PA X (e :: es) t)
    (hdb : (x == ("__debug__" : Str)) = false := by decide) (he : starEach (e :: es) X.env = (false, eval e X.env) :: starEach es X.env := by rfl) (hpl : (backTo pos (starEach es X.env)).any (·.1) = false := by rfl) :
    PE X (.Call (.Name x p) (e :: es) [] pos) (tMakeX C sp (WE W) t) := by
  obtain ⟨⟨fd, F, B⟩, kp⟩ := F
  refine ⟨fun pins s σ H Q I h => ?_⟩
  refine wpAny_Call_Name_kw (ld_glob I hg hm ?_ hdb)
  refine PySem.W.callWith_K (h₀ := X.base) I.ok.mod.kin M.kp (thn (ha.run pos pins s σ H _ I h) fun us s1 ⟨vs, H1, I1, r, q⟩ => ⟨I1.kIn, ?_⟩) he hpl
  exact run_makeS M F hr B (passAt tk σ) I1 r q
def tMethX (C : Addr) (m : Str) (sp : Sp) (E : St → XK) (ta : TE) (t : TA) : TE := fun σ H Q => ta σ H fun x H1 => ∃ a dx fs, x = .ref a ∧ H1 a = some (.ins C dx fs) ∧ fs.lookup m = none ∧ t σ H1 fun vs H2 => sp (.ref a :: vs) H2 Q (E σ)
theorem pe_methSG {o e : Expr} {es : List Expr} {m : Str} {apos : Pos} {t : TA} {pl : Sem Bool} (he : PE X o ta) (c : Cls X.K C) (hm : Meth X.K C m f) (F : WD.FnG X.prog X.w X.K X.mg X.base n f ps sp) (hr : Room n X.A) (tk : Takes X W) (ha : PA X (e :: es) t)
    (hst : starEach (e :: es) X.env = (false, eval e X.env) :: starEach es X.env := by rfl) (hpl : (backTo pos (starEach es X.env)).any (·.1) = false := by rfl)
    (ht : eval (.Call (.Attribute o m apos) (e :: es) [] pos) X.env = (do
      let ov ← eval o X.env
      standAt apos.atName
      let (f, first) ← holding [ov] (getMethod ov m pl)
      callWith pos f first (backTo pos (starEach (e :: es) X.env)) (backToKw pos (keywordEach [] X.env))) := by rfl) :
    PE X (.Call (.Attribute o m apos) (e :: es) [] pos) (tMethX C m sp (WE W) ta t) := by
  obtain ⟨⟨fd, F, B⟩, kp⟩ := F
  refine ⟨fun pins s σ H Q I h => ?_⟩
  refine PySem.W.methodCall_KW (pl := pl) (thn (he.run pins s σ H _ I h) fun u s1 ⟨x, H1, I1, rx, a, dx, fs, ex, ea, l, q⟩ => ?_) ht
  subst ex
  obtain rfl : u = Value.ref a := rx
  refine getmeth_ok I1 ea c hm l ?_
  refine PySem.W.callWith_K (first := [.ref a]) (h₀ := X.base) I.ok.mod.kin hm.kp (thn (ha.run pos pins s1 σ H1 _ I1 q) fun us s2 ⟨vs, H2, I2, r, q2⟩ => ⟨I2.kIn, ?_⟩) hst hpl
  exact run_fnS (E := fun _ => WE W σ) (us := .ref a :: us) (vs := .ref a :: vs) F hr B (passAt tk σ) I2 (.cons rfl r) q2
end
end
end L2
end
section
set_option Elab.async false
set_option linter.all false
set_option maxRecDepth 100000
set_option maxHeartbeats 4000000
namespace WD
open PySem PySem.Spec PyProof.Rows L2 Evl
section
variable {K : PySem.W.Frag} {σ : L2.St} {H H' H1 : Hp} {ta tb te : TE} {tr : TA} {d d1 d2 : D} {ds es : List D} {En : Ends} {E : XK} {W : WX}
/-! ### what raises -/
/-- an expression that never gives a value -/
def EvX (te : TE) (σ : L2.St) (H : Hp) : Prop := ∀ H1, Ex H H1 → ∀ Q : VK, te σ H1 Q
theorem s_doX (h : EvX te σ H) : tDrop te En σ H := h H (Ex.refl H) _
theorem q_doX {tz : TS} (h : EvX te σ H) : tSeq (tDrop te) tz En σ H := h H (Ex.refl H) _
theorem s_retX (h : EvX te σ H) : tRet te En σ H := h H (Ex.refl H) _
theorem q_asgX {tg : TG} {tz : TS} (h : EvX te σ H) : tSeq (tAsg te tg) tz En σ H := h H (Ex.refl H) _
theorem ex_call {sp : Sp} {E : L2.St → XK} (h : EvDA K tr σ H ds) (k : ∀ vs H1 Q, Ex H H1 → All K H1 vs ds → sp vs H1 Q (E σ)) : EvX (tCallS sp E tr) σ H := fun H1 e Q => h H1 e _ fun vs H2 e2 a => k vs H2 Q (e.trans e2) a
theorem ex_meth {sp : Sp} {E : L2.St → XK} {m c : Str} {fs : List (Str × D)} (h : EvD K te σ H (.obj c fs)) (hl : fs.lookup m = none) (hr : EvDA K tr σ H ds) (k : ∀ vs H1 Q, Ex H H1 → All K H1 vs (.obj c fs :: ds) → sp vs H1 Q (E σ)) :
    EvX (tMethX (He.ga K c) m sp E te tr) σ H := fun H1 e Q => h H1 e _ fun v H2 e2 a => by
  cases a with
  | @obj x dx _ fvs _ hx af =>
    refine ⟨x, dx, fvs, rfl, hx, AllF.none af hl, hr H2 (e.trans e2) _ fun vs H3 e3 a3 => k _ H3 Q ((e.trans e2).trans e3) (.cons (.obj (e3 _ _ hx) (af.ex e3)) a3)⟩
theorem ex_make {c : Str} {sp : Sp} {E : L2.St → XK} (h : EvDA K tr σ H ds) (k : ∀ x dx vs H1 Q, Ex H H1 → H1 x = none → All K H1 vs ds → Ex H1 (upd (upd H1 dx (.own x)) x (.ins (He.ga K c) dx [])) → sp (.ref x :: vs) (upd (upd H1 dx (.own x)) x (.ins (He.ga K c) dx [])) Q (E σ)) : EvX (tMakeX (He.ga K c) sp E tr) σ H := fun H1 e Q =>
  h H1 e _ fun vs H2 e2 a x dx hx hdx ne => k x dx vs H2 _ (e.trans e2) hx a ((Ex.new hdx).trans (Ex.new (by
    rw [upd_ne ne.symm]
    exact hx)))
theorem ex_add {sp : Sp} {E : L2.St → XK} {c : Str} {fs gs : List (Str × D)} (h1 : EvD K ta σ H (.obj c fs)) (h2 : EvD K tb σ H (.obj c gs)) (k : ∀ vs H1 Q, Ex H H1 → All K H1 vs [.obj c fs, .obj c gs] → sp vs H1 Q (E σ)) : EvX (tAddS (He.ga K c) sp E ta tb) σ H := fun H1 e Q =>
  h1 H1 e _ fun v H2 e2 a => h2 H2 (e.trans e2) _ fun u H3 e3 b => by
    have a3 := a.ex e3
    cases a3 with
    | @obj x dx _ fvs _ hx af =>
      cases b with
      | @obj y dy _ gvs _ hy ag =>
        exact ⟨x, y, dx, dy, fvs, gvs, rfl, rfl, hx, hy, k _ H3 _ ((e.trans e2).trans e3) (.cons (.obj hx af) (.cons (.obj hy ag) .nil))⟩
theorem ed_addO {R : List D → D → Prop} {E : XK} {c : Str} {fs gs hs : List (Str × D)} (h1 : EvD K ta σ H (.obj c fs)) (h2 : EvD K tb σ H (.obj c gs)) (hR : R [.obj c fs, .obj c gs] (.obj c hs)) : EvD K (tOp (rAddO (He.ga K c) (spD K R) E) ta tb) σ H (.obj c hs) := ed_op h1 h2 fun v1 v2 H1 _ a1 a2 Q q => by
  cases a1 with
  | @obj x dx _ fvs _ hx af =>
    cases a2 with
    | @obj y dy _ gvs _ hy ag =>
      refine ⟨x, y, dx, dy, fvs, gvs, rfl, rfl, hx, hy, _, _, .cons (.obj hx af) (.cons (.obj hy ag) .nil), hR, fun v H' e a => ?_⟩
      cases a with
      | obj h1 h2 => exact ⟨_, rfl, q _ H' e (.obj h1 h2)⟩
/-! ### shifts, sums, lists of ranges and turned about -/
theorem ed_shl {i : Int} {j : Nat} (ha : EvD K ta σ H (.int i)) (hb : EvD K tb σ H (.int (j : Int))) (hc : CShl i (j : Int)) : EvD K (tOp (rI CShl fun i j => .int (i * 2 ^ j.toNat)) ta tb) σ H (.int (i * 2 ^ j)) := (ed_op ha hb (rd_I (g := fun i j => i * 2 ^ j.toNat) hc)).is (by rw [Int.toNat_natCast])
theorem ed_shr {i : Int} {j : Nat} (ha : EvD K ta σ H (.int i)) (hb : EvD K tb σ H (.int (j : Int))) : EvD K (tOp (rI (fun _ j => 0 ≤ j) fun i j => .int (i / 2 ^ j.toNat)) ta tb) σ H (.int (i / 2 ^ j)) := (ed_op ha hb (rd_I (C := fun _ j => 0 ≤ j) (g := fun i j => i / 2 ^ j.toNat) (Int.natCast_nonneg j))).is (by rw [Int.toNat_natCast])
theorem ed_sum {L : List Int} (h : EvD K te σ H (.lst (iL L))) : EvD K (tCB (rSum K) (tCons te tNil)) σ H (.int L.sum) := fun H1 e Q q => h H1 e _ fun v H2 e2 a => by
  cases a with
  | @lst p xs _ hp ax =>
    have := allIL ax
    subst this
    exact ⟨p, L, rfl, .inl hp, q _ H2 e2 (.int _)⟩
theorem en_rev (h : EvD K te σ H (.lst ds)) : EvN K (tListRev K te) σ H ds.reverse := fun H1 e Q q => h H1 e _ fun v H2 e2 a => by
  cases a with
  | @lst p xs _ hp ax =>
    refine ⟨p, xs, rfl, .inl hp, fun r hr => q r xs.reverse _ (fresh_back e2 hr) (e2.trans (Ex.new hr)) upd_same ?_⟩
    have rev : ∀ {xs : List V} {ds : List D}, All K H2 xs ds → All K H2 xs.reverse ds.reverse := fun {xs ds} a => by
      induction xs generalizing ds with
      | nil =>
        cases a
        exact .nil
      | cons x xs ih =>
        cases a with
        | cons h1 h2 =>
          rw [List.reverse_cons, List.reverse_cons]
          exact (ih h2).app (.one h1)
    exact (rev ax).ex (Ex.new hr)
theorem en_rg2 {lo n : Int} (ha : EvD K ta σ H (.int lo)) (hb : EvD K tb σ H (.int n)) (hn : -100000 ≤ lo ∧ lo ≤ 100000 ∧ -100000 ≤ n ∧ n ≤ 100000) : EvN K (tLstRg (tRg2 ta tb)) σ H (iL ((List.range (n - lo).toNat).map fun i : Nat => lo + (i : Int))) := fun H1 e Q q =>
  ha H1 e _ fun v H2 e2 a => hb H2 (e.trans e2) _ fun u H3 e3 b => by
    cases a
    cases b
    refine ⟨lo, n, rfl, rfl, ⟨by omega, by omega, by omega, by omega, by omega⟩, fun r hr => q r (rgV lo n) _ (fresh_back (e2.trans e3) hr) ((e2.trans e3).trans (Ex.new hr)) upd_same ?_⟩
    have h : rgV lo n = ((List.range (n - lo).toNat).map fun i : Nat => lo + (i : Int)).map V.int := by
      unfold rgV
      rw [List.map_map]
      rfl
    rw [h]
    exact all_ints _ _
theorem en_rg3 {hi lo : Int} {t1 t2 t3 : TE} (ha : EvDA K (tCons t1 (tCons t2 (tCons t3 tNil))) σ H [.int hi, .int lo, .int (-1)]) (hn : -100000 ≤ lo ∧ lo ≤ 100000 ∧ -100000 ≤ hi ∧ hi ≤ 100000) : EvN K (tListRg3 (tCons t1 (tCons t2 (tCons t3 tNil)))) σ H (iL ((List.range (hi - lo).toNat).map fun i : Nat => hi - (i : Int))) := fun H1 e Q q =>
  ha H1 e _ fun vs H2 e2 a => by
    have h3 : vs = [.int hi, .int lo, .int (-1)] := by
      match vs, a with
      | [_, _, _], .cons h1 (.cons h2 (.cons h3 .nil)) =>
        cases h1
        cases h2
        cases h3
        rfl
    refine ⟨hi, lo, -1, (hi - lo).toNat, h3, RgC.neg (by omega) (by omega) (by omega) (by omega), by omega, fun r hr => q r _ _ (fresh_back e2 hr) (e2.trans (Ex.new hr)) upd_same ?_⟩
    have h : ((List.range (hi - lo).toNat).map fun k => V.int (hi + (k : Nat) * (-1))) = ((List.range (hi - lo).toNat).map fun i : Nat => hi - (i : Int)).map V.int := by
      rw [List.map_map]
      refine List.map_congr_left fun i _ => ?_
      show V.int (hi + (i : Int) * (-1)) = V.int (hi - (i : Int))
      rw [show hi + (i : Int) * (-1) = hi - (i : Int) from by omega]
    rw [h]
    exact all_ints _ _
theorem ed_inDT {ds : List D} {d : D} (ha : EvD K ta σ H d) (hb : EvD K tb σ H (.tup ds)) (s1 : d.fl = true) (s2 : D.fls ds = true) (l1 : d.py.canLay0 = true) (l2 : PyData.canLayAll0 (D.pys ds) = true) (l3 : PyData.depthAll (D.pys ds) ≤ 60) :
    EvD K (tOp (rInDT K) ta tb) σ H (.bl ((D.pys ds).any fun z => PyData.eqv z d.py)) := ed_op ha hb fun v1 v2 H1 _ a1 a2 Q q =>
  ⟨_, _, a1.dp s1, Is.dp (d := .tup ds) a2 s2, l1, l2, l3, q _ H1 (Ex.refl H1) (.bl _)⟩
/-- l.extend(e) -/
theorem s_extD {l : Addr} {xs : List V} (hl : H l = some (.lst xs)) (ho : Ev ta σ H (.ref l)) (h : EvN K te σ H ds) (hz : xs.length + ds.length ≤ 100000) (k : ∀ vs H1, Ex H H1 → All K H1 vs ds → En.nx σ (upd H1 l (.lst (xs ++ vs)))) :
    tDrop (tBM K "list" rExtend ta (tCons te tNil)) En σ H := ho H (Ex.refl H) _ fun H1 e1 => ⟨Or.inl ⟨rfl, xs, sq_of (e1 l _ hl)⟩, h H1 e1 _ fun p ys H2 hp e2 hy a => ⟨l, p, xs, ys, rfl, rfl, e2 l _ (e1 l _ hl), hy, by
    have := a.len
    rw [sizeLine_eq]
    omega, k ys H2 (e1.trans e2) a⟩⟩
end
end WD
end
section
set_option Elab.async false
set_option linter.all false
set_option maxRecDepth 100000
set_option maxHeartbeats 4000000
namespace My
open PySem PySem.Spec PyProof.Rows L2 Evl WD
local macro_rules | `(tactic| walk_at "exgo") => `(tactic| first | exact Ex.refl _ | assumption | (refine' Ex.trans ?ea ?eb; (case eb => assumption); (case ea => walk_at "exgo")))
local macro_rules | `(tactic| walk_at "is") => `(tactic| first | assumption | (refine' Is.ex ?e ?h; (case h => assumption); (case e => walk_at "exgo")) | exact Is.int _ | exact Is.bl _ | exact Is.non)
local macro_rules | `(tactic| walk_at "ev") => `(tactic| first
  | exact ed_int | exact ed_bl | exact ed_non | exact ed_str
  | ((with_reducible apply ed_var) <;> first | exact rfl | walk_at "is")
  | ((with_reducible apply ed_add) <;> walk_at "ev")
  | ((with_reducible apply ed_sub) <;> walk_at "ev")
  | ((with_reducible apply ed_neg) <;> walk_at "ev")
  | ((with_reducible apply ed_mulW) <;> try walk_at "ev")
  | ((with_reducible apply ed_divW) <;> try walk_at "ev")
  | ((with_reducible apply ed_mod) <;> try walk_at "ev")
  | ((with_reducible apply ed_ixT) <;> first | exact rfl | walk_at "ev" | skip)
  | ((with_reducible apply ed_ixL) <;> first | exact rfl | walk_at "ev" | skip)
  | ((with_reducible apply ed_lt) <;> walk_at "ev")
  | ((with_reducible apply ed_le) <;> walk_at "ev")
  | ((with_reducible apply ed_gt) <;> walk_at "ev")
  | ((with_reducible apply ed_ge) <;> walk_at "ev")
  | ((with_reducible apply ed_eqI) <;> walk_at "ev")
  | ((with_reducible apply ed_neI) <;> walk_at "ev")
  | ((with_reducible apply ed_gcd) <;> walk_at "ev")
  | ((with_reducible apply ed_abs) <;> walk_at "ev")
  | ((with_reducible apply ed_intI) <;> walk_at "ev")
  | ((with_reducible apply ed_intB) <;> walk_at "ev")
  | ((with_reducible apply ed_max2) <;> walk_at "ev")
  | ((with_reducible apply ed_min2) <;> walk_at "ev")
  | ((with_reducible apply ed_lenT) <;> walk_at "ev")
  | ((with_reducible apply ed_lenL) <;> walk_at "ev")
  | ((with_reducible apply ed_tuple) <;> walk_at "ev")
  | ((with_reducible apply ed_tupleT) <;> walk_at "ev")
  | ((with_reducible apply ed_tup) <;> first | walk_at "ea" | (simp; done) | skip)
  | ((with_reducible apply et_t) <;> walk_at "ev")
  | ((with_reducible apply et_v) <;> walk_at "ev"))
local macro_rules | `(tactic| walk_at "ea") => `(tactic| first
  | exact ea0
  | ((with_reducible apply ea1) <;> first | walk_at "ev" | walk_at "ea" | skip))

section
variable {P : Program} {w : World} {K : PySem.W.Frag} {mg : Str → Option Value} {base : Heap}
/-! ### rounds -/
inductive Rnd where
  | right | left | ev (k r : Nat)
deriving DecidableEq
def Rnd.d : Rnd → D
  | .right => .tup [.str "right"]
  | .left => .tup [.str "left"]
  | .ev k r => .tup [.str "every", .int (k : Int), .int (r : Int)]
def Rnd.ok : Rnd → Prop
  | .ev k r => 2 ≤ k ∧ k ≤ 4 ∧ r < k
  | _ => True
def bads : List D := [.tup [.str "up"], .tup [.str "every", .int 1, .int 0], .tup [.str "every", .int 5, .int 0], .tup [.str "every", .int 2, .int 2], .tup [.str "every", .int 2, .int (-1)], .tup [.str "every", .int 2], .lst [.str "right"], .str "right",
  .tup [.str "every", .int 2, .bl true], .tup [.str "right", .int 1], .non]
theorem ed_eqS {σ : L2.St} {H : Hp} {ta tb : TE} {x y : Str} (ha : EvD K ta σ H (.str x)) (hb : EvD K tb σ H (.str y)) : EvD K (tOp rEq ta tb) σ H (.bl (decide (x = y))) := ed_op ha hb fun v1 v2 H1 _ a1 a2 Q q => by
  cases a1
  cases a2
  refine ⟨rfl, ?_⟩
  have e : decide (V.str x = V.str y) = decide (x = y) := decide_eq_decide.mpr ⟨fun h => by cases h; rfl, fun h => by rw [h]⟩
  rw [e]
  exact q _ H1 (Ex.refl H1) (.bl _)
theorem ed_neS {σ : L2.St} {H : Hp} {ta tb : TE} {x y : Str} (ha : EvD K ta σ H (.str x)) (hb : EvD K tb σ H (.str y)) : EvD K (tOp rNe ta tb) σ H (.bl (!decide (x = y))) := ed_op ha hb fun v1 v2 H1 _ a1 a2 Q q => by
  cases a1
  cases a2
  refine ⟨rfl, ?_⟩
  have e : decide (V.str x = V.str y) = decide (x = y) := decide_eq_decide.mpr ⟨fun h => by cases h; rfl, fun h => by rw [h]⟩
  rw [e]
  exact q _ H1 (Ex.refl H1) (.bl _)
def rls : List D := [.tup [.str "right"], .tup [.str "left"]]
theorem et_rl {σ : L2.St} {H : Hp} {ta : TE} {b : D} (ha : EvD K ta σ H b) (s1 : b.fl = true) (l1 : b.py.canLay0 = true) {v : Bool} (e : ((D.pys rls).any fun z => PyData.eqv z b.py) = v) :
    EvT (tTest (tOp (rInDT K) ta (tTup (tCons (tTup (tCons (tC (.str "right")) tNil)) (tCons (tTup (tCons (tC (.str "left")) tNil)) tNil))))) σ H v :=
  et_is (et_t (K := K) (ed_inDT (ds := rls) ha (ed_tup (ea1 (ed_tup (ea1 ed_str ea0) (by decide)) (ea1 (ed_tup (ea1 ed_str ea0) (by decide)) ea0)) (by decide)) s1 rfl l1 (by simp [rls, D.pys, D.py, PyData.canLayAll0, PyData.canLay0]; decide +kernel) (by simp [rls, D.pys, D.py, PyData.depthAll, PyData.depth]))) e
structure Pl (b : D) (v : Bool) : Prop where
  fl : b.fl = true
  lay : b.py.canLay0 = true
  hit : ((D.pys rls).any fun z => PyData.eqv z b.py) = v
inductive RC : D → Bool → Prop
  | rl (b : D) : Pl b true → RC b true
  | ev (k j : Int) : RC (.tup [.str "every", .int k, .int j]) ((decide (2 ≤ k) && decide (k ≤ 4)) && (decide (0 ≤ j) && decide (j < k)))
  | noT (b : D) (s : String) : b.ty = some s → kitB s "tuple" = some false → Pl b false → RC b false
  | len (ds : List D) : ds.length ≠ 3 → Pl (.tup ds) false → RC (.tup ds) false
  | evB (k : Int) (b : Bool) : RC (.tup [.str "every", .int k, .bl b]) false
def R_is_round (ds : List D) (d : D) : Prop := ∃ b t, ds = [b] ∧ d = .bl t ∧ RC b t
theorem Rnd.rc : ∀ {r : Rnd}, r.ok → RC r.d true
  | .right, _ => .rl _ ⟨rfl, by simp [Rnd.d, D.py, D.pys, PyData.canLay0, PyData.canLayAll0] <;> decide +kernel, by decide +kernel⟩
  | .left, _ => .rl _ ⟨rfl, by simp [Rnd.d, D.py, D.pys, PyData.canLay0, PyData.canLayAll0] <;> decide +kernel, by decide +kernel⟩
  | .ev k r, ⟨h1, h2, h3⟩ => by
    have e := RC.ev (k : Int) (r : Int)
    rw [decide_eq_true (show (2 : Int) ≤ k by omega), decide_eq_true (show (k : Int) ≤ 4 by omega), decide_eq_true (show (0 : Int) ≤ r by omega), decide_eq_true (show (r : Int) < k by omega)] at e
    exact e
theorem bads_rc : ∀ b ∈ bads, RC b false := by
  intro b hb
  simp only [bads, List.mem_cons, List.not_mem_nil, or_false] at hb
  rcases hb with rfl | rfl | rfl | rfl | rfl | rfl | rfl | rfl | rfl | rfl | rfl
  · exact .len _ (by decide) ⟨rfl, by simp [D.py, D.pys, PyData.canLay0, PyData.canLayAll0] <;> decide +kernel, by decide +kernel⟩
  · exact RC.ev 1 0
  · exact RC.ev 5 0
  · exact RC.ev 2 2
  · exact RC.ev 2 (-1)
  · exact .len _ (by decide) ⟨rfl, by simp [D.py, D.pys, PyData.canLay0, PyData.canLayAll0] <;> decide +kernel, by decide +kernel⟩
  · exact .noT _ "list" rfl (by decide +kernel) ⟨rfl, by simp [D.py, D.pys, PyData.canLay0, PyData.canLayAll0] <;> decide +kernel, by decide +kernel⟩
  · exact .noT _ "str" rfl (by decide +kernel) ⟨rfl, by simp [D.py, D.pys, PyData.canLay0, PyData.canLayAll0] <;> decide +kernel, by decide +kernel⟩
  · exact .evB 2 true
  · exact .len _ (by decide) ⟨rfl, by simp [D.py, D.pys, PyData.canLay0, PyData.canLayAll0] <;> decide +kernel, by decide +kernel⟩
  · exact .noT _ "NoneType" rfl (by decide +kernel) ⟨rfl, by simp [D.py, D.pys, PyData.canLay0, PyData.canLayAll0] <;> decide +kernel, by decide +kernel⟩
theorem et_no {σ : L2.St} {H : Hp} {ta : TE} {k : Int} {y : D} (ha : EvD K ta σ H (.tup [.str "every", .int k, y])) (hy : y.fl = true) (ly : y.py.canLay0 = true) :
    EvT (tTest (tOp (rInDT K) ta (tTup (tCons (tTup (tCons (tC (.str "right")) tNil)) (tCons (tTup (tCons (tC (.str "left")) tNil)) tNil))))) σ H false :=
  et_rl ha (by simp [D.fl, D.fls, hy]) (by simp [D.py, D.pys, PyData.canLay0, PyData.canLayAll0, ly] <;> decide +kernel) (by simp [rls, D.py, D.pys, PyData.eqv, PyData.eqvAll] <;> decide +kernel)
theorem ok_is_round (T : Txt K mg) : FnG P w K mg base 2 (He.ga K "is_round") ["thing"] (spD K R_is_round) := by
  refine fnG (N := ["thing", "step", "rest"]) (st := s_is_round) T.f_is_round sc_is_round (fun vs H Q E h => ?_) (fun _ _ _ _ _ _ us hl => match us, hl with | [_], _ => rfl) (fun cdv A outer s H vs Q E hr h => ⟨_, (pss_cons (ps_if (pt_cmpR (op_inDT hr.units) (pv 0) (pe_tup (pa_cons (pe_tup (pa_cons pe_str pa_nil)) (pa_cons (pe_tup (pa_cons pe_str pa_nil)) pa_nil))) (by rfl)) (pss_one (ps_ret pe_bl)) pss_nil) (pss_cons (ps_if (PW.pt (pw_or (pt_not (pt_val (pe_callB call_isi (by rfl) T.z_isinstance (by decide +kernel) (pa_cons (pv 0) (pa_cons (pe_tyN (n := "tuple") (by rfl) T.z_tuple (by decide +kernel)) pa_nil))))) (pw_or (pt_cmpR op_ne (pe_callB call_lenS (by rfl) T.z_len PySem.boot_len (pa_cons (pv 0) pa_nil)) pe_int (nomark _)) (pw_or1 (pt_cmpR op_ne (pe_ix ix_tup (pv 0) pe_int (fun _ _ => rfl)) pe_str (nomark _)))))) (pss_one (ps_ret pe_bl)) pss_nil) (pss_cons (ps_asg (pe_slice sl_tupA (pv 0) (po_some pe_int) po_none) (pg_tup rfl (pgs_cons (pg_name (i := 1) sc_is_round.nd rfl (.inl rfl)) (pgs_cons (pg_name (i := 2) sc_is_round.nd rfl (.inl rfl)) pgs_nil)))) (pss_one (ps_ret (pe_and (pe_callG (ok_is_integer T) (hr.mono (by decide)) (by rfl) T.m_is_integer (pa_cons (pv 1) pa_nil)) (pe_and (pe_callG (ok_is_integer T) (hr.mono (by decide)) (by rfl) T.m_is_integer (pa_cons (pv 2) pa_nil)) (pe_and (pe_chain op_le op_le pe_int (pv 1) pe_int) (pe_one (pe_chain op_le op_lt pe_int (pv 2) (pv 1))))))))))), ?_⟩)
  · obtain ⟨ds, d, a, ⟨b, t, rfl, _⟩, _⟩ := h
    exact a.len
  · obtain ⟨ds, d, a, ⟨b, t, rfl, rfl, hc⟩, q⟩ := h
    try dsimp only [cxOf, Cx.nox, Cx.wish]
    obtain ⟨v, rfl, a1⟩ := All.inv1 a
    have three : ∀ {k : Int} {y : D} {H1 : Hp}, Is K H1 v (.tup [.str "every", .int k, y]) → EvT _ _ H1 false := fun {k y H1} b1 =>
      et_or (a := false) (b := false) (et_not (a := true) (et_v (K := K) (ed_isi (n := "tuple") (ed_var (i := 0) (σ := start ["thing", "step", "rest"] [v]) rfl b1) rfl (by decide +kernel)))) fun _ => et_or (a := false) (b := false) (et_t (EvD.is (ed_neI (ed_lenT (K := K) (ed_var (i := 0) rfl b1)) (ed_int (i := 3))) rfl)) fun _ => et_t (EvD.is (ed_neS (K := K) (x := "every") (y := "every") (ed_ixT (ed_var (i := 0) rfl b1) (ed_int (i := 0)) rfl) ed_str) (congrArg D.bl (by decide +kernel)))
    cases hc with
    | rl _ p => exact q_when (b := true) (et_rl (ed_var rfl a1) p.fl p.lay p.hit) (fun _ H1 e1 => s_retD (K := K) ed_bl fun v2 H2 e2 i2 => q _ _ (e1.trans e2) i2) (fun z => nomatch z)
    | ev k j =>
      refine q_when (b := false) (et_no (ed_var rfl a1) rfl rfl) (fun z => nomatch z) (fun _ H1 e1 => ?_)
      have b1 := a1.ex e1
      refine q_when (b := false) (three b1) (fun z => nomatch z) (fun _ H2 e2 => ?_)
      have b2 := b1.ex e2
      refine q_tupD (K := K) (d1 := .int k) (d2 := .int j) (EvD.is (ed_slA (ed_var rfl b2) (eo_s (K := K) ed_int) eo_none) rfl) fun z1 z2 H3 e3 j1 j2 => ?_
      refine s_retD (K := K) (d := .bl ((decide (2 ≤ k) && decide (k ≤ 4)) && (decide (0 ≤ j) && decide (j < k)))) ?_ fun v2 H4 e4 i2 => q _ _ (((e1.trans e2).trans e3).trans e4) i2
      exact EvD.is (ed_andV (a := true) (b := true && ((decide (2 ≤ k) && decide (k ≤ 4)) && (decide (0 ≤ j) && decide (j < k)))) (ed_call (ea1 (ed_var rfl j1) ea0) ⟨_, "int", rfl, rfl, rfl⟩) fun _ => ed_andV (a := true) (b := (decide (2 ≤ k) && decide (k ≤ 4)) && (decide (0 ≤ j) && decide (j < k))) (ed_call (ea1 (ed_var rfl j2) ea0) ⟨_, "int", rfl, rfl, rfl⟩) fun _ => ed_andV (ed_chain (K := K) ed_int (ed_var rfl j1) rd_le (fun _ => ed_int) (fun _ => rd_le)) fun _ => ed_chain (K := K) ed_int (ed_var rfl j2) rd_le (fun _ => ed_var rfl j1) (fun _ => rd_lt)) rfl
    | noT _ s hs hk p =>
      refine q_when (b := false) (et_rl (ed_var rfl a1) p.fl p.lay p.hit) (fun z => nomatch z) (fun _ H1 e1 => ?_)
      exact q_when (b := true) (et_is (et_or (a := true) (b := true) (et_not (a := false) (et_v (K := K) (ed_isi (n := "tuple") (ed_var rfl (a1.ex e1)) hs hk))) (fun z => nomatch z)) rfl) (fun _ H2 e2 => s_retD (K := K) ed_bl fun v2 H3 e3 i2 => q _ _ ((e1.trans e2).trans e3) i2) (fun z => nomatch z)
    | len ds hl p =>
      refine q_when (b := false) (et_rl (ed_var rfl a1) p.fl p.lay p.hit) (fun z => nomatch z) (fun _ H1 e1 => ?_)
      refine q_when (b := true) (et_is (et_or (a := false) (b := true) (et_not (a := true) (et_v (K := K) (ed_isi (n := "tuple") (ed_var rfl (a1.ex e1)) rfl (by decide +kernel)))) (fun _ => et_is (et_or (a := true) (b := true) (et_t (EvD.is (ed_neI (ed_lenT (K := K) (ed_var rfl (a1.ex e1))) ed_int) ?_)) (fun z => nomatch z)) rfl)) rfl) (fun _ H2 e2 => s_retD (K := K) ed_bl fun v2 H3 e3 i2 => q _ _ ((e1.trans e2).trans e3) i2) (fun z => nomatch z)
      rw [decide_eq_false (by omega)]
      rfl
    | evB k b =>
      refine q_when (b := false) (et_no (ed_var rfl a1) rfl rfl) (fun z => nomatch z) (fun _ H1 e1 => ?_)
      have b1 := a1.ex e1
      refine q_when (b := false) (three b1) (fun z => nomatch z) (fun _ H2 e2 => ?_)
      have b2 := b1.ex e2
      refine q_tupD (K := K) (d1 := .int k) (d2 := .bl b) (EvD.is (ed_slA (ed_var rfl b2) (eo_s (K := K) ed_int) eo_none) rfl) fun z1 z2 H3 e3 j1 j2 => ?_
      refine s_retD (K := K) (d := .bl false) ?_ fun v2 H4 e4 i2 => q _ _ (((e1.trans e2).trans e3).trans e4) i2
      exact EvD.is (ed_andV (a := true) (b := false) (ed_call (ea1 (ed_var rfl j1) ea0) ⟨_, "int", rfl, rfl, rfl⟩) fun _ => EvD.is (ed_andV (a := false) (b := false) (ed_call (ea1 (ed_var rfl j2) ea0) ⟨_, "bool", rfl, rfl, rfl⟩) (fun z => nomatch z)) rfl) rfl

end
end My
end
section
set_option Elab.async false
set_option linter.all false
set_option maxRecDepth 100000
set_option maxHeartbeats 4000000
/-! enumerate(t) of a tuple -/
namespace EnT
open PySem PySem.Spec PyProof.Rows L2
/-- what enumerate makes of anything that can be begun -/
theorem new_enum {v : Value} {o : Obj} {B : Heap → Prop} (b : Begins v o B) : Meets (Builtin.«enumerate.__new__» ⟨[.type "enumerate", v], []⟩) (fun _ R s => B s.heap ∧
    R (.ok (.ret (.ref (s.heap.push o).objs.size))) { s with heap := (s.heap.push o).push { cls := .type "enumerate", data := .fields #[.none, .bool false, .ref s.heap.objs.size, rawInt 0, .none, .none] } }) := by
  refine .of_wp fun prog w A R s h => ?_
  rcases s with ⟨hp, g, d, tk, os⟩
  obtain ⟨hb, hr⟩ := h
  have isub := sub_enumerate
  have it : ∀ {A' : Around} {E : Value → Shared → Prop} {Q : Value → Shared → Prop}, Q (.ref hp.objs.size) ⟨hp.push o, g, d, tk, os⟩ → wpAny (model prog w) A' (pyIter v) Q E ⟨hp, g, d, tk, os⟩ := fun q => b.iter prog w _ _ ⟨hp, g, d, tk, os⟩ _ hb q
  wp_walk using it
  refine wpAny_stack_any fun st => wpAny_pure ?_
  split
  · rename_i c _ _ _ _ _
    cases (c == Value.type "enumerate") <;> (wp_walk using it; exact ⟨_, rfl, hr⟩)
  · wp_walk using it
    exact ⟨_, rfl, hr⟩
section
variable {prog : Program} {w : World} {A : Around} {E : Value → Shared → Prop} {s : Shared}
/-- enumerate(t) called: two new objects -/
theorem call_enum {l : Addr} {us : Array Value} {Q : Value → Shared → Prop} (hl : s.heap.IsTuple l us)
    (h : ∀ h', IsEnum h' (s.heap.objs.size + 1) s.heap.objs.size 0 .none → h'.IsTupleIter s.heap.objs.size l 0 → (∀ b o, s.heap.get? b = some o → h'.get? b = some o) → Q (.ref (s.heap.objs.size + 1)) { s with heap := h' }) :
    wpAny (model prog w) A (call (.type "enumerate") [.ref l]) Q E s := by
  have b := begins_tuple l us
  refine callType_new F.called_enumerate (by decide) (F.typeCall_enumerate_1 _) (F.newCall_enumerate_1 _) (fun obj => F.args_object_init_2 obj _) F.entry_enumerate_new (new_enum b) ⟨hl, ?_⟩
  generalize ho : ({ cls := .type "tuple_iterator", data := .fields #[.ref l, .int 0 0] } : Obj) = io
  have fr : io.isFreed = false := by rw [← ho]; rfl
  have z1 : (s.heap.push io).objs.size = s.heap.objs.size + 1 := Heap.size_push ..
  generalize hen : ({ cls := .type "enumerate", data := .fields #[.none, .bool false, .ref s.heap.objs.size, rawInt 0, .none, .none] } : Obj) = eo
  have fe : eo.isFreed = false := by rw [← hen]; rfl
  have ge : ((s.heap.push io).push eo).get? (s.heap.objs.size + 1) = some eo := by rw [← z1]; exact Heap.get?_push_size _ fe
  have gi : ((s.heap.push io).push eo).get? s.heap.objs.size = some io := Heap.get?_push_of_some _ (Heap.get?_push_size _ fr)
  show _ ∧ _
  rw [z1]
  refine ⟨⟨_, ge, by rw [← hen]⟩, h _ (by rw [← hen] at ge ⊢; exact ge) ⟨io, gi, by rw [← ho], by rw [← ho]; rfl⟩ fun b o e => Heap.get?_push_of_some _ (Heap.get?_push_of_some _ e)⟩
end
/-- the tuple at a, its items with their places in new pairs -/
def IteT (K : PySem.W.Frag) (a : Addr) : It :=
  ⟨fun i H => ∃ (xs : List V) (x : V), SqT K H a xs ∧ xs[i]? = some x, fun i H v H' => ∃ p x, v = .ref p ∧ H p = none ∧ H' = upd H p (.tup [.int (i : Nat), x]) ∧ ∀ xs, SqT K H a xs → xs[i]? = some x, fun i H => ∃ xs : List V, SqT K H a xs ∧ xs.length ≤ i⟩
/-- behind the last item nothing comes -/
theorem over {prog : Program} {w : World} {A : Around} {it a : Addr} {us : Array Value} {n : Nat} (hh : A.handled = none) (hn : us[n]? = none) :
    Draws prog w A it [it, a] n (fun _ _ => False) (fun i h => i = n ∧ h.IsTupleIter it a n ∧ h.IsTuple a us) where
  live := fun i h st => by
    obtain ⟨_, ⟨o, ho, _⟩, _⟩ := st
    exact ⟨o, ho⟩
  frame := fun i h h' st k => ⟨st.1, st.2.1.at fun o e => k it (by simp) o e, st.2.2.at fun o e => k a (by simp) o e⟩
  item := fun i s Q E hi st _ => by
    have := st.1
    omega
  done := fun s Q E st hE => wpAny_nextOf_tuple_end hh st.2.1 st.2.2 hn hE
theorem turn_enumT {P : Program} {w : World} {K : PySem.W.Frag} {elts : List Expr} {kk : Nat} {tpos : Pos} {a e it : Addr} (hae : a ≠ e) (hai : a ≠ it) (hne : e ≠ it) :
    Turn P w K (.Tuple elts kk tpos) (IteT K a) [e, it] e (fun i h => (∃ old, IsEnum h e it ((i : Nat) : Int) old) ∧ h.IsTupleIter it a i) where
  mem := List.mem_cons_self
  obj := by
    rintro i h ⟨⟨old, he⟩, ⟨o, ho, hc, hd⟩⟩ b hb
    rcases List.mem_cons.mp hb with rfl | hb
    · exact ⟨_, he, fun v q => nomatch q⟩
    · exact ⟨o, by rw [List.mem_singleton.mp hb]; exact ho, fun v q => by rw [hd] at q; cases q⟩
  keep := by
    rintro i h h' ⟨⟨old, he⟩, hi⟩ k
    exact ⟨⟨old, k e (by simp) _ he⟩, hi.at fun o q => k it (by simp) o q⟩
  item := by
    rintro X rfl rfl rfl hc i pins s σ H E I hf ⟨⟨old, he⟩, hit⟩ ⟨xs, x, hq, hx⟩
    obtain ⟨its, rv, p, hz⟩ := I.tuple hq
    obtain ⟨u, hu, ru⟩ := rv.get hx
    have le : e < s.heap.objs.size := Heap.lt_size he
    have li : it < s.heap.objs.size := by obtain ⟨_, q, _⟩ := hit; exact Heap.lt_size q
    have hh : X.A.in1.handled = none := by simp [I.ok.hd hc]
    have il : i < its.toArray.size := by
      have := (List.getElem?_eq_some_iff.mp hu).1
      simpa using this
    refine wpAny_pyNext_enum_itemD (Draws.tuple hh it a hai its.toArray) he ⟨hit, p⟩ il hne (fun z => by
      rcases List.mem_cons.mp z with z | z
      · exact hne z
      · exact hae (List.mem_singleton.mp z).symm) fun x' h' tk hx' ho st' hT hsz hk => ?_
    have ex : x' = u := by
      have hx2 : its.toArray[i]? = some x' := hx'
      rw [List.getElem?_toArray, hu] at hx2
      exact (Option.some.inj hx2).symm
    subst ex
    refine ⟨_, rfl, wpAny_letOwnedTupleGo_enum (s := { s with heap := h', toks := tk + 1 }) ho fun h2 he2 sb => ?_⟩
    have nT : s.heap.objs.size ≠ e := Nat.ne_of_gt le
    have nI : s.heap.objs.size ≠ it := Nat.ne_of_gt li
    have hT2 : h2.get? s.heap.objs.size = some { cls := .type "tuple", data := .seq #[.int i tk, x'] } := (sb.2 _ nT).trans hT
    have new : ObjOk X.prog X.w (upd H s.heap.objs.size (.tup [.int (i : Nat), x])) h2 s.heap.objs.size (.tup [.int (i : Nat), x]) := ⟨by show 2 ≤ sizeLine; rw [sizeLine_eq]; decide, [.int i tk, x'], .cons ⟨_, rfl⟩ (.cons ru .nil), ⟨_, hT2, rfl, _, rfl⟩⟩
    have J : Inv X pins σ (upd H s.heap.objs.size (.tup [.int (i : Nat), x])) { s with heap := h2, toks := tk + 1 } :=
      I.turnedNew (ch := [e, it]) (fun b ob hb q => (sb.2 b (fun z => hb (by simp [z]))).trans (hk b ob (fun z => hb (by simp [z])) (fun z => hb (by simp [z])) q)) hf (Nat.le_refl _) new
    refine ⟨.ref s.heap.objs.size, _, J, rfl, ⟨_, x, rfl, I.hok.fresh (Nat.le_refl _), rfl, fun ys hy => by rw [I.tuple_inj hy hq]; exact hx⟩, ⟨⟨x', by rw [show ((i + 1 : Nat) : Int) = (i : Int) + 1 by omega]; exact he2⟩, st'.1.at fun o q => (sb.2 it hne.symm).trans q⟩, fun b hb => ?_⟩
    have lb : b < s.heap.objs.size := by
      rcases List.mem_cons.mp hb with z | z
      · rw [z]; exact le
      · rw [List.mem_singleton.mp z]; exact li
    rw [upd_ne (Nat.ne_of_lt lb)]
    exact (hf b hb).1
  done := by
    rintro X rfl rfl rfl hc i pins s σ H E I hf ⟨⟨old, he⟩, hit⟩ ⟨xs, hq, hx⟩
    obtain ⟨its, rv, p, hz⟩ := I.tuple hq
    have hh : X.A.in1.handled = none := by simp [I.ok.hd hc]
    have il : its.toArray[i]? = none := by
      have y := rv.length
      rw [Array.getElem?_eq_none]
      simpa using (show its.length ≤ i by omega)
    obtain ⟨f0, f1, f2, f3, f4, f5⟩ := hf it (by simp)
    exact wpAny_pyNext_enum_endD (over hh il) he ⟨rfl, hit, p⟩ fun h' eb => ⟨rfl, I.turned (t' := s.toks) (fun b o hb q => eb b o hb q) f0 f1 f3 f4 f5⟩
  self := fun A i s Q E st h => by
    obtain ⟨⟨_, he⟩, _⟩ := st
    exact wpAny_pyIter_enum he h
def iEnumT (K : PySem.W.Frag) (ta : TA) : TI := fun σ H R => ta σ H fun vs H1 => ∃ a xs, vs = [.ref a] ∧ SqT K H1 a xs ∧ R (IteT K a) H1
theorem pi_enumT {X : Cx} {e : Expr} {ta : TA} {p pos tpos : Pos} {elts : List Expr} {kk : Nat} (hg : Gl X "enumerate") (hm : X.mg "enumerate" = none) (ha : PA X [e] ta) (hst : starEach [e] X.env = [(false, eval e X.env)] := by rfl) :
    PI X (.Tuple elts kk tpos) (.Call (.Name "enumerate" p) [e] [] pos) (iEnumT X.K ta) := by
  refine ⟨fun pins s σ H R I h => Call_ (ld_blt I hg hm boot_enumerate (PyProof.Rows.callWith_type1 (thn (ha.run pos pins s σ H _ I h) fun us s1 ⟨vs, H1, I1, r1, q1⟩ => ?_) hst rfl))⟩
  obtain ⟨a, xs, rfl, hq, q⟩ := q1
  obtain ⟨u, rfl, ru⟩ := r1.one
  obtain rfl : u = Value.ref a := ru
  obtain ⟨its, rv, pt, hz⟩ := I1.tuple hq
  have la : a < s1.heap.objs.size := by
    obtain ⟨o, ho, _⟩ := id pt
    exact Heap.lt_size ho
  refine call_enum pt fun h' he hit hk => wpAny_pyIter_enum he ?_
  have I2 : Inv X pins σ H1 { s1 with heap := h' } := I1.kept (t' := s1.toks) hk
  refine ⟨s1.heap.objs.size + 1, [s1.heap.objs.size + 1, s1.heap.objs.size], _, _, H1, rfl, I2, turn_enumT (a := a) (Nat.ne_of_lt (Nat.lt_succ_of_lt la)) (Nat.ne_of_lt la) (Nat.succ_ne_self _), ⟨⟨.none, he⟩, hit⟩, fun b hb => ?_, q⟩
  have lb : s1.heap.objs.size ≤ b := by
    rcases List.mem_cons.mp hb with z | z
    · rw [z]; exact Nat.le_succ _
    · rw [List.mem_singleton.mp z]; exact Nat.le_refl _
  exact I1.fpOk lb (I1.hok.fresh lb)
end EnT
namespace WD
open PySem PySem.Spec PyProof.Rows L2 Evl
section
variable {K : PySem.W.Frag} {σ : L2.St} {H : Hp} {ta : TE} {ds : List D}
theorem ei_enumT {L : List Addr} (h : EvD K ta σ H (.tup ds)) (hf : D.lfs ds = true) : EvI K (EnT.iEnumT K (tCons ta tNil)) σ L H ds.length (fun i => .tup [.int (i : Int), ds.getD i .non]) := fun R r =>
  h H (Ex.refl H) _ fun v H2 e2 i2 => by
    obtain ⟨p, xs, rfl, hp, a⟩ := Is.tup_inv i2
    refine ⟨p, xs, rfl, hp, r (EnT.IteT K p) H2 (fun H4 => SqT K H4 p xs ∧ All K H4 xs ds) e2 ⟨⟨hp, a⟩, fun L' _ H4 H5 q m => tup_gt q.1 q.2 m.2 hf, fun H4 q i hi => ?_, fun H4 q => ⟨xs, q.1, by rw [q.2.len]; exact Nat.le_refl _⟩⟩⟩
    obtain ⟨d, hd⟩ : ∃ d, ds[i]? = some d := ⟨_, List.getElem?_eq_getElem hi⟩
    obtain ⟨v, hv, b⟩ := q.2.get hd
    refine ⟨⟨xs, v, q.1, hv⟩, fun x H5 hy => ?_⟩
    obtain ⟨T, x1, rfl, nT, rfl, f1⟩ := hy
    have g1 := f1 xs q.1
    rw [hv] at g1
    cases g1
    rw [getD_some hd]
    exact ⟨Ex.new nT, .tup (st_of upd_same) (.cons (.int _) (.cons (b.ex (Ex.new nT)) .nil))⟩
end
end WD
end
section
set_option Elab.async false
set_option linter.all false
set_option maxRecDepth 100000
set_option maxHeartbeats 4000000
namespace My
open PySem PySem.Spec PyProof.Rows L2 Evl WD
local macro_rules | `(tactic| walk_at "exgo") => `(tactic| first | exact Ex.refl _ | assumption | (refine' Ex.trans ?ea ?eb; (case eb => assumption); (case ea => walk_at "exgo")))
local macro_rules | `(tactic| walk_at "is") => `(tactic| first | assumption | (refine' Is.ex ?e ?h; (case h => assumption); (case e => walk_at "exgo")) | exact Is.int _ | exact Is.bl _ | exact Is.non)
local macro_rules | `(tactic| walk_at "ev") => `(tactic| first
  | exact ed_int | exact ed_bl | exact ed_non | exact ed_str
  | ((with_reducible apply ed_var) <;> first | exact rfl | walk_at "is")
  | ((with_reducible apply ed_add) <;> walk_at "ev")
  | ((with_reducible apply ed_sub) <;> walk_at "ev")
  | ((with_reducible apply ed_neg) <;> walk_at "ev")
  | ((with_reducible apply ed_mulW) <;> try walk_at "ev")
  | ((with_reducible apply ed_divW) <;> try walk_at "ev")
  | ((with_reducible apply ed_mod) <;> try walk_at "ev")
  | ((with_reducible apply ed_ixT) <;> first | exact rfl | walk_at "ev" | skip)
  | ((with_reducible apply ed_ixL) <;> first | exact rfl | walk_at "ev" | skip)
  | ((with_reducible apply ed_lt) <;> walk_at "ev")
  | ((with_reducible apply ed_le) <;> walk_at "ev")
  | ((with_reducible apply ed_gt) <;> walk_at "ev")
  | ((with_reducible apply ed_ge) <;> walk_at "ev")
  | ((with_reducible apply ed_eqI) <;> walk_at "ev")
  | ((with_reducible apply ed_neI) <;> walk_at "ev")
  | ((with_reducible apply ed_gcd) <;> walk_at "ev")
  | ((with_reducible apply ed_abs) <;> walk_at "ev")
  | ((with_reducible apply ed_intI) <;> walk_at "ev")
  | ((with_reducible apply ed_intB) <;> walk_at "ev")
  | ((with_reducible apply ed_max2) <;> walk_at "ev")
  | ((with_reducible apply ed_min2) <;> walk_at "ev")
  | ((with_reducible apply ed_lenT) <;> walk_at "ev")
  | ((with_reducible apply ed_lenL) <;> walk_at "ev")
  | ((with_reducible apply ed_tuple) <;> walk_at "ev")
  | ((with_reducible apply ed_tupleT) <;> walk_at "ev")
  | ((with_reducible apply ed_tup) <;> first | walk_at "ea" | (simp; done) | skip)
  | ((with_reducible apply et_t) <;> walk_at "ev")
  | ((with_reducible apply et_v) <;> walk_at "ev"))
local macro_rules | `(tactic| walk_at "ea") => `(tactic| first
  | exact ea0
  | ((with_reducible apply ea1) <;> first | walk_at "ev" | walk_at "ea" | skip))

section
variable {P : Program} {w : World} {K : PySem.W.Frag} {mg : Str → Option Value} {base : Heap}
def rds (L : List Rnd) : List D := L.map Rnd.d
theorem Rnd.lf : ∀ r : Rnd, r.d.lf = true
  | .right => rfl
  | .left => rfl
  | .ev _ _ => rfl
theorem rds_lf (L : List Rnd) : D.lfs (rds L) = true := lfs_map _ Rnd.lf L
theorem rds_len (L : List Rnd) : (rds L).length = L.length := List.length_map ..
def R_check_rounds (mk : List D → D) (ds : List D) (d : D) : Prop := ∃ L : List Rnd, (∀ r ∈ L, r.ok) ∧ L.length ≤ 12 ∧ ds = [mk (rds L)] ∧ d = .non
theorem ok_check_rounds_L (T : Txt K mg) : FnG P w K mg base 3 (He.ga K "check_rounds") ["rounds"] (spD K (R_check_rounds .lst)) := by
  refine fnG (N := ["rounds", "place", "told"]) (st := s_check_rounds) T.f_check_rounds sc_check_rounds (fun vs H Q E h => ?_) (fun _ _ _ _ _ _ us hl => match us, hl with | [_], _ => rfl) (fun cdv A outer s H vs Q E hr h => ⟨_, (pss_cons (ps_if (PW.pt (pw_or (pt_not (pt_val (pe_callB call_isiT (by rfl) T.z_isinstance (by decide +kernel) (pa_cons (pv 0) (pa_cons (pe_tup (pa_cons (pe_tyN (n := "list") (by rfl) T.z_list (by decide +kernel)) (pa_cons (pe_tyN (n := "tuple") (by rfl) T.z_tuple (by decide +kernel)) pa_nil))) pa_nil))))) (pw_or1 (pt_cmpR op_gt (pe_callB call_lenS (by rfl) T.z_len PySem.boot_len (pa_cons (pv 0) pa_nil)) (pe_globI (by rfl) T.i_MOST_ROUNDS) (nomark _))))) (pss_one ps_never) pss_nil) (pss_one (ps_for PassesOwn.never rfl (pi_enum (by rfl) T.z_enumerate (pa_cons (pv 0) pa_nil)) (pg_tup rfl (pgs_cons (pg_name (i := 1) sc_check_rounds.nd rfl (.inl rfl)) (pgs_cons (pg_name (i := 2) sc_check_rounds.nd rfl (.inl rfl)) pgs_nil))) (pss_one (ps_if (pt_not (pt_val (pe_callG (ok_is_round T) (hr.mono (by decide)) (by rfl) T.m_is_round (pa_cons (pv 2) pa_nil)))) (pss_one ps_never) pss_nil))))), ?_⟩)
  · obtain ⟨ds, d, a, ⟨L, _, _, rfl, _⟩, _⟩ := h
    exact a.len
  · obtain ⟨ds, d, a, ⟨L, ho, hl, rfl, rfl⟩, q⟩ := h
    obtain ⟨u, rfl, a1⟩ := All.inv1 a
    try dsimp only [cxOf, Cx.nox, Cx.wish]
    refine q_when (b := false || decide ((L.length : Int) > 12)) (et_or (et_not (a := true || false) (et_v (K := K) (ed_isiT (n1 := "list") (n2 := "tuple") (ed_var rfl a1) rfl (by decide +kernel) (by decide +kernel)))) fun _ => et_t (K := K) (ed_gt (EvD.is (ed_lenL (K := K) (ed_var rfl a1)) (by rw [rds_len])) ed_int)) (fun z => ?_) (fun _ H1 e1 => ?_)
    · exfalso
      rw [decide_eq_false (show ¬ ((L.length : Int) > 12) by omega)] at z
      cases z
    · refine s_look (K := K) (W := fun σ => ∃ y z, σ = [some u, y, z]) (EvI.is (ei_enum (es_any (ed_var rfl (a1.ex e1))) (rds_lf L)) (rds_len L)) ⟨none, none, rfl⟩ ?_ ?_
      · rintro i x σ' H' H'' hii ⟨y, z, rfl⟩ e2 e3 ax Nx hN
        refine g_two ax fun z1 z2 az1 az2 => ?_
        rw [show (rds L).getD i .non = L[i].d from getD_map _ _ _ hii] at az2
        exact s_when (b := false) (et_not (a := true) (et_v (K := K) (ed_call (d := .bl true) (ea1 (ed_var rfl az2) ea0) ⟨_, true, rfl, rfl, Rnd.rc (ho _ (List.getElem_mem hii))⟩))) (fun z => nomatch z) (fun _ H4 e4 => hN _ _ ⟨_, _, rfl⟩ e4)
      · rintro σ' H' ⟨y, z, rfl⟩ e2
        exact q _ _ (e1.trans e2) .non
theorem ok_check_rounds_T (T : Txt K mg) : FnG P w K mg base 3 (He.ga K "check_rounds") ["rounds"] (spD K (R_check_rounds .tup)) := by
  refine fnG (N := ["rounds", "place", "told"]) (st := s_check_rounds) T.f_check_rounds sc_check_rounds (fun vs H Q E h => ?_) (fun _ _ _ _ _ _ us hl => match us, hl with | [_], _ => rfl) (fun cdv A outer s H vs Q E hr h => ⟨_, (pss_cons (ps_if (PW.pt (pw_or (pt_not (pt_val (pe_callB call_isiT (by rfl) T.z_isinstance (by decide +kernel) (pa_cons (pv 0) (pa_cons (pe_tup (pa_cons (pe_tyN (n := "list") (by rfl) T.z_list (by decide +kernel)) (pa_cons (pe_tyN (n := "tuple") (by rfl) T.z_tuple (by decide +kernel)) pa_nil))) pa_nil))))) (pw_or1 (pt_cmpR op_gt (pe_callB call_lenS (by rfl) T.z_len PySem.boot_len (pa_cons (pv 0) pa_nil)) (pe_globI (by rfl) T.i_MOST_ROUNDS) (nomark _))))) (pss_one ps_never) pss_nil) (pss_one (ps_for PassesOwn.never rfl (EnT.pi_enumT (by rfl) T.z_enumerate (pa_cons (pv 0) pa_nil)) (pg_tup rfl (pgs_cons (pg_name (i := 1) sc_check_rounds.nd rfl (.inl rfl)) (pgs_cons (pg_name (i := 2) sc_check_rounds.nd rfl (.inl rfl)) pgs_nil))) (pss_one (ps_if (pt_not (pt_val (pe_callG (ok_is_round T) (hr.mono (by decide)) (by rfl) T.m_is_round (pa_cons (pv 2) pa_nil)))) (pss_one ps_never) pss_nil))))), ?_⟩)
  · obtain ⟨ds, d, a, ⟨L, _, _, rfl, _⟩, _⟩ := h
    exact a.len
  · obtain ⟨ds, d, a, ⟨L, ho, hl, rfl, rfl⟩, q⟩ := h
    obtain ⟨u, rfl, a1⟩ := All.inv1 a
    try dsimp only [cxOf, Cx.nox, Cx.wish]
    refine q_when (b := false || decide ((L.length : Int) > 12)) (et_or (et_not (a := false || true) (et_v (K := K) (ed_isiT (n1 := "list") (n2 := "tuple") (ed_var rfl a1) rfl (by decide +kernel) (by decide +kernel)))) fun _ => et_t (K := K) (ed_gt (EvD.is (ed_lenT (K := K) (ed_var rfl a1)) (by rw [rds_len])) ed_int)) (fun z => ?_) (fun _ H1 e1 => ?_)
    · exfalso
      rw [decide_eq_false (show ¬ ((L.length : Int) > 12) by omega)] at z
      cases z
    · refine s_look (K := K) (W := fun σ => ∃ y z, σ = [some u, y, z]) (EvI.is (ei_enumT (ed_var rfl (a1.ex e1)) (rds_lf L)) (rds_len L)) ⟨none, none, rfl⟩ ?_ ?_
      · rintro i x σ' H' H'' hii ⟨y, z, rfl⟩ e2 e3 ax Nx hN
        refine g_two ax fun z1 z2 az1 az2 => ?_
        rw [show (rds L).getD i .non = L[i].d from getD_map _ _ _ hii] at az2
        exact s_when (b := false) (et_not (a := true) (et_v (K := K) (ed_call (d := .bl true) (ea1 (ed_var rfl az2) ea0) ⟨_, true, rfl, rfl, Rnd.rc (ho _ (List.getElem_mem hii))⟩))) (fun z => nomatch z) (fun _ H4 e4 => hN _ _ ⟨_, _, rfl⟩ e4)
      · rintro σ' H' ⟨y, z, rfl⟩ e2
        exact q _ _ (e1.trans e2) .non

end
end My
end
section
set_option Elab.async false
set_option linter.all false
set_option maxRecDepth 100000
set_option maxHeartbeats 4000000
namespace My
open PySem PySem.Spec PyProof.Rows L2 Evl WD
local macro_rules | `(tactic| walk_at "exgo") => `(tactic| first | exact Ex.refl _ | assumption | (refine' Ex.trans ?ea ?eb; (case eb => assumption); (case ea => walk_at "exgo")))
local macro_rules | `(tactic| walk_at "is") => `(tactic| first | assumption | (refine' Is.ex ?e ?h; (case h => assumption); (case e => walk_at "exgo")) | exact Is.int _ | exact Is.bl _ | exact Is.non)
local macro_rules | `(tactic| walk_at "ev") => `(tactic| first
  | exact ed_int | exact ed_bl | exact ed_non | exact ed_str
  | ((with_reducible apply ed_var) <;> first | exact rfl | walk_at "is")
  | ((with_reducible apply ed_add) <;> walk_at "ev")
  | ((with_reducible apply ed_sub) <;> walk_at "ev")
  | ((with_reducible apply ed_neg) <;> walk_at "ev")
  | ((with_reducible apply ed_mulW) <;> try walk_at "ev")
  | ((with_reducible apply ed_divW) <;> try walk_at "ev")
  | ((with_reducible apply ed_mod) <;> try walk_at "ev")
  | ((with_reducible apply ed_ixT) <;> first | exact rfl | walk_at "ev" | skip)
  | ((with_reducible apply ed_ixL) <;> first | exact rfl | walk_at "ev" | skip)
  | ((with_reducible apply ed_lt) <;> walk_at "ev")
  | ((with_reducible apply ed_le) <;> walk_at "ev")
  | ((with_reducible apply ed_gt) <;> walk_at "ev")
  | ((with_reducible apply ed_ge) <;> walk_at "ev")
  | ((with_reducible apply ed_eqI) <;> walk_at "ev")
  | ((with_reducible apply ed_neI) <;> walk_at "ev")
  | ((with_reducible apply ed_gcd) <;> walk_at "ev")
  | ((with_reducible apply ed_abs) <;> walk_at "ev")
  | ((with_reducible apply ed_intI) <;> walk_at "ev")
  | ((with_reducible apply ed_intB) <;> walk_at "ev")
  | ((with_reducible apply ed_max2) <;> walk_at "ev")
  | ((with_reducible apply ed_min2) <;> walk_at "ev")
  | ((with_reducible apply ed_lenT) <;> walk_at "ev")
  | ((with_reducible apply ed_lenL) <;> walk_at "ev")
  | ((with_reducible apply ed_tuple) <;> walk_at "ev")
  | ((with_reducible apply ed_tupleT) <;> walk_at "ev")
  | ((with_reducible apply ed_tup) <;> first | walk_at "ea" | (simp; done) | skip)
  | ((with_reducible apply et_t) <;> walk_at "ev")
  | ((with_reducible apply et_v) <;> walk_at "ev"))
local macro_rules | `(tactic| walk_at "ea") => `(tactic| first
  | exact ea0
  | ((with_reducible apply ea1) <;> first | walk_at "ev" | walk_at "ea" | skip))

section
variable {P : Program} {w : World} {K : PySem.W.Frag} {mg : Str → Option Value} {base : Heap}
theorem ei_enumN {σ : L2.St} {H : Hp} {ta : TE} {ds : List D} (h : EvD K ta σ H (.lst ds)) : EvI K (iEnum K (tCons ta tNil)) σ [] H ds.length (fun i => .tup [.int (i : Int), ds.getD i .non]) := fun R r =>
  es_any h H (Ex.refl H) _ fun p xs H2 e2 hp hn a => ⟨p, xs, rfl, .inl hp, r (Ite K p) H2 (fun H4 => Ex H2 H4) e2 ⟨Ex.refl _, fun L' hL' H4 H5 q m => Mu.of_ex q m fun l hl => (hL' l hl).elim (fun z => nomatch z) id, fun H4 q i hi => by
      obtain ⟨d, hd⟩ : ∃ d, ds[i]? = some d := ⟨_, List.getElem?_eq_getElem hi⟩
      obtain ⟨v, hv, b⟩ := (a.ex q).get hd
      refine ⟨⟨xs, v, .inl (ex_rd q hp), hv⟩, fun x H5 hy => ?_⟩
      obtain ⟨T, x1, rfl, nT, rfl, f1⟩ := hy
      have g1 := f1 xs (.inl (ex_rd q hp))
      rw [hv] at g1
      cases g1
      rw [getD_some hd]
      exact ⟨Ex.new nT, .tup (st_of upd_same) (.cons (.int _) (.cons (b.ex (Ex.new nT)) .nil))⟩, fun H4 q => ⟨xs, .inl (ex_rd q hp), by rw [a.len]; exact Nat.le_refl _⟩⟩⟩
/-! ### what is refused -/
inductive Rz where
  | prog (d : D) | start
def raised (K : PySem.W.Frag) (r : Rz) (H : Hp) (E : XK) : Prop := match r with
  | .prog d => ∀ dd v H', H dd = none → Ex H H' → H' dd = some (.xd [("place", v)]) → Is K H' v d → E (.ref (He.ga K "BadProgram")) (some dd) H'
  | .start => ∀ H', Ex H H' → E (.ref (He.ga K "BadStart")) none H'
theorem raised.ex {r : Rz} {H H1 : Hp} {E : XK} (h : raised K r H E) (e : Ex H H1) : raised K r H1 E := by
  cases r with
  | prog d => exact fun dd v H' hd e1 hx a => h dd v H' (fresh_back e hd) (e.trans e1) hx a
  | start => exact fun H' e1 => h H' (e.trans e1)
def spZ (K : PySem.W.Frag) (R : List D → Rz → Prop) : Sp := fun vs H _ E => ∃ ds r, All K H vs ds ∧ R ds r ∧ raised K r H E
def spZI (K : PySem.W.Frag) (c : Str) (R : List D → Rz → Prop) : Sp := fun vs H _ E => ∃ x dx us ds r H0, vs = .ref x :: us ∧ H x = some (.ins (He.ga K c) dx []) ∧ H0 x = none ∧ Ex H0 H ∧ All K H0 us ds ∧ R ds r ∧ raised K r H E
theorem ex_callZ {σ : L2.St} {H : Hp} {ta : TA} {ds : List D} {R : List D → Rz → Prop} {r : Rz} {E : L2.St → XK} (h : EvDA K ta σ H ds) (hR : R ds r) (q : raised K r H (E σ)) : EvX (tCallS (spZ K R) E ta) σ H :=
  ex_call h fun vs H1 _ e a => ⟨ds, r, a, hR, q.ex e⟩
theorem ex_methZ {σ : L2.St} {H : Hp} {te : TE} {ta : TA} {ds : List D} {m c : Str} {fs : List (Str × D)} {R : List D → Rz → Prop} {r : Rz} {E : L2.St → XK} (h : EvD K te σ H (.obj c fs)) (hl : fs.lookup m = none) (hr : EvDA K ta σ H ds) (hR : R (.obj c fs :: ds) r) (q : raised K r H (E σ)) : EvX (tMethX (He.ga K c) m (spZ K R) E te ta) σ H :=
  ex_meth h hl hr fun vs H1 _ e a => ⟨_, r, a, hR, q.ex e⟩
theorem ex_makeZ {σ : L2.St} {H : Hp} {ta : TA} {ds : List D} {c : Str} {R : List D → Rz → Prop} {r : Rz} {E : L2.St → XK} (h : EvDA K ta σ H ds) (hR : R ds r) (q : raised K r H (E σ)) : EvX (tMakeX (He.ga K c) (spZI K c R) E ta) σ H :=
  ex_make h fun x dx vs H1 _ e hx a e2 => ⟨x, dx, vs, ds, r, H1, rfl, upd_same, hx, e2, a, hR, q.ex (e.trans e2)⟩
theorem ex_addZ {σ : L2.St} {H : Hp} {ta tb : TE} {c : Str} {fs gs : List (Str × D)} {R : List D → Rz → Prop} {r : Rz} {E : L2.St → XK} (h1 : EvD K ta σ H (.obj c fs)) (h2 : EvD K tb σ H (.obj c gs)) (hR : R [.obj c fs, .obj c gs] r) (q : raised K r H (E σ)) : EvX (tAddS (He.ga K c) (spZ K R) E ta tb) σ H :=
  ex_add h1 h2 fun vs H1 _ e a => ⟨_, r, a, hR, q.ex e⟩
theorem s_rzP {σ : L2.St} {H : Hp} {ta : TA} {d : D} {W : WX} {En : Ends} (h : EvDA K ta σ H [d]) (hl : D.lf d = true) (q : raised K (.prog d) H (WE W σ)) : tRaiseSup (He.ga K "BadProgram") "place" W ta En σ H :=
  s_raiseSup h (fun v dd H1 hd e hx a _ => q dd v H1 hd e hx a) hl
/-- no list of rounds -/
def R_bad (ds : List D) (r : Rz) : Prop := (∃ b s, ds = [b] ∧ b.ty = some s ∧ kitB s "list" = some false ∧ kitB s "tuple" = some false ∧ r = .prog .non) ∨ (∃ L : List Rnd, 12 < L.length ∧ L.length ≤ 1000 ∧ ds = [.lst (rds L)] ∧ r = .prog .non) ∨
  (∃ (A : List Rnd) (b : D) (B : List Rnd), (∀ r ∈ A, r.ok) ∧ RC b false ∧ A.length + 1 + B.length ≤ 12 ∧ ds = [.lst (rds A ++ b :: rds B)] ∧ r = .prog (.int (A.length : Int)))
theorem ok_check_rounds_XL (T : Txt K mg) (hp : P.main.file = fileS) (ht : (P.main.scope.names.lookup ("super" : Str)).isSome = false) : FnG P w K mg base 3 (He.ga K "check_rounds") ["rounds"] (spZ K R_bad) := by
  refine fnX (N := ["rounds", "place", "told"]) (st := s_check_rounds) T.f_check_rounds sc_check_rounds (fun vs H Q E h => ?_) (fun _ _ _ _ _ _ us hl => match us, hl with | [_], _ => rfl) (fun cdv A outer s H vs Q E hr h => ⟨_, (pss_cons (ps_if (PW.pt (pw_or (pt_not (pt_val (pe_callB call_isiT (by rfl) T.z_isinstance (by decide +kernel) (pa_cons (pv 0) (pa_cons (pe_tup (pa_cons (pe_tyN (n := "list") (by rfl) T.z_list (by decide +kernel)) (pa_cons (pe_tyN (n := "tuple") (by rfl) T.z_tuple (by decide +kernel)) pa_nil))) pa_nil))))) (pw_or1 (pt_cmpR op_gt (pe_callB call_lenS (by rfl) T.z_len PySem.boot_len (pa_cons (pv 0) pa_nil)) (pe_globI (by rfl) T.i_MOST_ROUNDS) (nomark _))))) (pss_one (ps_raiseSup rfl (T.s_BadProgram hp ht) hr (takes_of rfl rfl rfl rfl) (pa_cons pe_non pa_nil) (by rfl))) pss_nil) (pss_one (ps_for (passes_of rfl) rfl (pi_enum (by rfl) T.z_enumerate (pa_cons (pv 0) pa_nil)) (pg_tup rfl (pgs_cons (pg_name (i := 1) sc_check_rounds.nd rfl (.inl rfl)) (pgs_cons (pg_name (i := 2) sc_check_rounds.nd rfl (.inl rfl)) pgs_nil))) (pss_one (ps_if (pt_not (pt_val (pe_callG (ok_is_round T) (hr.mono (by decide)) (by rfl) T.m_is_round (pa_cons (pv 2) pa_nil)))) (pss_one (ps_raiseSup rfl (T.s_BadProgram hp ht) hr (takes_of rfl rfl rfl rfl) (pa_cons (pv 1) pa_nil) (by rfl))) pss_nil))))), ?_⟩)
  · obtain ⟨ds, r, a, h, _⟩ := h
    rcases h with ⟨b, s, rfl, _⟩ | ⟨L, _, _, rfl, _⟩ | ⟨A, b, B, _, _, _, rfl, _⟩ <;> exact a.len
  · obtain ⟨ds, r, a, h, q⟩ := h
    try dsimp only [cxOf, Cx.nox, Cx.wish]
    rcases h with ⟨b, s, rfl, hs, k1, k2, rfl⟩ | ⟨L, h1, h2, rfl, rfl⟩ | ⟨A, b, B, ho, hb, hl, rfl, rfl⟩
    · obtain ⟨u, rfl, a1⟩ := All.inv1 a
      exact q_when (b := true) (et_is (et_or (a := true) (b := true) (et_not (a := false || false) (et_v (K := K) (ed_isiT (n1 := "list") (n2 := "tuple") (ed_var rfl a1) hs k1 k2))) fun z => nomatch z) rfl) (fun _ H1 e1 => s_rzP (K := K) (ea1 ed_non ea0) rfl (q.ex e1)) (fun z => nomatch z)
    · obtain ⟨u, rfl, a1⟩ := All.inv1 a
      refine q_when (b := true) (et_is (et_or (a := false) (b := true) (et_not (a := true || false) (et_v (K := K) (ed_isiT (n1 := "list") (n2 := "tuple") (ed_var rfl a1) rfl (by decide +kernel) (by decide +kernel)))) fun _ => et_is (et_t (K := K) (ed_gt (EvD.is (ed_lenL (K := K) (ed_var rfl a1)) (by rw [rds_len])) ed_int)) (decide_eq_true (by omega))) rfl) (fun _ H1 e1 => s_rzP (K := K) (ea1 ed_non ea0) rfl (q.ex e1)) (fun z => nomatch z)
    · obtain ⟨u, rfl, a1⟩ := All.inv1 a
      have len : (rds A ++ b :: rds B).length = A.length + 1 + B.length := by
        rw [List.length_append, List.length_cons, rds_len, rds_len]
        omega
      refine q_when (b := false) (et_is (et_or (a := false) (b := false) (et_not (a := true || false) (et_v (K := K) (ed_isiT (n1 := "list") (n2 := "tuple") (ed_var rfl a1) rfl (by decide +kernel) (by decide +kernel)))) fun _ => et_is (et_t (K := K) (ed_gt (EvD.is (ed_lenL (K := K) (ed_var rfl a1)) (by rw [len])) ed_int)) (decide_eq_false (by omega))) rfl) (fun z => nomatch z) (fun _ H1 e1 => ?_)
      refine s_for (K := K) (L := []) (EvI.is (ei_enumN (ed_var rfl (a1.ex e1))) len) (fun j σ' H' => j ≤ A.length ∧ Ex H H' ∧ ∃ y z, σ' = [some u, y, z]) (fun H2 e2 => ⟨Nat.zero_le _, e1.trans e2, none, none, rfl⟩) ?_ ?_
      · rintro j x σ' H' H'' hjl ⟨ji, E2, y, z, rfl⟩ e3 ax
        refine g_two ax fun z1 z2 az1 az2 => ?_
        by_cases c : j < A.length
        · rw [show (rds A ++ b :: rds B).getD j .non = A[j].d from by
            rw [List.getD_eq_getElem?_getD, List.getElem?_append_left (by rw [rds_len]; exact c), ← List.getD_eq_getElem?_getD]
            exact getD_map _ _ _ c] at az2
          exact s_when (b := false) (et_not (a := true) (et_v (K := K) (ed_call (d := .bl true) (ea1 (ed_var rfl az2) ea0) ⟨_, true, rfl, rfl, Rnd.rc (ho _ (List.getElem_mem c))⟩))) (fun z => nomatch z) (fun _ H4 e4 => ⟨⟨c, (E2.trans e3).trans e4, _, _, rfl⟩, Mu.ex (e3.trans e4)⟩)
        · have ej : j = A.length := by omega
          subst ej
          rw [show (rds A ++ b :: rds B).getD A.length .non = b from by
            rw [List.getD_eq_getElem?_getD, List.getElem?_append_right (by rw [rds_len]; exact Nat.le_refl _), rds_len, Nat.sub_self]
            rfl] at az2
          exact s_when (b := true) (et_not (a := false) (et_v (K := K) (ed_call (d := .bl false) (ea1 (ed_var rfl az2) ea0) ⟨_, false, rfl, rfl, hb⟩))) (fun _ H4 e4 => s_rzP (K := K) (ea1 (ed_var rfl (az1.ex e4)) ea0) rfl (q.ex ((E2.trans e3).trans e4))) (fun z => nomatch z)
      · rintro σ' H' ⟨ji, _⟩
        omega
/-- a tuple of too many rounds -/
def R_badT (ds : List D) (r : Rz) : Prop := ∃ L : List Rnd, 12 < L.length ∧ L.length ≤ 1000 ∧ ds = [.tup (rds L)] ∧ r = .prog .non
theorem ok_check_rounds_XT (T : Txt K mg) (hp : P.main.file = fileS) (ht : (P.main.scope.names.lookup ("super" : Str)).isSome = false) : FnG P w K mg base 3 (He.ga K "check_rounds") ["rounds"] (spZ K R_badT) := by
  refine fnX (N := ["rounds", "place", "told"]) (st := s_check_rounds) T.f_check_rounds sc_check_rounds (fun vs H Q E h => ?_) (fun _ _ _ _ _ _ us hl => match us, hl with | [_], _ => rfl) (fun cdv A outer s H vs Q E hr h => ⟨_, (pss_cons (ps_if (PW.pt (pw_or (pt_not (pt_val (pe_callB call_isiT (by rfl) T.z_isinstance (by decide +kernel) (pa_cons (pv 0) (pa_cons (pe_tup (pa_cons (pe_tyN (n := "list") (by rfl) T.z_list (by decide +kernel)) (pa_cons (pe_tyN (n := "tuple") (by rfl) T.z_tuple (by decide +kernel)) pa_nil))) pa_nil))))) (pw_or1 (pt_cmpR op_gt (pe_callB call_lenS (by rfl) T.z_len PySem.boot_len (pa_cons (pv 0) pa_nil)) (pe_globI (by rfl) T.i_MOST_ROUNDS) (nomark _))))) (pss_one (ps_raiseSup rfl (T.s_BadProgram hp ht) hr (takes_of rfl rfl rfl rfl) (pa_cons pe_non pa_nil) (by rfl))) pss_nil) (pss_one (ps_for (passes_of rfl) rfl (EnT.pi_enumT (by rfl) T.z_enumerate (pa_cons (pv 0) pa_nil)) (pg_tup rfl (pgs_cons (pg_name (i := 1) sc_check_rounds.nd rfl (.inl rfl)) (pgs_cons (pg_name (i := 2) sc_check_rounds.nd rfl (.inl rfl)) pgs_nil))) (pss_one (ps_if (pt_not (pt_val (pe_callG (ok_is_round T) (hr.mono (by decide)) (by rfl) T.m_is_round (pa_cons (pv 2) pa_nil)))) (pss_one (ps_raiseSup rfl (T.s_BadProgram hp ht) hr (takes_of rfl rfl rfl rfl) (pa_cons (pv 1) pa_nil) (by rfl))) pss_nil))))), ?_⟩)
  · obtain ⟨ds, r, a, ⟨L, _, _, rfl, _⟩, _⟩ := h
    exact a.len
  · obtain ⟨ds, r, a, ⟨L, h1, h2, rfl, rfl⟩, q⟩ := h
    try dsimp only [cxOf, Cx.nox, Cx.wish]
    obtain ⟨u, rfl, a1⟩ := All.inv1 a
    refine q_when (b := true) (et_is (et_or (a := false) (b := true) (et_not (a := false || true) (et_v (K := K) (ed_isiT (n1 := "list") (n2 := "tuple") (ed_var rfl a1) rfl (by decide +kernel) (by decide +kernel)))) fun _ => et_is (et_t (K := K) (ed_gt (EvD.is (ed_lenT (K := K) (ed_var rfl a1)) (by rw [rds_len])) ed_int)) (decide_eq_true (by omega))) rfl) (fun _ H1 e1 => s_rzP (K := K) (ea1 ed_non ea0) rfl (q.ex e1)) (fun z => nomatch z)

end
end My
end
section
set_option Elab.async false
set_option linter.all false
set_option maxRecDepth 100000
set_option maxHeartbeats 4000000
namespace My
open PySem PySem.Spec PyProof.Rows L2 Evl WD
local macro_rules | `(tactic| walk_at "exgo") => `(tactic| first | exact Ex.refl _ | assumption | (refine' Ex.trans ?ea ?eb; (case eb => assumption); (case ea => walk_at "exgo")))
local macro_rules | `(tactic| walk_at "is") => `(tactic| first | assumption | (refine' Is.ex ?e ?h; (case h => assumption); (case e => walk_at "exgo")) | exact Is.int _ | exact Is.bl _ | exact Is.non)
local macro_rules | `(tactic| walk_at "ev") => `(tactic| first
  | exact ed_int | exact ed_bl | exact ed_non | exact ed_str
  | ((with_reducible apply ed_var) <;> first | exact rfl | walk_at "is")
  | ((with_reducible apply ed_add) <;> walk_at "ev")
  | ((with_reducible apply ed_sub) <;> walk_at "ev")
  | ((with_reducible apply ed_neg) <;> walk_at "ev")
  | ((with_reducible apply ed_mulW) <;> try walk_at "ev")
  | ((with_reducible apply ed_divW) <;> try walk_at "ev")
  | ((with_reducible apply ed_mod) <;> try walk_at "ev")
  | ((with_reducible apply ed_ixT) <;> first | exact rfl | walk_at "ev" | skip)
  | ((with_reducible apply ed_ixL) <;> first | exact rfl | walk_at "ev" | skip)
  | ((with_reducible apply ed_lt) <;> walk_at "ev")
  | ((with_reducible apply ed_le) <;> walk_at "ev")
  | ((with_reducible apply ed_gt) <;> walk_at "ev")
  | ((with_reducible apply ed_ge) <;> walk_at "ev")
  | ((with_reducible apply ed_eqI) <;> walk_at "ev")
  | ((with_reducible apply ed_neI) <;> walk_at "ev")
  | ((with_reducible apply ed_gcd) <;> walk_at "ev")
  | ((with_reducible apply ed_abs) <;> walk_at "ev")
  | ((with_reducible apply ed_intI) <;> walk_at "ev")
  | ((with_reducible apply ed_intB) <;> walk_at "ev")
  | ((with_reducible apply ed_max2) <;> walk_at "ev")
  | ((with_reducible apply ed_min2) <;> walk_at "ev")
  | ((with_reducible apply ed_lenT) <;> walk_at "ev")
  | ((with_reducible apply ed_lenL) <;> walk_at "ev")
  | ((with_reducible apply ed_tuple) <;> walk_at "ev")
  | ((with_reducible apply ed_tupleT) <;> walk_at "ev")
  | ((with_reducible apply ed_tup) <;> first | walk_at "ea" | (simp; done) | skip)
  | ((with_reducible apply et_t) <;> walk_at "ev")
  | ((with_reducible apply et_v) <;> walk_at "ev"))
local macro_rules | `(tactic| walk_at "ea") => `(tactic| first
  | exact ea0
  | ((with_reducible apply ea1) <;> first | walk_at "ev" | walk_at "ea" | skip))

section
variable {P : Program} {w : World} {K : PySem.W.Frag} {mg : Str → Option Value} {base : Heap}
theorem eqvAll_map {α : Type} [DecidableEq α] (f : α → D) (he : ∀ a b, PyData.eqv (f a).py (f b).py = decide (a = b)) : ∀ xs ys : List α, PyData.eqvAll (D.pys (xs.map f)) (D.pys (ys.map f)) = decide (xs = ys)
  | [], [] => by simp [D.pys, PyData.eqvAll]
  | [], _ :: _ => by simp [D.pys, PyData.eqvAll]
  | _ :: _, [] => by simp [D.pys, PyData.eqvAll]
  | x :: xs, y :: ys => by
    have h := eqvAll_map f he xs ys
    show PyData.eqvAll ((f x).py :: D.pys (xs.map f)) ((f y).py :: D.pys (ys.map f)) = _
    rw [PyData.eqvAll, he, h, Bool.eq_iff_iff]
    simp
theorem eqvT_map {α : Type} [DecidableEq α] (f : α → D) (he : ∀ a b, PyData.eqv (f a).py (f b).py = decide (a = b)) (xs ys : List α) : PyData.eqv (D.tup (xs.map f)).py (D.tup (ys.map f)).py = decide (xs = ys) := by
  show PyData.eqv (.tuple (D.pys (xs.map f))) (.tuple (D.pys (ys.map f))) = _
  rw [PyData.eqv, eqvAll_map f he]
theorem eqvL_map {α : Type} [DecidableEq α] (f : α → D) (he : ∀ a b, PyData.eqv (f a).py (f b).py = decide (a = b)) (xs ys : List α) : PyData.eqv (D.lst (xs.map f)).py (D.lst (ys.map f)).py = decide (xs = ys) := by
  show PyData.eqv (.list (D.pys (xs.map f))) (.list (D.pys (ys.map f))) = _
  rw [PyData.eqv, eqvAll_map f he]
theorem lay_map {α : Type} (f : α → D) (hl : ∀ a, (f a).py.canLay0 = true) : ∀ xs : List α, PyData.canLayAll0 (D.pys (xs.map f)) = true
  | [] => by simp [D.pys, PyData.canLayAll0]
  | x :: xs => by
    show PyData.canLayAll0 ((f x).py :: D.pys (xs.map f)) = true
    rw [PyData.canLayAll0, hl x, lay_map f hl xs]
    rfl
theorem dep_map {α : Type} (f : α → D) (n : Nat) (hd : ∀ a, (f a).py.depth ≤ n) : ∀ xs : List α, PyData.depthAll (D.pys (xs.map f)) ≤ n
  | [] => by simp [D.pys, PyData.depthAll]
  | x :: xs => by
    have h1 := hd x
    have h2 := dep_map f n hd xs
    show PyData.depthAll ((f x).py :: D.pys (xs.map f)) ≤ n
    rw [PyData.depthAll]
    omega
theorem fls_map {α : Type} (f : α → D) (hf : ∀ a, (f a).fl = true) : ∀ xs : List α, D.fls (xs.map f) = true
  | [] => rfl
  | x :: xs => by
    show ((f x).fl && D.fls (xs.map f)) = true
    rw [hf x, fls_map f hf xs]
    rfl
structure Shp {α : Type} (f : α → D) : Prop where
  fl : ∀ a, (f a).fl = true
  lay : ∀ a, (f a).py.canLay0 = true
  dep : ∀ a, (f a).py.depth ≤ 20
theorem Shp.tup {α : Type} {f : α → D} (h : Shp f) (xs : List α) : Sh (.tup (xs.map f)) := ⟨fls_map f h.fl xs, by
  show SeqAt.shaped (.tuple (D.pys (xs.map f))) = true
  have h1 := lay_map f h.lay xs
  have h2 := dep_map f 20 h.dep xs
  unfold SeqAt.shaped
  simp [PyData.canLay0, PyData.depth, h1]
  omega⟩
theorem Shp.lst {α : Type} {f : α → D} (h : Shp f) (xs : List α) : Sh (.lst (xs.map f)) := ⟨fls_map f h.fl xs, by
  show SeqAt.shaped (.list (D.pys (xs.map f))) = true
  have h1 := lay_map f h.lay xs
  have h2 := dep_map f 20 h.dep xs
  unfold SeqAt.shaped
  simp [PyData.canLay0, PyData.depth, h1]
  omega⟩
theorem shp_rnd : Shp Rnd.d := ⟨fun a => by cases a <;> rfl, fun a => by cases a <;> simp [Rnd.d, D.py, D.pys, PyData.canLay0, PyData.canLayAll0] <;> decide +kernel, fun a => by cases a <;> simp [Rnd.d, D.py, D.pys, PyData.depth, PyData.depthAll]⟩
theorem eqv_rnd (a b : Rnd) : PyData.eqv a.d.py b.d.py = decide (a = b) := by
  cases a <;> cases b <;> simp [Rnd.d, D.py, D.pys, PyData.eqv, PyData.eqvAll] <;> try decide +kernel
  rw [Bool.eq_iff_iff]
  simp
  omega
theorem shp_fr : Shp fr := ⟨fun a => rfl, fun a => by simp [fr, D.py, D.pys, PyData.canLay0, PyData.canLayAll0], fun a => by simp [fr, D.py, D.pys, PyData.depth, PyData.depthAll]⟩
def progF (L : List Rnd) : List (Str × D) := [("rounds", .tup (rds L))]
def progD (L : List Rnd) : D := .obj "Program" (progF L)
def R_Prog (mk : List D → D) (ds : List D) (fs : List (Str × D)) : Prop := ∃ L : List Rnd, (∀ r ∈ L, r.ok) ∧ L.length ≤ 12 ∧ ds = [mk (rds L)] ∧ fs = progF L
theorem ok_Program___init___L (T : Txt K mg) : FnG P w K mg base 5 (He.ma K (He.ga K "Program") "__init__") ["self", "rounds"] (spI K "Program" (R_Prog .lst)) := by
  refine fnG (N := ["self", "rounds"]) (st := s_Program___init__) T.f_Program___init__ sc_Program___init__ (fun vs H Q E h => ?_) (fun _ _ _ _ _ _ us hl => match us, hl with | [_, _], _ => rfl) (fun cdv A outer s H vs Q E hr h => ⟨_, (pss_cons (ps_expr (pe_callG (ok_check_rounds_L T) (hr.mono (by decide)) (by rfl) T.m_check_rounds (pa_cons (pv 1) pa_nil))) (pss_one (ps_fld (pv 0) (pe_callTy call_tupS (by rfl) T.z_tuple (by decide +kernel) (pa_cons (pv 1) pa_nil)) rfl))), ?_⟩)
  · obtain ⟨x, dx, us, ds, fs, H0, rfl, _, _, _, a, ⟨L, _, _, rfl, _⟩, _⟩ := h
    exact congrArg Nat.succ a.len
  · obtain ⟨x, dx, us, ds, fs, H0, rfl, hx, h0, ex, a, ⟨L, ho, hl, rfl, rfl⟩, q⟩ := h
    obtain ⟨u, rfl, a1⟩ := All.inv1 a
    try dsimp only [cxOf, Cx.nox, Cx.wish]
    refine q_do (K := K) (ed_call (d := .non) (ea1 (ed_var rfl (a1.ex ex)) ea0) ⟨L, ho, hl, rfl, rfl⟩) fun H1 e1 => ?_
    refine s_fld (K := K) (e1 _ _ hx) (ed_tuple (ed_var rfl (a1.ex (ex.trans e1)))) (ev_ref rfl) T.c_Program T.n_Program_rounds (by decide) fun v H2 e2 av => ?_
    exact q _ _ ((Xe.ex (e1.trans e2)).trans Xe.upd) upd_same (.cons (av.gt (gtI ((e1.trans e2) _ _ hx)) (rds_lf L)) .nil)
theorem ok_Program___init___T (T : Txt K mg) : FnG P w K mg base 5 (He.ma K (He.ga K "Program") "__init__") ["self", "rounds"] (spI K "Program" (R_Prog .tup)) := by
  refine fnG (N := ["self", "rounds"]) (st := s_Program___init__) T.f_Program___init__ sc_Program___init__ (fun vs H Q E h => ?_) (fun _ _ _ _ _ _ us hl => match us, hl with | [_, _], _ => rfl) (fun cdv A outer s H vs Q E hr h => ⟨_, (pss_cons (ps_expr (pe_callG (ok_check_rounds_T T) (hr.mono (by decide)) (by rfl) T.m_check_rounds (pa_cons (pv 1) pa_nil))) (pss_one (ps_fld (pv 0) (pe_callTy call_tupS (by rfl) T.z_tuple (by decide +kernel) (pa_cons (pv 1) pa_nil)) rfl))), ?_⟩)
  · obtain ⟨x, dx, us, ds, fs, H0, rfl, _, _, _, a, ⟨L, _, _, rfl, _⟩, _⟩ := h
    exact congrArg Nat.succ a.len
  · obtain ⟨x, dx, us, ds, fs, H0, rfl, hx, h0, ex, a, ⟨L, ho, hl, rfl, rfl⟩, q⟩ := h
    obtain ⟨u, rfl, a1⟩ := All.inv1 a
    try dsimp only [cxOf, Cx.nox, Cx.wish]
    refine q_do (K := K) (ed_call (d := .non) (ea1 (ed_var rfl (a1.ex ex)) ea0) ⟨L, ho, hl, rfl, rfl⟩) fun H1 e1 => ?_
    refine s_fld (K := K) (e1 _ _ hx) (ed_tupleT (ed_var rfl (a1.ex (ex.trans e1)))) (ev_ref rfl) T.c_Program T.n_Program_rounds (by decide) fun v H2 e2 av => ?_
    exact q _ _ ((Xe.ex (e1.trans e2)).trans Xe.upd) upd_same (.cons (av.gt (gtI ((e1.trans e2) _ _ hx)) (rds_lf L)) .nil)
theorem ok_Program___init___XL (T : Txt K mg) (hp : P.main.file = fileS) (ht : (P.main.scope.names.lookup ("super" : Str)).isSome = false) : FnG P w K mg base 5 (He.ma K (He.ga K "Program") "__init__") ["self", "rounds"] (spZI K "Program" R_bad) := by
  refine fnX (N := ["self", "rounds"]) (st := s_Program___init__) T.f_Program___init__ sc_Program___init__ (fun vs H Q E h => ?_) (fun _ _ _ _ _ _ us hl => match us, hl with | [_, _], _ => rfl) (fun cdv A outer s H vs Q E hr h => ⟨_, (pss_cons (ps_expr (pe_callSG (ok_check_rounds_XL T hp ht) (hr.mono (by decide)) (by rfl) T.m_check_rounds (takes_of rfl rfl rfl rfl) (pa_cons (pv 1) pa_nil))) (pss_one (ps_fld (pv 0) (pe_callTy call_tupS (by rfl) T.z_tuple (by decide +kernel) (pa_cons (pv 1) pa_nil)) rfl))), ?_⟩)
  · obtain ⟨x, dx, us, ds, r, H0, rfl, _, _, _, a, h, _⟩ := h
    rcases h with ⟨b, s, rfl, _⟩ | ⟨L, _, _, rfl, _⟩ | ⟨A, b, B, _, _, _, rfl, _⟩ <;> exact congrArg Nat.succ a.len
  · obtain ⟨x, dx, us, ds, r, H0, rfl, hx, h0, ex, a, h, q⟩ := h
    try dsimp only [cxOf, Cx.nox, Cx.wish]
    obtain ⟨b, rfl⟩ : ∃ b, ds = [b] := by rcases h with ⟨b, s, rfl, _⟩ | ⟨L, _, _, rfl, _⟩ | ⟨A, b, B, _, _, _, rfl, _⟩ <;> exact ⟨_, rfl⟩
    obtain ⟨u, rfl, a1⟩ := All.inv1 a
    exact q_doX (ex_callZ (K := K) (ea1 (ed_var rfl (a1.ex ex)) ea0) h q)
theorem ok_Program___init___XT (T : Txt K mg) (hp : P.main.file = fileS) (ht : (P.main.scope.names.lookup ("super" : Str)).isSome = false) : FnG P w K mg base 5 (He.ma K (He.ga K "Program") "__init__") ["self", "rounds"] (spZI K "Program" R_badT) := by
  refine fnX (N := ["self", "rounds"]) (st := s_Program___init__) T.f_Program___init__ sc_Program___init__ (fun vs H Q E h => ?_) (fun _ _ _ _ _ _ us hl => match us, hl with | [_, _], _ => rfl) (fun cdv A outer s H vs Q E hr h => ⟨_, (pss_cons (ps_expr (pe_callSG (ok_check_rounds_XT T hp ht) (hr.mono (by decide)) (by rfl) T.m_check_rounds (takes_of rfl rfl rfl rfl) (pa_cons (pv 1) pa_nil))) (pss_one (ps_fld (pv 0) (pe_callTy call_tupS (by rfl) T.z_tuple (by decide +kernel) (pa_cons (pv 1) pa_nil)) rfl))), ?_⟩)
  · obtain ⟨x, dx, us, ds, r, H0, rfl, _, _, _, a, ⟨L, _, _, rfl, _⟩, _⟩ := h
    exact congrArg Nat.succ a.len
  · obtain ⟨x, dx, us, ds, r, H0, rfl, hx, h0, ex, a, h, q⟩ := h
    try dsimp only [cxOf, Cx.nox, Cx.wish]
    obtain ⟨b, rfl⟩ : ∃ b, ds = [b] := by obtain ⟨L, _, _, rfl, _⟩ := h; exact ⟨_, rfl⟩
    obtain ⟨u, rfl, a1⟩ := All.inv1 a
    exact q_doX (ex_callZ (K := K) (ea1 (ed_var rfl (a1.ex ex)) ea0) h q)
theorem own_Program (T : Txt K mg) : OwnTy K "Program" := ⟨T.c_Program, T.cl_Program, T.sp, T.tk, T.ob_Program⟩
def R_Program___len__ (ds : List D) (d : D) : Prop := ∃ L, ds = [progD L] ∧ d = .int (L.length : Int)
theorem ok_Program___len__ (T : Txt K mg) : FnG P w K mg base 1 (He.ma K (He.ga K "Program") "__len__") ["self"] (spD K R_Program___len__) := by
  refine fnG (N := ["self"]) (st := s_Program___len__) T.f_Program___len__ sc_Program___len__ (fun vs H Q E h => ?_) (fun _ _ _ _ _ _ us hl => match us, hl with | [_], _ => rfl) (fun cdv A outer s H vs Q E hr h => ⟨_, (pss_one (ps_ret (pe_callB call_lenS (by rfl) T.z_len PySem.boot_len (pa_cons (pe_fld (pv 0) rfl) pa_nil)))), ?_⟩)
  · obtain ⟨ds, d, a, ⟨L, rfl, _⟩, _⟩ := h
    exact a.len
  · obtain ⟨ds, d, a, ⟨L, rfl, rfl⟩, q⟩ := h
    obtain ⟨u, rfl, a1⟩ := All.inv1 a
    try dsimp only [cxOf, Cx.nox, Cx.wish]
    exact s_retD (EvD.is (ed_lenT (K := K) (ed_fld (ed_var rfl a1) T.c_Program T.n_Program_rounds rfl)) (by rw [rds_len])) fun v2 H2 x2 i2 => q _ _ x2 i2
def R_Program___eq__ (ds : List D) (d : D) : Prop := ∃ a b : List Rnd, ds = [progD a, progD b] ∧ d = .bl (decide (a = b))
theorem ok_Program___eq__ (T : Txt K mg) : FnG P w K mg base 1 (He.ma K (He.ga K "Program") "__eq__") ["self", "other"] (spD K R_Program___eq__) := by
  refine fnG (N := ["self", "other"]) (st := s_Program___eq__) T.f_Program___eq__ sc_Program___eq__ (fun vs H Q E h => ?_) (fun _ _ _ _ _ _ us hl => match us, hl with | [_, _], _ => rfl) (fun cdv A outer s H vs Q E hr h => ⟨_, (pss_one (ps_ret (pe_and (pe_callB call_isi (by rfl) T.z_isinstance (by decide +kernel) (pa_cons (pv 1) (pa_cons (pe_clsN (by rfl) T.m_Program) pa_nil))) (pe_one (pe_cmpR (op_eqD (hr.units)) (pe_fld (pv 0) rfl) (pe_fld (pv 1) rfl) (nomark _)))))), ?_⟩)
  · obtain ⟨ds, d, a, ⟨A, B, rfl, _⟩, _⟩ := h
    exact a.len
  · obtain ⟨ds, d, a, ⟨A, B, rfl, rfl⟩, q⟩ := h
    obtain ⟨u, u', rfl, a1, a2⟩ := All.inv2 a
    try dsimp only [cxOf, Cx.nox, Cx.wish]
    refine s_retD (K := K) (EvD.is (ed_andV (K := K) (a := true) (b := decide (A = B)) (ed_isiO (ed_var rfl a2) (own_Program T) T.ki_Program) fun _ => EvD.is (ed_eqD (K := K) (ed_fld (ed_var rfl a1) T.c_Program T.n_Program_rounds rfl) (ed_fld (ed_var rfl a2) T.c_Program T.n_Program_rounds rfl) (shp_rnd.tup A) (shp_rnd.tup B)) (congrArg D.bl (eqvT_map _ eqv_rnd A B))) (by rw [Bool.true_and])) fun v2 H2 x2 i2 => q _ _ x2 i2
def R_Program___add__ (ds : List D) (d : D) : Prop := ∃ a b : List Rnd, (∀ r ∈ a, r.ok) ∧ (∀ r ∈ b, r.ok) ∧ a.length + b.length ≤ 12 ∧ ds = [progD a, progD b] ∧ d = progD (a ++ b)
theorem ok_Program___add__ (T : Txt K mg) : FnG P w K mg base 7 (He.ma K (He.ga K "Program") "__add__") ["self", "other"] (spD K R_Program___add__) := by
  refine fnG (N := ["self", "other"]) (st := s_Program___add__) T.f_Program___add__ sc_Program___add__ (fun vs H Q E h => ?_) (fun _ _ _ _ _ _ us hl => match us, hl with | [_, _], _ => rfl) (fun cdv A outer s H vs Q E hr h => ⟨_, (pss_cons (ps_if (pt_not (pt_val (pe_callB call_isi (by rfl) T.z_isinstance (by decide +kernel) (pa_cons (pv 1) (pa_cons (pe_clsN (by rfl) T.m_Program) pa_nil))))) (pss_one ps_never) pss_nil) (pss_one (ps_ret (pe_makeG T.k_Program (ok_Program___init___T T) (hr.mono (by decide)) (by rfl) T.m_Program (pa_cons (pe_op op_catA (pe_fld (pv 0) rfl) (pe_fld (pv 1) rfl)) pa_nil))))), ?_⟩)
  · obtain ⟨ds, d, a, ⟨A, B, _, _, _, rfl, _⟩, _⟩ := h
    exact a.len
  · obtain ⟨ds, d, a, ⟨A, B, hA, hB, hl, rfl, rfl⟩, q⟩ := h
    obtain ⟨u, u', rfl, a1, a2⟩ := All.inv2 a
    try dsimp only [cxOf, Cx.nox, Cx.wish]
    refine q_when (b := false) (et_not (a := true) (et_v (K := K) (ed_isiO (ed_var rfl a2) (own_Program T) T.ki_Program))) (fun z => nomatch z) fun _ H1 e1 => ?_
    refine s_retD (K := K) (ed_make (ea1 (K := K) (d := .tup (rds (A ++ B))) (EvD.is (ed_catA (ed_fld (ed_var rfl (a1.ex e1)) T.c_Program T.n_Program_rounds rfl) (ed_fld (ed_var rfl (a2.ex e1)) T.c_Program T.n_Program_rounds rfl) ?_) ?_) ea0) ⟨A ++ B, ?_, ?_, rfl, rfl⟩) fun v2 H2 x2 i2 => q _ _ (e1.trans x2) i2
    · rw [rds_len, rds_len]
      omega
    · unfold rds
      rw [List.map_append]
    · intro r hr
      rcases List.mem_append.mp hr with h | h
      · exact hA r h
      · exact hB r h
    · rw [List.length_append]
      exact hl
def R_addBad (ds : List D) (r : Rz) : Prop := ∃ a b : List Rnd, 12 < a.length + b.length ∧ a.length + b.length ≤ 1000 ∧ ds = [progD a, progD b] ∧ r = .prog .non
theorem ok_Program___add___X (T : Txt K mg) (hp : P.main.file = fileS) (ht : (P.main.scope.names.lookup ("super" : Str)).isSome = false) : FnG P w K mg base 7 (He.ma K (He.ga K "Program") "__add__") ["self", "other"] (spZ K R_addBad) := by
  refine fnX (N := ["self", "other"]) (st := s_Program___add__) T.f_Program___add__ sc_Program___add__ (fun vs H Q E h => ?_) (fun _ _ _ _ _ _ us hl => match us, hl with | [_, _], _ => rfl) (fun cdv A outer s H vs Q E hr h => ⟨_, (pss_cons (ps_if (pt_not (pt_val (pe_callB call_isi (by rfl) T.z_isinstance (by decide +kernel) (pa_cons (pv 1) (pa_cons (pe_clsN (by rfl) T.m_Program) pa_nil))))) (pss_one ps_never) pss_nil) (pss_one (ps_ret (pe_makeSG T.k_Program (ok_Program___init___XT T hp ht) (hr.mono (by decide)) (by rfl) T.m_Program (takes_of rfl rfl rfl rfl) (pa_cons (pe_op op_catA (pe_fld (pv 0) rfl) (pe_fld (pv 1) rfl)) pa_nil))))), ?_⟩)
  · obtain ⟨ds, r, a, ⟨A, B, _, _, rfl, _⟩, _⟩ := h
    exact a.len
  · obtain ⟨ds, r, a, ⟨A, B, h1, h2, rfl, rfl⟩, q⟩ := h
    obtain ⟨u, u', rfl, a1, a2⟩ := All.inv2 a
    try dsimp only [cxOf, Cx.nox, Cx.wish]
    refine q_when (b := false) (et_not (a := true) (et_v (K := K) (ed_isiO (ed_var rfl a2) (own_Program T) T.ki_Program))) (fun z => nomatch z) fun _ H1 e1 => ?_
    refine s_retX (ex_makeZ (K := K) (ea1 (K := K) (d := .tup (rds (A ++ B))) (EvD.is (ed_catA (ed_fld (ed_var rfl (a1.ex e1)) T.c_Program T.n_Program_rounds rfl) (ed_fld (ed_var rfl (a2.ex e1)) T.c_Program T.n_Program_rounds rfl) ?_) ?_) ea0) ⟨A ++ B, ?_, ?_, rfl, rfl⟩ (q.ex e1))
    · rw [rds_len, rds_len]
      omega
    · unfold rds
      rw [List.map_append]
    · rw [List.length_append]
      exact h1
    · rw [List.length_append]
      exact h2

end
end My
end
section
set_option Elab.async false
set_option linter.all false
set_option maxRecDepth 100000
set_option maxHeartbeats 4000000
namespace WD
open PySem PySem.Spec PyProof.Rows L2 Evl
section
variable {K : PySem.W.Frag} {σ : L2.St} {H H' H0 H1 : Hp} {ta tb te : TE} {tr : TA} {d d1 d2 : D} {ds : List D}
/-- a new list that grows by lists -/
theorem q_growL {wi : TI} {g : TG} {tw tz : TS} {En : Ends} {n : Nat} {item : Nat → WD.D} {f : Nat → List WD.D} {W : L2.St → Prop} {p : Addr} {xs : List V} {es : List WD.D} (hp0 : H0 p = none) (e0 : Ex H0 H) (hp : H p = some (.lst xs)) (ax : All K H xs es) (hf : D.lfs es = true) (hF : ∀ i, i < n → D.lfs (f i) = true)
    (hI : EvI K wi σ [p] H n item) (h0 : W σ)
    (hs : ∀ i x σ' H' ys, i < n → W σ' → Ex H0 H' → H' p = some (.lst ys) → All K H' ys (es ++ (List.range i).flatMap f) → Is K H' x (item i) → ∀ Nx : L2.St → Hp → Prop,
      (∀ σ3 H3 vs, W σ3 → Ex H' H3 → All K H3 vs (f i) → Nx σ3 (upd H3 p (.lst (ys ++ vs)))) → g x σ' H' fun σ2 H2 => tw { En with nx := Nx, ct := Nx, bk := tz En } σ2 H2)
    (hd : ∀ σ' H' ys, W σ' → Ex H0 H' → H' p = some (.lst ys) → All K H' ys (es ++ (List.range n).flatMap f) → tz En σ' H') : tSeq (tFor wi g tw) tz En σ H := by
  have lfi : ∀ i, i ≤ n → D.lfs (es ++ (List.range i).flatMap f) = true := fun i hi => lfs_app hf (by
    induction i with
    | zero => rfl
    | succ i ih =>
      rw [List.range_succ, List.flatMap_append]
      refine lfs_app (ih (by omega)) ?_
      show D.lfs (f i ++ []) = true
      rw [List.append_nil]
      exact hF i (by omega))
  refine q_for hI (fun i σ' H' => W σ' ∧ Ex H0 H' ∧ ∃ ys, H' p = some (.lst ys) ∧ All K H' ys (es ++ (List.range i).flatMap f)) (fun H1 e => ⟨h0, e0.trans e, xs, e _ _ hp, by
    rw [List.range_zero, List.flatMap_nil, List.append_nil]
    exact ax.ex e⟩) ?_ (fun σ' H' ⟨w, e, ys, hy, ay⟩ => hd σ' H' ys w e hy ay)
  rintro i x σ' H' H'' hi ⟨w, e, ys, hy, ay⟩ e2 a
  refine hs i x σ' H'' ys hi w (e.trans e2) (e2 _ _ hy) (ay.ex e2) a _ ?_
  intro σ3 H3 vs w3 e3 av
  have hy3 := (e2.trans e3) _ _ hy
  refine ⟨⟨w3, Ex.updN ((e.trans e2).trans e3) hp0, _, upd_same, ?_⟩, (Mu.ex (e2.trans e3)).trans (Mu.upd (List.mem_singleton.mpr rfl) hy3)⟩
  rw [List.range_succ, List.flatMap_append, ← List.append_assoc]
  refine All.app ((ay.ex (e2.trans e3)).updL hy3 (lfi i (by omega))) ?_
  show All K _ vs (f i ++ [])
  rw [List.append_nil]
  exact av.updL hy3 (hF i hi)
end
end WD
end
section
set_option Elab.async false
set_option linter.all false
set_option maxRecDepth 100000
set_option maxHeartbeats 4000000
namespace My
open PySem PySem.Spec PyProof.Rows L2 Evl WD
local macro_rules | `(tactic| walk_at "exgo") => `(tactic| first | exact Ex.refl _ | assumption | (refine' Ex.trans ?ea ?eb; (case eb => assumption); (case ea => walk_at "exgo")))
local macro_rules | `(tactic| walk_at "is") => `(tactic| first | assumption | (refine' Is.ex ?e ?h; (case h => assumption); (case e => walk_at "exgo")) | exact Is.int _ | exact Is.bl _ | exact Is.non)
local macro_rules | `(tactic| walk_at "ev") => `(tactic| first
  | exact ed_int | exact ed_bl | exact ed_non | exact ed_str
  | ((with_reducible apply ed_var) <;> first | exact rfl | walk_at "is")
  | ((with_reducible apply ed_add) <;> walk_at "ev")
  | ((with_reducible apply ed_sub) <;> walk_at "ev")
  | ((with_reducible apply ed_neg) <;> walk_at "ev")
  | ((with_reducible apply ed_mulW) <;> try walk_at "ev")
  | ((with_reducible apply ed_divW) <;> try walk_at "ev")
  | ((with_reducible apply ed_mod) <;> try walk_at "ev")
  | ((with_reducible apply ed_ixT) <;> first | exact rfl | walk_at "ev" | skip)
  | ((with_reducible apply ed_ixL) <;> first | exact rfl | walk_at "ev" | skip)
  | ((with_reducible apply ed_lt) <;> walk_at "ev")
  | ((with_reducible apply ed_le) <;> walk_at "ev")
  | ((with_reducible apply ed_gt) <;> walk_at "ev")
  | ((with_reducible apply ed_ge) <;> walk_at "ev")
  | ((with_reducible apply ed_eqI) <;> walk_at "ev")
  | ((with_reducible apply ed_neI) <;> walk_at "ev")
  | ((with_reducible apply ed_gcd) <;> walk_at "ev")
  | ((with_reducible apply ed_abs) <;> walk_at "ev")
  | ((with_reducible apply ed_intI) <;> walk_at "ev")
  | ((with_reducible apply ed_intB) <;> walk_at "ev")
  | ((with_reducible apply ed_max2) <;> walk_at "ev")
  | ((with_reducible apply ed_min2) <;> walk_at "ev")
  | ((with_reducible apply ed_lenT) <;> walk_at "ev")
  | ((with_reducible apply ed_lenL) <;> walk_at "ev")
  | ((with_reducible apply ed_tuple) <;> walk_at "ev")
  | ((with_reducible apply ed_tupleT) <;> walk_at "ev")
  | ((with_reducible apply ed_tup) <;> first | walk_at "ea" | (simp; done) | skip)
  | ((with_reducible apply et_t) <;> walk_at "ev")
  | ((with_reducible apply et_v) <;> walk_at "ev"))
local macro_rules | `(tactic| walk_at "ea") => `(tactic| first
  | exact ea0
  | ((with_reducible apply ea1) <;> first | walk_at "ev" | walk_at "ea" | skip))

section
variable {P : Program} {w : World} {K : PySem.W.Frag} {mg : Str → Option Value} {base : Heap}
/-! ### openings -/
def opn1 (n : Nat) : Rnd → List Int
  | .right => (List.range (n - 1)).map fun i : Nat => 1 + (i : Int)
  | .left => (List.range (n - 1)).map fun i : Nat => (n : Int) - 1 - (i : Int)
  | .ev k r => ((List.range (n - 1)).map fun i : Nat => 1 + (i : Int)).filter fun w => decide (w % (k : Int) = (r : Int))
def ops (L : List Rnd) (n : Nat) : List Int := L.flatMap (opn1 n)
theorem opn1_len (n : Nat) (r : Rnd) : (opn1 n r).length ≤ n - 1 := by
  cases r with
  | right => simp [opn1]
  | left => simp [opn1]
  | ev k r => exact Nat.le_trans (List.length_filter_le _ _) (by simp)
theorem range_flat {α : Type} (L : List Rnd) (f : Rnd → List α) (i : Nat) (hi : i ≤ L.length) : ((List.range i).flatMap fun j => f (L.getD j .right)) = (L.take i).flatMap f := by
  induction i with
  | zero => simp
  | succ i ih =>
    rw [List.range_succ, List.flatMap_append, ih (by omega), List.take_succ_eq_append_getElem (by omega), List.flatMap_append]
    simp [List.getD_eq_getElem?_getD, List.getElem?_eq_getElem (show i < L.length by omega)]
theorem ops_take_len (L : List Rnd) (n i : Nat) : ((L.take i).flatMap (opn1 n)).length ≤ i * n := by
  induction i with
  | zero => simp
  | succ i ih =>
    by_cases h : i < L.length
    · rw [List.take_succ_eq_append_getElem h, List.flatMap_append, List.length_append]
      have := opn1_len n L[i]
      rw [Nat.succ_mul, List.flatMap_cons, List.flatMap_nil, List.append_nil]
      omega
    · rw [List.take_of_length_le (by omega)]
      rw [List.take_of_length_le (by omega)] at ih
      exact Nat.le_trans ih (Nat.mul_le_mul_right _ (by omega))
theorem rd_ix0 (r : Rnd) : ∃ s : Str, ∀ {σ : L2.St} {H : Hp} {te ti : TE}, EvD K te σ H r.d → EvD K ti σ H (.int 0) → EvD K (tOp (rIxT K) te ti) σ H (.str s) := by
  cases r with
  | right => exact ⟨_, fun h i => ed_ixT h i rfl⟩
  | left => exact ⟨_, fun h i => ed_ixT h i rfl⟩
  | ev k r => exact ⟨_, fun h i => ed_ixT h i rfl⟩
def R_openings (ds es : List D) : Prop := ∃ (L : List Rnd) (n : Nat), (∀ r ∈ L, r.ok) ∧ L.length ≤ 12 ∧ 1 ≤ n ∧ n ≤ 400 ∧ ds = [.tup (rds L), .int (n : Int)] ∧ es = iL (ops L n)
theorem ok_openings (T : Txt K mg) : FnG P w K mg base 1 (He.ga K "openings") ["rounds", "many"] (spN K R_openings) := by
  refine fnG (N := ["rounds", "many", "found", "told", "weir"]) (st := s_openings) T.f_openings sc_openings (fun vs H Q E h => ?_) (fun _ _ _ _ _ _ us hl => match us, hl with | [_, _], _ => rfl) (fun cdv A outer s H vs Q E hr h => ⟨_, (pss_cons (ps_asg (pe_lst pa_nil) (pg_name (i := 2) sc_openings.nd rfl (.inl rfl))) (pss_cons (ps_for PassesOwn.never rfl (pi_tup (pv 0)) (pg_name (i := 3) sc_openings.nd rfl (.inr rfl)) (pss_one (ps_if (pt_cmpR op_eq (pe_ix ix_tup (pv 3) pe_int (fun _ _ => rfl)) pe_str (nomark _)) (pss_one (ps_expr (pe_bm PySem.F.plainAttrs_list PySem.F.slot_list_extend PySem.F.type_list_extend mt_extend (pv 2) (pa_cons (pe_listRg rfl (by rfl) T.z_list (prg_2 (by rfl) T.z_range pe_int (pv 1))) pa_nil)))) (pss_one (ps_if (pt_cmpR op_eq (pe_ix ix_tup (pv 3) pe_int (fun _ _ => rfl)) pe_str (nomark _)) (pss_one (ps_expr (pe_bm PySem.F.plainAttrs_list PySem.F.slot_list_extend PySem.F.type_list_extend mt_extend (pv 2) (pa_cons (pe_listRg3 rfl (by rfl) T.z_list (by rfl) T.z_range (pa_cons (pe_op op_sub (pv 1) pe_int) (pa_cons pe_int (pa_cons (pe_un un_neg pe_int) pa_nil)))) pa_nil)))) (pss_one (ps_expr (pe_bm PySem.F.plainAttrs_list PySem.F.slot_list_extend PySem.F.type_list_extend mt_extend (pv 2) (pa_cons (pe_lc (own := [("weir", 4)]) rfl sc_openings.nd (pi_range2 (by rfl) T.z_range (pa_cons pe_int (pa_cons (pv 1) pa_nil))) (blkOk_by (own := [("weir", 4)]) (N := ["rounds", "many", "found", "told", "weir"]) (sc := defScope s_openings) (by decide +kernel)) (fun _ _ _ _ _ => (pg_name (i := 4) sc_openings.nd rfl (.inl rfl))) (fun _ _ _ _ _ => (pts_one (pt_cmpR op_eq (pe_op op_mod (pv 4) (pe_ix (ixTK (K := K) rfl) (pv 3) pe_int (fun _ _ => rfl))) (pe_ix (ixTK (K := K) rfl) (pv 3) pe_int (fun _ _ => rfl)) (nomark _)))) (fun _ _ _ _ _ => (pv 4))) pa_nil))))))))) (pss_one (ps_ret (pv 2))))), ?_⟩)
  · obtain ⟨ds, d, a, ⟨L, n, _, _, _, _, rfl, _⟩, _⟩ := h
    exact a.len
  · obtain ⟨ds, d, a, ⟨L, n, ho, hL, n1, n4, rfl, rfl⟩, q⟩ := h
    obtain ⟨u, u', rfl, a1, a2⟩ := All.inv2 a
    cases a2
    try dsimp only [cxOf, Cx.nox, Cx.wish]
    refine q_asgN (K := K) (ds := []) (en_lst ea0) fun p xs H1 hp e1 hq ax => ?_
    refine q_growL (K := K) (f := fun j => iL (opn1 n (L.getD j .right))) (W := fun σ => ∃ y z, σ = [some u, some (.int (n : Int)), some (.ref p), y, z]) hp e1 hq ax rfl (fun _ _ => iLlf _) (n := L.length) (EvI.is (ei_tup (ed_var rfl (a1.ex e1)) (rds_lf L)) (rds_len L)) ⟨none, none, rfl⟩ ?_ ?_
    · rintro i x σ' H' ys hi ⟨y, z, rfl⟩ e hy ay ax Nx hN
      have gi : L.getD i .right = L[i] := by rw [List.getD_eq_getElem?_getD, List.getElem?_eq_getElem hi]; rfl
      rw [show (rds L).getD i .non = L[i].d from getD_map _ _ _ hi] at ax
      rw [gi] at hN
      have oki := ho _ (List.getElem_mem hi)
      have hlen : ys.length + (iL (opn1 n L[i])).length ≤ 100000 := by
        have h1 := ay.len
        have h2 : ((List.range i).flatMap fun j => iL (opn1 n (L.getD j .right))) = iL ((L.take i).flatMap (opn1 n)) := by
          rw [range_flat L (fun r => iL (opn1 n r)) i (by omega)]
          unfold iL
          rw [List.map_flatMap]
        rw [List.nil_append, h2, iLlen] at h1
        have h3 := ops_take_len L n i
        have h4 := opn1_len n L[i]
        have h5 : i * n ≤ 12 * 400 := Nat.mul_le_mul (by omega) n4
        rw [h1, iLlen]
        omega
      refine g_name ?_
      generalize L[i] = r at ax oki hN hlen
      cases r with
      | right =>
        refine s_if (b := true) (et_is (et_t (K := K) (ed_eqS (K := K) (x := "right") (y := "right") (ed_ixT (ed_var rfl ax) ed_int rfl) ed_str)) (by decide +kernel)) (fun _ H2 e2 => ?_) (fun z => nomatch z)
        refine s_extD (K := K) (e2 _ _ hy) (ev_ref rfl) (EvN.is (en_rg2 ed_int (ed_var rfl (.int _)) (by omega)) ?_) hlen fun vs H3 e3 av => hN _ _ _ ⟨_, _, rfl⟩ (e2.trans e3) av
        rw [show ((n : Int) - 1).toNat = n - 1 from by omega]
        rfl
      | left =>
        refine s_if (b := false) (et_is (et_t (K := K) (ed_eqS (K := K) (x := "left") (y := "right") (ed_ixT (ed_var rfl ax) ed_int rfl) ed_str)) (by decide +kernel)) (fun z => nomatch z) (fun _ H2 e2 => ?_)
        refine s_if (b := true) (et_is (et_t (K := K) (ed_eqS (K := K) (x := "left") (y := "left") (ed_ixT (ed_var rfl (ax.ex e2)) ed_int rfl) ed_str)) (by decide +kernel)) (fun _ H3 e3 => ?_) (fun z => nomatch z)
        refine s_extD (K := K) ((e2.trans e3) _ _ hy) (ev_ref rfl) (EvN.is (en_rg3 (hi := (n : Int) - 1) (lo := 0) (ea1 (ed_sub (ed_var rfl (.int _)) ed_int) (ea1 ed_int (ea1 (ed_neg ed_int) ea0))) (by omega)) ?_) hlen fun vs H4 e4 av => hN _ _ _ ⟨_, _, rfl⟩ ((e2.trans e3).trans e4) av
        rw [show ((n : Int) - 1 - 0).toNat = n - 1 from by omega]
        rfl
      | ev k r =>
        obtain ⟨k2, k4, rk⟩ := oki
        refine s_if (b := false) (et_is (et_t (K := K) (ed_eqS (K := K) (x := "every") (y := "right") (ed_ixT (ed_var rfl ax) ed_int rfl) ed_str)) (by decide +kernel)) (fun z => nomatch z) (fun _ H2 e2 => ?_)
        refine s_if (b := false) (et_is (et_t (K := K) (ed_eqS (K := K) (x := "every") (y := "left") (ed_ixT (ed_var rfl (ax.ex e2)) ed_int rfl) ed_str)) (by decide +kernel)) (fun z => nomatch z) (fun _ H3 e3 => ?_)
        refine s_extD (K := K) ((e2.trans e3) _ _ hy) (ev_ref rfl) (EvN.is (en_lc1 (n := ((n : Int) - 1).toNat) (item := fun i => .int (1 + (i : Int))) (fun i => decide ((1 + (i : Int)) % (k : Int) = (r : Int))) (fun i => .int (1 + (i : Int))) (fun H4 e4 => ei_r2 (ea1 ed_int (ea1 (ed_var rfl (.int _)) ea0)) (by omega)) (by omega) (fun _ _ _ => rfl) (fun x => rfl) (fun i x H4 _ e4 az => ?_) (fun i x H4 _ e4 az _ => ed_var rfl az)) ?_) hlen fun vs H4 e4 av => hN _ _ _ ⟨_, _, rfl⟩ ((e2.trans e3).trans e4) av
        · exact et_t (K := K) (ed_eqI (ed_mod (ed_var rfl az) (ed_ixT (ed_var rfl (ax.ex ((e2.trans e3).trans e4))) ed_int rfl) (by omega)) (ed_ixT (ed_var rfl (ax.ex ((e2.trans e3).trans e4))) ed_int rfl))
        · unfold gives iL
          dsimp only [opn1]
          rw [show ((n : Int) - 1).toNat = n - 1 from by omega, List.filter_map, List.map_map]
          rfl
    · rintro σ' H' ys ⟨y, z, rfl⟩ e hy ay
      refine ⟨_, rfl, q p ys H' hp e hy ?_⟩
      rw [List.nil_append, range_flat L (fun r => iL (opn1 n r)) L.length (Nat.le_refl _), List.take_length] at ay
      unfold ops iL
      rw [List.map_flatMap]
      exact ay

end
end My
end
section
set_option Elab.async false
set_option linter.all false
set_option maxRecDepth 100000
set_option maxHeartbeats 4000000
namespace My
open PySem PySem.Spec PyProof.Rows L2 Evl WD
local macro_rules | `(tactic| walk_at "exgo") => `(tactic| first | exact Ex.refl _ | assumption | (refine' Ex.trans ?ea ?eb; (case eb => assumption); (case ea => walk_at "exgo")))
local macro_rules | `(tactic| walk_at "is") => `(tactic| first | assumption | (refine' Is.ex ?e ?h; (case h => assumption); (case e => walk_at "exgo")) | exact Is.int _ | exact Is.bl _ | exact Is.non)
local macro_rules | `(tactic| walk_at "ev") => `(tactic| first
  | exact ed_int | exact ed_bl | exact ed_non | exact ed_str
  | ((with_reducible apply ed_var) <;> first | exact rfl | walk_at "is")
  | ((with_reducible apply ed_add) <;> walk_at "ev")
  | ((with_reducible apply ed_sub) <;> walk_at "ev")
  | ((with_reducible apply ed_neg) <;> walk_at "ev")
  | ((with_reducible apply ed_mulW) <;> try walk_at "ev")
  | ((with_reducible apply ed_divW) <;> try walk_at "ev")
  | ((with_reducible apply ed_mod) <;> try walk_at "ev")
  | ((with_reducible apply ed_ixT) <;> first | exact rfl | walk_at "ev" | skip)
  | ((with_reducible apply ed_ixL) <;> first | exact rfl | walk_at "ev" | skip)
  | ((with_reducible apply ed_lt) <;> walk_at "ev")
  | ((with_reducible apply ed_le) <;> walk_at "ev")
  | ((with_reducible apply ed_gt) <;> walk_at "ev")
  | ((with_reducible apply ed_ge) <;> walk_at "ev")
  | ((with_reducible apply ed_eqI) <;> walk_at "ev")
  | ((with_reducible apply ed_neI) <;> walk_at "ev")
  | ((with_reducible apply ed_gcd) <;> walk_at "ev")
  | ((with_reducible apply ed_abs) <;> walk_at "ev")
  | ((with_reducible apply ed_intI) <;> walk_at "ev")
  | ((with_reducible apply ed_intB) <;> walk_at "ev")
  | ((with_reducible apply ed_max2) <;> walk_at "ev")
  | ((with_reducible apply ed_min2) <;> walk_at "ev")
  | ((with_reducible apply ed_lenT) <;> walk_at "ev")
  | ((with_reducible apply ed_lenL) <;> walk_at "ev")
  | ((with_reducible apply ed_tuple) <;> walk_at "ev")
  | ((with_reducible apply ed_tupleT) <;> walk_at "ev")
  | ((with_reducible apply ed_tup) <;> first | walk_at "ea" | (simp; done) | skip)
  | ((with_reducible apply et_t) <;> walk_at "ev")
  | ((with_reducible apply et_v) <;> walk_at "ev"))
local macro_rules | `(tactic| walk_at "ea") => `(tactic| first
  | exact ea0
  | ((with_reducible apply ea1) <;> first | walk_at "ev" | walk_at "ea" | skip))

section
variable {P : Program} {w : World} {K : PySem.W.Frag} {mg : Str → Option Value} {base : Heap}
def hv1 (n : Nat) : Rnd → Nat
  | .ev _ _ => 1
  | _ => n - 1
def hvs (L : List Rnd) (n : Nat) : Nat := (L.map (hv1 n)).sum
theorem hvs_le {L : List Rnd} {n : Nat} (h : 1 ≤ n) : hvs L n ≤ L.length * n := by
  induction L with
  | nil => simp [hvs]
  | cons r L ih =>
    have h1 : hv1 n r ≤ n := by cases r <;> simp [hv1] <;> omega
    have h2 : hvs (r :: L) n = hv1 n r + hvs L n := rfl
    rw [h2, List.length_cons, Nat.succ_mul]
    omega
theorem et_inLR {σ : L2.St} {H : Hp} {ta : TE} {x : Str} {b : Bool} (ha : EvD K ta σ H (.str x)) (e : inV (.str x) [.str "right", .str "left"] = b) : EvT (tTest (tOp (rIn K false) ta (tTup (tCons (tC (.str "right")) (tCons (tC (.str "left")) tNil))))) σ H b := by
  subst e
  refine et_t (K := K) (ed_op ha (ed_tup (ds := [.str "right", .str "left"]) (ea1 ed_str (ea1 ed_str ea0)) (by decide)) fun v1 v2 H1 _ a1 a2 Q q => ?_)
  cases a1
  obtain ⟨p, xs, rfl, hp, ax⟩ := Is.tup_inv a2
  obtain ⟨w1, w2, rfl, b1, b2⟩ := All.inv2 ax
  cases b1
  cases b2
  exact ⟨p, _, rfl, .inr hp, rfl, rfl, q _ H1 (Ex.refl H1) (.bl _)⟩
def R_halvings (ds : List D) (d : D) : Prop := ∃ (L : List Rnd) (n : Nat), L.length ≤ 12 ∧ 1 ≤ n ∧ n ≤ 400 ∧ ds = [.tup (rds L), .int (n : Int)] ∧ d = .int ((hvs L n : Nat) : Int)
theorem ok_halvings (T : Txt K mg) : FnG P w K mg base 1 (He.ga K "halvings") ["rounds", "many"] (spD K R_halvings) := by
  refine fnG (N := ["rounds", "many", "told"]) (st := s_halvings) T.f_halvings sc_halvings (fun vs H Q E h => ?_) (fun _ _ _ _ _ _ us hl => match us, hl with | [_, _], _ => rfl) (fun cdv A outer s H vs Q E hr h => ⟨_, (pss_one (ps_ret (pe_callB (cr_sum rfl) (by rfl) T.z_sum (by decide +kernel) (pa_cons (pe_lc (own := [("told", 2)]) rfl sc_halvings.nd (pi_tup (pv 0)) (blkOk_by (own := [("told", 2)]) (N := ["rounds", "many", "told"]) (sc := defScope s_halvings) (by decide +kernel)) (fun _ _ _ _ _ => (pg_name (i := 2) sc_halvings.nd rfl (.inl rfl))) (fun _ _ _ _ _ => pts_nil) (fun _ _ _ _ _ => (pe_ifExp (pt_cmpR (inK (K := K) rfl) (pe_ix (ixTK (K := K) rfl) (pv 2) pe_int (fun _ _ => rfl)) (pe_tup (pa_cons pe_str (pa_cons pe_str pa_nil))) (by rfl)) (pe_op op_sub (pv 1) pe_int) pe_int))) pa_nil)))), ?_⟩)
  · obtain ⟨ds, d, a, ⟨L, n, _, _, _, rfl, _⟩, _⟩ := h
    exact a.len
  · obtain ⟨ds, d, a, ⟨L, n, hL, n1, n4, rfl, rfl⟩, q⟩ := h
    obtain ⟨u, u', rfl, a1, a2⟩ := All.inv2 a
    cases a2
    try dsimp only [cxOf, Cx.nox, Cx.wish]
    refine s_retD (K := K) (EvD.is (ed_sum (L := (L.map (hv1 n)).map fun x : Nat => (x : Int)) (EvN.is (en_lc1 (n := L.length) (item := fun i => (rds L).getD i .non) (fun _ => true) (fun i => .int ((hv1 n (L.getD i .right) : Nat) : Int)) (fun H2 e2 => EvI.is (ei_tup (ed_var rfl (a1.ex e2)) (rds_lf L)) (rds_len L)) (by omega) (fun _ _ _ => rfl) (fun x => rfl) (fun i x H2 _ _ _ => et_yes) (fun i x H2 hi e2 ax _ => ?_)) ?_).toD) ?_) fun v H2 e2 i2 => q _ _ e2 i2
    · rw [show (rds L).getD i .non = L[i].d from getD_map _ _ _ hi] at ax
      have gi : L.getD i .right = L[i] := by rw [List.getD_eq_getElem?_getD, List.getElem?_eq_getElem hi]; rfl
      rw [gi]
      generalize L[i] = r at ax
      cases r with
      | right => exact EvD.is (ed_if (b := true) (d1 := .int ((n : Int) - 1)) (d2 := .int 1) (et_inLR (ed_ixT (ed_var rfl ax) ed_int rfl) (by decide +kernel)) (fun _ => ed_sub (ed_var rfl (.int _)) ed_int) (fun _ => ed_int)) (congrArg D.int (by show (n : Int) - 1 = ((n - 1 : Nat) : Int); omega))
      | left => exact EvD.is (ed_if (b := true) (d1 := .int ((n : Int) - 1)) (d2 := .int 1) (et_inLR (ed_ixT (ed_var rfl ax) ed_int rfl) (by decide +kernel)) (fun _ => ed_sub (ed_var rfl (.int _)) ed_int) (fun _ => ed_int)) (congrArg D.int (by show (n : Int) - 1 = ((n - 1 : Nat) : Int); omega))
      | ev k r => exact ed_if (b := false) (d1 := .int ((n : Int) - 1)) (d2 := .int 1) (et_inLR (ed_ixT (ed_var rfl ax) ed_int rfl) (by decide +kernel)) (fun _ => ed_sub (ed_var rfl (.int _)) ed_int) (fun _ => ed_int)
    · rw [gives_all]
      unfold iL
      rw [List.map_map, List.map_map]
      refine List.ext_getElem (by simp) fun i h1 h2 => ?_
      have hi : i < L.length := by simpa using h2
      simp [List.getD_eq_getElem?_getD, List.getElem?_eq_getElem hi]
    · unfold hvs
      have h : ∀ xs : List Nat, (xs.map fun x : Nat => (x : Int)).sum = ((xs.sum : Nat) : Int) := fun xs => by
        induction xs with
        | nil => rfl
        | cons x xs ih =>
          rw [List.map_cons, List.sum_cons, List.sum_cons, ih, Int.natCast_add]
      rw [h]
/-! ### a play with whole numbers -/
def avg (t : List Int) (w : Int) : List Int := (t.set (w - 1).toNat ((t.getD (w - 1).toNat 0 + t.getD w.toNat 0) / 2)).set w.toNat ((t.getD (w - 1).toNat 0 + t.getD w.toNat 0) / 2)
def play (t : List Int) (ws : List Int) : List Int := ws.foldl avg t
theorem avg_len (t : List Int) (w : Int) : (avg t w).length = t.length := by simp [avg]
theorem play_len (ws : List Int) : ∀ t : List Int, (play t ws).length = t.length := by
  induction ws with
  | nil => exact fun t => rfl
  | cons w ws ih => exact fun t => (ih _).trans (avg_len t w)
theorem play_succ (t ws : List Int) (i : Nat) (h : i < ws.length) : play t (ws.take (i + 1)) = avg (play t (ws.take i)) ws[i] := by
  unfold play
  rw [List.take_succ_eq_append_getElem h, List.foldl_append]
  rfl
theorem opn1_in {n : Nat} {r : Rnd} {w : Int} (h : w ∈ opn1 n r) : 1 ≤ w ∧ w < n := by
  cases r with
  | right =>
    obtain ⟨i, hi, rfl⟩ := List.mem_map.mp h
    have := List.mem_range.mp hi
    omega
  | left =>
    obtain ⟨i, hi, rfl⟩ := List.mem_map.mp h
    have := List.mem_range.mp hi
    omega
  | ev k r =>
    obtain ⟨i, hi, rfl⟩ := List.mem_map.mp (List.mem_filter.mp h).1
    have := List.mem_range.mp hi
    omega
theorem ops_in {L : List Rnd} {n : Nat} {w : Int} (h : w ∈ ops L n) : 1 ≤ w ∧ w < n := by
  obtain ⟨r, _, hr⟩ := List.mem_flatMap.mp h
  exact opn1_in hr
theorem ops_len (L : List Rnd) (n : Nat) : (ops L n).length ≤ L.length * n := by
  have := ops_take_len L n L.length
  rw [List.take_length] at this
  exact this
theorem s_avg {σ : L2.St} {H : Hp} {En : Ends} {te tl1 tl2 ti1 ti2 : TE} {p : Addr} {t : List Int} {w : Int} (hp : H p = some (.lst (t.map V.int))) (w1 : 1 ≤ w) (w2 : w < t.length) (ho1 : ∀ σ2 H2, σ2 = σ → Ev tl1 σ2 H2 (.ref p)) (ho2 : ∀ σ2 H2, σ2 = σ → Ev tl2 σ2 H2 (.ref p))
    (hi1 : ∀ H2, EvD K ti1 σ H2 (.int (w - 1))) (hi2 : ∀ H2, EvD K ti2 σ H2 (.int w)) (he : EvD K te σ H (.int ((t.getD (w - 1).toNat 0 + t.getD w.toNat 0) / 2)))
    (k : ∀ H1, Ex H H1 → ∀ H2, Mu [p] H1 H2 → H2 p = some (.lst ((avg t w).map V.int)) → (∀ H0, Ex H0 H → H0 p = none → Ex H0 H2) → En.nx σ H2) : tAsg2 te (gSub tl1 ti1 rSetL) (gSub tl2 ti2 rSetL) En σ H := by
  refine he H (Ex.refl H) _ fun v H1 e1 a => ?_
  cases a
  have hp1 := e1 _ _ hp
  refine g_setL (K := K) (j := (w - 1).toNat) hp1 (ho1 _ _ rfl) (hi1 _) ?_ fun H2 e2 => ?_
  · have h : ((w - 1).toNat : Int) = w - 1 := by omega
    rw [← h, List.length_map]
    exact ixN_nat (by omega)
  · refine g_setL (K := K) (j := w.toNat) upd_same (ho2 _ _ rfl) (hi2 _) ?_ fun H3 e3 => ?_
    · have h : (w.toNat : Int) = w := by omega
      rw [← h, List.length_set, List.length_map]
      exact ixN_nat (by omega)
    · have m1 : Mu [p] H1 (upd H2 p (.lst ((t.map V.int).set (w - 1).toNat (.int ((t.getD (w - 1).toNat 0 + t.getD w.toNat 0) / 2))))) := (Mu.ex e2).trans (Mu.upd (List.mem_singleton.mpr rfl) (e2 _ _ hp1))
      have hp3 := e3 _ _ (upd_same (H := H2) (a := p) (o := .lst ((t.map V.int).set (w - 1).toNat (.int ((t.getD (w - 1).toNat 0 + t.getD w.toNat 0) / 2)))))
      have m2 := (m1.trans (Mu.ex e3)).trans (Mu.upd (o := .lst (((t.map V.int).set (w - 1).toNat (.int ((t.getD (w - 1).toNat 0 + t.getD w.toNat 0) / 2))).set w.toNat (.int ((t.getD (w - 1).toNat 0 + t.getD w.toNat 0) / 2)))) (List.mem_singleton.mpr rfl) hp3)
      refine k H1 e1 _ m2 ?_ fun H0 e0 n0 => Mu.of_ex (e0.trans e1) m2 (fun l hl => by rw [List.mem_singleton.mp hl]; exact n0)
      rw [upd_same]
      unfold avg
      rw [List.map_set, List.map_set]
theorem at_il0 {A : List Int} {w : Int} (h0 : 0 ≤ w) (h : w < A.length) : atI (iL A) w = some (.int (A.getD w.toNat 0)) := by
  have e : (w.toNat : Int) = w := by omega
  have hw : w.toNat < A.length := by omega
  have g := at_ints hw
  rw [e] at g
  rw [g, getD_in hw]
def R_evened (ds es : List D) : Prop := ∃ (L : List Rnd) (t : List Int), (∀ r ∈ L, r.ok) ∧ L.length ≤ 12 ∧ 1 ≤ t.length ∧ t.length ≤ 400 ∧ ds = [.tup (rds L), .lst (iL t)] ∧ es = iL (play t (ops L t.length))
theorem ok_evened (T : Txt K mg) : FnG P w K mg base 2 (He.ga K "evened") ["rounds", "tops"] (spN K R_evened) := by
  refine fnG (N := ["rounds", "tops", "late", "weir"]) (st := s_evened) T.f_evened sc_evened (fun vs H Q E h => ?_) (fun _ _ _ _ _ _ us hl => match us, hl with | [_, _], _ => rfl) (fun cdv A outer s H vs Q E hr h => ⟨_, (pss_cons (ps_asg (pe_callTy call_listS (by rfl) T.z_list (by decide +kernel) (pa_cons (pv 1) pa_nil)) (pg_name (i := 2) sc_evened.nd rfl (.inl rfl))) (pss_cons (ps_for PassesOwn.never rfl (pi_list (pe_callG (ok_openings T) (hr.mono (by decide)) (by rfl) T.m_openings (pa_cons (pv 0) (pa_cons (pe_callB call_lenS (by rfl) T.z_len PySem.boot_len (pa_cons (pv 2) pa_nil)) pa_nil)))) (pg_name (i := 3) sc_evened.nd rfl (.inl rfl)) (pss_one (ps_asg2 (pe_op op_shr (pe_op op_add (pe_ix ix_list (pv 2) (pe_op op_sub (pv 3) pe_int) (fun _ _ => rfl)) (pe_ix ix_list (pv 2) (pv 3) (fun _ _ => rfl))) pe_int) (pg_sub (pv 2) (pe_op op_sub (pv 3) pe_int) set_list) (pg_sub (pv 2) (pv 3) set_list)))) (pss_one (ps_ret (pv 2))))), ?_⟩)
  · obtain ⟨ds, d, a, ⟨L, t, _, _, _, _, rfl, _⟩, _⟩ := h
    exact a.len
  · obtain ⟨ds, d, a, ⟨L, t, ho, hL, n1, n4, rfl, rfl⟩, q⟩ := h
    obtain ⟨u, u', rfl, a1, a2⟩ := All.inv2 a
    try dsimp only [cxOf, Cx.nox, Cx.wish]
    refine q_asgN (K := K) (en_list (ed_var rfl a2)) fun p xs H1 hp e1 hq ax => ?_
    have hx := allIL ax
    subst hx
    refine q_for (K := K) (L := [p]) (n := (ops L t.length).length) (EvI.is (ei_list (es_new (en_call (es := iL (ops L t.length)) (ea1 (ed_var rfl (a1.ex e1)) (ea1 (EvD.is (ed_lenL (K := K) (ed_var rfl (.lst (.inl hq) iLall))) (by rw [iLlen])) ea0)) ⟨L, t.length, ho, hL, n1, n4, rfl, rfl⟩) (fun l hl => by rw [List.mem_singleton.mp hl]; exact ⟨_, hq⟩)) (iLlf _)) (iLlen _))
      (fun i σ' H' => (∃ y, σ' = [some u, some u', some (.ref p), y]) ∧ Ex H H' ∧ H' p = some (.lst ((play t ((ops L t.length).take i)).map V.int))) (fun H2 e2 => ⟨⟨none, rfl⟩, e1.trans e2, e2 _ _ hq⟩) ?_ ?_
    · rintro i x σ' H' H'' hi ⟨⟨y, rfl⟩, E2, hy⟩ e3 ax2
      rw [show (iL (ops L t.length)).getD i .non = .int (ops L t.length)[i] from getD_map _ _ _ hi] at ax2
      cases ax2
      refine g_name ?_
      obtain ⟨b1, b2⟩ := ops_in (List.getElem_mem hi)
      have hl := play_len ((ops L t.length).take i) t
      have hy3 := e3 _ _ hy
      have iv : Is K H'' (.ref p) (.lst (iL (play t ((ops L t.length).take i)))) := .lst (.inl hy3) iLall
      refine s_avg (K := K) hy3 b1 (by rw [hl]; exact b2) (fun σ2 H2 e => by rw [e]; exact ev_ref rfl) (fun σ2 H2 e => by rw [e]; exact ev_ref rfl) (fun H2 => ed_sub (ed_var rfl (.int _)) ed_int) (fun H2 => ed_var rfl (.int _)) (EvD.is (ed_shr (j := 1) (ed_add (ed_ixL (ed_var rfl iv) (ed_sub (ed_var rfl (.int _)) ed_int) (at_il0 (by omega) (by rw [hl]; omega))) (ed_ixL (ed_var rfl iv) (ed_var rfl (.int _)) (at_il0 (by omega) (by rw [hl]; exact b2)))) ed_int) rfl) fun H4 e4 H5 m5 hp5 ex5 => ?_
      refine ⟨⟨⟨_, rfl⟩, ex5 H (E2.trans e3) hp, ?_⟩, (Mu.ex (e3.trans e4)).trans m5⟩
      rw [play_succ _ _ _ hi]
      exact hp5
    · rintro σ' H' ⟨⟨y, rfl⟩, E2, hy⟩
      rw [List.take_length] at hy
      exact ⟨_, rfl, q p _ H' hp E2 hy iLall⟩

end
end My
end
section
set_option Elab.async false
set_option linter.all false
set_option maxRecDepth 100000
set_option maxHeartbeats 4000000
namespace My
open PySem PySem.Spec PyProof.Rows L2 Evl WD
local macro_rules | `(tactic| walk_at "exgo") => `(tactic| first | exact Ex.refl _ | assumption | (refine' Ex.trans ?ea ?eb; (case eb => assumption); (case ea => walk_at "exgo")))
local macro_rules | `(tactic| walk_at "is") => `(tactic| first | assumption | (refine' Is.ex ?e ?h; (case h => assumption); (case e => walk_at "exgo")) | exact Is.int _ | exact Is.bl _ | exact Is.non)
local macro_rules | `(tactic| walk_at "ev") => `(tactic| first
  | exact ed_int | exact ed_bl | exact ed_non | exact ed_str
  | ((with_reducible apply ed_var) <;> first | exact rfl | walk_at "is")
  | ((with_reducible apply ed_add) <;> walk_at "ev")
  | ((with_reducible apply ed_sub) <;> walk_at "ev")
  | ((with_reducible apply ed_neg) <;> walk_at "ev")
  | ((with_reducible apply ed_mulW) <;> try walk_at "ev")
  | ((with_reducible apply ed_divW) <;> try walk_at "ev")
  | ((with_reducible apply ed_mod) <;> try walk_at "ev")
  | ((with_reducible apply ed_ixT) <;> first | exact rfl | walk_at "ev" | skip)
  | ((with_reducible apply ed_ixL) <;> first | exact rfl | walk_at "ev" | skip)
  | ((with_reducible apply ed_lt) <;> walk_at "ev")
  | ((with_reducible apply ed_le) <;> walk_at "ev")
  | ((with_reducible apply ed_gt) <;> walk_at "ev")
  | ((with_reducible apply ed_ge) <;> walk_at "ev")
  | ((with_reducible apply ed_eqI) <;> walk_at "ev")
  | ((with_reducible apply ed_neI) <;> walk_at "ev")
  | ((with_reducible apply ed_gcd) <;> walk_at "ev")
  | ((with_reducible apply ed_abs) <;> walk_at "ev")
  | ((with_reducible apply ed_intI) <;> walk_at "ev")
  | ((with_reducible apply ed_intB) <;> walk_at "ev")
  | ((with_reducible apply ed_max2) <;> walk_at "ev")
  | ((with_reducible apply ed_min2) <;> walk_at "ev")
  | ((with_reducible apply ed_lenT) <;> walk_at "ev")
  | ((with_reducible apply ed_lenL) <;> walk_at "ev")
  | ((with_reducible apply ed_tuple) <;> walk_at "ev")
  | ((with_reducible apply ed_tupleT) <;> walk_at "ev")
  | ((with_reducible apply ed_tup) <;> first | walk_at "ea" | (simp; done) | skip)
  | ((with_reducible apply et_t) <;> walk_at "ev")
  | ((with_reducible apply et_v) <;> walk_at "ev"))
local macro_rules | `(tactic| walk_at "ea") => `(tactic| first
  | exact ea0
  | ((with_reducible apply ea1) <;> first | walk_at "ev" | walk_at "ea" | skip))

section
variable {P : Program} {w : World} {K : PySem.W.Frag} {mg : Str → Option Value} {base : Heap}
/-! ### plays with whole numbers are plays with fractions -/
def avgQ (v : List Rat) (w : Int) : List Rat := (v.set (w - 1).toNat ((v.getD (w - 1).toNat 0 + v.getD w.toNat 0) / 2)).set w.toNat ((v.getD (w - 1).toNat 0 + v.getD w.toNat 0) / 2)
def plyQ (v : List Rat) (ws : List Int) : List Rat := ws.foldl avgQ v
theorem avgQ_len (t : List Rat) (w : Int) : (avgQ t w).length = t.length := by simp [avgQ]
theorem plyQ_len (ws : List Int) : ∀ t : List Rat, (plyQ t ws).length = t.length := by
  induction ws with
  | nil => exact fun t => rfl
  | cons w ws ih => exact fun t => (ih _).trans (avgQ_len t w)
theorem plyQ_app (v : List Rat) (a b : List Int) : plyQ v (a ++ b) = plyQ (plyQ v a) b := List.foldl_append
theorem play_app (v : List Int) (a b : List Int) : play v (a ++ b) = play (play v a) b := List.foldl_append
theorem getD_set2 {α : Type} (t : List α) (z x : α) (a b i : Nat) (ha : a < t.length) (hb : b < t.length) : ((t.set a x).set b x).getD i z = if i = a ∨ i = b then x else t.getD i z := by
  simp only [List.getD_eq_getElem?_getD, List.getElem?_set, List.length_set]
  by_cases h1 : b = i
  · subst h1
    simp [hb]
  · by_cases h2 : a = i
    · subst h2
      simp [h1, ha, hb]
    · simp [h1, h2, Ne.symm h1, Ne.symm h2]
structure Sc (c : Rat) (t : List Int) (q : List Rat) : Prop where
  len : t.length = q.length
  at_ : ∀ i, ((t.getD i 0 : Int) : Rat) = q.getD i 0 * c
def Dv (e : Nat) (t : List Int) : Prop := ∀ i, ((2 ^ e : Nat) : Int) ∣ t.getD i 0
theorem Sc.avg {c : Rat} {t : List Int} {q : List Rat} (h : Sc c t q) {w : Int} (w1 : 1 ≤ w) (w2 : w < t.length) (ev : (2 : Int) ∣ t.getD (w - 1).toNat 0 + t.getD w.toNat 0) : Sc c (avg t w) (avgQ q w) := by
  refine ⟨by rw [avg_len, avgQ_len, h.len], fun i => ?_⟩
  have hq := h.len
  unfold My.avg avgQ
  rw [getD_set2 _ _ _ _ _ _ (by omega) (by omega), getD_set2 _ _ _ _ _ _ (by omega) (by omega)]
  by_cases c1 : i = (w - 1).toNat ∨ i = w.toNat
  · rw [if_pos c1, if_pos c1]
    obtain ⟨k, hk⟩ := ev
    have a1 := h.at_ (w - 1).toNat
    have a2 := h.at_ w.toNat
    have e : (t.getD (w - 1).toNat 0 + t.getD w.toNat 0) / 2 = k := by omega
    rw [e]
    have e2 : ((2 * k : Int) : Rat) = (q.getD (w - 1).toNat 0 + q.getD w.toNat 0) * c := by
      rw [← hk, Rat.intCast_add, a1, a2, Rat.add_mul]
    rw [Rat.intCast_mul] at e2
    have e3 : ((2 : Int) : Rat) = 2 := rfl
    rw [e3] at e2
    grind
  · rw [if_neg c1, if_neg c1]
    exact h.at_ i
theorem Dv.avg {e : Nat} {t : List Int} (h : Dv (e + 1) t) {w : Int} (w1 : 1 ≤ w) (w2 : w < t.length) : (2 : Int) ∣ t.getD (w - 1).toNat 0 + t.getD w.toNat 0 ∧ Dv e (avg t w) := by
  obtain ⟨x, hx⟩ := h (w - 1).toNat
  obtain ⟨y, hy⟩ := h w.toNat
  have p : ((2 ^ (e + 1) : Nat) : Int) = 2 * ((2 ^ e : Nat) : Int) := by rw [Nat.pow_succ]; omega
  have es : t.getD (w - 1).toNat 0 + t.getD w.toNat 0 = 2 * (((2 ^ e : Nat) : Int) * (x + y)) := by
    rw [hx, hy, p]
    grind
  refine ⟨⟨_, es⟩, fun i => ?_⟩
  unfold My.avg
  rw [getD_set2 _ _ _ _ _ _ (by omega) (by omega)]
  by_cases c1 : i = (w - 1).toNat ∨ i = w.toNat
  · rw [if_pos c1, es, Int.mul_ediv_cancel_left _ (by decide)]
    exact ⟨_, rfl⟩
  · rw [if_neg c1]
    exact Int.dvd_trans ⟨2, by rw [p, Int.mul_comm]⟩ (h i)
theorem play_any {c : Rat} (ws : List Int) : ∀ {e : Nat} {t : List Int} {q : List Rat}, (∀ w ∈ ws, 1 ≤ w ∧ w < t.length) → Dv (e + ws.length) t → Sc c t q → Sc c (play t ws) (plyQ q ws) ∧ Dv e (play t ws) := by
  induction ws with
  | nil => exact fun _ hd hs => ⟨hs, hd⟩
  | cons w ws ih =>
    intro e t q hw hd hs
    obtain ⟨w1, w2⟩ := hw w (List.mem_cons_self ..)
    obtain ⟨ev, d2⟩ := Dv.avg (e := e + ws.length) hd w1 w2
    exact ih (fun x hx => by rw [avg_len]; exact hw x (List.mem_cons_of_mem _ hx)) d2 (hs.avg w1 w2 ev)
theorem play_apart {c : Rat} (ws : List Int) : ∀ {e b : Nat} {t : List Int} {q : List Rat}, (∀ w ∈ ws, (b : Int) + 1 ≤ w ∧ w < t.length) → ws.Pairwise (fun x y => x + 2 ≤ y) → Dv e t → (∀ i, b ≤ i → ((2 ^ (e + 1) : Nat) : Int) ∣ t.getD i 0) → Sc c t q → Sc c (play t ws) (plyQ q ws) ∧ Dv e (play t ws) := by
  induction ws with
  | nil => exact fun _ _ hd _ hs => ⟨hs, hd⟩
  | cons w ws ih =>
    intro e b t q hw pw hd hu hs
    obtain ⟨w1, w2⟩ := hw w (List.mem_cons_self ..)
    obtain ⟨x, hx⟩ := hu (w - 1).toNat (by omega)
    obtain ⟨y, hy⟩ := hu w.toNat (by omega)
    have p : ((2 ^ (e + 1) : Nat) : Int) = 2 * ((2 ^ e : Nat) : Int) := by rw [Nat.pow_succ]; omega
    have es : t.getD (w - 1).toNat 0 + t.getD w.toNat 0 = 2 * (((2 ^ e : Nat) : Int) * (x + y)) := by
      rw [hx, hy, p]
      grind
    have pw2 := List.pairwise_cons.mp pw
    refine ih (b := (w + 1).toNat) (fun z hz => ?_) pw2.2 (fun i => ?_) (fun i hi => ?_) (hs.avg (by omega) w2 ⟨_, es⟩)
    · rw [avg_len]
      have := pw2.1 z hz
      have := hw z (List.mem_cons_of_mem _ hz)
      omega
    · unfold My.avg
      rw [getD_set2 _ _ _ _ _ _ (by omega) (by omega)]
      by_cases c1 : i = (w - 1).toNat ∨ i = w.toNat
      · rw [if_pos c1, es, Int.mul_ediv_cancel_left _ (by decide)]
        exact ⟨_, rfl⟩
      · rw [if_neg c1]
        exact hd i
    · unfold My.avg
      rw [getD_set2 _ _ _ _ _ _ (by omega) (by omega), if_neg (by omega)]
      exact hu i (by omega)
theorem ev_pw (n k r : Nat) (hk : 2 ≤ k) : (opn1 n (.ev k r)).Pairwise (fun x y => x + 2 ≤ y) := by
  have h1 : ((List.range (n - 1)).map fun i : Nat => 1 + (i : Int)).Pairwise (fun x y => x < y) := by
    rw [List.pairwise_map]
    exact List.pairwise_lt_range.imp fun {a b} h => by omega
  have h2 := h1.filter fun w => decide (w % (k : Int) = (r : Int))
  refine List.Pairwise.imp_of_mem (fun {a b} ha hb hab => ?_) h2
  have e1 := of_decide_eq_true (List.mem_filter.mp ha).2
  have e2 := of_decide_eq_true (List.mem_filter.mp hb).2
  have d : (k : Int) ∣ b - a := Int.dvd_of_emod_eq_zero (Int.emod_eq_emod_iff_emod_sub_eq_zero.mp (e2.trans e1.symm))
  have := Int.le_of_dvd (by omega) d
  omega
theorem play_one {c : Rat} {e : Nat} {r : Rnd} {t : List Int} {q : List Rat} (ho : r.ok) (hd : Dv (e + hv1 t.length r) t) (hs : Sc c t q) : Sc c (play t (opn1 t.length r)) (plyQ q (opn1 t.length r)) ∧ Dv e (play t (opn1 t.length r)) := by
  cases r with
  | right => exact play_any _ (fun w hw => opn1_in hw) (by rw [show (opn1 t.length .right).length = t.length - 1 from by simp [opn1]]; exact hd) hs
  | left => exact play_any _ (fun w hw => opn1_in hw) (by rw [show (opn1 t.length .left).length = t.length - 1 from by simp [opn1]]; exact hd) hs
  | ev k r =>
    refine play_apart (b := 0) _ (fun w hw => ?_) (ev_pw _ k r ho.1) (fun i => ?_) (fun i _ => hd i) hs
    · have := opn1_in hw
      omega
    · refine Int.dvd_trans ⟨2, ?_⟩ (hd i)
      show ((2 ^ (e + 1) : Nat) : Int) = _
      rw [Nat.pow_succ]
      omega
theorem play_ops {c : Rat} : ∀ {L : List Rnd} {e n : Nat} {t : List Int} {q : List Rat}, (∀ r ∈ L, r.ok) → t.length = n → Dv (e + hvs L n) t → Sc c t q → Sc c (play t (ops L n)) (plyQ q (ops L n)) ∧ Dv e (play t (ops L n))
  | [], e, n, t, q, _, _, hd, hs => ⟨hs, hd⟩
  | r :: L, e, n, t, q, ho, hn, hd, hs => by
    subst hn
    have e1 : ops (r :: L) t.length = opn1 t.length r ++ ops L t.length := rfl
    rw [e1, play_app, plyQ_app]
    have h := play_one (e := e + hvs L t.length) (ho r (List.mem_cons_self ..)) (by
      have e2 : hvs (r :: L) t.length = hv1 t.length r + hvs L t.length := rfl
      rw [e2] at hd
      rw [show e + hvs L t.length + hv1 t.length r = e + (hv1 t.length r + hvs L t.length) from by omega]
      exact hd) hs
    exact play_ops (fun x hx => ho x (List.mem_cons_of_mem _ hx)) (play_len _ _) h.2 h.1

end
end My
end
section
set_option Elab.async false
set_option linter.all false
set_option maxRecDepth 100000
set_option maxHeartbeats 4000000
namespace My
open PySem PySem.Spec PyProof.Rows L2 Evl WD
local macro_rules | `(tactic| walk_at "exgo") => `(tactic| first | exact Ex.refl _ | assumption | (refine' Ex.trans ?ea ?eb; (case eb => assumption); (case ea => walk_at "exgo")))
local macro_rules | `(tactic| walk_at "is") => `(tactic| first | assumption | (refine' Is.ex ?e ?h; (case h => assumption); (case e => walk_at "exgo")) | exact Is.int _ | exact Is.bl _ | exact Is.non)
local macro_rules | `(tactic| walk_at "ev") => `(tactic| first
  | exact ed_int | exact ed_bl | exact ed_non | exact ed_str
  | ((with_reducible apply ed_var) <;> first | exact rfl | walk_at "is")
  | ((with_reducible apply ed_add) <;> walk_at "ev")
  | ((with_reducible apply ed_sub) <;> walk_at "ev")
  | ((with_reducible apply ed_neg) <;> walk_at "ev")
  | ((with_reducible apply ed_mulW) <;> try walk_at "ev")
  | ((with_reducible apply ed_divW) <;> try walk_at "ev")
  | ((with_reducible apply ed_mod) <;> try walk_at "ev")
  | ((with_reducible apply ed_ixT) <;> first | exact rfl | walk_at "ev" | skip)
  | ((with_reducible apply ed_ixL) <;> first | exact rfl | walk_at "ev" | skip)
  | ((with_reducible apply ed_lt) <;> walk_at "ev")
  | ((with_reducible apply ed_le) <;> walk_at "ev")
  | ((with_reducible apply ed_gt) <;> walk_at "ev")
  | ((with_reducible apply ed_ge) <;> walk_at "ev")
  | ((with_reducible apply ed_eqI) <;> walk_at "ev")
  | ((with_reducible apply ed_neI) <;> walk_at "ev")
  | ((with_reducible apply ed_gcd) <;> walk_at "ev")
  | ((with_reducible apply ed_abs) <;> walk_at "ev")
  | ((with_reducible apply ed_intI) <;> walk_at "ev")
  | ((with_reducible apply ed_intB) <;> walk_at "ev")
  | ((with_reducible apply ed_max2) <;> walk_at "ev")
  | ((with_reducible apply ed_min2) <;> walk_at "ev")
  | ((with_reducible apply ed_lenT) <;> walk_at "ev")
  | ((with_reducible apply ed_lenL) <;> walk_at "ev")
  | ((with_reducible apply ed_tuple) <;> walk_at "ev")
  | ((with_reducible apply ed_tupleT) <;> walk_at "ev")
  | ((with_reducible apply ed_tup) <;> first | walk_at "ea" | (simp; done) | skip)
  | ((with_reducible apply et_t) <;> walk_at "ev")
  | ((with_reducible apply et_v) <;> walk_at "ev"))
local macro_rules | `(tactic| walk_at "ea") => `(tactic| first
  | exact ea0
  | ((with_reducible apply ea1) <;> first | walk_at "ev" | walk_at "ea" | skip))

section
variable {P : Program} {w : World} {K : PySem.W.Frag} {mg : Str → Option Value} {base : Heap}
/-! ### numbers of basins, volumes: what is asked, what is refused -/
inductive FrC : D → Bool → Prop
  | int (i : Int) : FrC (.int i) true
  | pair (i j : Int) : FrC (.tup [.int i, .int j]) (decide (1 ≤ j))
  | str (x : Str) : FrC (.str x) false
  | bl (b : Bool) : FrC (.bl b) false
def R_isfr (ds : List D) (d : D) : Prop := ∃ b t, ds = [b] ∧ d = .bl t ∧ FrC b t
theorem ok_is_fraction_2 (T : Txt K mg) : FnG P w K mg base 2 (He.ga K "is_fraction") ["thing"] (spD K R_isfr) := by
  refine fnG (N := ["thing"]) (st := s_is_fraction) T.f_is_fraction sc_is_fraction (fun vs H Q E h => ?_) (fun _ _ _ _ _ _ us hl => match us, hl with | [_], _ => rfl) (fun cdv A outer s H vs Q E hr h => ⟨_, (pss_cons (ps_if (pt_not (pt_val (pe_callB call_isi (by rfl) T.z_isinstance (by decide +kernel) (pa_cons (pv 0) (pa_cons (pe_tyN (n := "tuple") (by rfl) T.z_tuple (by decide +kernel)) pa_nil))))) (pss_one (ps_ret (pe_callG (ok_is_integer T) (hr.mono (by decide)) (by rfl) T.m_is_integer (pa_cons (pv 0) pa_nil)))) pss_nil) (pss_one (ps_ret (pe_and (pe_cmpR op_eq (pe_callB call_lenS (by rfl) T.z_len PySem.boot_len (pa_cons (pv 0) pa_nil)) pe_int (nomark _)) (pe_and (pe_callG (ok_is_integer T) (hr.mono (by decide)) (by rfl) T.m_is_integer (pa_cons (pe_ix ix_tup (pv 0) pe_int (fun _ _ => rfl)) pa_nil)) (pe_and (pe_callG (ok_is_integer T) (hr.mono (by decide)) (by rfl) T.m_is_integer (pa_cons (pe_ix ix_tup (pv 0) pe_int (fun _ _ => rfl)) pa_nil)) (pe_one (pe_cmpR op_ge (pe_ix ix_tup (pv 0) pe_int (fun _ _ => rfl)) pe_int (nomark _))))))))), ?_⟩)
  · obtain ⟨ds, d, a, ⟨b, t, rfl, _⟩, _⟩ := h
    exact a.len
  · obtain ⟨ds, d, a, ⟨b, t, rfl, rfl, hc⟩, q⟩ := h
    obtain ⟨v, rfl, a1⟩ := All.inv1 a
    try dsimp only [cxOf, Cx.nox, Cx.wish]
    cases hc with
    | int i => exact q_when (b := true) (et_not (a := false) (et_v (K := K) (ed_isi (n := "tuple") (ed_var rfl a1) rfl (by decide +kernel)))) (fun _ H1 x1 => s_retD (K := K) (ed_call (ea1 (ed_var rfl (a1.ex x1)) ea0) ⟨_, "int", rfl, rfl, rfl⟩) fun v2 H2 x2 i2 => q _ _ (x1.trans x2) i2) (fun z => nomatch z)
    | str x => exact q_when (b := true) (et_not (a := false) (et_v (K := K) (ed_isi (n := "tuple") (ed_var rfl a1) rfl (by decide +kernel)))) (fun _ H1 x1 => s_retD (K := K) (ed_call (ea1 (ed_var rfl (a1.ex x1)) ea0) ⟨_, "str", rfl, rfl, rfl⟩) fun v2 H2 x2 i2 => q _ _ (x1.trans x2) i2) (fun z => nomatch z)
    | bl b => exact q_when (b := true) (et_not (a := false) (et_v (K := K) (ed_isi (n := "tuple") (ed_var rfl a1) rfl (by decide +kernel)))) (fun _ H1 x1 => s_retD (K := K) (ed_call (ea1 (ed_var rfl (a1.ex x1)) ea0) ⟨_, "bool", rfl, rfl, rfl⟩) fun v2 H2 x2 i2 => q _ _ (x1.trans x2) i2) (fun z => nomatch z)
    | pair i j =>
      refine q_when (b := false) (et_not (a := true) (et_v (K := K) (ed_isi (n := "tuple") (ed_var rfl a1) rfl (by decide +kernel)))) (fun z => nomatch z) (fun _ H1 x1 => ?_)
      have b1 := a1.ex x1
      refine s_retD (d := .bl (decide (1 ≤ j))) ?_ fun v2 H2 x2 i2 => q _ _ (x1.trans x2) i2
      refine EvD.is (ed_andV (a := true) (b := decide (1 ≤ j)) (EvD.is (d := .bl (decide ((([D.int i, D.int j] : List D).length : Int) = 2))) (by walk_at "ev") rfl) fun _ => EvD.is (ed_andV (a := true) (b := decide (1 ≤ j)) ?_ fun _ => EvD.is (ed_andV (a := true) (b := decide (1 ≤ j)) ?_ fun _ => EvD.is (d := .bl (decide (1 ≤ j))) (by walk_at "ev") rfl) (by rw [Bool.true_and])) (by rw [Bool.true_and])) (by rw [Bool.true_and])
      · exact ed_call (ea1 (by walk_at "ev") ea0) ⟨.int i, "int", rfl, rfl, rfl⟩
      · exact ed_call (ea1 (by walk_at "ev") ea0) ⟨.int j, "int", rfl, rfl, rfl⟩
def R_check_many (ds : List D) (d : D) : Prop := ∃ n : Int, ds = [.int n] ∧ 1 ≤ n ∧ n ≤ 400 ∧ d = .non
theorem ok_check_many (T : Txt K mg) : FnG P w K mg base 2 (He.ga K "check_many") ["many"] (spD K R_check_many) := by
  refine fnG (N := ["many"]) (st := s_check_many) T.f_check_many sc_check_many (fun vs H Q E h => ?_) (fun _ _ _ _ _ _ us hl => match us, hl with | [_], _ => rfl) (fun cdv A outer s H vs Q E hr h => ⟨_, (pss_one (ps_if (PW.pt (pw_or (pt_not (pt_val (pe_callG (ok_is_integer T) (hr.mono (by decide)) (by rfl) T.m_is_integer (pa_cons (pv 0) pa_nil)))) (pw_or1 (pt_not (pt_chain op_le op_le pe_int (pv 0) (pe_globI (by rfl) T.i_MOST_MANY)))))) (pss_one ps_never) pss_nil)), ?_⟩)
  · obtain ⟨ds, d, a, ⟨n, rfl, _⟩, _⟩ := h
    exact a.len
  · obtain ⟨ds, d, a, ⟨n, rfl, n1, n4, rfl⟩, q⟩ := h
    obtain ⟨v, rfl, a1⟩ := All.inv1 a
    try dsimp only [cxOf, Cx.nox, Cx.wish]
    refine s_when (b := false || !(decide ((1 : Int) ≤ n) && decide (n ≤ 400))) (et_or (et_not (a := true) (et_v (K := K) (ed_call (ea1 (ed_var rfl a1) ea0) ⟨_, "int", rfl, rfl, rfl⟩))) fun _ => et_not (et_t (K := K) (ed_chain ed_int (ed_var rfl a1) rd_le (fun _ => ed_int) (fun _ => rd_le)))) (fun z => ?_) (fun _ H1 e1 => q _ _ e1 .non)
    exfalso
    rw [decide_eq_true n1, decide_eq_true n4] at z
    cases z
def R_badMany (ds : List D) (r : Rz) : Prop := ∃ b, ds = [b] ∧ r = .start ∧ ((∃ n : Int, b = .int n ∧ (decide ((1 : Int) ≤ n) && decide (n ≤ 400)) = false) ∨ (∃ s, b.ty = some s ∧ b.isInt = false))
theorem s_rzS {σ : L2.St} {H : Hp} {W : WX} (q : raised K .start H (WE W σ)) {H' : Hp} (e : Ex H H') : W (.ref (He.ga K "BadStart")) none σ H' := q H' e
theorem ok_check_many_X (T : Txt K mg) : FnG P w K mg base 2 (He.ga K "check_many") ["many"] (spZ K R_badMany) := by
  refine fnX (N := ["many"]) (st := s_check_many) T.f_check_many sc_check_many (fun vs H Q E h => ?_) (fun _ _ _ _ _ _ us hl => match us, hl with | [_], _ => rfl) (fun cdv A outer s H vs Q E hr h => ⟨_, (pss_one (ps_if (PW.pt (pw_or (pt_not (pt_val (pe_callG (ok_is_integer T) (hr.mono (by decide)) (by rfl) T.m_is_integer (pa_cons (pv 0) pa_nil)))) (pw_or1 (pt_not (pt_chain op_le op_le pe_int (pv 0) (pe_globI (by rfl) T.i_MOST_MANY)))))) (pss_one (ps_raise rfl (takes_of rfl rfl rfl rfl) (pmk_own PySem.F.excBase_ValueError T.q_BadStart T.m_BadStart T.p_BadStart (raises_own T.u_BadStart T.v_BadStart) (by rfl)))) pss_nil)), ?_⟩)
  · obtain ⟨ds, r, a, ⟨b, rfl, _⟩, _⟩ := h
    exact a.len
  · obtain ⟨ds, r, a, ⟨b, rfl, rfl, hb⟩, q⟩ := h
    obtain ⟨v, rfl, a1⟩ := All.inv1 a
    try dsimp only [cxOf, Cx.nox, Cx.wish]
    rcases hb with ⟨n, rfl, hn⟩ | ⟨s, hs, hi⟩
    · exact s_when (b := true) (et_is (et_or (a := false) (b := true) (et_not (a := true) (et_v (K := K) (ed_call (ea1 (ed_var rfl a1) ea0) ⟨_, "int", rfl, rfl, rfl⟩))) fun _ => et_is (et_not (et_t (K := K) (ed_chain ed_int (ed_var rfl a1) rd_le (fun _ => ed_int) (fun _ => rd_le)))) (by rw [hn]; rfl)) rfl) (fun _ H1 e1 => q _ e1) (fun z => nomatch z)
    · exact s_when (b := true) (et_is (et_or (a := true) (b := true) (et_not (a := false) (et_v (EvD.is (ed_call (ea1 (ed_var rfl a1) ea0) ⟨_, s, rfl, hs, rfl⟩) (by rw [hi])))) fun z => nomatch z) rfl) (fun _ H1 e1 => q _ e1) (fun z => nomatch z)
def R_Program_order (ds es : List D) : Prop := ∃ (L : List Rnd) (n : Nat), (∀ r ∈ L, r.ok) ∧ L.length ≤ 12 ∧ 1 ≤ n ∧ n ≤ 400 ∧ ds = [progD L, .int (n : Int)] ∧ es = iL (ops L n)
theorem ok_Program_order (T : Txt K mg) : FnG P w K mg base 3 (He.ma K (He.ga K "Program") "order") ["self", "many"] (spN K R_Program_order) := by
  refine fnG (N := ["self", "many"]) (st := s_Program_order) T.f_Program_order sc_Program_order (fun vs H Q E h => ?_) (fun _ _ _ _ _ _ us hl => match us, hl with | [_, _], _ => rfl) (fun cdv A outer s H vs Q E hr h => ⟨_, (pss_cons (ps_expr (pe_callG (ok_check_many T) (hr.mono (by decide)) (by rfl) T.m_check_many (pa_cons (pv 1) pa_nil))) (pss_one (ps_ret (pe_callG (ok_openings T) (hr.mono (by decide)) (by rfl) T.m_openings (pa_cons (pe_fld (pv 0) rfl) (pa_cons (pv 1) pa_nil)))))), ?_⟩)
  · obtain ⟨ds, d, a, ⟨L, n, _, _, _, _, rfl, _⟩, _⟩ := h
    exact a.len
  · obtain ⟨ds, d, a, ⟨L, n, ho, hl, n1, n4, rfl, rfl⟩, q⟩ := h
    obtain ⟨u, u', rfl, a1, a2⟩ := All.inv2 a
    try dsimp only [cxOf, Cx.nox, Cx.wish]
    refine q_do (K := K) (ed_call (d := .non) (ea1 (ed_var rfl a2) ea0) ⟨_, rfl, by omega, by omega, rfl⟩) fun H1 e1 => ?_
    exact s_retN (K := K) (en_call (ea1 (ed_fld (ed_var rfl (a1.ex e1)) T.c_Program T.n_Program_rounds rfl) (ea1 (ed_var rfl (a2.ex e1)) ea0)) ⟨L, n, ho, hl, n1, n4, rfl, rfl⟩) fun p xs H2 hp e2 hx ax => q p xs H2 (fresh_back e1 hp) (e1.trans e2) hx ax
def R_badOrd (ds : List D) (r : Rz) : Prop := ∃ L b, ds = [progD L, b] ∧ R_badMany [b] r
theorem ok_Program_order_X (T : Txt K mg) : FnG P w K mg base 3 (He.ma K (He.ga K "Program") "order") ["self", "many"] (spZ K R_badOrd) := by
  refine fnX (N := ["self", "many"]) (st := s_Program_order) T.f_Program_order sc_Program_order (fun vs H Q E h => ?_) (fun _ _ _ _ _ _ us hl => match us, hl with | [_, _], _ => rfl) (fun cdv A outer s H vs Q E hr h => ⟨_, (pss_cons (ps_expr (pe_callSG (ok_check_many_X T) (hr.mono (by decide)) (by rfl) T.m_check_many (takes_of rfl rfl rfl rfl) (pa_cons (pv 1) pa_nil))) (pss_one (ps_ret (pe_callG (ok_openings T) (hr.mono (by decide)) (by rfl) T.m_openings (pa_cons (pe_fld (pv 0) rfl) (pa_cons (pv 1) pa_nil)))))), ?_⟩)
  · obtain ⟨ds, r, a, ⟨L, b, rfl, _⟩, _⟩ := h
    exact a.len
  · obtain ⟨ds, r, a, ⟨L, b, rfl, hb⟩, q⟩ := h
    obtain ⟨u, u', rfl, a1, a2⟩ := All.inv2 a
    try dsimp only [cxOf, Cx.nox, Cx.wish]
    exact q_doX (ex_callZ (K := K) (ea1 (ed_var rfl a2) ea0) hb q)
def Tv.fk : Tv → Prop
  | .i n => n.natAbs < 2 ^ 700
  | .p n b => n.natAbs < 2 ^ 700 ∧ 0 < b ∧ b < 2 ^ 700
theorem Tv.frc : ∀ {t : Tv}, t.fk → FrC t.d true
  | .i n, _ => .int n
  | .p n b, h => by
    have z := FrC.pair n (b : Int)
    rw [decide_eq_true (by have := h.2.1; omega)] at z
    exact z
theorem Tv.fex : ∀ {t : Tv}, t.fk → R_exact [t.d] (fr t.q)
  | .i n, _ => .inl ⟨n, rfl, rfl⟩
  | .p n b, h => .inr ⟨n, b, rfl, h.2.1, pow_lt (by decide) h.2.2, rfl⟩
def R_check_told (mk : List D → D) (ds : List D) (d : D) : Prop := ∃ ts : List Tv, (∀ t ∈ ts, t.fk) ∧ 1 ≤ ts.length ∧ ts.length ≤ 400 ∧ ds = [mk (ts.map Tv.d)] ∧ d = .non
theorem ok_check_told_L (T : Txt K mg) : FnG P w K mg base 3 (He.ga K "check_told") ["volumes"] (spD K (R_check_told .lst)) := by
  refine fnG (N := ["volumes", "volume"]) (st := s_check_told) T.f_check_told sc_check_told (fun vs H Q E h => ?_) (fun _ _ _ _ _ _ us hl => match us, hl with | [_], _ => rfl) (fun cdv A outer s H vs Q E hr h => ⟨_, (pss_cons (ps_if (PW.pt (pw_or (pt_not (pt_val (pe_callB call_isiT (by rfl) T.z_isinstance (by decide +kernel) (pa_cons (pv 0) (pa_cons (pe_tup (pa_cons (pe_tyN (n := "list") (by rfl) T.z_list (by decide +kernel)) (pa_cons (pe_tyN (n := "tuple") (by rfl) T.z_tuple (by decide +kernel)) pa_nil))) pa_nil))))) (pw_or1 (pt_not (pt_chain op_le op_le pe_int (pe_callB call_lenS (by rfl) T.z_len PySem.boot_len (pa_cons (pv 0) pa_nil)) (pe_globI (by rfl) T.i_MOST_MANY)))))) (pss_one ps_never) pss_nil) (pss_one (ps_for PassesOwn.never rfl (pi_list (pv 0)) (pg_name (i := 1) sc_check_told.nd rfl (.inl rfl)) (pss_one (ps_if (pt_not (pt_val (pe_callG (ok_is_fraction_2 T) (hr.mono (by decide)) (by rfl) T.m_is_fraction (pa_cons (pv 1) pa_nil)))) (pss_one ps_never) pss_nil))))), ?_⟩)
  · obtain ⟨ds, d, a, ⟨ts, _, _, _, rfl, _⟩, _⟩ := h
    exact a.len
  · obtain ⟨ds, d, a, ⟨ts, hk, l1, l4, rfl, rfl⟩, q⟩ := h
    obtain ⟨v, rfl, a1⟩ := All.inv1 a
    try dsimp only [cxOf, Cx.nox, Cx.wish]
    refine q_when (b := false || !(decide ((1 : Int) ≤ ts.length) && decide ((ts.length : Int) ≤ 400))) (et_or (et_not (a := true || false) (et_v (K := K) (ed_isiT (n1 := "list") (n2 := "tuple") (ed_var rfl a1) rfl (by decide +kernel) (by decide +kernel)))) fun _ => et_not (et_t (K := K) (ed_chain ed_int (d2 := .int (ts.length : Int)) (EvD.is (ed_lenL (K := K) (ed_var rfl a1)) (by rw [List.length_map])) rd_le (fun _ => ed_int) (fun _ => rd_le)))) (fun z => ?_) (fun _ H1 x1 => ?_)
    · exfalso
      rw [decide_eq_true (show (1 : Int) ≤ ts.length by omega), decide_eq_true (show (ts.length : Int) ≤ 400 by omega)] at z
      cases z
    · refine s_look (K := K) (W := fun σ => ∃ y, σ = [some v, y]) (EvI.is (ei_list (es_any (ed_var rfl (a1.ex x1))) (lfs_map _ Tv.lf ts)) (List.length_map ..)) ⟨none, rfl⟩ ?_ (fun σ' H' _ e => q _ _ (x1.trans e) .non)
      rintro i x σ' H' H'' hi ⟨y, rfl⟩ e1 e2 ax Nx hN
      rw [getD_map _ _ _ hi] at ax
      exact g_name (s_when (b := false) (et_not (a := true) (et_v (K := K) (ed_call (d := .bl true) (ea1 (ed_var rfl ax) ea0) ⟨_, true, rfl, rfl, Tv.frc (hk _ (List.getElem_mem hi))⟩))) (fun z => nomatch z) (fun _ H3 x3 => hN _ _ ⟨_, rfl⟩ x3))
theorem ok_check_told_T (T : Txt K mg) : FnG P w K mg base 3 (He.ga K "check_told") ["volumes"] (spD K (R_check_told .tup)) := by
  refine fnG (N := ["volumes", "volume"]) (st := s_check_told) T.f_check_told sc_check_told (fun vs H Q E h => ?_) (fun _ _ _ _ _ _ us hl => match us, hl with | [_], _ => rfl) (fun cdv A outer s H vs Q E hr h => ⟨_, (pss_cons (ps_if (PW.pt (pw_or (pt_not (pt_val (pe_callB call_isiT (by rfl) T.z_isinstance (by decide +kernel) (pa_cons (pv 0) (pa_cons (pe_tup (pa_cons (pe_tyN (n := "list") (by rfl) T.z_list (by decide +kernel)) (pa_cons (pe_tyN (n := "tuple") (by rfl) T.z_tuple (by decide +kernel)) pa_nil))) pa_nil))))) (pw_or1 (pt_not (pt_chain op_le op_le pe_int (pe_callB call_lenS (by rfl) T.z_len PySem.boot_len (pa_cons (pv 0) pa_nil)) (pe_globI (by rfl) T.i_MOST_MANY)))))) (pss_one ps_never) pss_nil) (pss_one (ps_for PassesOwn.never rfl (pi_tup (pv 0)) (pg_name (i := 1) sc_check_told.nd rfl (.inl rfl)) (pss_one (ps_if (pt_not (pt_val (pe_callG (ok_is_fraction_2 T) (hr.mono (by decide)) (by rfl) T.m_is_fraction (pa_cons (pv 1) pa_nil)))) (pss_one ps_never) pss_nil))))), ?_⟩)
  · obtain ⟨ds, d, a, ⟨ts, _, _, _, rfl, _⟩, _⟩ := h
    exact a.len
  · obtain ⟨ds, d, a, ⟨ts, hk, l1, l4, rfl, rfl⟩, q⟩ := h
    obtain ⟨v, rfl, a1⟩ := All.inv1 a
    try dsimp only [cxOf, Cx.nox, Cx.wish]
    refine q_when (b := false || !(decide ((1 : Int) ≤ ts.length) && decide ((ts.length : Int) ≤ 400))) (et_or (et_not (a := false || true) (et_v (K := K) (ed_isiT (n1 := "list") (n2 := "tuple") (ed_var rfl a1) rfl (by decide +kernel) (by decide +kernel)))) fun _ => et_not (et_t (K := K) (ed_chain ed_int (d2 := .int (ts.length : Int)) (EvD.is (ed_lenT (K := K) (ed_var rfl a1)) (by rw [List.length_map])) rd_le (fun _ => ed_int) (fun _ => rd_le)))) (fun z => ?_) (fun _ H1 x1 => ?_)
    · exfalso
      rw [decide_eq_true (show (1 : Int) ≤ ts.length by omega), decide_eq_true (show (ts.length : Int) ≤ 400 by omega)] at z
      cases z
    · refine s_look (K := K) (W := fun σ => ∃ y, σ = [some v, y]) (EvI.is (ei_tup (ed_var rfl (a1.ex x1)) (lfs_map _ Tv.lf ts)) (List.length_map ..)) ⟨none, rfl⟩ ?_ (fun σ' H' _ e => q _ _ (x1.trans e) .non)
      rintro i x σ' H' H'' hi ⟨y, rfl⟩ e1 e2 ax Nx hN
      rw [getD_map _ _ _ hi] at ax
      exact g_name (s_when (b := false) (et_not (a := true) (et_v (K := K) (ed_call (d := .bl true) (ea1 (ed_var rfl ax) ea0) ⟨_, true, rfl, rfl, Tv.frc (hk _ (List.getElem_mem hi))⟩))) (fun z => nomatch z) (fun _ H3 x3 => hN _ _ ⟨_, rfl⟩ x3))
def R_badV (ds : List D) (r : Rz) : Prop := r = .start ∧ ((∃ b s, ds = [b] ∧ b.ty = some s ∧ kitB s "list" = some false ∧ kitB s "tuple" = some false) ∨ (∃ es, ds = [.lst es] ∧ (decide ((1 : Int) ≤ es.length) && decide ((es.length : Int) ≤ 400)) = false) ∨
  (∃ (A : List Tv) (b : D), ds = [.lst (A.map Tv.d ++ [b])] ∧ (∀ t ∈ A, t.fk) ∧ FrC b false ∧ b.lf = true ∧ A.length < 400))
theorem ok_check_told_XL (T : Txt K mg) : FnG P w K mg base 3 (He.ga K "check_told") ["volumes"] (spZ K R_badV) := by
  refine fnX (N := ["volumes", "volume"]) (st := s_check_told) T.f_check_told sc_check_told (fun vs H Q E h => ?_) (fun _ _ _ _ _ _ us hl => match us, hl with | [_], _ => rfl) (fun cdv A outer s H vs Q E hr h => ⟨_, (pss_cons (ps_if (PW.pt (pw_or (pt_not (pt_val (pe_callB call_isiT (by rfl) T.z_isinstance (by decide +kernel) (pa_cons (pv 0) (pa_cons (pe_tup (pa_cons (pe_tyN (n := "list") (by rfl) T.z_list (by decide +kernel)) (pa_cons (pe_tyN (n := "tuple") (by rfl) T.z_tuple (by decide +kernel)) pa_nil))) pa_nil))))) (pw_or1 (pt_not (pt_chain op_le op_le pe_int (pe_callB call_lenS (by rfl) T.z_len PySem.boot_len (pa_cons (pv 0) pa_nil)) (pe_globI (by rfl) T.i_MOST_MANY)))))) (pss_one (ps_raise rfl (takes_of rfl rfl rfl rfl) (pmk_own PySem.F.excBase_ValueError T.q_BadStart T.m_BadStart T.p_BadStart (raises_own T.u_BadStart T.v_BadStart) (by rfl)))) pss_nil) (pss_one (ps_for (passes_of rfl) rfl (pi_list (pv 0)) (pg_name (i := 1) sc_check_told.nd rfl (.inl rfl)) (pss_one (ps_if (pt_not (pt_val (pe_callG (ok_is_fraction_2 T) (hr.mono (by decide)) (by rfl) T.m_is_fraction (pa_cons (pv 1) pa_nil)))) (pss_one (ps_raise rfl (takes_of rfl rfl rfl rfl) (pmk_own PySem.F.excBase_ValueError T.q_BadStart T.m_BadStart T.p_BadStart (raises_own T.u_BadStart T.v_BadStart) (by rfl)))) pss_nil))))), ?_⟩)
  · obtain ⟨ds, r, a, ⟨_, h⟩, _⟩ := h
    rcases h with ⟨b, s, rfl, _⟩ | ⟨es, rfl, _⟩ | ⟨A, b, rfl, _⟩ <;> exact a.len
  · obtain ⟨ds, r, a, ⟨rfl, h⟩, q⟩ := h
    try dsimp only [cxOf, Cx.nox, Cx.wish]
    rcases h with ⟨b, s, rfl, hs, k1, k2⟩ | ⟨es, rfl, hl⟩ | ⟨A, b, rfl, hk, hb, hf, hl⟩
    · obtain ⟨v, rfl, a1⟩ := All.inv1 a
      exact q_when (b := true) (et_is (et_or (a := true) (b := true) (et_not (a := false || false) (et_v (K := K) (ed_isiT (n1 := "list") (n2 := "tuple") (ed_var rfl a1) hs k1 k2))) fun z => nomatch z) rfl) (fun _ H1 e1 => q _ e1) (fun z => nomatch z)
    · obtain ⟨v, rfl, a1⟩ := All.inv1 a
      exact q_when (b := true) (et_is (et_or (a := false) (b := true) (et_not (a := true || false) (et_v (K := K) (ed_isiT (n1 := "list") (n2 := "tuple") (ed_var rfl a1) rfl (by decide +kernel) (by decide +kernel)))) fun _ => et_is (et_not (et_t (K := K) (ed_chain ed_int (ed_lenL (K := K) (ed_var rfl a1)) rd_le (fun _ => ed_int) (fun _ => rd_le)))) (by rw [hl]; rfl)) rfl) (fun _ H1 e1 => q _ e1) (fun z => nomatch z)
    · obtain ⟨v, rfl, a1⟩ := All.inv1 a
      have len : (A.map Tv.d ++ [b]).length = A.length + 1 := by rw [List.length_append, List.length_map]; rfl
      refine q_when (b := false) (et_is (et_or (a := false) (b := false) (et_not (a := true || false) (et_v (K := K) (ed_isiT (n1 := "list") (n2 := "tuple") (ed_var rfl a1) rfl (by decide +kernel) (by decide +kernel)))) fun _ => et_is (et_not (et_t (K := K) (ed_chain ed_int (ed_lenL (K := K) (ed_var rfl a1)) rd_le (fun _ => ed_int) (fun _ => rd_le)))) (by rw [len, decide_eq_true (show (1 : Int) ≤ ((A.length + 1 : Nat) : Int) by omega), decide_eq_true (show ((A.length + 1 : Nat) : Int) ≤ 400 by omega)]; rfl)) rfl) (fun z => nomatch z) (fun _ H1 e1 => ?_)
      refine s_for (K := K) (L := []) (EvI.is (ei_list (es_any (ed_var rfl (a1.ex e1))) (lfs_app (lfs_map _ Tv.lf A) (by show (b.lf && true) = true; rw [hf]; rfl))) len) (fun j σ' H' => j ≤ A.length ∧ Ex H H' ∧ ∃ y, σ' = [some v, y]) (fun H2 e2 => ⟨Nat.zero_le _, e1.trans e2, none, rfl⟩) ?_ ?_
      · rintro j x σ' H' H'' hjl ⟨ji, E2, y, rfl⟩ e3 ax
        refine g_name ?_
        by_cases c : j < A.length
        · rw [show (A.map Tv.d ++ [b]).getD j .non = A[j].d from by
            rw [List.getD_eq_getElem?_getD, List.getElem?_append_left (by rw [List.length_map]; exact c), ← List.getD_eq_getElem?_getD]
            exact getD_map _ _ _ c] at ax
          exact s_when (b := false) (et_not (a := true) (et_v (K := K) (ed_call (d := .bl true) (ea1 (ed_var rfl ax) ea0) ⟨_, true, rfl, rfl, Tv.frc (hk _ (List.getElem_mem c))⟩))) (fun z => nomatch z) (fun _ H4 e4 => ⟨⟨c, (E2.trans e3).trans e4, _, rfl⟩, Mu.ex (e3.trans e4)⟩)
        · have ej : j = A.length := by omega
          subst ej
          rw [show (A.map Tv.d ++ [b]).getD A.length .non = b from by
            rw [List.getD_eq_getElem?_getD, List.getElem?_append_right (by rw [List.length_map]; exact Nat.le_refl _), List.length_map, Nat.sub_self]
            rfl] at ax
          exact s_when (b := true) (et_not (a := false) (et_v (K := K) (ed_call (d := .bl false) (ea1 (ed_var rfl ax) ea0) ⟨_, false, rfl, rfl, hb⟩))) (fun _ H4 e4 => q _ ((E2.trans e3).trans e4)) (fun z => nomatch z)
      · rintro σ' H' ⟨ji, _⟩
        omega

end
end My
end
section
set_option Elab.async false
set_option linter.all false
set_option maxRecDepth 100000
set_option maxHeartbeats 4000000
namespace My
open PySem PySem.Spec PyProof.Rows L2 Evl WD
local macro_rules | `(tactic| walk_at "exgo") => `(tactic| first | exact Ex.refl _ | assumption | (refine' Ex.trans ?ea ?eb; (case eb => assumption); (case ea => walk_at "exgo")))
local macro_rules | `(tactic| walk_at "is") => `(tactic| first | assumption | (refine' Is.ex ?e ?h; (case h => assumption); (case e => walk_at "exgo")) | exact Is.int _ | exact Is.bl _ | exact Is.non)
local macro_rules | `(tactic| walk_at "ev") => `(tactic| first
  | exact ed_int | exact ed_bl | exact ed_non | exact ed_str
  | ((with_reducible apply ed_var) <;> first | exact rfl | walk_at "is")
  | ((with_reducible apply ed_add) <;> walk_at "ev")
  | ((with_reducible apply ed_sub) <;> walk_at "ev")
  | ((with_reducible apply ed_neg) <;> walk_at "ev")
  | ((with_reducible apply ed_mulW) <;> try walk_at "ev")
  | ((with_reducible apply ed_divW) <;> try walk_at "ev")
  | ((with_reducible apply ed_mod) <;> try walk_at "ev")
  | ((with_reducible apply ed_ixT) <;> first | exact rfl | walk_at "ev" | skip)
  | ((with_reducible apply ed_ixL) <;> first | exact rfl | walk_at "ev" | skip)
  | ((with_reducible apply ed_lt) <;> walk_at "ev")
  | ((with_reducible apply ed_le) <;> walk_at "ev")
  | ((with_reducible apply ed_gt) <;> walk_at "ev")
  | ((with_reducible apply ed_ge) <;> walk_at "ev")
  | ((with_reducible apply ed_eqI) <;> walk_at "ev")
  | ((with_reducible apply ed_neI) <;> walk_at "ev")
  | ((with_reducible apply ed_gcd) <;> walk_at "ev")
  | ((with_reducible apply ed_abs) <;> walk_at "ev")
  | ((with_reducible apply ed_intI) <;> walk_at "ev")
  | ((with_reducible apply ed_intB) <;> walk_at "ev")
  | ((with_reducible apply ed_max2) <;> walk_at "ev")
  | ((with_reducible apply ed_min2) <;> walk_at "ev")
  | ((with_reducible apply ed_lenT) <;> walk_at "ev")
  | ((with_reducible apply ed_lenL) <;> walk_at "ev")
  | ((with_reducible apply ed_tuple) <;> walk_at "ev")
  | ((with_reducible apply ed_tupleT) <;> walk_at "ev")
  | ((with_reducible apply ed_tup) <;> first | walk_at "ea" | (simp; done) | skip)
  | ((with_reducible apply et_t) <;> walk_at "ev")
  | ((with_reducible apply et_v) <;> walk_at "ev"))
local macro_rules | `(tactic| walk_at "ea") => `(tactic| first
  | exact ea0
  | ((with_reducible apply ea1) <;> first | walk_at "ev" | walk_at "ea" | skip))

section
variable {P : Program} {w : World} {K : PySem.W.Frag} {mg : Str → Option Value} {base : Heap}
theorem mk_of {x : Int} {m : Nat} {q : Rat} (hm : m ≠ 0) (h : (x : Rat) = q * ((m : Nat) : Rat)) : mkRat x m = q := by
  rw [Rat.mkRat_eq_div, h]
  have : ((m : Nat) : Rat) ≠ 0 := by
    intro z
    exact hm (by exact_mod_cast z)
  rw [Rat.div_def, Rat.mul_assoc, Rat.mul_inv_cancel _ this, Rat.mul_one]
theorem frs_range (v : List Rat) {n : Nat} (h : n = v.length) : ((List.range n).map fun i => fr (v.getD i 0)) = frs v := by
  subst h
  unfold WD.frs
  refine List.ext_getElem (by simp) fun i h1 h2 => ?_
  rw [List.length_map, List.length_range] at h1
  simp only [List.getElem_map, List.getElem_range]
  rw [getD_in h1]
def R_done (mk : List D → D) (ds : List D) (d : D) : Prop := ∃ (L : List Rnd) (ts : List Tv) (M : Nat), (∀ r ∈ L, r.ok) ∧ L.length ≤ 12 ∧ (∀ t ∈ ts, t.fk) ∧ 1 ≤ ts.length ∧ ts.length ≤ 24 ∧ SOk (ts.map Tv.q) M ∧ ds = [progD L, mk (ts.map Tv.d)] ∧ d = .tup (frs (plyQ (ts.map Tv.q) (ops L ts.length)))
theorem tops_ok {s : List Rat} {M B o n : Nat} (ok : SOk s M) (b0 : 0 < B) (b2 : ∀ k, k < s.length → (s.getD k 0).den ∣ B) {t : List Int} (ht : t = (List.range s.length).map fun i => (s.getD i 0).num * ((B / (s.getD i 0).den : Nat) : Int) * 2 ^ o) : Sc (((B * 2 ^ o : Nat) : Nat) : Rat) t s ∧ Dv o t := by
  subst ht
  have g : ∀ i, ((List.range s.length).map fun i => (s.getD i 0).num * ((B / (s.getD i 0).den : Nat) : Int) * 2 ^ o).getD i 0 = if i < s.length then (s.getD i 0).num * ((B / (s.getD i 0).den : Nat) : Int) * 2 ^ o else 0 := fun i => by
    rw [List.getD_eq_getElem?_getD, List.getElem?_map]
    by_cases h : i < s.length
    · rw [if_pos h, List.getElem?_range h]
      rfl
    · rw [if_neg h, List.getElem?_eq_none (by rw [List.length_range]; omega)]
      rfl
  refine ⟨⟨by simp, fun i => ?_⟩, fun i => ?_⟩
  · rw [g]
    by_cases h : i < s.length
    · rw [if_pos h, Rat.intCast_mul]
      have e := over_of_dvd (b2 i h)
      rw [← e]
      have e2 : ((2 ^ o : Int) : Rat) = ((2 ^ o : Nat) : Rat) := by
        have : (2 ^ o : Int) = ((2 ^ o : Nat) : Int) := by rw [Int.natCast_pow]; rfl
        rw [this]
        rfl
      rw [e2]
      have e3 : ((B * 2 ^ o : Nat) : Rat) = ((B : Int) : Rat) * ((2 ^ o : Nat) : Rat) := by
        rw [Rat.natCast_mul]
        rfl
      rw [e3, Rat.mul_assoc]
    · rw [if_neg h, List.getD_eq_getElem?_getD, List.getElem?_eq_none (by omega)]
      show ((0 : Int) : Rat) = (0 : Rat) * _
      rw [Rat.zero_mul]
      rfl
  · rw [g]
    by_cases h : i < s.length
    · rw [if_pos h, Int.natCast_pow]
      exact ⟨_, Int.mul_comm _ _⟩
    · rw [if_neg h]
      exact ⟨0, by rw [Int.mul_zero]⟩
theorem play_res {L : List Rnd} {s : List Rat} {M B : Nat} (ho : ∀ r ∈ L, r.ok) (ok : SOk s M) (b0 : 0 < B) (b2 : ∀ k, k < s.length → (s.getD k 0).den ∣ B) {t : List Int} (ht : t = (List.range s.length).map fun i => (s.getD i 0).num * ((B / (s.getD i 0).den : Nat) : Int) * 2 ^ (hvs L s.length)) :
    (play t (ops L s.length)).map (fun x => mkRat x (B * 2 ^ (hvs L s.length))) = plyQ s (ops L s.length) := by
  obtain ⟨h1, h2⟩ := tops_ok (n := 0) ok b0 b2 ht
  have hl : t.length = s.length := h1.len
  obtain ⟨g1, _⟩ := play_ops (e := 0) ho hl (by rw [Nat.zero_add]; exact h2) h1
  have m0 : B * 2 ^ (hvs L s.length) ≠ 0 := Nat.ne_of_gt (Nat.mul_pos b0 (Nat.two_pow_pos _))
  refine List.ext_getElem (by rw [List.length_map]; exact g1.len) fun i a b => ?_
  rw [List.length_map] at a
  rw [List.getElem_map]
  refine mk_of m0 ?_
  have e := g1.at_ i
  rw [getD_in a, getD_in b] at e
  exact e
theorem ok_Program_done_L (T : Txt K mg) : FnG P w K mg base 5 (He.ma K (He.ga K "Program") "done") ["self", "volumes"] (spD K (R_done .lst)) := by
  refine fnG (N := ["self", "volumes", "told", "bottom", "often", "tops", "volume", "top", "under"]) (st := s_Program_done) T.f_Program_done sc_Program_done (fun vs H Q E h => ?_) (fun _ _ _ _ _ _ us hl => match us, hl with | [_, _], _ => rfl) (fun cdv A outer s H vs Q E hr h => ⟨_, (pss_cons (ps_expr (pe_callG (ok_check_told_L T) (hr.mono (by decide)) (by rfl) T.m_check_told (pa_cons (pv 1) pa_nil))) (pss_cons (ps_setLc (i := 2) (own := [("volume", 6)]) rfl sc_Program_done.nd rfl rfl (sw_true rfl rfl rfl (by decide +kernel)) (pi_list (pv 1)) (blkOk_by (own := [("volume", 6)]) (N := ["self", "volumes", "told", "bottom", "often", "tops", "volume", "top", "under"]) (sc := defScope s_Program_done) (by decide +kernel)) (fun _ _ _ _ _ => (pg_name (i := 6) sc_Program_done.nd rfl (.inl rfl))) (fun _ _ _ _ _ => pts_nil) (fun _ _ _ _ _ => (pe_callG (ok_exact T) (hr.mono (by decide)) (by rfl) T.m_exact (pa_cons (pv 6) pa_nil)))) (pss_cons (ps_asg (pe_callG (ok_common_bottom T) (hr.mono (by decide)) (by rfl) T.m_common_bottom (pa_cons (pv 2) pa_nil)) (pg_name (i := 3) sc_Program_done.nd rfl (.inr rfl))) (pss_cons (ps_asg (pe_callG (ok_halvings T) (hr.mono (by decide)) (by rfl) T.m_halvings (pa_cons (pe_fld (pv 0) rfl) (pa_cons (pe_callB call_lenS (by rfl) T.z_len PySem.boot_len (pa_cons (pv 2) pa_nil)) pa_nil))) (pg_name (i := 4) sc_Program_done.nd rfl (.inr rfl))) (pss_cons (ps_setLc (i := 5) (own := [("top", 7), ("under", 8)]) rfl sc_Program_done.nd rfl rfl (sw_true rfl rfl rfl (by decide +kernel)) (pi_list (pv 2)) (blkOk_by (own := [("top", 7), ("under", 8)]) (N := ["self", "volumes", "told", "bottom", "often", "tops", "volume", "top", "under"]) (sc := defScope s_Program_done) (by decide +kernel)) (fun _ _ _ _ _ => (tupK (K := K) (n := 2) rfl rfl (pgs_cons (pg_name (i := 7) sc_Program_done.nd rfl (.inl rfl)) (pgs_cons (pg_name (i := 8) sc_Program_done.nd rfl (.inl rfl)) pgs_nil)))) (fun _ _ _ _ _ => pts_nil) (fun _ _ _ _ _ => (pe_op op_shlW (pe_op op_mulW (pv 7) (pe_op op_fdivW (pv 3) (pv 8))) (pv 4)))) (pss_one (ps_ret (pe_callTy call_tupS (by rfl) T.z_tuple (by decide +kernel) (pa_cons (pe_lc (own := [("top", 7)]) rfl sc_Program_done.nd (pi_list (pe_callG (ok_evened T) (hr.mono (by decide)) (by rfl) T.m_evened (pa_cons (pe_fld (pv 0) rfl) (pa_cons (pv 5) pa_nil)))) (blkOk_by (own := [("top", 7)]) (N := ["self", "volumes", "told", "bottom", "often", "tops", "volume", "top", "under"]) (sc := defScope s_Program_done) (by decide +kernel)) (fun _ _ _ _ _ => (pg_name (i := 7) sc_Program_done.nd rfl (.inl rfl))) (fun _ _ _ _ _ => pts_nil) (fun _ _ _ _ _ => (pe_callG (ok_reduced T) (hr.mono (by decide)) (by rfl) T.m_reduced (pa_cons (pv 7) (pa_cons (pe_op op_shlW (pv 3) (pv 4)) pa_nil))))) pa_nil))))))))), ?_⟩)
  · obtain ⟨ds, d, a, ⟨L, ts, M, _, _, _, _, _, _, rfl, _⟩, _⟩ := h
    exact a.len
  · obtain ⟨ds, d, a, ⟨L, ts, M, ho, hL, hk, l1, l4, ok, rfl, rfl⟩, q⟩ := h
    obtain ⟨u, u', rfl, a1, a2⟩ := All.inv2 a
    try dsimp only [cxOf, Cx.nox, Cx.wish]
    refine q_do (K := K) (ed_call (d := .non) (ea1 (ed_var rfl a2) ea0) ⟨ts, hk, l1, by omega, rfl, rfl⟩) fun H1 e1 => ?_
    refine q_asgN (K := K) (ds := frs (ts.map Tv.q)) (EvN.is (en_lc1 (n := ts.length) (item := fun i => (ts.map Tv.d).getD i .non) (fun _ => true) (fun i => fr ((ts.map Tv.q).getD i 0)) (fun H2 e2 => EvI.is (ei_list (es_any (ed_var rfl (a2.ex (e1.trans e2)))) (lfs_map _ Tv.lf ts)) (List.length_map ..)) (by omega) (fun _ _ _ => rfl) (fun x => rfl) (fun i x H2 _ _ _ => et_yes) (fun i x H2 hi e2 ax _ => ?_)) ?_) fun p xs H2 hp e2 hx ax => ?_
    · rw [getD_map _ _ _ hi] at ax
      rw [getD_in (by rw [List.length_map]; exact hi), List.getElem_map]
      exact ed_call (ea1 (ed_var rfl ax) ea0) (Tv.fex (hk _ (List.getElem_mem hi)))
    · rw [gives_all]
      exact frs_range _ (by rw [List.length_map])
    have hsl : (ts.map Tv.q).length = ts.length := List.length_map ..
    have hn : ops L ts.length = ops L (ts.map Tv.q).length := by rw [hsl]
    rw [hn] at q
    generalize hs : ts.map Tv.q = s at ok ax q hsl
    obtain ⟨b0, b1, b2⟩ := cmb_ok ok s.length (Nat.le_refl _)
    rw [List.take_of_length_le (Nat.le_refl _)] at b0 b1 b2
    have hv := hvs_le (L := L) (n := s.length) (by omega)
    have hv2 : L.length * s.length ≤ 12 * 24 := Nat.mul_le_mul hL (by omega)
    have vp : Is K H2 (.ref p) (.lst (frs s)) := .lst (.inl hx) ax
    refine q_asgD (K := K) (ed_call (R := R_common_bottom) (ea1 (ed_var rfl vp) ea0) ⟨s, M, rfl, ok, rfl⟩) fun v1 H3 e3 i3 => ?_
    cases i3
    have Bl : cmb s < 2 ^ 2000 := Nat.lt_of_le_of_lt (Nat.le_of_dvd ok.m0 b1) ok.m1
    refine q_asgD (K := K) (d := .int ((hvs L s.length : Nat) : Int)) (ed_call (ea1 (ed_fld (ed_var rfl (a1.ex ((e1.trans e2).trans e3))) T.c_Program T.n_Program_rounds rfl) (ea1 (EvD.is (ed_lenL (K := K) (ed_var rfl (vp.ex e3))) (by rw [frs_len])) ea0)) ⟨L, s.length, hL, by omega, by omega, rfl, rfl⟩) fun v2 H4 e4 i4 => ?_
    cases i4
    have hi : ∀ i (hi : i < s.length), (frs s).getD i .non = .tup [.int (s.getD i 0).num, .int ((s.getD i 0).den : Int)] := fun i hi => by
      rw [getD_frs s i hi, getD_in hi]
      rfl
    have res := play_res ho ok b0 b2 rfl
    refine q_asgN (K := K) (ds := iL ((List.range s.length).map fun i => (s.getD i 0).num * ((cmb s / (s.getD i 0).den : Nat) : Int) * 2 ^ (hvs L s.length))) (EvN.is (en_lc2 (n := s.length) (c1 := fun i => .int (s.getD i 0).num) (c2 := fun i => .int ((s.getD i 0).den : Int)) (fun _ => true) (fun i => .int ((s.getD i 0).num * ((cmb s / (s.getD i 0).den : Nat) : Int) * 2 ^ (hvs L s.length))) (fun H5 e5 => EvI.item (EvI.is (ei_list (es_any (ed_var rfl (vp.ex ((e3.trans e4).trans e5)))) (frs_lf s)) (frs_len s)) hi) (by omega) (fun _ _ _ => rfl) (fun x y => rfl) (fun i x y H5 _ _ _ _ => et_yes) (fun i z1 z2 H5 hi e5 az1 az2 _ => ?_)) ?_) fun pt xt H5 hpt e5 hxt axt => ?_
    · have m1 : (s.getD i 0).num.natAbs < 2 ^ 2000 := (ok.sm _ (gd_mem hi)).num
      have m2 : (((cmb s / (s.getD i 0).den : Nat) : Int)).natAbs < 2 ^ 2000 := by
        rw [Int.natAbs_natCast]
        exact Nat.lt_of_le_of_lt (Nat.div_le_self _ _) Bl
      refine ed_shl (EvD.is (ed_mulW (K := K) (ed_var rfl az1) (ed_divW (ed_var rfl (.int _)) (ed_var rfl az2) (divW (b := 2000) (s.getD i 0).den_pos (Nat.lt_of_le_of_lt (Nat.le_of_dvd b0 (b2 i hi)) Bl))) (mulW (a := 2000) (b := 2000) m1 (by rw [← Int.natCast_ediv]; exact m2))) (by rw [← Int.natCast_ediv])) (ed_var rfl (.int _)) (shl_ok (n := 4000) ?_ (by omega))
      exact wide_lt m1 m2
    · rw [gives_all]
      unfold iL
      rw [List.map_map]
      rfl
    generalize ht : ((List.range s.length).map fun i => (s.getD i 0).num * ((cmb s / (s.getD i 0).den : Nat) : Int) * 2 ^ (hvs L s.length)) = t at res axt
    have tl : t.length = s.length := by rw [← ht]; simp
    have E5 := (((e1.trans e2).trans e3).trans e4).trans e5
    refine s_retD (K := K) (d := .tup (frs (plyQ s (ops L s.length)))) (ed_tuple (EvN.is (en_lc1 (n := s.length) (item := fun i => .int ((play t (ops L t.length)).getD i 0)) (fun _ => true) (fun i => fr ((plyQ s (ops L s.length)).getD i 0)) (fun H6 e6 => EvI.item (EvI.is (ei_list (es_new (en_call (es := iL (play t (ops L t.length))) (ea1 (ed_fld (ed_var rfl (a1.ex (E5.trans e6))) T.c_Program T.n_Program_rounds rfl) (ea1 (ed_var rfl (.lst (.inl (e6 _ _ hxt)) (axt.ex e6))) ea0)) ⟨L, t, ho, hL, by omega, by omega, rfl, rfl⟩) (fun l hl => nomatch hl)) (iLlf _)) (by rw [iLlen, play_len, tl])) ?_) (by omega) (fun _ _ _ => rfl) (fun x => rfl) (fun i x H6 _ _ _ => et_yes) (fun i x H6 hi e6 ax _ => ?_)) ?_).toD) fun v H6 e6 i6 => q _ _ (E5.trans e6) i6
    · intro i hi
      have h : i < (play t (ops L t.length)).length := by rw [play_len, tl]; exact hi
      rw [show (iL (play t (ops L t.length))).getD i .non = .int (play t (ops L t.length))[i] from getD_map _ _ _ h, getD_in h]
    · have hl2 : i < (play t (ops L s.length)).length := by rw [play_len, tl]; exact hi
      have hb : cmb s * 2 ^ hvs L s.length < 2 ^ 2288 := by
        have h1 : 2 ^ hvs L s.length ≤ 2 ^ 288 := Nat.pow_le_pow_right (by decide) (by omega)
        calc cmb s * 2 ^ hvs L s.length < 2 ^ 2000 * 2 ^ hvs L s.length := Nat.mul_lt_mul_of_pos_right Bl (Nat.two_pow_pos _)
          _ ≤ 2 ^ 2000 * 2 ^ 288 := Nat.mul_le_mul_left _ h1
          _ = 2 ^ 2288 := by rw [← Nat.pow_add]
      have e : (plyQ s (ops L s.length)).getD i 0 = mkRat ((play t (ops L t.length)).getD i 0) (cmb s * 2 ^ hvs L s.length) := by
        rw [← res, tl, getD_in (by rw [List.length_map]; exact hl2), List.getElem_map, getD_in hl2]
      rw [e]
      refine ed_call (ea1 (ed_var rfl ax) (ea1 (K := K) (d := .int ((cmb s * 2 ^ hvs L s.length : Nat) : Int)) (EvD.is (ed_shl (ed_var rfl (.int _)) (ed_var rfl (.int _)) (shl_ok (n := 2000) (by rw [Int.natAbs_natCast]; exact Bl) (by omega))) ?_) ea0)) ⟨_, _, rfl, Nat.mul_pos b0 (Nat.two_pow_pos _), pow_lt (by decide) hb, rfl⟩
      rw [Int.natCast_mul, Int.natCast_pow]
      rfl
    · rw [gives_all]
      exact frs_range _ (by rw [plyQ_len])
theorem ok_Program_done_T (T : Txt K mg) : FnG P w K mg base 5 (He.ma K (He.ga K "Program") "done") ["self", "volumes"] (spD K (R_done .tup)) := by
  refine fnG (N := ["self", "volumes", "told", "bottom", "often", "tops", "volume", "top", "under"]) (st := s_Program_done) T.f_Program_done sc_Program_done (fun vs H Q E h => ?_) (fun _ _ _ _ _ _ us hl => match us, hl with | [_, _], _ => rfl) (fun cdv A outer s H vs Q E hr h => ⟨_, (pss_cons (ps_expr (pe_callG (ok_check_told_T T) (hr.mono (by decide)) (by rfl) T.m_check_told (pa_cons (pv 1) pa_nil))) (pss_cons (ps_setLc (i := 2) (own := [("volume", 6)]) rfl sc_Program_done.nd rfl rfl (sw_true rfl rfl rfl (by decide +kernel)) (pi_tup (pv 1)) (blkOk_by (own := [("volume", 6)]) (N := ["self", "volumes", "told", "bottom", "often", "tops", "volume", "top", "under"]) (sc := defScope s_Program_done) (by decide +kernel)) (fun _ _ _ _ _ => (pg_name (i := 6) sc_Program_done.nd rfl (.inl rfl))) (fun _ _ _ _ _ => pts_nil) (fun _ _ _ _ _ => (pe_callG (ok_exact T) (hr.mono (by decide)) (by rfl) T.m_exact (pa_cons (pv 6) pa_nil)))) (pss_cons (ps_asg (pe_callG (ok_common_bottom T) (hr.mono (by decide)) (by rfl) T.m_common_bottom (pa_cons (pv 2) pa_nil)) (pg_name (i := 3) sc_Program_done.nd rfl (.inr rfl))) (pss_cons (ps_asg (pe_callG (ok_halvings T) (hr.mono (by decide)) (by rfl) T.m_halvings (pa_cons (pe_fld (pv 0) rfl) (pa_cons (pe_callB call_lenS (by rfl) T.z_len PySem.boot_len (pa_cons (pv 2) pa_nil)) pa_nil))) (pg_name (i := 4) sc_Program_done.nd rfl (.inr rfl))) (pss_cons (ps_setLc (i := 5) (own := [("top", 7), ("under", 8)]) rfl sc_Program_done.nd rfl rfl (sw_true rfl rfl rfl (by decide +kernel)) (pi_list (pv 2)) (blkOk_by (own := [("top", 7), ("under", 8)]) (N := ["self", "volumes", "told", "bottom", "often", "tops", "volume", "top", "under"]) (sc := defScope s_Program_done) (by decide +kernel)) (fun _ _ _ _ _ => (tupK (K := K) (n := 2) rfl rfl (pgs_cons (pg_name (i := 7) sc_Program_done.nd rfl (.inl rfl)) (pgs_cons (pg_name (i := 8) sc_Program_done.nd rfl (.inl rfl)) pgs_nil)))) (fun _ _ _ _ _ => pts_nil) (fun _ _ _ _ _ => (pe_op op_shlW (pe_op op_mulW (pv 7) (pe_op op_fdivW (pv 3) (pv 8))) (pv 4)))) (pss_one (ps_ret (pe_callTy call_tupS (by rfl) T.z_tuple (by decide +kernel) (pa_cons (pe_lc (own := [("top", 7)]) rfl sc_Program_done.nd (pi_list (pe_callG (ok_evened T) (hr.mono (by decide)) (by rfl) T.m_evened (pa_cons (pe_fld (pv 0) rfl) (pa_cons (pv 5) pa_nil)))) (blkOk_by (own := [("top", 7)]) (N := ["self", "volumes", "told", "bottom", "often", "tops", "volume", "top", "under"]) (sc := defScope s_Program_done) (by decide +kernel)) (fun _ _ _ _ _ => (pg_name (i := 7) sc_Program_done.nd rfl (.inl rfl))) (fun _ _ _ _ _ => pts_nil) (fun _ _ _ _ _ => (pe_callG (ok_reduced T) (hr.mono (by decide)) (by rfl) T.m_reduced (pa_cons (pv 7) (pa_cons (pe_op op_shlW (pv 3) (pv 4)) pa_nil))))) pa_nil))))))))), ?_⟩)
  · obtain ⟨ds, d, a, ⟨L, ts, M, _, _, _, _, _, _, rfl, _⟩, _⟩ := h
    exact a.len
  · obtain ⟨ds, d, a, ⟨L, ts, M, ho, hL, hk, l1, l4, ok, rfl, rfl⟩, q⟩ := h
    obtain ⟨u, u', rfl, a1, a2⟩ := All.inv2 a
    try dsimp only [cxOf, Cx.nox, Cx.wish]
    refine q_do (K := K) (ed_call (d := .non) (ea1 (ed_var rfl a2) ea0) ⟨ts, hk, l1, by omega, rfl, rfl⟩) fun H1 e1 => ?_
    refine q_asgN (K := K) (ds := frs (ts.map Tv.q)) (EvN.is (en_lc1 (n := ts.length) (item := fun i => (ts.map Tv.d).getD i .non) (fun _ => true) (fun i => fr ((ts.map Tv.q).getD i 0)) (fun H2 e2 => EvI.is (ei_tup (ed_var rfl (a2.ex (e1.trans e2))) (lfs_map _ Tv.lf ts)) (List.length_map ..)) (by omega) (fun _ _ _ => rfl) (fun x => rfl) (fun i x H2 _ _ _ => et_yes) (fun i x H2 hi e2 ax _ => ?_)) ?_) fun p xs H2 hp e2 hx ax => ?_
    · rw [getD_map _ _ _ hi] at ax
      rw [getD_in (by rw [List.length_map]; exact hi), List.getElem_map]
      exact ed_call (ea1 (ed_var rfl ax) ea0) (Tv.fex (hk _ (List.getElem_mem hi)))
    · rw [gives_all]
      exact frs_range _ (by rw [List.length_map])
    have hsl : (ts.map Tv.q).length = ts.length := List.length_map ..
    have hn : ops L ts.length = ops L (ts.map Tv.q).length := by rw [hsl]
    rw [hn] at q
    generalize hs : ts.map Tv.q = s at ok ax q hsl
    obtain ⟨b0, b1, b2⟩ := cmb_ok ok s.length (Nat.le_refl _)
    rw [List.take_of_length_le (Nat.le_refl _)] at b0 b1 b2
    have hv := hvs_le (L := L) (n := s.length) (by omega)
    have hv2 : L.length * s.length ≤ 12 * 24 := Nat.mul_le_mul hL (by omega)
    have vp : Is K H2 (.ref p) (.lst (frs s)) := .lst (.inl hx) ax
    refine q_asgD (K := K) (ed_call (R := R_common_bottom) (ea1 (ed_var rfl vp) ea0) ⟨s, M, rfl, ok, rfl⟩) fun v1 H3 e3 i3 => ?_
    cases i3
    have Bl : cmb s < 2 ^ 2000 := Nat.lt_of_le_of_lt (Nat.le_of_dvd ok.m0 b1) ok.m1
    refine q_asgD (K := K) (d := .int ((hvs L s.length : Nat) : Int)) (ed_call (ea1 (ed_fld (ed_var rfl (a1.ex ((e1.trans e2).trans e3))) T.c_Program T.n_Program_rounds rfl) (ea1 (EvD.is (ed_lenL (K := K) (ed_var rfl (vp.ex e3))) (by rw [frs_len])) ea0)) ⟨L, s.length, hL, by omega, by omega, rfl, rfl⟩) fun v2 H4 e4 i4 => ?_
    cases i4
    have hi : ∀ i (hi : i < s.length), (frs s).getD i .non = .tup [.int (s.getD i 0).num, .int ((s.getD i 0).den : Int)] := fun i hi => by
      rw [getD_frs s i hi, getD_in hi]
      rfl
    have res := play_res ho ok b0 b2 rfl
    refine q_asgN (K := K) (ds := iL ((List.range s.length).map fun i => (s.getD i 0).num * ((cmb s / (s.getD i 0).den : Nat) : Int) * 2 ^ (hvs L s.length))) (EvN.is (en_lc2 (n := s.length) (c1 := fun i => .int (s.getD i 0).num) (c2 := fun i => .int ((s.getD i 0).den : Int)) (fun _ => true) (fun i => .int ((s.getD i 0).num * ((cmb s / (s.getD i 0).den : Nat) : Int) * 2 ^ (hvs L s.length))) (fun H5 e5 => EvI.item (EvI.is (ei_list (es_any (ed_var rfl (vp.ex ((e3.trans e4).trans e5)))) (frs_lf s)) (frs_len s)) hi) (by omega) (fun _ _ _ => rfl) (fun x y => rfl) (fun i x y H5 _ _ _ _ => et_yes) (fun i z1 z2 H5 hi e5 az1 az2 _ => ?_)) ?_) fun pt xt H5 hpt e5 hxt axt => ?_
    · have m1 : (s.getD i 0).num.natAbs < 2 ^ 2000 := (ok.sm _ (gd_mem hi)).num
      have m2 : (((cmb s / (s.getD i 0).den : Nat) : Int)).natAbs < 2 ^ 2000 := by
        rw [Int.natAbs_natCast]
        exact Nat.lt_of_le_of_lt (Nat.div_le_self _ _) Bl
      refine ed_shl (EvD.is (ed_mulW (K := K) (ed_var rfl az1) (ed_divW (ed_var rfl (.int _)) (ed_var rfl az2) (divW (b := 2000) (s.getD i 0).den_pos (Nat.lt_of_le_of_lt (Nat.le_of_dvd b0 (b2 i hi)) Bl))) (mulW (a := 2000) (b := 2000) m1 (by rw [← Int.natCast_ediv]; exact m2))) (by rw [← Int.natCast_ediv])) (ed_var rfl (.int _)) (shl_ok (n := 4000) ?_ (by omega))
      exact wide_lt m1 m2
    · rw [gives_all]
      unfold iL
      rw [List.map_map]
      rfl
    generalize ht : ((List.range s.length).map fun i => (s.getD i 0).num * ((cmb s / (s.getD i 0).den : Nat) : Int) * 2 ^ (hvs L s.length)) = t at res axt
    have tl : t.length = s.length := by rw [← ht]; simp
    have E5 := (((e1.trans e2).trans e3).trans e4).trans e5
    refine s_retD (K := K) (d := .tup (frs (plyQ s (ops L s.length)))) (ed_tuple (EvN.is (en_lc1 (n := s.length) (item := fun i => .int ((play t (ops L t.length)).getD i 0)) (fun _ => true) (fun i => fr ((plyQ s (ops L s.length)).getD i 0)) (fun H6 e6 => EvI.item (EvI.is (ei_list (es_new (en_call (es := iL (play t (ops L t.length))) (ea1 (ed_fld (ed_var rfl (a1.ex (E5.trans e6))) T.c_Program T.n_Program_rounds rfl) (ea1 (ed_var rfl (.lst (.inl (e6 _ _ hxt)) (axt.ex e6))) ea0)) ⟨L, t, ho, hL, by omega, by omega, rfl, rfl⟩) (fun l hl => nomatch hl)) (iLlf _)) (by rw [iLlen, play_len, tl])) ?_) (by omega) (fun _ _ _ => rfl) (fun x => rfl) (fun i x H6 _ _ _ => et_yes) (fun i x H6 hi e6 ax _ => ?_)) ?_).toD) fun v H6 e6 i6 => q _ _ (E5.trans e6) i6
    · intro i hi
      have h : i < (play t (ops L t.length)).length := by rw [play_len, tl]; exact hi
      rw [show (iL (play t (ops L t.length))).getD i .non = .int (play t (ops L t.length))[i] from getD_map _ _ _ h, getD_in h]
    · have hl2 : i < (play t (ops L s.length)).length := by rw [play_len, tl]; exact hi
      have hb : cmb s * 2 ^ hvs L s.length < 2 ^ 2288 := by
        have h1 : 2 ^ hvs L s.length ≤ 2 ^ 288 := Nat.pow_le_pow_right (by decide) (by omega)
        calc cmb s * 2 ^ hvs L s.length < 2 ^ 2000 * 2 ^ hvs L s.length := Nat.mul_lt_mul_of_pos_right Bl (Nat.two_pow_pos _)
          _ ≤ 2 ^ 2000 * 2 ^ 288 := Nat.mul_le_mul_left _ h1
          _ = 2 ^ 2288 := by rw [← Nat.pow_add]
      have e : (plyQ s (ops L s.length)).getD i 0 = mkRat ((play t (ops L t.length)).getD i 0) (cmb s * 2 ^ hvs L s.length) := by
        rw [← res, tl, getD_in (by rw [List.length_map]; exact hl2), List.getElem_map, getD_in hl2]
      rw [e]
      refine ed_call (ea1 (ed_var rfl ax) (ea1 (K := K) (d := .int ((cmb s * 2 ^ hvs L s.length : Nat) : Int)) (EvD.is (ed_shl (ed_var rfl (.int _)) (ed_var rfl (.int _)) (shl_ok (n := 2000) (by rw [Int.natAbs_natCast]; exact Bl) (by omega))) ?_) ea0)) ⟨_, _, rfl, Nat.mul_pos b0 (Nat.two_pow_pos _), pow_lt (by decide) hb, rfl⟩
      rw [Int.natCast_mul, Int.natCast_pow]
      rfl
    · rw [gives_all]
      exact frs_range _ (by rw [plyQ_len])
def R_badDone (ds : List D) (r : Rz) : Prop := ∃ L b, ds = [progD L, b] ∧ R_badV [b] r
theorem ok_Program_done_X (T : Txt K mg) : FnG P w K mg base 5 (He.ma K (He.ga K "Program") "done") ["self", "volumes"] (spZ K R_badDone) := by
  refine fnX (N := ["self", "volumes", "told", "bottom", "often", "tops", "volume", "top", "under"]) (st := s_Program_done) T.f_Program_done sc_Program_done (fun vs H Q E h => ?_) (fun _ _ _ _ _ _ us hl => match us, hl with | [_, _], _ => rfl) (fun cdv A outer s H vs Q E hr h => ⟨_, (pss_cons (ps_expr (pe_callSG (ok_check_told_XL T) (hr.mono (by decide)) (by rfl) T.m_check_told (takes_of rfl rfl rfl rfl) (pa_cons (pv 1) pa_nil))) (pss_cons (ps_setLc (i := 2) (own := [("volume", 6)]) rfl sc_Program_done.nd rfl rfl (sw_true rfl rfl rfl (by decide +kernel)) (pi_list (pv 1)) (blkOk_by (own := [("volume", 6)]) (N := ["self", "volumes", "told", "bottom", "often", "tops", "volume", "top", "under"]) (sc := defScope s_Program_done) (by decide +kernel)) (fun _ _ _ _ _ => (pg_name (i := 6) sc_Program_done.nd rfl (.inl rfl))) (fun _ _ _ _ _ => pts_nil) (fun _ _ _ _ _ => (pe_callG (ok_exact T) (hr.mono (by decide)) (by rfl) T.m_exact (pa_cons (pv 6) pa_nil)))) (pss_cons (ps_asg (pe_callG (ok_common_bottom T) (hr.mono (by decide)) (by rfl) T.m_common_bottom (pa_cons (pv 2) pa_nil)) (pg_name (i := 3) sc_Program_done.nd rfl (.inr rfl))) (pss_cons (ps_asg (pe_callG (ok_halvings T) (hr.mono (by decide)) (by rfl) T.m_halvings (pa_cons (pe_fld (pv 0) rfl) (pa_cons (pe_callB call_lenS (by rfl) T.z_len PySem.boot_len (pa_cons (pv 2) pa_nil)) pa_nil))) (pg_name (i := 4) sc_Program_done.nd rfl (.inr rfl))) (pss_cons (ps_setLc (i := 5) (own := [("top", 7), ("under", 8)]) rfl sc_Program_done.nd rfl rfl (sw_true rfl rfl rfl (by decide +kernel)) (pi_list (pv 2)) (blkOk_by (own := [("top", 7), ("under", 8)]) (N := ["self", "volumes", "told", "bottom", "often", "tops", "volume", "top", "under"]) (sc := defScope s_Program_done) (by decide +kernel)) (fun _ _ _ _ _ => (tupK (K := K) (n := 2) rfl rfl (pgs_cons (pg_name (i := 7) sc_Program_done.nd rfl (.inl rfl)) (pgs_cons (pg_name (i := 8) sc_Program_done.nd rfl (.inl rfl)) pgs_nil)))) (fun _ _ _ _ _ => pts_nil) (fun _ _ _ _ _ => (pe_op op_shlW (pe_op op_mulW (pv 7) (pe_op op_fdivW (pv 3) (pv 8))) (pv 4)))) (pss_one (ps_ret (pe_callTy call_tupS (by rfl) T.z_tuple (by decide +kernel) (pa_cons (pe_lc (own := [("top", 7)]) rfl sc_Program_done.nd (pi_list (pe_callG (ok_evened T) (hr.mono (by decide)) (by rfl) T.m_evened (pa_cons (pe_fld (pv 0) rfl) (pa_cons (pv 5) pa_nil)))) (blkOk_by (own := [("top", 7)]) (N := ["self", "volumes", "told", "bottom", "often", "tops", "volume", "top", "under"]) (sc := defScope s_Program_done) (by decide +kernel)) (fun _ _ _ _ _ => (pg_name (i := 7) sc_Program_done.nd rfl (.inl rfl))) (fun _ _ _ _ _ => pts_nil) (fun _ _ _ _ _ => (pe_callG (ok_reduced T) (hr.mono (by decide)) (by rfl) T.m_reduced (pa_cons (pv 7) (pa_cons (pe_op op_shlW (pv 3) (pv 4)) pa_nil))))) pa_nil))))))))), ?_⟩)
  · obtain ⟨ds, r, a, ⟨L, b, rfl, _⟩, _⟩ := h
    exact a.len
  · obtain ⟨ds, r, a, ⟨L, b, rfl, hb⟩, q⟩ := h
    obtain ⟨u, u', rfl, a1, a2⟩ := All.inv2 a
    try dsimp only [cxOf, Cx.nox, Cx.wish]
    exact q_doX (ex_callZ (K := K) (ea1 (ed_var rfl a2) ea0) hb q)

end
end My
end
section
set_option Elab.async false
set_option linter.all false
set_option maxRecDepth 100000
set_option maxHeartbeats 4000000
namespace My
open PySem PySem.Spec PyProof.Rows L2 Evl WD
local macro_rules | `(tactic| walk_at "exgo") => `(tactic| first | exact Ex.refl _ | assumption | (refine' Ex.trans ?ea ?eb; (case eb => assumption); (case ea => walk_at "exgo")))
local macro_rules | `(tactic| walk_at "is") => `(tactic| first | assumption | (refine' Is.ex ?e ?h; (case h => assumption); (case e => walk_at "exgo")) | exact Is.int _ | exact Is.bl _ | exact Is.non)
local macro_rules | `(tactic| walk_at "ev") => `(tactic| first
  | exact ed_int | exact ed_bl | exact ed_non | exact ed_str
  | ((with_reducible apply ed_var) <;> first | exact rfl | walk_at "is")
  | ((with_reducible apply ed_add) <;> walk_at "ev")
  | ((with_reducible apply ed_sub) <;> walk_at "ev")
  | ((with_reducible apply ed_neg) <;> walk_at "ev")
  | ((with_reducible apply ed_mulW) <;> try walk_at "ev")
  | ((with_reducible apply ed_divW) <;> try walk_at "ev")
  | ((with_reducible apply ed_mod) <;> try walk_at "ev")
  | ((with_reducible apply ed_ixT) <;> first | exact rfl | walk_at "ev" | skip)
  | ((with_reducible apply ed_ixL) <;> first | exact rfl | walk_at "ev" | skip)
  | ((with_reducible apply ed_lt) <;> walk_at "ev")
  | ((with_reducible apply ed_le) <;> walk_at "ev")
  | ((with_reducible apply ed_gt) <;> walk_at "ev")
  | ((with_reducible apply ed_ge) <;> walk_at "ev")
  | ((with_reducible apply ed_eqI) <;> walk_at "ev")
  | ((with_reducible apply ed_neI) <;> walk_at "ev")
  | ((with_reducible apply ed_gcd) <;> walk_at "ev")
  | ((with_reducible apply ed_abs) <;> walk_at "ev")
  | ((with_reducible apply ed_intI) <;> walk_at "ev")
  | ((with_reducible apply ed_intB) <;> walk_at "ev")
  | ((with_reducible apply ed_max2) <;> walk_at "ev")
  | ((with_reducible apply ed_min2) <;> walk_at "ev")
  | ((with_reducible apply ed_lenT) <;> walk_at "ev")
  | ((with_reducible apply ed_lenL) <;> walk_at "ev")
  | ((with_reducible apply ed_tuple) <;> walk_at "ev")
  | ((with_reducible apply ed_tupleT) <;> walk_at "ev")
  | ((with_reducible apply ed_tup) <;> first | walk_at "ea" | (simp; done) | skip)
  | ((with_reducible apply et_t) <;> walk_at "ev")
  | ((with_reducible apply et_v) <;> walk_at "ev"))
local macro_rules | `(tactic| walk_at "ea") => `(tactic| first
  | exact ea0
  | ((with_reducible apply ea1) <;> first | walk_at "ev" | walk_at "ea" | skip))

section
variable {P : Program} {w : World} {K : PySem.W.Frag} {mg : Str → Option Value} {base : Heap}
def R_with_volumes_L (ds : List D) (d : D) : Prop := ∃ A v v' L, ds = [rowD A v L, .lst (frs v')] ∧ d = rowD A v' L
theorem ok_with_volumes_L (T : Txt K mg) : FnG P w K mg base 7 (He.ga K "with_volumes") ["row", "volumes"] (spD K R_with_volumes_L) := by
  refine fnG (N := ["row", "volumes", "late"]) (st := s_with_volumes) T.f_with_volumes sc_with_volumes (fun vs H Q E h => ?_) (fun _ _ _ _ _ _ us hl => match us, hl with | [_, _], _ => rfl) (fun cdv A outer s H vs Q E hr h => ⟨_, (pss_cons (ps_asg (pe_makeH T.k_Row (ok_Row___init___T T) (hr.mono (by decide)) (by rfl) T.m_Row (pa_cons (pe_tup (pa_cons pe_int pa_nil)) (pa_cons (pe_tup (pa_cons pe_int pa_nil)) pa_nil))) (pg_name (i := 2) sc_with_volumes.nd rfl (.inl rfl))) (pss_cons (ps_fld (pv 2) (pe_fld (pv 0) rfl) rfl) (pss_cons (ps_fld (pv 2) (pe_callTy call_tupS (by rfl) T.z_tuple (by decide +kernel) (pa_cons (pv 1) pa_nil)) rfl) (pss_cons (ps_fld (pv 2) (pe_fld (pv 0) rfl) rfl) (pss_one (ps_ret (pv 2))))))), ?_⟩)
  · obtain ⟨ds, d, a, ⟨A, v, v', L, rfl, _⟩, _⟩ := h
    exact a.len
  · obtain ⟨ds, d, a, ⟨A, v, v', L, rfl, rfl⟩, q⟩ := h
    obtain ⟨u, u', rfl, a1, a2⟩ := All.inv2 a
    try dsimp only [cxOf, Cx.nox, Cx.wish]
    refine q_asgO (K := K) (eo_make (es := [.tup (iL [])]) (ea1 (ed_tup (ea1 ed_int ea0) (by show 1 ≤ 100000; decide)) (ea1 (ed_tup (ea1 ed_int ea0) (by show 1 ≤ 100000; decide)) ea0)) (fun H => .cons (.tup (tupA_ok T.t_Row___init___0 H) .nil) .nil)
      ⟨[1], [], [.i 0], rfl, by decide, by decide, by decide, rfl, fun t h => ?_, (fun l h => nomatch h), by decide, rfl⟩) fun x dx fvs H1 nx e1 hx af => ?_
    · cases List.mem_singleton.mp h
      exact ⟨Int.le_refl _, Nat.two_pow_pos _⟩
    · obtain ⟨x1, x2, x3, rfl⟩ := row_fvs af
      refine q_fld hx (ed_fld (ed_var rfl (a1.ex e1)) T.c_Row T.n_Row_areas rfl) (ev_ref rfl) T.c_Row T.n_Row_areas (by show 3 < 1000; decide) fun w1 H2 e2 i1 => ?_
      have E1 : Ex H (upd H2 x (.ins (He.ga K "Row") dx (putF "areas" w1 [("areas", x1), ("volumes", x2), ("locks", x3)]))) := Ex.updN (e1.trans e2) nx
      refine q_fld upd_same (ed_tuple (ed_var rfl (a2.ex E1))) (ev_ref rfl) T.c_Row T.n_Row_volumes (by show 3 < 1000; decide) fun w2 H3 e3 i2 => ?_
      have E2 : Ex H (upd H3 x (.ins (He.ga K "Row") dx (putF "volumes" w2 (putF "areas" w1 [("areas", x1), ("volumes", x2), ("locks", x3)])))) := Ex.updN (E1.trans e3) nx
      refine q_fld upd_same (ed_fld (ed_var rfl (a1.ex E2)) T.c_Row T.n_Row_locks rfl) (ev_ref rfl) T.c_Row T.n_Row_locks (by show 3 < 1000; decide) fun w3 H4 e4 i3 => ?_
      have E3 := Ex.updN (o := .ins (He.ga K "Row") dx (putF "locks" w3 (putF "volumes" w2 (putF "areas" w1 [("areas", x1), ("volumes", x2), ("locks", x3)])))) (E2.trans e4) nx
      refine ⟨_, rfl, q _ _ E3 (.obj upd_same (.cons (i1.gt ((((gtI (e2 _ _ hx)).trans (Gt.of e3)).trans (gtI (e3 _ _ upd_same))).trans ((Gt.of e4).trans (gtI (e4 _ _ upd_same)))) (iLlf A)) (.cons (i2.gt ((gtI (e3 _ _ upd_same)).trans ((Gt.of e4).trans (gtI (e4 _ _ upd_same)))) (frs_lf _)) (.cons (i3.gt (gtI (e4 _ _ upd_same)) (iLlf _)) .nil))))⟩
theorem LineAt.mu1 {H H' : Hp} {D : Addr} {H0 : Hp} {x p r : Addr} {A : List Int} {B : Nat} {s : List Rat} (h : LineAt K H x p r A B s) (m : Mu [D] H H') (hD : H0 D = none) (h0 : LineAt K H0 x p r A B s) : LineAt K H' x p r A B s := by
  refine h.mu m fun l hl => ?_
  rw [List.mem_singleton.mp hl]
  obtain ⟨ts, bs, dx, va, z⟩ := h0
  exact ⟨fun z2 => by (rw [z2, z.ob] at hD; cases hD), fun z2 => by (rw [z2, z.tp] at hD; cases hD), fun z2 => by (rw [z2, z.bp] at hD; cases hD)⟩
def dfs (s : List Rat) : List Rat := (List.range (s.length - 1)).map fun j => s.getD (j + 1) 0 - s.getD j 0
def sp_water (K : PySem.W.Frag) : Sp := fun vs H Q _ => ∃ x p r A B s, vs = [.ref x] ∧ LineAt K H x p r A B s ∧ LineOk A B s ∧ ∀ l xs H', H l = none → Mu [p, r] H H' → LineAt K H' x p r A B s → H' l = some (.lst xs) → All K H' xs (frs (dfs s)) → Q (.ref l) H'
theorem ok_Line_water (T : Txt K mg) : FnG P w K mg base 3 (He.ma K (He.ga K "Line") "water") ["self"] (sp_water K) := by
  refine fnG (N := ["self", "basin"]) (st := s_Line_water) T.f_Line_water sc_Line_water (fun vs H Q E h => ?_) (fun _ _ _ _ _ _ us hl => match us, hl with | [_], _ => rfl) (fun cdv A outer s H vs Q E hr h => ⟨_, (pss_one (ps_ret (pe_lc (own := [("basin", 1)]) rfl sc_Line_water.nd (pi_range1 (by rfl) T.z_range (pa_cons (pe_callB call_lenS (by rfl) T.z_len PySem.boot_len (pa_cons (pe_fld (pv 0) rfl) pa_nil)) pa_nil)) (blkOk_by (own := [("basin", 1)]) (N := ["self", "basin"]) (sc := defScope s_Line_water) (by decide +kernel)) (fun _ _ _ _ _ => (pg_name (i := 1) sc_Line_water.nd rfl (.inl rfl))) (fun _ _ _ _ _ => pts_nil) (fun _ _ _ _ _ => (pe_callG (ok_reduced T) (hr.mono (by decide)) (by rfl) T.m_reduced (pa_cons (pe_methG (pv 0) T.c_Line T.x_Line_inside (ok_Line_inside T) (hr.mono (by decide)) (pa_cons (pv 1) pa_nil)) (pa_cons (fldK (K := K) rfl (pv 0) (by rfl)) pa_nil))))))), ?_⟩)
  · obtain ⟨x, p, r, A, B, s, rfl, _⟩ := h
    rfl
  · obtain ⟨x, p, r, A, B, s, rfl, h, ok, q⟩ := h
    try dsimp only [cxOf, Cx.nox, Cx.wish]
    have hA := ok.al
    have hsl := ok.len
    refine en_lcM (K := K) (L := [p, r]) (n := ((A.length : Int)).toNat) (item := fun i => .int (i : Int)) (fun _ H' => LineAt K H' x p r A B s) (fun _ => true) (fun i => fr (s.getD (i + 1) 0 - s.getD i 0)) (ei_r1 (ea1 (EvD.is (ed_lenT (K := K) (h.areas T (ev_ref rfl))) (by rw [iLlen])) ea0) (by omega)) ?_ (by omega) (fun _ _ _ => rfl) (fun i D Ha Hb hD l m => l.mu1 m hD h) h ?_ ?_
    · obtain ⟨ts, bs, dx, va, z⟩ := h
      intro l hl
      rcases List.mem_cons.mp hl with hl | hl
      · exact ⟨_, hl ▸ z.tp⟩
      · exact ⟨_, (List.mem_singleton.mp hl) ▸ z.bp⟩
    · intro i u H1 hi l m a Y N hY hN
      cases a
      refine ⟨rfl, ?_⟩
      have i1 : i + 1 < s.length := by omega
      refine em_inside (j := i) l ok i1 (ev_ref rfl) (ea1 (ed_var rfl (.int _)) ea0) fun t H2 m2 l2 e2 => ?_
      obtain ⟨ts, bs, dx, va, z⟩ := id l2
      refine ed_fldX (K := K) (ev_ref rfl) z.ob T.c_Line T.n_Line_bottom rfl (.int _) H2 (Ex.refl H2) _ fun v H3 e3 a3 => ?_
      cases a3
      refine ⟨[.int t, .int (B : Int)], _, .cons (.int _) (.cons (.int _) .nil), ⟨t, B, rfl, ok.b0, pow_lt (by decide) ok.bs, rfl⟩, fun v2 H4 e4 a4 => hY v2 H4 rfl ?_ (l2.ex (e3.trans e4)) (m2.trans (Mu.ex (e3.trans e4)))⟩
      have e : mkRat t B = s.getD (i + 1) 0 - s.getD i 0 := by
        refine mk_of (Nat.ne_of_gt ok.b0) ?_
        rw [getD_in i1, getD_in (by omega)]
        exact e2
      rw [← e]
      exact a4
    · intro l xs H' hl m l' hx ax
      rw [gives_all] at ax
      refine q l xs H' hl m l' hx ?_
      unfold dfs WD.frs
      rw [List.map_map, hsl, show A.length + 1 - 1 = ((A.length : Int)).toNat from by omega]
      exact ax
theorem em_water {te : TE} {E : XK} {Q : VK} {σ : L2.St} {H : Hp} {x p r : Addr} {A : List Int} {B : Nat} {s : List Rat} (h : LineAt K H x p r A B s) (ok : LineOk A B s) (ho : Ev te σ H (.ref x))
    (k : ∀ l xs H', H l = none → Mu [p, r] H H' → H' l = some (.lst xs) → All K H' xs (frs (dfs s)) → Q (.ref l) H') : tMeth (He.ga K "Line") "water" (sp_water K) [] E te tNil σ H Q := by
  obtain ⟨ts, bs, dx, va, l⟩ := id h
  refine em_meth (K := K) ho l.ob rfl ea0 fun vs H1 e1 a => ?_
  cases a
  exact ⟨x, p, r, A, B, s, rfl, h.ex e1, ok, fun l xs H' hl m l' hx ax => k l xs H' (fresh_back e1 hl) ((Mu.ex e1).trans m) hx ax⟩
def R_behind (ds : List D) (d : D) : Prop := ∃ A v L M W O, ds = [rowD A v L, .lst (iL O)] ∧ RowOk A v M W ∧ O.length ≤ 100 ∧ (∀ o ∈ O, inR A L o = true) ∧ d = rowD A (dfs (lns A v O O.length)) L
theorem ok_behind (T : Txt K mg) : FnG P w K mg base 8 (He.ga K "behind") ["row", "order"] (spD K R_behind) := by
  refine fnG (N := ["row", "order", "openings", "line", "weir"]) (st := s_behind) T.f_behind sc_behind (fun vs H Q E h => ?_) (fun _ _ _ _ _ _ us hl => match us, hl with | [_, _], _ => rfl) (fun cdv A outer s H vs Q E hr h => ⟨_, (pss_cons (ps_expr (pe_callG (ok_check_row T) (hr.mono (by decide)) (by rfl) T.m_check_row (pa_cons (pv 0) pa_nil))) (pss_cons (ps_asg (pe_callG (ok_check_order T) (hr.mono (by decide)) (by rfl) T.m_check_order (pa_cons (pv 0) (pa_cons (pv 1) pa_nil))) (pg_name (i := 2) sc_behind.nd rfl (.inl rfl))) (pss_cons (ps_asg (pe_callG (ok_line_of T) (hr.mono (by decide)) (by rfl) T.m_line_of (pa_cons (pv 0) pa_nil)) (pg_name (i := 3) sc_behind.nd rfl (.inl rfl))) (pss_cons (ps_for PassesOwn.never rfl (pi_list (pv 2)) (pg_name (i := 4) sc_behind.nd rfl (.inl rfl)) (pss_one (ps_expr (pe_methG (pv 3) T.c_Line T.x_Line_even (ok_Line_even T) (hr.mono (by decide)) (pa_cons (pv 4) pa_nil))))) (pss_one (ps_ret (pe_callG (ok_with_volumes_L T) (hr.mono (by decide)) (by rfl) T.m_with_volumes (pa_cons (pv 0) (pa_cons (pe_methG0 (pv 3) T.c_Line T.x_Line_water (ok_Line_water T) (hr.mono (by decide))) pa_nil))))))))), ?_⟩)
  · obtain ⟨ds, d, a, ⟨A, v, L, M, W, O, rfl, _⟩, _⟩ := h
    exact a.len
  · obtain ⟨ds, d, a, ⟨A, v, L, M, W, O, rfl, ok, hO, hin, rfl⟩, q⟩ := h
    obtain ⟨u, u', rfl, a1, a2⟩ := All.inv2 a
    try dsimp only [cxOf, Cx.nox, Cx.wish]
    refine q_do (ed_call (d := .non) (ea1 (ed_var rfl a1) ea0) ⟨_, rfl, rfl⟩) fun H1 e1 => ?_
    refine q_asgN (K := K) (en_call (ea1 (ed_var rfl (a1.ex e1)) (ea1 (ed_var rfl (a2.ex e1)) ea0)) ⟨A, v, L, O, rfl, by omega, hin, rfl⟩) fun po xo H2 hpo e2 hxo axo => ?_
    have vo : Is K H2 (.ref po) (.lst (iL O)) := .lst (.inl hxo) axo
    refine em_line_of (ed_var rfl (a1.ex (e1.trans e2))) ok fun x p r B0 H3 hx hp hr e3 l3 lo3 b3 => ?_
    have E3 := (e1.trans e2).trans e3
    have fr2 : ∀ y ∈ [x, p, r], H2 y = none := fun y hy => by
      simp only [List.mem_cons, List.mem_nil_iff, or_false] at hy
      rcases hy with rfl | rfl | rfl <;> assumption
    have B0l : B0 < 2 ^ (400 + 11 * 0) := Nat.lt_of_le_of_lt (Nat.le_of_dvd ok.m0 b3) ok.m1
    refine q_for (K := K) (L := [x, p, r]) (n := O.length) (item := fun i => (iL O).getD i .non) (EvI.is (ei_list (es_var rfl vo e3 fr2) (iLlf O)) (iLlen O))
      (fun i σ' H' => ∃ y B, σ' = [some u, some u', some (.ref po), some (.ref x), y] ∧ Ex H2 H' ∧ LineAt K H' x p r A B (lns A v O i) ∧ LineOk A B (lns A v O i) ∧ B < 2 ^ (400 + 11 * i))
      (fun H6 e6 => ⟨none, B0, rfl, e3.trans e6, l3.ex e6, lo3, B0l⟩) ?_ ?_
    · rintro i z σ' H6 H7 hi ⟨y, B, rfl, E6, l6, lo6, b6⟩ e7 az
      rw [show (iL O).getD i .non = .int O[i] from getD_map _ _ _ hi] at az
      have hio := hin _ (List.getElem_mem hi)
      rw [lns_succ A v O i hi]
      generalize hs : lns A v O i = s at l6 lo6 ⊢
      have sl := lo6.len
      generalize O[i] = o at az hio ⊢
      unfold inR at hio
      rw [Bool.and_eq_true, Bool.and_eq_true, decide_eq_true_iff, decide_eq_true_iff] at hio
      obtain ⟨j, rfl⟩ : ∃ j : Nat, o = (j : Int) := ⟨o.toNat, by omega⟩
      have j1 : 1 ≤ j := by omega
      have j2 : j < A.length := by omega
      rw [Int.toNat_natCast]
      cases az
      have ha := ok.ar _ (gd_mem (z := 1) (show j - 1 < A.length by omega))
      have hb := ok.ar _ (gd_mem (z := 1) j2)
      refine g_name ?_
      refine em_even (j := j) (l6.ex e7) lo6 j1 j2 (ev_ref rfl) (ea1 (ed_var rfl (.int _)) ea0) fun B' H8 m8 l8 b0' bd bd' => ?_
      have bl : B' < 2 ^ (400 + 11 * (i + 1)) := by
        have h1 := Nat.le_of_dvd (Nat.mul_pos lo6.b0 (by omega)) bd'
        have h2 : B * (A.getD (j - 1) 1 + A.getD j 1).toNat ≤ B * 2 ^ 11 := Nat.mul_le_mul_left _ (by omega)
        have h3 : B * 2 ^ 11 < 2 ^ (400 + 11 * i) * 2 ^ 11 := Nat.mul_lt_mul_of_pos_right b6 (by decide)
        rw [← Nat.pow_add] at h3
        rw [show 400 + 11 * (i + 1) = 400 + 11 * i + 11 from by omega]
        omega
      have lo8 : LineOk A B' (evn A s j) := lo6.evn j1 j2 b0' (Nat.lt_of_lt_of_le bl (Nat.pow_le_pow_right (by decide) (by omega)))
      exact ⟨⟨_, B', rfl, Mu.of_ex (E6.trans e7) m8 fr2, l8, lo8, bl⟩, (Mu.ex e7).trans m8⟩
    · rintro σ' H6 ⟨y, B, rfl, E6, l6, lo6, b6⟩
      refine ⟨_, rfl, ?_⟩
      refine em_water l6 lo6 (ev_ref rfl) fun l xs H7 hl m7 hx7 ax7 => ?_
      have E7 : Ex H2 H7 := Mu.of_ex E6 m7 fun y hy => fr2 y (List.mem_cons_of_mem _ hy)
      have E8 := (e1.trans e2).trans E7
      exact ⟨[rowD A v L, .lst (frs (dfs (lns A v O O.length)))], _, .cons (a1.ex E8) (.cons (.lst (.inl hx7) ax7) .nil), ⟨A, v, _, L, rfl, rfl⟩, fun w H8 e8 a8 => q w H8 (E8.trans e8) a8⟩

end
end My
end
section
set_option Elab.async false
set_option linter.all false
set_option maxRecDepth 100000
set_option maxHeartbeats 4000000
namespace My
open PySem PySem.Spec PyProof.Rows L2 Evl WD
local macro_rules | `(tactic| walk_at "exgo") => `(tactic| first | exact Ex.refl _ | assumption | (refine' Ex.trans ?ea ?eb; (case eb => assumption); (case ea => walk_at "exgo")))
local macro_rules | `(tactic| walk_at "is") => `(tactic| first | assumption | (refine' Is.ex ?e ?h; (case h => assumption); (case e => walk_at "exgo")) | exact Is.int _ | exact Is.bl _ | exact Is.non)
local macro_rules | `(tactic| walk_at "ev") => `(tactic| first
  | exact ed_int | exact ed_bl | exact ed_non | exact ed_str
  | ((with_reducible apply ed_var) <;> first | exact rfl | walk_at "is")
  | ((with_reducible apply ed_add) <;> walk_at "ev")
  | ((with_reducible apply ed_sub) <;> walk_at "ev")
  | ((with_reducible apply ed_neg) <;> walk_at "ev")
  | ((with_reducible apply ed_mulW) <;> try walk_at "ev")
  | ((with_reducible apply ed_divW) <;> try walk_at "ev")
  | ((with_reducible apply ed_mod) <;> try walk_at "ev")
  | ((with_reducible apply ed_ixT) <;> first | exact rfl | walk_at "ev" | skip)
  | ((with_reducible apply ed_ixL) <;> first | exact rfl | walk_at "ev" | skip)
  | ((with_reducible apply ed_lt) <;> walk_at "ev")
  | ((with_reducible apply ed_le) <;> walk_at "ev")
  | ((with_reducible apply ed_gt) <;> walk_at "ev")
  | ((with_reducible apply ed_ge) <;> walk_at "ev")
  | ((with_reducible apply ed_eqI) <;> walk_at "ev")
  | ((with_reducible apply ed_neI) <;> walk_at "ev")
  | ((with_reducible apply ed_gcd) <;> walk_at "ev")
  | ((with_reducible apply ed_abs) <;> walk_at "ev")
  | ((with_reducible apply ed_intI) <;> walk_at "ev")
  | ((with_reducible apply ed_intB) <;> walk_at "ev")
  | ((with_reducible apply ed_max2) <;> walk_at "ev")
  | ((with_reducible apply ed_min2) <;> walk_at "ev")
  | ((with_reducible apply ed_lenT) <;> walk_at "ev")
  | ((with_reducible apply ed_lenL) <;> walk_at "ev")
  | ((with_reducible apply ed_tuple) <;> walk_at "ev")
  | ((with_reducible apply ed_tupleT) <;> walk_at "ev")
  | ((with_reducible apply ed_tup) <;> first | walk_at "ea" | (simp; done) | skip)
  | ((with_reducible apply et_t) <;> walk_at "ev")
  | ((with_reducible apply et_v) <;> walk_at "ev"))
local macro_rules | `(tactic| walk_at "ea") => `(tactic| first
  | exact ea0
  | ((with_reducible apply ea1) <;> first | walk_at "ev" | walk_at "ea" | skip))

section
variable {P : Program} {w : World} {K : PySem.W.Frag} {mg : Str → Option Value} {base : Heap}
theorem pys_iL : ∀ ns : List Int, D.pys (iL ns) = ns.map .int
  | [] => rfl
  | n :: ns => congrArg _ (pys_iL ns)
theorem fls_iL : ∀ ns : List Int, D.fls (iL ns) = true
  | [] => rfl
  | n :: ns => fls_iL ns
theorem eqvs_int : ∀ a b : List Int, PyData.eqv (.list (a.map .int)) (.list (b.map .int)) = decide (a = b)
  | [], [] => by simp [PyData.eqv, PyData.eqvAll]
  | [], _ :: _ => by simp [PyData.eqv, PyData.eqvAll]
  | _ :: _, [] => by simp [PyData.eqv, PyData.eqvAll]
  | x :: a, y :: b => by
    have h := eqvs_int a b
    simp only [PyData.eqv] at h
    simp [PyData.eqv, PyData.eqvAll, h]
    rw [Bool.eq_iff_iff]
    simp
theorem lay_iL : ∀ ns : List Int, PyData.canLayAll0 (ns.map PyData.int) = true
  | [] => by simp [PyData.canLayAll0]
  | n :: ns => by
    have := lay_iL ns
    simp [PyData.canLayAll0, PyData.canLay0, this]
theorem dep_iL : ∀ ns : List Int, PyData.depthAll (ns.map PyData.int) ≤ 1
  | [] => by simp [PyData.depthAll]
  | n :: ns => by
    have := dep_iL ns
    simp [PyData.depthAll, PyData.depth] at this ⊢
    omega
theorem sh_iL (ns : List Int) : Sh (.lst (iL ns)) := ⟨fls_iL ns, by
  show SeqAt.shaped (.list (D.pys (iL ns))) = true
  rw [pys_iL]
  unfold SeqAt.shaped
  have h1 := lay_iL ns
  have h2 := dep_iL ns
  simp [PyData.canLay0, PyData.depth, h1]
  omega⟩
theorem eqv_iL (a b : List Int) : PyData.eqv (D.lst (iL a)).py (D.lst (iL b)).py = decide (a = b) := by
  show PyData.eqv (.list (D.pys (iL a))) (.list (D.pys (iL b))) = _
  rw [pys_iL, pys_iL, eqvs_int]
/-! ### the law's own draws -/
def dvs (c : Int) : Nat → Int
  | 0 => c
  | n + 1 => dvs c n / 97
def drw (sc : List Int) (a m : Int) : Int :=
  let row := if sc = [] then [7] else sc.take 60
  let cell := row.getD (a % (row.length : Int)).toNat 0
  let turn := a / (row.length : Int)
  if cell ≥ 10 ^ 18 then dvs (cell % 97 ^ 40) (turn % 40).toNat % 97 % m
  else ((((cell + 31 * turn) % 1000003 + 977 * a + 13) * 48271 + (cell / 1000003) % 999983) % 2147483647 * 65537 % 4294967291) % m
theorem drw_ok (sc : List Int) (a : Int) {m : Int} (hm : 0 < m) : 0 ≤ drw sc a m ∧ drw sc a m < m := by
  have h : ∃ x, drw sc a m = x % m := by
    unfold drw
    dsimp only
    generalize (if sc = [] then [7] else sc.take 60) = row
    generalize row.getD (a % (row.length : Int)).toNat 0 = cell
    by_cases c : cell ≥ 10 ^ 18
    · rw [if_pos c]
      exact ⟨_, rfl⟩
    · rw [if_neg c]
      exact ⟨_, rfl⟩
  obtain ⟨x, hx⟩ := h
  rw [hx]
  exact ⟨Int.emod_nonneg _ (by omega), Int.emod_lt_of_pos _ hm⟩
def R__law_draw (ds : List D) (d : D) : Prop := ∃ (sc : List Int) (a m : Int), ds = [.lst (iL sc), .int a, .int m] ∧ sc.length ≤ 63 ∧ 0 ≤ a ∧ a ≤ 10000 ∧ 0 < m ∧ d = .int (drw sc a m)
theorem ok__law_draw (T : Txt K mg) : FnG P w K mg base 1 (He.ga K "_law_draw") ["script", "at", "many"] (spD K R__law_draw) := by
  refine fnG (N := ["script", "at", "many", "row", "cell", "turn", "step", "mixed"]) (st := s__law_draw) T.f__law_draw sc__law_draw (fun vs H Q E h => ?_) (fun _ _ _ _ _ _ us hl => match us, hl with | [_, _, _], _ => rfl) (fun cdv A outer s H vs Q E hr h => ⟨_, (pss_cons (ps_asg (pe_ifExp (pt_cmpR (op_neD (hr.units)) (pv 0) (pe_lst pa_nil) (nomark _)) (pe_slice sl_list (pv 0) po_none (po_some pe_int)) (pe_lst (pa_cons pe_int pa_nil))) (pg_name (i := 3) sc__law_draw.nd rfl (.inl rfl))) (pss_cons (ps_par (i := 4) (j := 5) (by rfl) sc__law_draw.nd rfl rfl (by decide) rfl rfl (pa_cons (pe_ix ix_list (pv 3) (pe_op op_mod (pv 1) (pe_callB call_lenS (by rfl) T.z_len PySem.boot_len (pa_cons (pv 3) pa_nil))) (fun _ _ => rfl)) (pa_cons (pe_op op_fdivW (pv 1) (pe_callB call_lenS (by rfl) T.z_len PySem.boot_len (pa_cons (pv 3) pa_nil))) pa_nil)) (by rfl)) (pss_cons (ps_if (pt_cmpR op_ge (pv 4) (pe_op op_pow pe_int pe_int) (nomark _)) (pss_cons (ps_asg (pe_op op_mod (pe_callTy call_intS (by rfl) T.z_int (by decide +kernel) (pa_cons (pv 4) pa_nil)) (pe_op op_pow pe_int pe_int)) (pg_name (i := 4) sc__law_draw.nd rfl (.inl rfl))) (pss_cons (ps_for PassesOwn.never rfl (pi_range1 (by rfl) T.z_range (pa_cons (pe_op op_mod (pv 5) pe_int) pa_nil)) (pg_name (i := 6) sc__law_draw.nd rfl (.inl rfl)) (pss_one (ps_asg (pe_op op_fdivW (pv 4) pe_int) (pg_name (i := 4) sc__law_draw.nd rfl (.inl rfl))))) (pss_one (ps_ret (pe_op op_mod (pe_op op_mod (pe_callTy call_intS (by rfl) T.z_int (by decide +kernel) (pa_cons (pv 4) pa_nil)) pe_int) (pv 2)))))) pss_nil) (pss_cons (ps_asg (pe_op op_add (pe_op op_mulW (pe_op op_add (pe_op op_add (pe_op op_mod (pe_callTy call_intS (by rfl) T.z_int (by decide +kernel) (pa_cons (pe_op op_add (pv 4) (pe_op op_mulW pe_int (pv 5))) pa_nil)) pe_int) (pe_op op_mulW pe_int (pv 1))) pe_int) pe_int) (pe_op op_mod (pe_callTy call_intS (by rfl) T.z_int (by decide +kernel) (pa_cons (pe_op op_fdivW (pv 4) pe_int) pa_nil)) pe_int)) (pg_name (i := 7) sc__law_draw.nd rfl (.inl rfl))) (pss_one (ps_ret (pe_op op_mod (pe_callTy call_intS (by rfl) T.z_int (by decide +kernel) (pa_cons (pe_op op_mod (pe_op op_mulW (pe_op op_mod (pv 7) pe_int) pe_int) pe_int) pa_nil)) (pv 2)))))))), ?_⟩)
  · obtain ⟨ds, d, a, ⟨sc, at_, m, rfl, _⟩, _⟩ := h
    exact a.len
  · obtain ⟨ds, d, a, ⟨sc, at_, m, rfl, hl, a0, a1, hm, rfl⟩, q⟩ := h
    obtain ⟨u, u2, u3, rfl, b1, b2, b3⟩ := All.inv3 a
    cases b2
    cases b3
    try dsimp only [cxOf, Cx.nox, Cx.wish]
    unfold drw at q
    dsimp only at q
    revert q
    obtain ⟨row, hrow⟩ : ∃ row, row = (if sc = [] then [7] else sc.take 60) := ⟨_, rfl⟩
    rw [← hrow]
    have rl : 1 ≤ row.length ∧ row.length ≤ 60 := by
      rw [hrow]
      split
      · exact ⟨by decide, by decide⟩
      · rename_i h
        rw [List.length_take]
        have := List.length_pos_iff.mpr h
        omega
    intro q
    refine q_asgD (K := K) (d := .lst (iL row)) (EvD.is (ed_if (b := !decide (sc = [])) (d1 := .lst (iL (sc.take 60))) (d2 := .lst (iL [7])) (et_t (EvD.is (ed_neD (K := K) (ed_var rfl b1) (EvN.toD (ds := iL []) (en_lst ea0 (by decide))) (sh_iL _) (sh_iL _)) (by rw [eqv_iL]))) (fun _ => EvD.is (EvN.toD (en_sl (ed_var rfl b1) eo_none (eo_s (K := K) (i := ((60 : Nat) : Int)) ed_int))) (by rw [cut_to]; unfold iL; rw [List.map_take])) (fun _ => EvN.toD (ds := iL [7]) (en_lst (ea1 ed_int ea0) (by decide)))) ?_) fun v1 H1 e1 i1 => ?_
    · rw [hrow]
      by_cases h : sc = []
      · simp [h]
      · simp [h]
    generalize hcell : row.getD (at_ % (row.length : Int)).toNat 0 = cell at q
    generalize hturn : at_ / (row.length : Int) = turn at q
    have t0 : 0 ≤ turn := by rw [← hturn]; exact Int.ediv_nonneg a0 (by omega)
    have t1 : turn ≤ 10000 := by rw [← hturn]; exact Int.le_trans (Int.ediv_le_self _ a0) a1
    have mi : 0 ≤ at_ % (row.length : Int) ∧ at_ % (row.length : Int) < row.length := ⟨Int.emod_nonneg _ (by omega), Int.emod_lt_of_pos _ (by omega)⟩
    refine q_parD (K := K) (d1 := .int cell) (d2 := .int turn) (ed_ixL (ed_var rfl i1) (ed_mod (ed_var rfl (.int _)) (EvD.is (ed_lenL (K := K) (ed_var rfl i1)) (by rw [iLlen])) (by omega)) (by rw [at_il0 mi.1 mi.2, hcell])) (EvD.is (ed_divW (ed_var rfl (.int _)) (EvD.is (ed_lenL (K := K) (ed_var rfl i1)) (by rw [iLlen])) (divW (b := 10) (by omega) (by omega))) (by rw [hturn])) fun v2 v3 H2 e2 i2 i3 => ?_
    cases i2
    cases i3
    have pw : (10 : Int) ^ (18 : Int).toNat = 10 ^ 18 := rfl
    have pw2 : (97 : Int) ^ (40 : Int).toNat = 97 ^ 40 := rfl
    refine q_if (b := decide ((10 : Int) ^ 18 ≤ cell)) (et_t (EvD.is (ed_ge (K := K) (ed_var rfl (.int _)) (ed_pow ed_int ed_int ⟨by decide, by decide, by decide⟩)) (by rw [pw]))) (fun hb H3 e3 => ?_) (fun hb H3 e3 => ?_)
    · have hc := of_decide_eq_true hb
      rw [if_pos hc] at q
      refine q_asgD (K := K) (d := .int (cell % 97 ^ 40)) (EvD.is (ed_mod (K := K) (ed_intI (ed_var rfl (.int _))) (ed_pow ed_int ed_int ⟨by decide, by decide, by decide⟩) (by rw [pw2]; decide)) (by rw [pw2])) fun v4 H4 e4 i4 => ?_
      cases i4
      generalize cell % 97 ^ 40 = c at q
      have m40 : 0 ≤ turn % 40 ∧ turn % 40 < 40 := ⟨Int.emod_nonneg _ (by decide), Int.emod_lt_of_pos _ (by decide)⟩
      refine q_for (K := K) (L := []) (n := (turn % 40).toNat) (item := fun i => .int (i : Int)) (ei_r1 (ea1 (ed_mod (ed_var rfl (.int _)) ed_int (by decide)) ea0) (by omega)) (fun i σ' H' => ∃ y, σ' = [some u, some (.int at_), some (.int m), some v1, some (.int (dvs c i)), some (.int turn), y, none] ∧ Ex H4 H') (fun H5 e5 => ⟨none, rfl, e5⟩) ?_ ?_
      · rintro i x σ' H5 H6 hi ⟨y, rfl, E5⟩ e6 ax
        cases ax
        refine g_name (s_asgD (K := K) (d := .int (dvs c i / 97)) (ed_divW (ed_var rfl (.int _)) ed_int (divW (j := 97) (b := 7) (by decide) (by decide))) fun v5 H7 e7 i5 => ?_)
        cases i5
        exact ⟨⟨_, rfl, (E5.trans e6).trans e7⟩, Mu.ex (e6.trans e7)⟩
      · rintro σ' H5 ⟨y, rfl, E5⟩
        exact s_retD (K := K) (ed_mod (ed_mod (ed_intI (ed_var rfl (.int _))) ed_int (by decide)) (ed_var rfl (.int _)) hm) fun v6 H6 e6 i6 => q _ _ (((((e1.trans e2).trans e3).trans e4).trans E5).trans e6) i6
    · have hc := of_decide_eq_false hb
      rw [if_neg hc] at q
      have r1 : 0 ≤ (cell + 31 * turn) % 1000003 ∧ (cell + 31 * turn) % 1000003 < 1000003 := ⟨Int.emod_nonneg _ (by decide), Int.emod_lt_of_pos _ (by decide)⟩
      have r2 : ∀ x : Int, 0 ≤ x % 2147483647 ∧ x % 2147483647 < 2147483647 := fun x => ⟨Int.emod_nonneg _ (by decide), Int.emod_lt_of_pos _ (by decide)⟩
      refine q_asgD (K := K) (d := .int (((cell + 31 * turn) % 1000003 + 977 * at_ + 13) * 48271 + (cell / 1000003) % 999983)) (ed_add (ed_mulW (ed_add (ed_add (ed_mod (ed_intI (ed_add (ed_var rfl (.int _)) (ed_mulW ed_int (ed_var rfl (.int _)) (mulW (a := 6) (b := 20) (by decide) (by omega))))) ed_int (by decide)) (ed_mulW ed_int (ed_var rfl (.int _)) (mulW (a := 12) (b := 20) (by decide) (by omega)))) ed_int) ed_int (mulW (a := 40) (b := 20) (by omega) (by decide))) (ed_mod (ed_intI (ed_divW (ed_var rfl (.int _)) ed_int (divW (j := 1000003) (b := 20) (by decide) (by decide)))) ed_int (by decide))) fun v4 H4 e4 i4 => ?_
      cases i4
      have r3 := r2 (((cell + 31 * turn) % 1000003 + 977 * at_ + 13) * 48271 + (cell / 1000003) % 999983)
      exact s_retD (K := K) (ed_mod (ed_intI (ed_mod (ed_mulW (ed_mod (ed_var rfl (.int _)) ed_int (by decide)) ed_int (mulW (a := 40) (b := 20) (by omega) (by decide))) ed_int (by decide))) (ed_var rfl (.int _)) hm) fun v6 H6 e6 i6 => q _ _ ((((e1.trans e2).trans e3).trans e4).trans e6) i6

end
end My
end
section
set_option Elab.async false
set_option linter.all false
set_option maxRecDepth 100000
set_option maxHeartbeats 4000000
namespace My
open PySem PySem.Spec PyProof.Rows L2 Evl WD
local macro_rules | `(tactic| walk_at "exgo") => `(tactic| first | exact Ex.refl _ | assumption | (refine' Ex.trans ?ea ?eb; (case eb => assumption); (case ea => walk_at "exgo")))
local macro_rules | `(tactic| walk_at "is") => `(tactic| first | assumption | (refine' Is.ex ?e ?h; (case h => assumption); (case e => walk_at "exgo")) | exact Is.int _ | exact Is.bl _ | exact Is.non)
local macro_rules | `(tactic| walk_at "ev") => `(tactic| first
  | exact ed_int | exact ed_bl | exact ed_non | exact ed_str
  | ((with_reducible apply ed_var) <;> first | exact rfl | walk_at "is")
  | ((with_reducible apply ed_add) <;> walk_at "ev")
  | ((with_reducible apply ed_sub) <;> walk_at "ev")
  | ((with_reducible apply ed_neg) <;> walk_at "ev")
  | ((with_reducible apply ed_mulW) <;> try walk_at "ev")
  | ((with_reducible apply ed_divW) <;> try walk_at "ev")
  | ((with_reducible apply ed_mod) <;> try walk_at "ev")
  | ((with_reducible apply ed_ixT) <;> first | exact rfl | walk_at "ev" | skip)
  | ((with_reducible apply ed_ixL) <;> first | exact rfl | walk_at "ev" | skip)
  | ((with_reducible apply ed_lt) <;> walk_at "ev")
  | ((with_reducible apply ed_le) <;> walk_at "ev")
  | ((with_reducible apply ed_gt) <;> walk_at "ev")
  | ((with_reducible apply ed_ge) <;> walk_at "ev")
  | ((with_reducible apply ed_eqI) <;> walk_at "ev")
  | ((with_reducible apply ed_neI) <;> walk_at "ev")
  | ((with_reducible apply ed_gcd) <;> walk_at "ev")
  | ((with_reducible apply ed_abs) <;> walk_at "ev")
  | ((with_reducible apply ed_intI) <;> walk_at "ev")
  | ((with_reducible apply ed_intB) <;> walk_at "ev")
  | ((with_reducible apply ed_max2) <;> walk_at "ev")
  | ((with_reducible apply ed_min2) <;> walk_at "ev")
  | ((with_reducible apply ed_lenT) <;> walk_at "ev")
  | ((with_reducible apply ed_lenL) <;> walk_at "ev")
  | ((with_reducible apply ed_tuple) <;> walk_at "ev")
  | ((with_reducible apply ed_tupleT) <;> walk_at "ev")
  | ((with_reducible apply ed_tup) <;> first | walk_at "ea" | (simp; done) | skip)
  | ((with_reducible apply et_t) <;> walk_at "ev")
  | ((with_reducible apply et_v) <;> walk_at "ev"))
local macro_rules | `(tactic| walk_at "ea") => `(tactic| first
  | exact ea0
  | ((with_reducible apply ea1) <;> first | walk_at "ev" | walk_at "ea" | skip))

section
variable {P : Program} {w : World} {K : PySem.W.Frag} {mg : Str → Option Value} {base : Heap}
def rows0 (w : Rnd) : List Rnd := [w, .ev 2 1, .ev 2 0, .ev 2 1, .ev 2 0]
def lrow (sc : List Int) (a : Int) (w : Rnd) : List Rnd := if drw sc a 4 = 0 then [w, .ev (3 + drw sc (a + 1) 2).toNat (drw sc (a + 2) (3 + drw sc (a + 1) 2)).toNat, .ev 2 0, .ev (3 + drw sc (a + 1) 2).toNat (drw sc (a + 2) (3 + drw sc (a + 1) 2)).toNat, .ev 2 0] else rows0 w
def lrnds (sc : List Int) (a m : Int) (w : Rnd) : List Rnd := (List.range (drw sc (a + 3) (m + 1)).toNat).map fun i : Nat => (lrow sc a w).getD (drw sc (a + 4 + (i : Int)) 5).toNat .right
theorem lrow_len (sc : List Int) (a : Int) (w : Rnd) : (lrow sc a w).length = 5 := by
  unfold lrow
  split <;> rfl
theorem lrow_ok {sc : List Int} {a : Int} {w : Rnd} (hw : w.ok) : ∀ r ∈ lrow sc a w, r.ok := by
  unfold lrow
  split
  · have h1 := drw_ok sc (a + 1) (m := 2) (by decide)
    have h2 := drw_ok sc (a + 2) (m := 3 + drw sc (a + 1) 2) (by omega)
    intro r hr
    simp only [List.mem_cons, List.not_mem_nil, or_false] at hr
    rcases hr with rfl | rfl | rfl | rfl | rfl
    · exact hw
    · exact ⟨by omega, by omega, by omega⟩
    · exact ⟨by decide, by decide, by decide⟩
    · exact ⟨by omega, by omega, by omega⟩
    · exact ⟨by decide, by decide, by decide⟩
  · intro r hr
    simp only [rows0, List.mem_cons, List.not_mem_nil, or_false] at hr
    rcases hr with rfl | rfl | rfl | rfl | rfl
    · exact hw
    all_goals exact ⟨by decide, by decide, by decide⟩
theorem lrnds_ok {sc : List Int} {a m : Int} {w : Rnd} (hw : w.ok) : ∀ r ∈ lrnds sc a m w, r.ok := by
  intro r hr
  obtain ⟨i, _, rfl⟩ := List.mem_map.mp hr
  have hd5 := drw_ok sc (a + 4 + (i : Int)) (m := 5) (by decide)
  exact lrow_ok hw _ (gd_mem (by rw [lrow_len]; omega))
theorem lrnds_len {sc : List Int} {a m : Int} {w : Rnd} (hm : 0 ≤ m) : (lrnds sc a m w).length ≤ m.toNat := by
  have hd := drw_ok sc (a + 3) (m := m + 1) (by omega)
  unfold lrnds
  rw [List.length_map, List.length_range]
  omega
theorem at_rds {L : List Rnd} {j : Nat} (h : j < L.length) : atI (rds L) (j : Int) = some (L.getD j .right).d := by
  rw [atI_nat (xs := rds L) (by rw [rds_len]; exact h), getD_in h]
  simp [rds]
def R__law_rounds (ds es : List D) : Prop := ∃ (sc : List Int) (a m : Int) (w : Rnd) (x : Str), w.d = .tup [.str x] ∧ ds = [.lst (iL sc), .int a, .int m, .str x] ∧ sc.length ≤ 63 ∧ 0 ≤ a ∧ a ≤ 1000 ∧ 0 ≤ m ∧ m ≤ 10 ∧ es = rds (lrnds sc a m w)
theorem All.inv4 {H : Hp} {vs : List V} {d1 d2 d3 d4 : D} (a : All K H vs [d1, d2, d3, d4]) : ∃ v w x y, vs = [v, w, x, y] ∧ Is K H v d1 ∧ Is K H w d2 ∧ Is K H x d3 ∧ Is K H y d4 := by
  match vs, a with
  | [_, _, _, _], .cons h1 (.cons h2 (.cons h3 (.cons h4 .nil))) => exact ⟨_, _, _, _, rfl, h1, h2, h3, h4⟩
theorem ok__law_rounds (T : Txt K mg) : FnG P w K mg base 2 (He.ga K "_law_rounds") ["script", "at", "most", "way"] (spN K R__law_rounds) := by
  refine fnG (N := ["script", "at", "most", "way", "rows", "every", "turn"]) (st := s__law_rounds) T.f__law_rounds sc__law_rounds (fun vs H Q E h => ?_) (fun _ _ _ _ _ _ us hl => match us, hl with | [_, _, _, _], _ => rfl) (fun cdv A outer s H vs Q E hr h => ⟨_, (pss_cons (ps_asg (pe_lst (pa_cons (pe_tup (pa_cons (pv 3) pa_nil)) (pa_cons (pe_tup (pa_cons pe_str (pa_cons pe_int (pa_cons pe_int pa_nil)))) (pa_cons (pe_tup (pa_cons pe_str (pa_cons pe_int (pa_cons pe_int pa_nil)))) (pa_cons (pe_tup (pa_cons pe_str (pa_cons pe_int (pa_cons pe_int pa_nil)))) (pa_cons (pe_tup (pa_cons pe_str (pa_cons pe_int (pa_cons pe_int pa_nil)))) pa_nil)))))) (pg_name (i := 4) sc__law_rounds.nd rfl (.inr rfl))) (pss_cons (ps_if (pt_cmpR op_eq (pe_callG (ok__law_draw T) (hr.mono (by decide)) (by rfl) T.m__law_draw (pa_cons (pv 0) (pa_cons (pv 1) (pa_cons pe_int pa_nil)))) pe_int (nomark _)) (pss_cons (ps_asg (pe_op op_add pe_int (pe_callG (ok__law_draw T) (hr.mono (by decide)) (by rfl) T.m__law_draw (pa_cons (pv 0) (pa_cons (pe_op op_add (pv 1) pe_int) (pa_cons pe_int pa_nil))))) (pg_name (i := 5) sc__law_rounds.nd rfl (.inl rfl))) (pss_cons (ps_asg (pe_tup (pa_cons pe_str (pa_cons (pv 5) (pa_cons (pe_callG (ok__law_draw T) (hr.mono (by decide)) (by rfl) T.m__law_draw (pa_cons (pv 0) (pa_cons (pe_op op_add (pv 1) pe_int) (pa_cons (pv 5) pa_nil)))) pa_nil)))) (pg_sub (pv 4) pe_int set_list)) (pss_one (ps_asg (pe_ix ix_list (pv 4) pe_int (fun _ _ => rfl)) (pg_sub (pv 4) pe_int set_list))))) pss_nil) (pss_one (ps_ret (pe_lc (own := [("turn", 6)]) rfl sc__law_rounds.nd (pi_range1 (by rfl) T.z_range (pa_cons (pe_callG (ok__law_draw T) (hr.mono (by decide)) (by rfl) T.m__law_draw (pa_cons (pv 0) (pa_cons (pe_op op_add (pv 1) pe_int) (pa_cons (pe_op op_add (pv 2) pe_int) pa_nil)))) pa_nil)) (blkOk_by (own := [("turn", 6)]) (N := ["script", "at", "most", "way", "rows", "every", "turn"]) (sc := defScope s__law_rounds) (by decide +kernel)) (fun _ _ _ _ _ => (pg_name (i := 6) sc__law_rounds.nd rfl (.inl rfl))) (fun _ _ _ _ _ => pts_nil) (fun _ _ _ _ _ => (pe_ix (ixLK (K := K) rfl) (pv 4) (pe_callG (ok__law_draw T) (hr.mono (by decide)) (by rfl) T.m__law_draw (pa_cons (pv 0) (pa_cons (pe_op op_add (pe_op op_add (pv 1) pe_int) (pv 6)) (pa_cons pe_int pa_nil)))) (fun _ _ => rfl)))))))), ?_⟩)
  · obtain ⟨ds, d, a, ⟨sc, a', m, w, x, _, rfl, _⟩, _⟩ := h
    exact a.len
  · obtain ⟨ds, d, aa, ⟨sc, a, m, w, x, hw, rfl, hl, a0, a1, m0, m1, rfl⟩, q⟩ := h
    obtain ⟨u, u2, u3, u4, rfl, b1, b2, b3, b4⟩ := All.inv4 aa
    cases b2
    cases b3
    try dsimp only [cxOf, Cx.nox, Cx.wish]
    refine q_asgN (K := K) (ds := rds (rows0 w)) (EvN.is (en_lst (ea1 (ed_tup (ea1 (ed_var rfl b4) ea0) (by show 1 ≤ 100000; decide)) (ea1 (ed_tup (ea1 ed_str (ea1 ed_int (ea1 ed_int ea0))) (by show 3 ≤ 100000; decide)) (ea1 (ed_tup (ea1 ed_str (ea1 ed_int (ea1 ed_int ea0))) (by show 3 ≤ 100000; decide)) (ea1 (ed_tup (ea1 ed_str (ea1 ed_int (ea1 ed_int ea0))) (by show 3 ≤ 100000; decide)) (ea1 (ed_tup (ea1 ed_str (ea1 ed_int (ea1 ed_int ea0))) (by show 3 ≤ 100000; decide)) ea0))))) (by show 5 ≤ 100000; decide)) (by unfold rds rows0; rw [List.map_cons, hw]; rfl)) fun p xs H1 hp e1 hx ax => ?_
    refine q_if (b := decide (drw sc a 4 = 0)) (et_t (K := K) (ed_eqI (K := K) (ed_call (ea1 (ed_var rfl (b1.ex e1)) (ea1 (ed_var rfl (.int _)) (ea1 ed_int ea0))) ⟨sc, a, 4, rfl, hl, a0, by omega, by decide, rfl⟩) ed_int)) (fun hb H2 e2 => ?_) (fun hb H2 e2 => ?_)
    · have hc := of_decide_eq_true hb
      have h1 := drw_ok sc (a + 1) (m := 2) (by decide)
      have h2 := drw_ok sc (a + 2) (m := 3 + drw sc (a + 1) 2) (by omega)
      have lr : lrow sc a w = [w, .ev (3 + drw sc (a + 1) 2).toNat (drw sc (a + 2) (3 + drw sc (a + 1) 2)).toNat, .ev 2 0, .ev (3 + drw sc (a + 1) 2).toNat (drw sc (a + 2) (3 + drw sc (a + 1) 2)).toNat, .ev 2 0] := by
        unfold lrow
        rw [if_pos hc]
      have hx2 := e2 _ _ hx
      have ax2 := ax.ex e2
      refine q_asgD (K := K) (d := .int (3 + drw sc (a + 1) 2)) (ed_add ed_int (ed_call (ea1 (ed_var rfl (b1.ex (e1.trans e2))) (ea1 (ed_add (ed_var rfl (.int _)) ed_int) (ea1 ed_int ea0))) ⟨sc, a + 1, 2, rfl, hl, by omega, by omega, by decide, rfl⟩)) fun v3 H3 e3 i3 => ?_
      cases i3
      have hx3 := e3 _ _ hx2
      have lx := ax2.len
      have lx5 : xs.length = 5 := by rw [lx]; rfl
      have dz : (Rnd.ev (3 + drw sc (a + 1) 2).toNat (drw sc (a + 2) (3 + drw sc (a + 1) 2)).toNat).d = .tup [.str "every", .int (3 + drw sc (a + 1) 2), .int (drw sc (a + 2) (3 + drw sc (a + 1) 2))] := by
        show D.tup [.str "every", .int _, .int _] = _
        rw [show (((3 + drw sc (a + 1) 2).toNat : Nat) : Int) = 3 + drw sc (a + 1) 2 from by omega, show (((drw sc (a + 2) (3 + drw sc (a + 1) 2)).toNat : Nat) : Int) = drw sc (a + 2) (3 + drw sc (a + 1) 2) from by omega]
      refine q_setD (K := K) (j := 1) (d := (Rnd.ev (3 + drw sc (a + 1) 2).toNat (drw sc (a + 2) (3 + drw sc (a + 1) 2)).toNat).d) hx3 (EvD.is (ed_tup (ea1 ed_str (ea1 (ed_var rfl (.int _)) (ea1 (ed_call (d := .int (drw sc (a + 2) (3 + drw sc (a + 1) 2))) (ea1 (ed_var rfl (b1.ex ((e1.trans e2).trans e3))) (ea1 (ed_add (ed_var rfl (.int _)) ed_int) (ea1 (ed_var rfl (.int _)) ea0))) ⟨sc, a + 2, 3 + drw sc (a + 1) 2, rfl, hl, by omega, by omega, by omega, rfl⟩) ea0))) (by show 3 ≤ 100000; decide)) dz.symm) (ev_ref rfl) ed_int (by rw [lx5]; rfl) fun v4 H4 e4 i4 => ?_
      have hx4 := e4 _ _ hx3
      have ax4 : All K (upd H4 p (.lst (xs.set 1 v4))) (xs.set 1 v4) ((rds (rows0 w)).set 1 (Rnd.ev (3 + drw sc (a + 1) 2).toNat (drw sc (a + 2) (3 + drw sc (a + 1) 2)).toNat).d) := All.set (i4.updL hx4 (Rnd.lf _)) 1 ((ax2.ex (e3.trans e4)).updL hx4 (rds_lf _))
      refine s_setD (K := K) (j := 3) (d := (Rnd.ev (3 + drw sc (a + 1) 2).toNat (drw sc (a + 2) (3 + drw sc (a + 1) 2)).toNat).d) upd_same (ed_ixL (ed_var rfl (.lst (.inl upd_same) ax4)) ed_int rfl) (ev_ref rfl) ed_int (by rw [List.length_set, lx5]; rfl) fun v5 H5 e5 i5 => ?_
      have hx5 := e5 _ _ (upd_same (H := H4) (a := p) (o := .lst (xs.set 1 v4)))
      have E6 : Ex H (upd H5 p (.lst ((xs.set 1 v4).set 3 v5))) := Ex.updN ((Ex.updN (((e1.trans e2).trans e3).trans e4) hp).trans e5) hp
      have ax6 : All K (upd H5 p (.lst ((xs.set 1 v4).set 3 v5))) ((xs.set 1 v4).set 3 v5) (rds (lrow sc a w)) := by
        rw [lr]
        exact All.set (i5.updL hx5 (Rnd.lf _)) 3 ((ax4.ex e5).updL hx5 (by
          show D.lfs (rds [w, Rnd.ev (3 + drw sc (a + 1) 2).toNat (drw sc (a + 2) (3 + drw sc (a + 1) 2)).toNat, .ev 2 0, .ev 2 1, .ev 2 0]) = true
          exact rds_lf _))
      have rowsLen : (lrow sc a w).length = 5 := lrow_len sc a w
      refine s_retN (K := K) (EvN.is (en_lc1 (n := (drw sc (a + 3) (m + 1)).toNat) (item := fun i => .int (i : Int)) (fun _ => true) (fun i => ((lrow sc a w).getD (drw sc (a + 4 + (i : Int)) 5).toNat .right).d) (fun H9 e9 => ei_r1 (ea1 (ed_call (d := .int (drw sc (a + 3) (m + 1))) (ea1 (ed_var rfl (b1.ex (E6.trans e9))) (ea1 (ed_add (ed_var rfl (.int _)) ed_int) (ea1 (ed_add (ed_var rfl (.int _)) ed_int) ea0))) ⟨sc, a + 3, m + 1, rfl, hl, by omega, by omega, by omega, rfl⟩) ea0) (by have := drw_ok sc (a + 3) (m := m + 1) (by omega); omega)) (by have := drw_ok sc (a + 3) (m := m + 1) (by omega); omega) (fun _ _ _ => Rnd.lf _) (fun x => rfl) (fun i x H9 _ _ _ => et_yes) (fun i x H9 hi e9 ax _ => ?_)) ?_) fun p9 xs9 H9 hp9 e9 hx9 ax9 => q p9 xs9 H9 (fresh_back E6 hp9) (E6.trans e9) hx9 ax9
      · have hd := drw_ok sc (a + 3) (m := m + 1) (by omega)
        have hd5 := drw_ok sc (a + 4 + (i : Int)) (m := 5) (by decide)
        have hlt : (drw sc (a + 4 + (i : Int)) 5).toNat < (lrow sc a w).length := by rw [rowsLen]; omega
        refine ed_ixL (i := drw sc (a + 4 + (i : Int)) 5) (ed_var rfl (.lst (.inl (e9 _ _ upd_same)) (ax6.ex e9))) (ed_call (ea1 (ed_var rfl (b1.ex (E6.trans e9))) (ea1 (ed_add (ed_add (ed_var rfl (.int _)) ed_int) (ed_var rfl ax)) (ea1 ed_int ea0))) ⟨sc, a + 4 + (i : Int), 5, rfl, hl, by omega, by omega, by decide, rfl⟩) ?_
        have e5 : ((drw sc (a + 4 + (i : Int)) 5).toNat : Int) = drw sc (a + 4 + (i : Int)) 5 := by omega
        have g := at_rds hlt
        rw [e5] at g
        exact g
      · rw [gives_all]
        unfold lrnds rds
        rw [List.map_map]
        rfl
    · have hc := of_decide_eq_false hb
      have lr : lrow sc a w = rows0 w := by
        unfold lrow
        rw [if_neg hc]
      have hx2 := e2 _ _ hx
      have ax2 := ax.ex e2
      rw [← lr] at ax2
      have E2 := e1.trans e2
      have rowsLen : (lrow sc a w).length = 5 := lrow_len sc a w
      refine s_retN (K := K) (EvN.is (en_lc1 (n := (drw sc (a + 3) (m + 1)).toNat) (item := fun i => .int (i : Int)) (fun _ => true) (fun i => ((lrow sc a w).getD (drw sc (a + 4 + (i : Int)) 5).toNat .right).d) (fun H9 e9 => ei_r1 (ea1 (ed_call (d := .int (drw sc (a + 3) (m + 1))) (ea1 (ed_var rfl (b1.ex (E2.trans e9))) (ea1 (ed_add (ed_var rfl (.int _)) ed_int) (ea1 (ed_add (ed_var rfl (.int _)) ed_int) ea0))) ⟨sc, a + 3, m + 1, rfl, hl, by omega, by omega, by omega, rfl⟩) ea0) (by have := drw_ok sc (a + 3) (m := m + 1) (by omega); omega)) (by have := drw_ok sc (a + 3) (m := m + 1) (by omega); omega) (fun _ _ _ => Rnd.lf _) (fun x => rfl) (fun i x H9 _ _ _ => et_yes) (fun i x H9 hi e9 ax _ => ?_)) ?_) fun p9 xs9 H9 hp9 e9 hx9 ax9 => q p9 xs9 H9 (fresh_back E2 hp9) (E2.trans e9) hx9 ax9
      · have hd := drw_ok sc (a + 3) (m := m + 1) (by omega)
        have hd5 := drw_ok sc (a + 4 + (i : Int)) (m := 5) (by decide)
        have hlt : (drw sc (a + 4 + (i : Int)) 5).toNat < (lrow sc a w).length := by rw [rowsLen]; omega
        refine ed_ixL (i := drw sc (a + 4 + (i : Int)) 5) (ed_var rfl (.lst (.inl (e9 _ _ hx2)) (ax2.ex e9))) (ed_call (ea1 (ed_var rfl (b1.ex (E2.trans e9))) (ea1 (ed_add (ed_add (ed_var rfl (.int _)) ed_int) (ed_var rfl ax)) (ea1 ed_int ea0))) ⟨sc, a + 4 + (i : Int), 5, rfl, hl, by omega, by omega, by decide, rfl⟩) ?_
        have e5 : ((drw sc (a + 4 + (i : Int)) 5).toNat : Int) = drw sc (a + 4 + (i : Int)) 5 := by omega
        have g := at_rds hlt
        rw [e5] at g
        exact g
      · rw [gives_all]
        unfold lrnds rds
        rw [List.map_map]
        rfl

end
end My
end
section
set_option Elab.async false
set_option linter.all false
set_option maxRecDepth 100000
set_option maxHeartbeats 4000000
namespace My
open PySem PySem.Spec PyProof.Rows L2 Evl WD
local macro_rules | `(tactic| walk_at "exgo") => `(tactic| first | exact Ex.refl _ | assumption | (refine' Ex.trans ?ea ?eb; (case eb => assumption); (case ea => walk_at "exgo")))
local macro_rules | `(tactic| walk_at "is") => `(tactic| first | assumption | (refine' Is.ex ?e ?h; (case h => assumption); (case e => walk_at "exgo")) | exact Is.int _ | exact Is.bl _ | exact Is.non)
local macro_rules | `(tactic| walk_at "ev") => `(tactic| first
  | exact ed_int | exact ed_bl | exact ed_non | exact ed_str
  | ((with_reducible apply ed_var) <;> first | exact rfl | walk_at "is")
  | ((with_reducible apply ed_add) <;> walk_at "ev")
  | ((with_reducible apply ed_sub) <;> walk_at "ev")
  | ((with_reducible apply ed_neg) <;> walk_at "ev")
  | ((with_reducible apply ed_mulW) <;> try walk_at "ev")
  | ((with_reducible apply ed_divW) <;> try walk_at "ev")
  | ((with_reducible apply ed_mod) <;> try walk_at "ev")
  | ((with_reducible apply ed_ixT) <;> first | exact rfl | walk_at "ev" | skip)
  | ((with_reducible apply ed_ixL) <;> first | exact rfl | walk_at "ev" | skip)
  | ((with_reducible apply ed_lt) <;> walk_at "ev")
  | ((with_reducible apply ed_le) <;> walk_at "ev")
  | ((with_reducible apply ed_gt) <;> walk_at "ev")
  | ((with_reducible apply ed_ge) <;> walk_at "ev")
  | ((with_reducible apply ed_eqI) <;> walk_at "ev")
  | ((with_reducible apply ed_neI) <;> walk_at "ev")
  | ((with_reducible apply ed_gcd) <;> walk_at "ev")
  | ((with_reducible apply ed_abs) <;> walk_at "ev")
  | ((with_reducible apply ed_intI) <;> walk_at "ev")
  | ((with_reducible apply ed_intB) <;> walk_at "ev")
  | ((with_reducible apply ed_max2) <;> walk_at "ev")
  | ((with_reducible apply ed_min2) <;> walk_at "ev")
  | ((with_reducible apply ed_lenT) <;> walk_at "ev")
  | ((with_reducible apply ed_lenL) <;> walk_at "ev")
  | ((with_reducible apply ed_tuple) <;> walk_at "ev")
  | ((with_reducible apply ed_tupleT) <;> walk_at "ev")
  | ((with_reducible apply ed_tup) <;> first | walk_at "ea" | (simp; done) | skip)
  | ((with_reducible apply et_t) <;> walk_at "ev")
  | ((with_reducible apply et_v) <;> walk_at "ev"))
local macro_rules | `(tactic| walk_at "ea") => `(tactic| first
  | exact ea0
  | ((with_reducible apply ea1) <;> first | walk_at "ev" | walk_at "ea" | skip))

section
variable {P : Program} {w : World} {K : PySem.W.Frag} {mg : Str → Option Value} {base : Heap}
theorem rev_left (n : Nat) : ((List.range (n - 1)).map fun i : Nat => 1 + (i : Int)).reverse = opn1 n .left := by
  refine List.ext_getElem (by simp [opn1]) fun i h1 h2 => ?_
  have h3 : i < n - 1 := by simpa [opn1] using h2
  simp only [opn1, List.getElem_reverse, List.getElem_map, List.getElem_range, List.length_map, List.length_range]
  omega
def R__law_weirs (ds es : List D) : Prop := ∃ (r : Rnd) (n : Nat), r.ok ∧ 1 ≤ n ∧ n ≤ 400 ∧ ds = [r.d, .int (n : Int)] ∧ es = iL (opn1 n r)
theorem ok__law_weirs (T : Txt K mg) : FnG P w K mg base 1 (He.ga K "_law_weirs") ["told", "many"] (spN K R__law_weirs) := by
  refine fnG (N := ["told", "many", "weir"]) (st := s__law_weirs) T.f__law_weirs sc__law_weirs (fun vs H Q E h => ?_) (fun _ _ _ _ _ _ us hl => match us, hl with | [_, _], _ => rfl) (fun cdv A outer s H vs Q E hr h => ⟨_, (pss_cons (ps_if (pt_cmpR op_eq (pe_ix ix_tup (pv 0) pe_int (fun _ _ => rfl)) pe_str (nomark _)) (pss_one (ps_ret (pe_listRg rfl (by rfl) T.z_list (prg_2 (by rfl) T.z_range pe_int (pv 1))))) pss_nil) (pss_cons (ps_if (pt_cmpR op_eq (pe_ix ix_tup (pv 0) pe_int (fun _ _ => rfl)) pe_str (nomark _)) (pss_one (ps_ret (pe_listRev rfl (by rfl) T.z_list (by rfl) T.z_reversed (pe_listRg rfl (by rfl) T.z_list (prg_2 (by rfl) T.z_range pe_int (pv 1)))))) pss_nil) (pss_one (ps_ret (pe_lc (own := [("weir", 2)]) rfl sc__law_weirs.nd (pi_range2 (by rfl) T.z_range (pa_cons pe_int (pa_cons (pv 1) pa_nil))) (blkOk_by (own := [("weir", 2)]) (N := ["told", "many", "weir"]) (sc := defScope s__law_weirs) (by decide +kernel)) (fun _ _ _ _ _ => (pg_name (i := 2) sc__law_weirs.nd rfl (.inl rfl))) (fun _ _ _ _ _ => (pts_one (pt_cmpR op_eq (pe_op op_mod (pv 2) (pe_ix (ixTK (K := K) rfl) (pv 0) pe_int (fun _ _ => rfl))) (pe_ix (ixTK (K := K) rfl) (pv 0) pe_int (fun _ _ => rfl)) (nomark _)))) (fun _ _ _ _ _ => (pv 2))))))), ?_⟩)
  · obtain ⟨ds, d, a, ⟨r, n, _, _, _, rfl, _⟩, _⟩ := h
    exact a.len
  · obtain ⟨ds, d, a, ⟨r, n, ho, n1, n4, rfl, rfl⟩, q⟩ := h
    obtain ⟨u, u', rfl, ax, a2⟩ := All.inv2 a
    cases a2
    try dsimp only [cxOf, Cx.nox, Cx.wish]
    cases r with
    | right =>
      refine q_when (b := true) (et_is (et_t (K := K) (ed_eqS (K := K) (x := "right") (y := "right") (ed_ixT (ed_var rfl ax) ed_int rfl) ed_str)) (by decide +kernel)) (fun _ H2 e2 => ?_) (fun z => nomatch z)
      refine s_retN (K := K) (EvN.is (en_rg2 ed_int (ed_var rfl (.int _)) (by omega)) ?_) fun p xs H3 hp e3 hx ax => q p xs H3 (fresh_back e2 hp) (e2.trans e3) hx ax
      rw [show ((n : Int) - 1).toNat = n - 1 from by omega]
      rfl
    | left =>
      refine q_when (b := false) (et_is (et_t (K := K) (ed_eqS (K := K) (x := "left") (y := "right") (ed_ixT (ed_var rfl ax) ed_int rfl) ed_str)) (by decide +kernel)) (fun z => nomatch z) (fun _ H2 e2 => ?_)
      refine q_when (b := true) (et_is (et_t (K := K) (ed_eqS (K := K) (x := "left") (y := "left") (ed_ixT (ed_var rfl (ax.ex e2)) ed_int rfl) ed_str)) (by decide +kernel)) (fun _ H3 e3 => ?_) (fun z => nomatch z)
      refine s_retN (K := K) (EvN.is (en_rev (EvN.toD (en_rg2 ed_int (ed_var rfl (.int _)) (by omega)))) ?_) fun p xs H4 hp e4 hx ax => q p xs H4 (fresh_back (e2.trans e3) hp) ((e2.trans e3).trans e4) hx ax
      rw [show ((n : Int) - 1).toNat = n - 1 from by omega, ← rev_left]
      unfold iL
      rw [List.map_reverse]
    | ev k r =>
      obtain ⟨k2, k4, rk⟩ := ho
      refine q_when (b := false) (et_is (et_t (K := K) (ed_eqS (K := K) (x := "every") (y := "right") (ed_ixT (ed_var rfl ax) ed_int rfl) ed_str)) (by decide +kernel)) (fun z => nomatch z) (fun _ H2 e2 => ?_)
      refine q_when (b := false) (et_is (et_t (K := K) (ed_eqS (K := K) (x := "every") (y := "left") (ed_ixT (ed_var rfl (ax.ex e2)) ed_int rfl) ed_str)) (by decide +kernel)) (fun z => nomatch z) (fun _ H3 e3 => ?_)
      refine s_retN (K := K) (EvN.is (en_lc1 (n := ((n : Int) - 1).toNat) (item := fun i => .int (1 + (i : Int))) (fun i => decide ((1 + (i : Int)) % (k : Int) = (r : Int))) (fun i => .int (1 + (i : Int))) (fun H4 e4 => ei_r2 (ea1 ed_int (ea1 (ed_var rfl (.int _)) ea0)) (by omega)) (by omega) (fun _ _ _ => rfl) (fun x => rfl) (fun i x H4 _ e4 az => ?_) (fun i x H4 _ e4 az _ => ed_var rfl az)) ?_) fun p xs H4 hp e4 hx ax => q p xs H4 (fresh_back (e2.trans e3) hp) ((e2.trans e3).trans e4) hx ax
      · exact et_t (K := K) (ed_eqI (ed_mod (ed_var rfl az) (ed_ixT (ed_var rfl (ax.ex ((e2.trans e3).trans e4))) ed_int rfl) (by omega)) (ed_ixT (ed_var rfl (ax.ex ((e2.trans e3).trans e4))) ed_int rfl))
      · unfold gives iL
        dsimp only [opn1]
        rw [show ((n : Int) - 1).toNat = n - 1 from by omega, List.filter_map, List.map_map]
        rfl
theorem en_catD {σ : L2.St} {H : Hp} {ta tb : TE} {ds es : List D} {l : Addr} {xs : List V} (hl0 : H l = some (.lst xs)) (ax : All K H xs ds) (ho : Ev ta σ H (.ref l)) (hb : EvN K tb σ H es) (hl : ds.length + es.length ≤ 100000) : EvN K (tOp rCat ta tb) σ H (ds ++ es) := fun H1 e1 Q q =>
  ho H1 e1 _ fun H2 e2 => hb H2 (e1.trans e2) _ fun r ys H3 hr e3 hy ay => by
    have e13 := (e1.trans e2).trans e3
    refine ⟨l, r, xs, ys, rfl, rfl, e13 _ _ hl0, hy, ?_, fun z hz => q z _ _ (fresh_back (e2.trans e3) hz) ((e2.trans e3).trans (Ex.new hz)) upd_same (((ax.ex e13).app ay).ex (Ex.new hz))⟩
    rw [ax.len, ay.len, sizeLine_eq]
    omega
def R__law_order (ds es : List D) : Prop := ∃ (L : List Rnd) (n : Nat), (∀ r ∈ L, r.ok) ∧ L.length ≤ 12 ∧ 1 ≤ n ∧ n ≤ 400 ∧ ds = [.lst (rds L), .int (n : Int)] ∧ es = iL (ops L n)
theorem ok__law_order (T : Txt K mg) : FnG P w K mg base 2 (He.ga K "_law_order") ["rounds", "many"] (spN K R__law_order) := by
  refine fnG (N := ["rounds", "many", "found", "told"]) (st := s__law_order) T.f__law_order sc__law_order (fun vs H Q E h => ?_) (fun _ _ _ _ _ _ us hl => match us, hl with | [_, _], _ => rfl) (fun cdv A outer s H vs Q E hr h => ⟨_, (pss_cons (ps_asg (pe_lst pa_nil) (pg_name (i := 2) sc__law_order.nd rfl (.inl rfl))) (pss_cons (ps_for PassesOwn.never rfl (pi_list (pv 0)) (pg_name (i := 3) sc__law_order.nd rfl (.inl rfl)) (pss_one (ps_asg (pe_op op_cat (pv 2) (pe_callG (ok__law_weirs T) (hr.mono (by decide)) (by rfl) T.m__law_weirs (pa_cons (pv 3) (pa_cons (pv 1) pa_nil)))) (pg_name (i := 2) sc__law_order.nd rfl (.inl rfl))))) (pss_one (ps_ret (pv 2))))), ?_⟩)
  · obtain ⟨ds, d, a, ⟨L, n, _, _, _, _, rfl, _⟩, _⟩ := h
    exact a.len
  · obtain ⟨ds, d, a, ⟨L, n, ho, hL, n1, n4, rfl, rfl⟩, q⟩ := h
    obtain ⟨u, u', rfl, a1, a2⟩ := All.inv2 a
    cases a2
    try dsimp only [cxOf, Cx.nox, Cx.wish]
    refine q_asgN (K := K) (ds := []) (en_lst ea0) fun p xs H1 hp e1 hq ax => ?_
    refine q_for (K := K) (L := []) (n := L.length) (EvI.is (ei_list (es_any (ed_var rfl (a1.ex e1))) (rds_lf L)) (rds_len L))
      (fun i σ' H' => ∃ p xs y, σ' = [some u, some (.int (n : Int)), some (.ref p), y] ∧ Ex H H' ∧ H p = none ∧ H' p = some (.lst xs) ∧ All K H' xs (iL ((L.take i).flatMap (opn1 n)))) (fun H2 e2 => ⟨p, xs, none, rfl, e1.trans e2, hp, e2 _ _ hq, ax.ex e2⟩) ?_ ?_
    · rintro i x σ' H' H'' hi ⟨p, xs, y, rfl, E2, np, hy, ay⟩ e3 ax2
      rw [show (rds L).getD i .non = L[i].d from getD_map _ _ _ hi] at ax2
      refine g_name ?_
      have h3 := ops_take_len L n i
      have h4 := opn1_len n L[i]
      have h5 : i * n ≤ 12 * 400 := Nat.mul_le_mul (by omega) n4
      refine (show EvN K _ _ _ (iL ((L.take i).flatMap (opn1 n)) ++ iL (opn1 n L[i])) from en_catD (e3 _ _ hy) (ay.ex e3) (ev_ref rfl) (en_call (ea1 (ed_var rfl ax2) (ea1 (ed_var rfl (.int _)) ea0)) ⟨L[i], n, ho _ (List.getElem_mem hi), n1, n4, rfl, rfl⟩) (by rw [iLlen, iLlen]; omega)) H'' (Ex.refl _) _ fun p2 xs2 H4 hp2 e4 hx2 ax4 => ?_
      refine ⟨⟨p2, xs2, _, rfl, (E2.trans e3).trans e4, fresh_back (E2.trans e3) hp2, hx2, ?_⟩, Mu.ex (e3.trans e4)⟩
      rw [List.take_succ_eq_append_getElem hi, List.flatMap_append]
      unfold iL at ax4 ⊢
      rw [List.map_append]
      simpa using ax4
    · rintro σ' H' ⟨p, xs, y, rfl, E2, np, hy, ay⟩
      rw [List.take_length] at ay
      exact ⟨_, rfl, q p xs H' np E2 hy ay⟩
def R__law_play (ds es : List D) : Prop := ∃ (L : List Rnd) (t : List Int), (∀ r ∈ L, r.ok) ∧ L.length ≤ 12 ∧ 1 ≤ t.length ∧ t.length ≤ 400 ∧ ds = [.lst (rds L), .lst (iL t)] ∧ es = iL (play t (ops L t.length))
theorem ok__law_play (T : Txt K mg) : FnG P w K mg base 3 (He.ga K "_law_play") ["rounds", "numbers"] (spN K R__law_play) := by
  refine fnG (N := ["rounds", "numbers", "found", "weir", "even"]) (st := s__law_play) T.f__law_play sc__law_play (fun vs H Q E h => ?_) (fun _ _ _ _ _ _ us hl => match us, hl with | [_, _], _ => rfl) (fun cdv A outer s H vs Q E hr h => ⟨_, (pss_cons (ps_asg (pe_callTy call_listS (by rfl) T.z_list (by decide +kernel) (pa_cons (pv 1) pa_nil)) (pg_name (i := 2) sc__law_play.nd rfl (.inl rfl))) (pss_cons (ps_for PassesOwn.never rfl (pi_list (pe_callG (ok__law_order T) (hr.mono (by decide)) (by rfl) T.m__law_order (pa_cons (pv 0) (pa_cons (pe_callB call_lenS (by rfl) T.z_len PySem.boot_len (pa_cons (pv 2) pa_nil)) pa_nil)))) (pg_name (i := 3) sc__law_play.nd rfl (.inl rfl)) (pss_cons (ps_asg (pe_op op_fdivW (pe_op op_add (pe_ix ix_list (pv 2) (pe_op op_sub (pv 3) pe_int) (fun _ _ => rfl)) (pe_ix ix_list (pv 2) (pv 3) (fun _ _ => rfl))) pe_int) (pg_name (i := 4) sc__law_play.nd rfl (.inl rfl))) (pss_cons (ps_asg (pv 4) (pg_sub (pv 2) (pe_op op_sub (pv 3) pe_int) set_list)) (pss_one (ps_asg (pv 4) (pg_sub (pv 2) (pv 3) set_list)))))) (pss_one (ps_ret (pv 2))))), ?_⟩)
  · obtain ⟨ds, d, a, ⟨L, t, _, _, _, _, rfl, _⟩, _⟩ := h
    exact a.len
  · obtain ⟨ds, d, a, ⟨L, t, ho, hL, n1, n4, rfl, rfl⟩, q⟩ := h
    obtain ⟨u, u', rfl, a1, a2⟩ := All.inv2 a
    try dsimp only [cxOf, Cx.nox, Cx.wish]
    refine q_asgN (K := K) (en_list (ed_var rfl a2)) fun p xs H1 hp e1 hq ax => ?_
    have hx := allIL ax
    subst hx
    refine q_for (K := K) (L := [p]) (n := (ops L t.length).length) (EvI.is (ei_list (es_new (en_call (es := iL (ops L t.length)) (ea1 (ed_var rfl (a1.ex e1)) (ea1 (EvD.is (ed_lenL (K := K) (ed_var rfl (.lst (.inl hq) iLall))) (by rw [iLlen])) ea0)) ⟨L, t.length, ho, hL, n1, n4, rfl, rfl⟩) (fun l hl => by rw [List.mem_singleton.mp hl]; exact ⟨_, hq⟩)) (iLlf _)) (iLlen _))
      (fun i σ' H' => (∃ y z, σ' = [some u, some u', some (.ref p), y, z]) ∧ Ex H H' ∧ H' p = some (.lst ((play t ((ops L t.length).take i)).map V.int))) (fun H2 e2 => ⟨⟨none, none, rfl⟩, e1.trans e2, e2 _ _ hq⟩) ?_ ?_
    · rintro i x σ' H' H'' hi ⟨⟨y, z, rfl⟩, E2, hy⟩ e3 ax2
      rw [show (iL (ops L t.length)).getD i .non = .int (ops L t.length)[i] from getD_map _ _ _ hi] at ax2
      cases ax2
      refine g_name ?_
      obtain ⟨b1, b2⟩ := ops_in (List.getElem_mem hi)
      have hl := play_len ((ops L t.length).take i) t
      have hy3 := e3 _ _ hy
      rw [play_succ _ _ _ hi]
      generalize play t ((ops L t.length).take i) = tt at hl hy3
      generalize (ops L t.length)[i] = w at b1 b2
      have iv : Is K H'' (.ref p) (.lst (iL tt)) := .lst (.inl hy3) iLall
      refine q_asgD (K := K) (ed_divW (ed_add (ed_ixL (ed_var rfl iv) (ed_sub (ed_var rfl (.int _)) ed_int) (at_il0 (by omega) (by rw [hl]; omega))) (ed_ixL (ed_var rfl iv) (ed_var rfl (.int _)) (at_il0 (by omega) (by rw [hl]; exact b2)))) ed_int (divW (j := 2) (b := 2) (by decide) (by decide))) fun v4 H4 e4 i4 => ?_
      cases i4
      have hy4 := e4 _ _ hy3
      refine q_setD (K := K) (j := (w - 1).toNat) hy4 (ed_var rfl (.int _)) (ev_ref rfl) (ed_sub (ed_var rfl (.int _)) ed_int) ?_ fun v5 H5 e5 i5 => ?_
      · have h : ((w - 1).toNat : Int) = w - 1 := by omega
        rw [← h, List.length_map]
        exact ixN_nat (by omega)
      · cases i5
        refine s_setD (K := K) (j := w.toNat) upd_same (ed_var rfl (.int _)) (ev_ref rfl) (ed_var rfl (.int _)) ?_ fun v6 H6 e6 i6 => ?_
        · have h : (w.toNat : Int) = w := by omega
          rw [← h, List.length_set, List.length_map]
          exact ixN_nat (by omega)
        · cases i6
          have hy5 := e5 _ _ hy4
          have hy6 := e6 _ _ (upd_same (H := H5) (a := p) (o := .lst ((tt.map V.int).set (w - 1).toNat (.int ((tt.getD (w - 1).toNat 0 + tt.getD w.toNat 0) / 2)))))
          refine ⟨⟨⟨_, _, rfl⟩, Ex.updN ((Ex.updN (((E2.trans e3).trans e4).trans e5) hp).trans e6) hp, ?_⟩, ((Mu.ex ((e3.trans e4).trans e5)).trans (Mu.upd (List.mem_singleton.mpr rfl) hy5)).trans ((Mu.ex e6).trans (Mu.upd (List.mem_singleton.mpr rfl) hy6))⟩
          rw [upd_same]
          unfold avg
          rw [List.map_set, List.map_set]
    · rintro σ' H' ⟨⟨y, z, rfl⟩, E2, hy⟩
      rw [List.take_length] at hy
      exact ⟨_, rfl, q p _ H' hp E2 hy iLall⟩
def R__law_scale (ds : List D) (d : D) : Prop := ∃ (L : List Rnd) (n : Nat), L.length ≤ 12 ∧ n ≤ 400 ∧ ds = [.lst (rds L), .int (n : Int)] ∧ d = .int ((L.length * n + 1 : Nat) : Int)
theorem ok__law_scale (T : Txt K mg) : FnG P w K mg base 1 (He.ga K "_law_scale") ["rounds", "many"] (spD K R__law_scale) := by
  refine fnG (N := ["rounds", "many"]) (st := s__law_scale) T.f__law_scale sc__law_scale (fun vs H Q E h => ?_) (fun _ _ _ _ _ _ us hl => match us, hl with | [_, _], _ => rfl) (fun cdv A outer s H vs Q E hr h => ⟨_, (pss_one (ps_ret (pe_op op_add (pe_op op_mulW (pe_callB call_lenS (by rfl) T.z_len PySem.boot_len (pa_cons (pv 0) pa_nil)) (pv 1)) pe_int))), ?_⟩)
  · obtain ⟨ds, d, a, ⟨L, n, _, _, rfl, _⟩, _⟩ := h
    exact a.len
  · obtain ⟨ds, d, a, ⟨L, n, hL, hn, rfl, rfl⟩, q⟩ := h
    obtain ⟨u, u', rfl, a1, a2⟩ := All.inv2 a
    cases a2
    try dsimp only [cxOf, Cx.nox, Cx.wish]
    refine s_retD (K := K) (EvD.is (ed_add (ed_mulW (i := (L.length : Int)) (EvD.is (ed_lenL (K := K) (ed_var rfl a1)) (by rw [rds_len])) (ed_var rfl (.int _)) (mulW (a := 10) (b := 10) (by omega) (by omega))) ed_int) ?_) fun v H2 e2 i2 => q _ _ e2 i2
    rw [Int.natCast_add, Int.natCast_mul]
    rfl
def R_part (ds : List D) (d : D) : Prop := ∃ (n : Int) (b : Nat), ds = [.int n, .int (b : Int)] ∧ 0 < b ∧ b < 2 ^ 9000 ∧ d = fr (mkRat n b)
theorem abs_if (n : Int) : (if n < 0 then -n else n) = ((n.natAbs : Nat) : Int) := by
  split <;> omega
theorem ok__law_part (T : Txt K mg) : FnG P w K mg base 1 (He.ga K "_law_part") ["top", "below"] (spD K R_part) := by
  refine fnG (N := ["top", "below", "one", "other"]) (st := s__law_part) T.f__law_part sc__law_part (fun vs H Q E h => ?_) (fun _ _ _ _ _ _ us hl => match us, hl with | [_, _], _ => rfl) (fun cdv A outer s H vs Q E hr h => ⟨_, (pss_cons (ps_par (i := 2) (j := 3) (by rfl) sc__law_part.nd rfl rfl (by decide) rfl rfl (pa_cons (pe_callB call_absS (by rfl) T.z_abs (by decide +kernel) (pa_cons (pv 0) pa_nil)) (pa_cons (pv 1) pa_nil)) (by rfl)) (pss_cons (ps_while PassesOwn.never (pt_cmpR op_ne (pv 3) pe_int (nomark _)) (pss_one (ps_par (i := 2) (j := 3) (by rfl) sc__law_part.nd rfl rfl (by decide) rfl rfl (pa_cons (pv 3) (pa_cons (pe_op op_mod (pe_callTy call_intS (by rfl) T.z_int (by decide +kernel) (pa_cons (pv 2) pa_nil)) (pv 3)) pa_nil)) (by rfl)))) (pss_one (ps_ret (pe_tup (pa_cons (pe_op op_fdivW (pv 0) (pv 2)) (pa_cons (pe_op op_fdivW (pv 1) (pv 2)) pa_nil))))))), ?_⟩)
  · obtain ⟨ds, d, a, ⟨n, b, rfl, _⟩, _⟩ := h
    exact a.len
  · obtain ⟨ds, d, a, ⟨x, y, rfl, hb, hs, rfl⟩, q⟩ := h
    obtain ⟨e1, e2⟩ := mkRat_pair (n := x) (d := y) (by omega)
    obtain ⟨v, v', rfl, a1, a2⟩ := All.inv2 a
    cases a1
    cases a2
    try dsimp only [cxOf, Cx.nox, Cx.wish]
    refine q_parD (K := K) (d1 := .int ((x.natAbs : Nat) : Int)) (d2 := .int (y : Int)) (EvD.is (ed_abs (ed_var rfl (.int _))) (by rw [abs_if])) (ed_var rfl (.int _)) fun w1 w2 H0 e0 j1 j2 => ?_
    cases j1
    cases j2
    refine q_while (fun m σ' H' => ∃ a b : Nat, σ' = [some (.int x), some (.int (y : Int)), some (.int (a : Int)), some (.int (b : Int))] ∧ Nat.gcd a b = Nat.gcd x.natAbs y ∧ m = b ∧ Ex H H') y ⟨x.natAbs, y, rfl, rfl, rfl, e0⟩ ?_
    rintro m σ' H' ⟨a, b, rfl, hg, em, ex⟩
    refine ⟨!decide ((b : Int) = 0), et_t (K := K) (ed_neI (ed_var rfl (.int _)) ed_int), fun hb' H1 x1 => ?_, fun hb' H1 x1 => ?_⟩
    · have hb0 : (b : Int) ≠ 0 := by simpa using hb'
      refine ⟨fun σ2 H2 => σ2 = [some (.int x), some (.int (y : Int)), some (.int (b : Int)), some (.int ((a % b : Nat) : Int))] ∧ Ex H H2, ?_, ?_⟩
      · rintro σ2 H2 ⟨rfl, e2⟩
        refine ⟨a % b, by rw [em]; exact Nat.mod_lt _ (by omega), b, a % b, rfl, ?_, rfl, e2⟩
        rw [← hg, Nat.gcd_comm b (a % b), ← Nat.gcd_rec, Nat.gcd_comm]
      · refine s_parD (K := K) (d1 := .int (b : Int)) (d2 := .int ((a % b : Nat) : Int)) (ed_var rfl (.int _)) ?_ fun u u' H3 x3 i1 i2 => ?_
        · refine EvD.is (d := .int ((a : Int) % (b : Int))) (ed_mod (ed_intI (ed_var rfl (.int _))) (ed_var rfl (.int _)) (by omega)) ?_
          rw [Int.natCast_emod]
        · cases i1
          cases i2
          exact ⟨rfl, (ex.trans x1).trans x3⟩
    · have hb0 : b = 0 := by
        have : (b : Int) = 0 := by simpa using hb'
        omega
      subst hb0
      rw [Nat.gcd_zero_right] at hg
      subst hg
      have hd : ∀ i : Int, CDivW i ((Nat.gcd x.natAbs y : Nat) : Int) := fun i => divW_gcd hb hs (Nat.gcd_dvd_right _ _)
      refine s_retD (K := K) (d := fr (mkRat x y)) ?_ fun v2 H2 x2 i2 => q _ _ ((ex.trans x1).trans x2) i2
      unfold fr
      rw [← e1, ← e2]
      exact ed_tup (ea1 (ed_divW (ed_var rfl (.int _)) (ed_var rfl (.int _)) (hd _)) (ea1 (ed_divW (ed_var rfl (.int _)) (ed_var rfl (.int _)) (hd _)) ea0)) (by show 2 ≤ 100000; decide)
theorem scl_ok {t : List Int} {v : List Int} {s : Nat} (ht : t = v.map fun x => x * 2 ^ s) : Sc (((2 ^ s : Nat) : Nat) : Rat) t (v.map fun x : Int => (x : Rat)) ∧ Dv s t := by
  subst ht
  have g : ∀ i, (v.map fun x => x * 2 ^ s).getD i 0 = v.getD i 0 * 2 ^ s := fun i => by
    rw [List.getD_eq_getElem?_getD, List.getElem?_map, List.getD_eq_getElem?_getD]
    cases v[i]? with
    | none => simp
    | some x => rfl
  have g2 : ∀ i, (v.map fun x : Int => (x : Rat)).getD i 0 = ((v.getD i 0 : Int) : Rat) := fun i => by
    rw [List.getD_eq_getElem?_getD, List.getElem?_map, List.getD_eq_getElem?_getD]
    cases v[i]? with
    | none => rfl
    | some x => rfl
  refine ⟨⟨by simp, fun i => ?_⟩, fun i => ?_⟩
  · rw [g, g2, Rat.intCast_mul]
    have : (2 ^ s : Int) = ((2 ^ s : Nat) : Int) := by rw [Int.natCast_pow]; rfl
    rw [this]
    rfl
  · rw [g, Int.natCast_pow]
    exact ⟨_, Int.mul_comm _ _⟩
def qv (v : List Int) : List Rat := v.map fun x : Int => (x : Rat)
theorem law_res {L : List Rnd} {v : List Int} {s : Nat} (ho : ∀ r ∈ L, r.ok) (hs : L.length * v.length ≤ s) : (play (v.map fun x => x * 2 ^ s) (ops L v.length)).map (fun x => mkRat x (2 ^ s)) = plyQ (qv v) (ops L v.length) := by
  obtain ⟨h1, h2⟩ := scl_ok (t := v.map fun x => x * 2 ^ s) (v := v) (s := s) rfl
  have hl : (v.map fun x => x * 2 ^ s).length = v.length := List.length_map ..
  have ol := ops_len L v.length
  obtain ⟨g1, _⟩ := play_any (ops L v.length) (e := s - (ops L v.length).length) (fun w hw => by rw [hl]; exact ops_in hw) (by rw [show s - (ops L v.length).length + (ops L v.length).length = s from by omega]; exact h2) h1
  refine List.ext_getElem (by rw [List.length_map]; exact g1.len) fun i a b => ?_
  rw [List.length_map] at a
  rw [List.getElem_map]
  refine mk_of (Nat.ne_of_gt (Nat.two_pow_pos s)) ?_
  have e := g1.at_ i
  unfold qv at b ⊢
  rw [getD_in a, getD_in b] at e
  exact e
def R__law_done (ds : List D) (d : D) : Prop := ∃ (L : List Rnd) (v : List Int), (∀ r ∈ L, r.ok) ∧ L.length ≤ 12 ∧ 1 ≤ v.length ∧ v.length ≤ 24 ∧ (∀ x ∈ v, x.natAbs < 2 ^ 100) ∧ ds = [.lst (rds L), .lst (iL v)] ∧ d = .tup (frs (plyQ (qv v) (ops L v.length)))
theorem ok__law_done (T : Txt K mg) : FnG P w K mg base 5 (He.ga K "_law_done") ["rounds", "volumes"] (spD K R__law_done) := by
  refine fnG (N := ["rounds", "volumes", "scale", "number", "volume"]) (st := s__law_done) T.f__law_done sc__law_done (fun vs H Q E h => ?_) (fun _ _ _ _ _ _ us hl => match us, hl with | [_, _], _ => rfl) (fun cdv A outer s H vs Q E hr h => ⟨_, (pss_cons (ps_asg (pe_callG (ok__law_scale T) (hr.mono (by decide)) (by rfl) T.m__law_scale (pa_cons (pv 0) (pa_cons (pe_callB call_lenS (by rfl) T.z_len PySem.boot_len (pa_cons (pv 1) pa_nil)) pa_nil))) (pg_name (i := 2) sc__law_done.nd rfl (.inr rfl))) (pss_one (ps_ret (pe_callTy call_tupS (by rfl) T.z_tuple (by decide +kernel) (pa_cons (pe_lc (own := [("number", 3)]) rfl sc__law_done.nd (pi_list (pe_callG (ok__law_play T) (hr.mono (by decide)) (by rfl) T.m__law_play (pa_cons (pv 0) (pa_cons (pe_lc (own := [("volume", 4)]) rfl sc__law_done.nd (pi_list (pv 1)) (blkOk_by (own := [("volume", 4)]) (N := ["rounds", "volumes", "scale", "number", "volume"]) (sc := defScope s__law_done) (by decide +kernel)) (fun _ _ _ _ _ => (pg_name (i := 4) sc__law_done.nd rfl (.inl rfl))) (fun _ _ _ _ _ => pts_nil) (fun _ _ _ _ _ => (pe_op op_shlW (pv 4) (pv 2)))) pa_nil)))) (blkOk_by (own := [("number", 3)]) (N := ["rounds", "volumes", "scale", "number", "volume"]) (sc := defScope s__law_done) (by decide +kernel)) (fun _ _ _ _ _ => (pg_name (i := 3) sc__law_done.nd rfl (.inl rfl))) (fun _ _ _ _ _ => pts_nil) (fun _ _ _ _ _ => (pe_callG (ok__law_part T) (hr.mono (by decide)) (by rfl) T.m__law_part (pa_cons (pv 3) (pa_cons (pe_op op_shlW pe_int (pv 2)) pa_nil))))) pa_nil))))), ?_⟩)
  · obtain ⟨ds, d, a, ⟨L, v, _, _, _, _, _, rfl, _⟩, _⟩ := h
    exact a.len
  · obtain ⟨ds, d, a, ⟨L, v, ho, hL, l1, l4, hv, rfl, rfl⟩, q⟩ := h
    obtain ⟨u, u', rfl, a1, a2⟩ := All.inv2 a
    try dsimp only [cxOf, Cx.nox, Cx.wish]
    have hs : L.length * v.length ≤ 288 := Nat.mul_le_mul hL l4
    refine q_asgD (K := K) (d := .int ((L.length * v.length + 1 : Nat) : Int)) (ed_call (ea1 (ed_var rfl a1) (ea1 (EvD.is (ed_lenL (K := K) (ed_var rfl a2)) (by rw [iLlen])) ea0)) ⟨L, v.length, hL, by omega, rfl, rfl⟩) fun v1 H1 e1 i1 => ?_
    cases i1
    have res := law_res (v := v) (s := L.length * v.length + 1) ho (by omega)
    generalize hS : L.length * v.length + 1 = S at res
    generalize ht : (v.map fun x => x * 2 ^ S) = t at res
    have tl : t.length = v.length := by rw [← ht]; simp
    refine s_retD (K := K) (d := .tup (frs (plyQ (qv v) (ops L v.length)))) (ed_tuple (EvN.is (en_lc1 (n := v.length) (item := fun i => .int ((play t (ops L t.length)).getD i 0)) (fun _ => true) (fun i => fr ((plyQ (qv v) (ops L v.length)).getD i 0)) (fun H6 e6 => EvI.item (EvI.is (ei_list (es_new (en_call (es := iL (play t (ops L t.length))) (ea1 (ed_var rfl (a1.ex (e1.trans e6))) (ea1 (EvN.toD (ds := iL t) (EvN.is (en_lc1 (n := v.length) (item := fun i => (iL v).getD i .non) (fun _ => true) (fun i => .int (v.getD i 0 * 2 ^ S)) (fun H7 e7 => EvI.is (ei_list (es_any (ed_var rfl (a2.ex ((e1.trans e6).trans e7)))) (iLlf v)) (iLlen v)) (by omega) (fun _ _ _ => rfl) (fun x => rfl) (fun i x H7 _ _ _ => et_yes) (fun i x H7 hi e7 ax _ => ?_)) ?_)) ea0)) ⟨L, t, ho, hL, by omega, by omega, rfl, rfl⟩) (fun l hl => nomatch hl)) (iLlf _)) (by rw [iLlen, play_len, tl])) ?_) (by omega) (fun _ _ _ => rfl) (fun x => rfl) (fun i x H6 _ _ _ => et_yes) (fun i x H6 hi e6 ax _ => ?_)) ?_).toD) fun v H6 e6 i6 => q _ _ (e1.trans e6) i6
    · rw [show (iL v).getD i .non = .int v[i] from getD_map _ _ _ hi] at ax
      rw [getD_in hi]
      exact ed_shl (ed_var rfl ax) (ed_var rfl (.int _)) (shl_ok (n := 100) (hv _ (List.getElem_mem hi)) (by omega))
    · rw [gives_all, ← ht]
      unfold iL
      rw [List.map_map]
      refine List.ext_getElem (by simp) fun i h1 h2 => ?_
      rw [List.length_map, List.length_range] at h1
      rw [List.getElem_map, List.getElem_map, List.getElem_range, getD_in h1]
      rfl
    · intro i hi
      have h : i < (play t (ops L t.length)).length := by rw [play_len, tl]; exact hi
      rw [show (iL (play t (ops L t.length))).getD i .non = .int (play t (ops L t.length))[i] from getD_map _ _ _ h, getD_in h]
    · have hl2 : i < (play t (ops L v.length)).length := by rw [play_len, tl]; exact hi
      have e : (plyQ (qv v) (ops L v.length)).getD i 0 = mkRat ((play t (ops L t.length)).getD i 0) (2 ^ S) := by
        rw [← res, tl, getD_in (by rw [List.length_map]; exact hl2), List.getElem_map, getD_in hl2]
      rw [e]
      refine ed_call (ea1 (ed_var rfl ax) (ea1 (K := K) (d := .int ((2 ^ S : Nat) : Int)) (EvD.is (ed_shl (i := 1) ed_int (ed_var rfl (.int _)) (shl_ok (n := 2) (by decide) (by omega))) ?_) ea0)) ⟨_, _, rfl, Nat.two_pow_pos _, Nat.pow_lt_pow_right (by decide) (by omega), rfl⟩
      rw [Int.natCast_pow, Int.one_mul]
      rfl
    · rw [gives_all]
      exact frs_range _ (by rw [plyQ_len]; simp [qv])

end
end My
end
section
set_option Elab.async false
set_option linter.all false
set_option maxRecDepth 100000
set_option maxHeartbeats 4000000
namespace PySem.W
open PySem PySem.Calls PyProof.Rows Builtin
section
variable {prog : Program} {w : World} {A : Around} {E : Value → Shared → Prop} {s : Shared} {K : Frag} {x C L f : Addr} {h₀ : Heap} {m : Str → Option Value} {ox : Obj} {od : Option Obj} {name : Str} {b tb : Value}
/-- x != b, b of another type -/
theorem my_ne2 {Q : Value → Shared → Prop} (hu : A.units + 1 < cLine) (F : Fr h₀ L s.heap m) (X₀ : K.In h₀) (I : InstAt s.heap x ox C od) (hb : Looks (model prog w) s.heap (typeOf b) tb) (ht : (Value.ref C != tb) = true) (e : subIn K tb (.ref C) = some false)
    (hn : findIn K (.ref C) "__ne__" = some (some (.builtin "object.__ne__"))) (hm : mroIn K C (.type "object") = some true) (hs : findIn K (.ref C) "__eq__" = some (some (.ref f))) (hf : isFn K (.ref f) = true)
    (h : wpAny (model prog w) A.in1 (call (.ref f) [.ref x, b]) (fun v s' => ∃ k, v = .bool k ∧ Q (.bool (!k)) s') E s) : wpAny (model prog w) A (compareOp .NotEq (.ref x) b) Q E s := by
  have X := X₀.keeps F.keep
  have one : wpAny (model prog w) A (tryCompare (.ref x) "__ne__" b) (fun r s' => ∃ v, r = some v ∧ Q v s') E s := by
    unfold tryCompare
    refine wpAny_bind (my_ifBound X I hn PySem.F.slot_tuple_iterator_ne.bind (wpAny_call (codeAny_call_builtin PySem.F.slot_tuple_iterator_ne.plain PySem.F.cmpEntry_ne (check_slot (i := "object.__ne__") (owner := "object") (n := "__ne__") PySem.F.cmpKind_ne PySem.F.cmpSplit_ne (I.type.andThen (looks_mroIn X hm)) (PySem.F.cmpArgs_ne _ _) ?_))))
    unfold Builtin.«object.__ne__»
    refine wpAny_bind (m := slotArgs "__ne__" 1 _) (wpAny_pure ?_)
    refine wpAny_bind (m := cRoomFor _ _) (wpAny_cRoomFor (A := A.in1) hu ?_)
    refine wpAny_bind (m := callSpecialIfBound? (.ref x) (Str.ofString "__eq__") _) (ifBound_K X I hs hf (wpAny_mono h (fun r s' hq => ?_) fun _ _ y => y))
    obtain ⟨k, rfl, q⟩ := hq
    refine wpAny_bind (wpAny_truthy_bool (wpAny_pure ?_))
    exact wpAny_pure ⟨_, rfl, q⟩
  show wpAny (model prog w) A (richCompare .NotEq (.ref x) b) Q E s
  unfold richCompare
  simp only [oneThing_ref]
  refine wpAny_holding (wpAny_bind (wpAny_cRoomFor (by omega) ?_))
  refine wpAny_bind (I.type.here (wpAny_bind (hb.here ?_)))
  rw [if_pos ht]
  refine wpAny_bind ((looks_subIn X e).here ?_)
  simp only [Bool.false_eq_true, if_false]
  refine wpAny_bind (wpAny_mono one (fun r s' z => ?_) fun _ _ e => e)
  obtain ⟨v, rfl, hq⟩ := z
  exact wpAny_pure hq
end
end PySem.W
namespace L2
open PySem PySem.Spec PyProof.Rows
section
variable {X : Cx} {n : Nat}
/-- x != i by an __eq__ of the text, i an int -/
def rNeI (C : Addr) (sp : Sp) (E : XK) : R2 := fun x y H Q => ∃ a dx fs i, x = .ref a ∧ y = .int i ∧ H a = some (.ins C dx fs) ∧ sp [.ref a, .int i] H (fun v H' => ∃ k : Bool, v = .bl k ∧ Q (.bl (!k)) H') E
theorem neI_of {C f : Addr} {ps : List Str} {sp : Sp} (F : WD.FnG X.prog X.w X.K X.mg X.base n f ps sp) (hm : Meth X.K C "__eq__" f) (hn : PySem.W.findIn X.K (.ref C) "__ne__" = some (some (.builtin "object.__ne__"))) (ho : PySem.W.mroIn X.K C (.type "object") = some true) (hi : PySem.W.subIn X.K (.type "int") (.ref C) = some false) (hr : Room (n + 1) X.A) : OpR X (compareOp .NotEq) (rNeI C sp E0) := by
  obtain ⟨⟨fd, F, B⟩, kp⟩ := F
  intro pins s σ H x y v u Q I rx ry h
  obtain ⟨a, dx, fs, i, rfl, rfl, ha, hsp⟩ := h
  cases rx
  obtain ⟨t, rfl⟩ := ry
  obtain ⟨mA, J, _⟩ := ins_get I.hok ha
  obtain ⟨od, J, _⟩ := J.look
  obtain ⟨m, hF⟩ := I.fr
  have hu : X.A.units + 1 < cLine := by
    have := hr.units
    omega
  refine PySem.W.my_ne2 (tb := .type "int") hu hF I.ok.mod.kin J (PySem.W.Looks.of_pure rfl) rfl hi hn ho hm.at_ hm.fn ?_
  refine wpAny_mono (own_call (A := X.A.in1) (Sub.in1 ⟨hr, rfl⟩) F B passL I (.cons (show RelV (.ref a) (.ref a) from rfl) (.cons (show RelV (.int i) (.int i t) from ⟨t, rfl⟩) .nil)) hsp) (fun v s' z => ?_) fun _ _ x => x
  obtain ⟨w, H', I', rw', k, rfl, q⟩ := z
  cases rw'
  exact ⟨k, rfl, .bl (!k), H', I', rfl, q⟩
theorem tuple_mul1 (l : Addr) (items : Array Value) (n : Nat) (dd : Option Addr) (sl : Array (Option Value)) (u : Tok) :
    Meets (Builtin.«tuple.__mul__» ⟨[.ref l, .int 1 u], []⟩) (fun _ R s => s.heap.get? l = some { cls := .type "tuple", dict := dd, data := .seq items n, slots := sl } ∧ R (.ok (.ret (Value.ref l))) s) :=
  .of_wp fun prog w A R s h => by
    obtain ⟨hp, g, d, tk, os⟩ := s
    obtain ⟨hl, h⟩ := h
    have f1 := AutoSeq1.idx_int
    have c0 : (decide ((1 : Int) < -(2 ^ 63)) || decide ((1 : Int) ≥ 2 ^ 63)) = false := by decide
    have c1 : (items.isEmpty || (1 : Int) == 1) = true := by simp
    wp_walk using wpAny_loadPart' hl
    repeat (first
      | (refine wpAny_ite_false (decide_eq_false (by rw [c0]; exact Bool.false_ne_true)) ?_; wp_walk using wpAny_loadPart' hl)
      | (refine wpAny_ite_true (decide_eq_true c1) ?_; wp_walk using wpAny_loadPart' hl))
    exact ⟨_, rfl, h⟩
/-- t * k, k from 1 on -/
def rRepT1 (K : PySem.W.Frag) : R2 := fun x y H Q => ∃ l k xs, x = .ref l ∧ y = .int k ∧ SqT K H l xs ∧ xs ≠ [] ∧ 1 ≤ k ∧ k ≤ 1000 ∧ xs.length ≤ 1000 ∧ (k = 1 → Q (.ref l) H) ∧ (2 ≤ k → ∀ p, H p = none → Q (.ref p) (upd H p (.tup (List.replicate k.toNat xs).flatten)))
theorem op_repT1 : OpR X (binaryOp .Mult) (rRepT1 X.K) := by
  intro pins s σ H x y v u Q I rx ry h
  obtain ⟨l, k, xs, rfl, rfl, hT, hne, h1, h2, hz, q1, q2⟩ := h
  by_cases c : 2 ≤ k
  · exact op_repT pins s σ H _ _ v u Q I rx ry ⟨l, k, xs, rfl, rfl, hT, hne, c, h2, hz, q2 c⟩
  · have e : k = 1 := by omega
    subst e
    cases rx
    obtain ⟨t, rfl⟩ := ry
    obtain ⟨its, r, ⟨⟨cls, dd, data, sl⟩, ho, hc, n, hd⟩, hs⟩ := I.tuple hT
    simp only at hc hd
    subst hc hd
    refine wpAny_binaryOp_repeat_ref (T := "tuple") (U := "int") (by decide) ⟨_, ho, rfl⟩ (fun s' => typeIs_int s' 1 t) noFill_tuple_mul F.fills_int_mul F.slot_int_rmul repeat_tuple F.slot_int_index.lookup
      (call_meets F.slot_int_rmul (typeIs_int s 1 t) F.entry_int_rmul (F.args_int_rmul_2 _ _) (int_rmul_tuple 1 t l its.toArray n dd sl)
        ⟨ho, rfl, ⟨_, ho, rfl⟩, call_meets F.slot_tuple_mul ⟨_, ho, rfl⟩ F.entry_tuple_mul (F.args_tuple_mul_2 _ _) (tuple_mul1 l its.toArray n dd sl t) ⟨ho, ?_⟩⟩)
    exact ⟨.ref l, H, I, rfl, q1 rfl⟩
end
end L2
namespace WD
open PySem PySem.Spec PyProof.Rows L2 Evl
section
variable {K : PySem.W.Frag} {σ : L2.St} {H : Hp} {ta tb te : TE} {d : D} {ds : List D}
theorem ed_neIO {c : Str} {R : List D → D → Prop} {E : XK} {fs : List (Str × D)} {i : Int} {b : Bool} (ha : EvD K ta σ H (.obj c fs)) (hb : EvD K tb σ H (.int i)) (hR : R [.obj c fs, .int i] (.bl b)) : EvD K (tOp (rNeI (He.ga K c) (spD K R) E) ta tb) σ H (.bl (!b)) := ed_op ha hb fun v1 v2 H1 _ a1 a2 Q q => by
  cases a2
  cases a1 with
  | @obj x dx _ fvs _ hx af =>
    refine ⟨x, dx, fvs, i, rfl, rfl, hx, _, _, .cons (.obj hx af) (.cons (.int i) .nil), hR, fun v H' e a => ?_⟩
    cases a
    exact ⟨b, rfl, q _ H' e (.bl _)⟩
theorem All.rep {vs : List V} {H : Hp} (a : All K H vs ds) : ∀ n : Nat, All K H (List.replicate n vs).flatten (List.replicate n ds).flatten
  | 0 => .nil
  | n + 1 => by
    rw [List.replicate_succ, List.replicate_succ, List.flatten_cons, List.flatten_cons]
    exact a.app (All.rep a n)
theorem en_rep {n : Nat} (h : EvN K ta σ H ds) (hb : ∀ H1, EvD K tb σ H1 (.int (n : Int))) (hn : ds.length * n ≤ 100000) (hn2 : n ≤ 100000) : EvN K (tOp rRep ta tb) σ H (List.replicate n ds).flatten := fun H1 e Q q =>
  h H1 e _ fun p xs H2 hp e2 hx ax => hb H2 H2 (Ex.refl _) _ fun v H3 e3 i3 => by
    cases i3
    refine ⟨p, n, xs, rfl, rfl, e3 _ _ hx, by omega, by omega, by rw [ax.len, Int.toNat_natCast, sizeLine_eq]; omega, fun r hr => q r _ _ (fresh_back (e2.trans e3) hr) ((e2.trans e3).trans (Ex.new hr)) upd_same ?_⟩
    rw [Int.toNat_natCast]
    exact ((All.rep (ax.ex e3) n)).ex (Ex.new hr)
theorem ed_repT {n : Nat} (h : EvD K ta σ H (.tup ds)) (hb : ∀ H1, EvD K tb σ H1 (.int (n : Int))) (h0 : ds ≠ []) (hd : ds.length ≤ 1000) (hn1 : 1 ≤ n) (hn : n ≤ 1000) : EvD K (tOp (rRepT1 K) ta tb) σ H (.tup (List.replicate n ds).flatten) := fun H1 e Q q =>
  h H1 e _ fun v H2 e2 a => hb H2 H2 (Ex.refl _) _ fun w H3 e3 i3 => by
    cases i3
    obtain ⟨p, xs, rfl, hp, ax⟩ := Is.tup_inv (a.ex e3)
    refine ⟨p, n, xs, rfl, rfl, hp, fun z => h0 (by
      have := ax.len
      rw [z] at this
      exact List.eq_nil_of_length_eq_zero this.symm), by omega, by omega, by rw [ax.len]; exact hd, fun z => ?_, fun z r hr => ?_⟩
    · have e1 : n = 1 := by omega
      subst e1
      refine q _ H3 (e2.trans e3) (.tup hp ?_)
      simpa using ax
    · refine q _ _ ((e2.trans e3).trans (Ex.new hr)) (.tup (st_of upd_same) ?_)
      rw [Int.toNat_natCast]
      exact (All.rep ax n).ex (Ex.new hr)
theorem ei_tupN (h : EvD K te σ H (.tup ds)) : EvI K (iTup K te) σ [] H ds.length (fun i => ds.getD i .non) := fun R r =>
  h H (Ex.refl H) _ fun v H2 e2 i2 => by
    obtain ⟨p, xs, rfl, hp, a⟩ := Is.tup_inv i2
    exact ⟨p, rfl, ⟨xs, hp⟩, r (Itt K p) H2 (fun H3 => Ex H2 H3) e2 ⟨Ex.refl _, fun L' hL' H3 H4 q m => Mu.of_ex q m fun l hl => (hL' l hl).elim (fun z => nomatch z) id, fun H3 q i hi => by
        obtain ⟨d, hd⟩ : ∃ d, ds[i]? = some d := ⟨_, List.getElem?_eq_getElem hi⟩
        obtain ⟨v, hv, hi2⟩ := (a.ex q).get hd
        refine ⟨⟨xs, v, ex_t q hp, hv⟩, fun x H4 hy => ?_⟩
        obtain ⟨h1, h2⟩ := (show H4 = H3 ∧ ∀ xs, SqT K H3 p xs → xs[i]? = some x from hy)
        subst h1
        have h3 := h2 xs (ex_t q hp)
        rw [hv] at h3
        cases h3
        rw [getD_some hd]
        exact ⟨Ex.refl _, hi2⟩, fun H3 q => ⟨xs, ex_t q hp, by rw [a.len]; exact Nat.le_refl _⟩⟩⟩
end
end WD
end
section
set_option Elab.async false
set_option linter.all false
set_option maxRecDepth 100000
set_option maxHeartbeats 4000000
namespace My
open PySem PySem.Spec PyProof.Rows L2 Evl WD
local macro_rules | `(tactic| walk_at "exgo") => `(tactic| first | exact Ex.refl _ | assumption | (refine' Ex.trans ?ea ?eb; (case eb => assumption); (case ea => walk_at "exgo")))
local macro_rules | `(tactic| walk_at "is") => `(tactic| first | assumption | (refine' Is.ex ?e ?h; (case h => assumption); (case e => walk_at "exgo")) | exact Is.int _ | exact Is.bl _ | exact Is.non)
local macro_rules | `(tactic| walk_at "ev") => `(tactic| first
  | exact ed_int | exact ed_bl | exact ed_non | exact ed_str
  | ((with_reducible apply ed_var) <;> first | exact rfl | walk_at "is")
  | ((with_reducible apply ed_add) <;> walk_at "ev")
  | ((with_reducible apply ed_sub) <;> walk_at "ev")
  | ((with_reducible apply ed_neg) <;> walk_at "ev")
  | ((with_reducible apply ed_mulW) <;> try walk_at "ev")
  | ((with_reducible apply ed_divW) <;> try walk_at "ev")
  | ((with_reducible apply ed_mod) <;> try walk_at "ev")
  | ((with_reducible apply ed_ixT) <;> first | exact rfl | walk_at "ev" | skip)
  | ((with_reducible apply ed_ixL) <;> first | exact rfl | walk_at "ev" | skip)
  | ((with_reducible apply ed_lt) <;> walk_at "ev")
  | ((with_reducible apply ed_le) <;> walk_at "ev")
  | ((with_reducible apply ed_gt) <;> walk_at "ev")
  | ((with_reducible apply ed_ge) <;> walk_at "ev")
  | ((with_reducible apply ed_eqI) <;> walk_at "ev")
  | ((with_reducible apply ed_neI) <;> walk_at "ev")
  | ((with_reducible apply ed_gcd) <;> walk_at "ev")
  | ((with_reducible apply ed_abs) <;> walk_at "ev")
  | ((with_reducible apply ed_intI) <;> walk_at "ev")
  | ((with_reducible apply ed_intB) <;> walk_at "ev")
  | ((with_reducible apply ed_max2) <;> walk_at "ev")
  | ((with_reducible apply ed_min2) <;> walk_at "ev")
  | ((with_reducible apply ed_lenT) <;> walk_at "ev")
  | ((with_reducible apply ed_lenL) <;> walk_at "ev")
  | ((with_reducible apply ed_tuple) <;> walk_at "ev")
  | ((with_reducible apply ed_tupleT) <;> walk_at "ev")
  | ((with_reducible apply ed_tup) <;> first | walk_at "ea" | (simp; done) | skip)
  | ((with_reducible apply et_t) <;> walk_at "ev")
  | ((with_reducible apply et_v) <;> walk_at "ev"))
local macro_rules | `(tactic| walk_at "ea") => `(tactic| first
  | exact ea0
  | ((with_reducible apply ea1) <;> first | walk_at "ev" | walk_at "ea" | skip))

section
variable {P : Program} {w : World} {K : PySem.W.Frag} {mg : Str → Option Value} {base : Heap}
theorem en_cat2 {σ : L2.St} {H : Hp} {ta tb : TE} {ds es : List D} (ha : EvN K ta σ H ds) (hb : ∀ H1, Ex H H1 → EvN K tb σ H1 es) (hl : ds.length + es.length ≤ 100000) : EvN K (tOp rCat ta tb) σ H (ds ++ es) := fun H1 e1 Q q =>
  ha H1 e1 _ fun p xs H2 hp e2 hx ax => hb H2 (e1.trans e2) H2 (Ex.refl H2) _ fun r ys H3 hr e3 hy ay => by
    refine ⟨p, r, xs, ys, rfl, rfl, e3 _ _ hx, hy, ?_, fun z hz => q z _ _ (fresh_back (e2.trans e3) hz) ((e2.trans e3).trans (Ex.new hz)) upd_same (((ax.ex e3).app ay).ex (Ex.new hz))⟩
    rw [ax.len, ay.len, sizeLine_eq]
    omega
theorem ed_notN {σ : L2.St} {H : Hp} {te tb : TE} {d : D} {b : Bool} (h : EvD K te σ H d) (hb : ∀ H1, EvD K tb σ H1 .non) (hd : ∀ H v, Is K H v d → (!decide (v = .non)) = b) : EvD K (tOp (fun x y H Q => y = .non ∧ Q (.bl (!decide (x = .non))) H) te tb) σ H (.bl b) := ed_op h (hb _) fun v1 v2 H1 _ a1 a2 Q q => by
  cases a2
  refine ⟨rfl, ?_⟩
  rw [hd H1 v1 a1]
  exact q _ H1 (Ex.refl _) (.bl _)
theorem ed_bySup {σ : L2.St} {H : Hp} {C a dd : Addr} {f : Str} {i : Nat} {v : V} {d : D} (h : σ[i]? = some (some (.ref a))) (hx : H dd = some (.xd [(f, v)])) (av : Is K H v d) : EvD K (tBySup C f a (.ref C) (some dd) (tVar i)) σ H d := fun H1 e Q q =>
  ⟨_, h, rfl, rfl, dd, v, rfl, e _ _ hx, q v H1 (Ex.refl _) (av.ex e)⟩
def R__law_refused (ds : List D) (d : D) : Prop := ∃ (sc : List Int) (L : List Rnd), ds = [.lst (iL sc), .lst (rds L), progD L] ∧ sc.length ≤ 63 ∧ (∀ r ∈ L, r.ok) ∧ L.length ≤ 10 ∧ d = .bl true
theorem cut_all (xs : List D) (k : Nat) : cutD xs none (some (k : Int)) = xs.take k ∧ cutD xs (some (k : Int)) none = xs.drop k := ⟨cut_to xs k, cut_from xs k⟩
theorem rep_rds (n : Nat) (r : Rnd) : (List.replicate n (rds [r])).flatten = rds (List.replicate n r) := by
  induction n with
  | zero => rfl
  | succ n ih =>
    rw [List.replicate_succ, List.flatten_cons, ih, List.replicate_succ]
    rfl
def vbads : List D := [.lst [], .non, .lst [.int 1, .str "a"], .lst [.tup [.int 1, .int 0]], .lst [.tup [.int 1, .int (-2)]], .lst [.bl true], .lst (List.replicate 401 [D.int 0]).flatten]
theorem vbads_ok : ∀ b ∈ vbads, R_badV [b] .start := by
  intro b hb
  refine ⟨rfl, ?_⟩
  simp only [vbads, List.mem_cons, List.not_mem_nil, or_false] at hb
  rcases hb with rfl | rfl | rfl | rfl | rfl | rfl | rfl
  · exact .inr (.inl ⟨[], rfl, by decide⟩)
  · exact .inl ⟨.non, "NoneType", rfl, rfl, by decide +kernel, by decide +kernel⟩
  · exact .inr (.inr ⟨[.i 1], .str "a", rfl, fun t ht => by rw [List.mem_singleton.mp ht]; show (1 : Int).natAbs < 2 ^ 700; exact Nat.one_lt_two_pow (by decide), .str _, rfl, by decide⟩)
  · exact .inr (.inr ⟨[], .tup [.int 1, .int 0], rfl, (fun t ht => nomatch ht), FrC.pair 1 0, rfl, by decide⟩)
  · exact .inr (.inr ⟨[], .tup [.int 1, .int (-2)], rfl, (fun t ht => nomatch ht), FrC.pair 1 (-2), rfl, by decide⟩)
  · exact .inr (.inr ⟨[], .bl true, rfl, (fun t ht => nomatch ht), .bl _, rfl, by decide⟩)
  · refine .inr (.inl ⟨_, rfl, ?_⟩)
    rw [List.length_flatten, List.map_replicate, List.sum_replicate_nat]
    decide
def obads : List D := [.int 0, .int 401, .bl true, .non, .int (-3)]
theorem obads_ok : ∀ b ∈ obads, R_badMany [b] .start := by
  intro b hb
  simp only [obads, List.mem_cons, List.not_mem_nil, or_false] at hb
  rcases hb with rfl | rfl | rfl | rfl | rfl
  · exact ⟨_, rfl, rfl, .inl ⟨0, rfl, by decide⟩⟩
  · exact ⟨_, rfl, rfl, .inl ⟨401, rfl, by decide⟩⟩
  · exact ⟨_, rfl, rfl, .inr ⟨"bool", rfl, rfl⟩⟩
  · exact ⟨_, rfl, rfl, .inr ⟨"NoneType", rfl, rfl⟩⟩
  · exact ⟨_, rfl, rfl, .inl ⟨-3, rfl, by decide⟩⟩
theorem ok__law_refused (T : Txt K mg) (hp : P.main.file = fileS) (ht : (P.main.scope.names.lookup ("super" : Str)).isSome = false) : FnG P w K mg base 8 (He.ga K "_law_refused") ["script", "rounds", "program"] (spD K R__law_refused) := by
  refine fnG (N := ["script", "rounds", "program", "place", "bad", "error", "number"]) (st := s__law_refused) T.f__law_refused sc__law_refused (fun vs H Q E h => ?_) (fun _ _ _ _ _ _ us hl => match us, hl with | [_, _, _], _ => rfl) (fun cdv A outer s H vs Q E hr h => ⟨_, (pss_cons (ps_asg (pe_callG (ok__law_draw T) (hr.mono (by decide)) (by rfl) T.m__law_draw (pa_cons (pv 0) (pa_cons pe_int (pa_cons (pe_op op_add (pe_callB call_lenS (by rfl) T.z_len PySem.boot_len (pa_cons (pv 1) pa_nil)) pe_int) pa_nil)))) (pg_name (i := 3) sc__law_refused.nd rfl (.inl rfl))) (pss_cons (ps_for PassesOwn.never rfl (pi_tup (pe_tup (pa_cons (pe_tup (pa_cons pe_str pa_nil)) (pa_cons (pe_tup (pa_cons pe_str (pa_cons pe_int (pa_cons pe_int pa_nil)))) (pa_cons (pe_tup (pa_cons pe_str (pa_cons pe_int (pa_cons pe_int pa_nil)))) (pa_cons (pe_tup (pa_cons pe_str (pa_cons pe_int (pa_cons pe_int pa_nil)))) (pa_cons (pe_tup (pa_cons pe_str (pa_cons pe_int (pa_cons (pe_un un_neg pe_int) pa_nil)))) (pa_cons (pe_tup (pa_cons pe_str (pa_cons pe_int pa_nil))) (pa_cons (pe_lst (pa_cons pe_str pa_nil)) (pa_cons pe_str (pa_cons (pe_tup (pa_cons pe_str (pa_cons pe_int (pa_cons pe_bl pa_nil)))) (pa_cons (pe_tup (pa_cons pe_str (pa_cons pe_int pa_nil))) (pa_cons pe_non pa_nil))))))))))))) (pg_name (i := 4) sc__law_refused.nd rfl (.inl rfl)) (pss_one (ps_try_as (i := 5) rfl rfl sc__law_refused.nd rfl rfl ⟨rfl, by decide, .inl T.m_BadProgram⟩ takes0 (fun W pn xe tk _ => (pss_cons (ps_expr (pe_makeSG T.k_Program (ok_Program___init___XL T hp ht) (hr.mono (by decide)) (by rfl) T.m_Program tk (pa_cons (pe_op op_cat (pe_op op_cat (pe_slice (slLK (K := K) rfl) (pv 1) po_none (po_some (pv 3))) (pe_lst (pa_cons (pv 4) pa_nil))) (pe_slice (slLK (K := K) rfl) (pv 1) (po_some (pv 3)) po_none)) pa_nil))) (pss_one (ps_ret pe_bl)))) (fun a oe cls d pn hz hf => (pss_one (ps_if (pt_cmpR op_ne (pe_bySup (T.s_BadProgram hp ht) hz hf (pv 5)) (pv 3) (nomark _)) (pss_one (ps_ret pe_bl)) pss_nil)))))) (pss_cons (ps_for PassesOwn.never rfl (pi_range1 (by rfl) T.z_range (pa_cons pe_int pa_nil)) (pg_name (i := 6) sc__law_refused.nd rfl (.inl rfl)) (pss_one (ps_try_as (i := 5) rfl rfl sc__law_refused.nd rfl rfl ⟨rfl, by decide, .inl T.m_BadProgram⟩ takes0 (fun W pn xe tk _ => (pss_cons (ps_if (pt_cmpR op_eq (pv 6) pe_int (nomark _)) (pss_one (ps_expr (pe_makeSG T.k_Program (ok_Program___init___XL T hp ht) (hr.mono (by decide)) (by rfl) T.m_Program tk (pa_cons pe_non pa_nil)))) (pss_one (ps_if (pt_cmpR op_eq (pv 6) pe_int (nomark _)) (pss_one (ps_expr (pe_makeSG T.k_Program (ok_Program___init___XL T hp ht) (hr.mono (by decide)) (by rfl) T.m_Program tk (pa_cons (pe_op op_rep (pe_lst (pa_cons (pe_tup (pa_cons pe_str pa_nil)) pa_nil)) pe_int) pa_nil)))) (pss_one (ps_if (pt_cmpR op_eq (pv 6) pe_int (nomark _)) (pss_one (ps_expr (pe_addSG (ok_Program___add___X T hp ht) T.x_Program___add__ T.sf_Program (hr.mono (by decide)) tk (pe_makeG T.k_Program (ok_Program___init___L T) (hr.mono (by decide)) (by rfl) T.m_Program (pa_cons (pe_op op_rep (pe_lst (pa_cons (pe_tup (pa_cons pe_str pa_nil)) pa_nil)) pe_int) pa_nil)) (pe_makeG T.k_Program (ok_Program___init___L T) (hr.mono (by decide)) (by rfl) T.m_Program (pa_cons (pe_op op_rep (pe_lst (pa_cons (pe_tup (pa_cons pe_str pa_nil)) pa_nil)) pe_int) pa_nil))))) (pss_one (ps_expr (pe_makeSG T.k_Program (ok_Program___init___XL T hp ht) (hr.mono (by decide)) (by rfl) T.m_Program tk (pa_cons pe_str pa_nil))))))))) (pss_one (ps_ret pe_bl)))) (fun a oe cls d pn hz hf => (pss_one (ps_if (PW.pt (pw_and (pt_cmpR op_notN (pe_bySup (T.s_BadProgram hp ht) hz hf (pv 5)) pe_non (nomark _)) (pw_and1 (pt_cmpR op_lt (pv 6) pe_int (nomark _))))) (pss_one (ps_ret pe_bl)) pss_nil)))))) (pss_cons (ps_for PassesOwn.never rfl (pi_tup (pe_tup (pa_cons (pe_lst pa_nil) (pa_cons pe_non (pa_cons (pe_lst (pa_cons pe_int (pa_cons pe_str pa_nil))) (pa_cons (pe_lst (pa_cons (pe_tup (pa_cons pe_int (pa_cons pe_int pa_nil))) pa_nil)) (pa_cons (pe_lst (pa_cons (pe_tup (pa_cons pe_int (pa_cons (pe_un un_neg pe_int) pa_nil))) pa_nil)) (pa_cons (pe_lst (pa_cons pe_bl pa_nil)) (pa_cons (pe_op op_rep (pe_lst (pa_cons pe_int pa_nil)) pe_int) pa_nil))))))))) (pg_name (i := 4) sc__law_refused.nd rfl (.inl rfl)) (pss_one (ps_try_only rfl rfl ⟨rfl, by decide, .inl T.m_BadStart⟩ takes0 (fun W pn xe tk _ => (pss_cons (ps_expr (pe_methSG (pv 2) T.c_Program T.x_Program_done (ok_Program_done_X T) (hr.mono (by decide)) tk (pa_cons (pv 4) pa_nil))) (pss_one (ps_ret pe_bl)))) (fun a oe cls d pn _ _ => (pss_one ps_pass))))) (pss_cons (ps_for PassesOwn.never rfl (pi_tup (pe_tup (pa_cons pe_int (pa_cons pe_int (pa_cons pe_bl (pa_cons pe_non (pa_cons (pe_un un_neg pe_int) pa_nil))))))) (pg_name (i := 4) sc__law_refused.nd rfl (.inl rfl)) (pss_one (ps_try_only rfl rfl ⟨rfl, by decide, .inl T.m_BadStart⟩ takes0 (fun W pn xe tk _ => (pss_cons (ps_expr (pe_methSG (pv 2) T.c_Program T.x_Program_order (ok_Program_order_X T) (hr.mono (by decide)) tk (pa_cons (pv 4) pa_nil))) (pss_one (ps_ret pe_bl)))) (fun a oe cls d pn _ _ => (pss_one ps_pass))))) (pss_one (ps_ret pe_bl))))))), ?_⟩)
  · obtain ⟨ds, d, a, ⟨sc, L, rfl, _⟩, _⟩ := h
    exact a.len
  · obtain ⟨ds, d, a, ⟨sc, L, rfl, hl, ho, hL, rfl⟩, q⟩ := h
    obtain ⟨u1, u2, u3, rfl, a1, a2, a3⟩ := All.inv3 a
    try dsimp only [cxOf, Cx.nox, Cx.wish]
    refine q_asgD (K := K) (d := .int (drw sc 4 ((L.length : Int) + 1))) (ed_call (ea1 (ed_var rfl a1) (ea1 ed_int (ea1 (EvD.is (ed_add (i := (L.length : Int)) (EvD.is (ed_lenL (K := K) (ed_var rfl a2)) (by rw [rds_len])) ed_int) rfl) ea0))) ⟨sc, 4, _, rfl, hl, by decide, by decide, by omega, rfl⟩) fun v1 H1 e1 i1 => ?_
    cases i1
    obtain ⟨pl, hpl, pl2⟩ : ∃ pl : Nat, drw sc 4 ((L.length : Int) + 1) = (pl : Int) ∧ pl ≤ L.length := by
      have := drw_ok sc 4 (m := (L.length : Int) + 1) (by omega)
      exact ⟨(drw sc 4 ((L.length : Int) + 1)).toNat, by omega, by omega⟩
    rw [hpl]
    refine q_look (K := K) (W := fun σ => ∃ y, σ = [some u1, some u2, some u3, some (.int (pl : Int)), y, none, none]) (n := 11) (item := fun i => bads.getD i .non) (ei_tupN (ds := bads) ?_) ⟨none, rfl⟩ ?_ ?_
    · exact ed_tup (ea1 (ed_tup (ea1 ed_str ea0) (by show 1 ≤ 100000; decide)) (ea1 (ed_tup (ea1 ed_str (ea1 ed_int (ea1 ed_int ea0))) (by show 3 ≤ 100000; decide)) (ea1 (ed_tup (ea1 ed_str (ea1 ed_int (ea1 ed_int ea0))) (by show 3 ≤ 100000; decide)) (ea1 (ed_tup (ea1 ed_str (ea1 ed_int (ea1 ed_int ea0))) (by show 3 ≤ 100000; decide)) (ea1 (ed_tup (ea1 ed_str (ea1 ed_int (ea1 (ed_neg ed_int) ea0))) (by show 3 ≤ 100000; decide)) (ea1 (ed_tup (ea1 ed_str (ea1 ed_int ea0)) (by show 2 ≤ 100000; decide)) (ea1 (EvN.toD (en_lst (ea1 ed_str ea0) (by show 1 ≤ 100000; decide))) (ea1 ed_str (ea1 (ed_tup (ea1 ed_str (ea1 ed_int (ea1 ed_bl ea0))) (by show 3 ≤ 100000; decide)) (ea1 (ed_tup (ea1 ed_str (ea1 ed_int ea0)) (by show 2 ≤ 100000; decide)) (ea1 ed_non ea0))))))))))) (by show 11 ≤ 100000; decide)
    · rintro i x σ' H' H'' hi ⟨y, rfl⟩ e2 e3 ax Nx hN
      have hb : bads.getD i .non ∈ bads := gd_mem (show i < bads.length from hi)
      generalize bads.getD i .non = b at ax hb
      refine g_name ?_
      have E := (e1.trans e2).trans e3
      refine q_doX (ex_makeZ (K := K) (r := .prog (.int (pl : Int))) (ea1 (K := K) (d := .lst (rds (L.take pl) ++ b :: rds (L.drop pl))) (EvN.toD (EvN.is (en_cat2 (en_cat2 (EvN.is (en_sl (ed_var rfl (a2.ex E)) eo_none (eo_s (K := K) (i := (pl : Int)) (ed_var rfl (.int _)))) (cut_to _ pl)) (fun H5 e5 => en_lst (ea1 (ed_var rfl (ax.ex e5)) ea0) (by show 1 ≤ 100000; decide)) ?_) (fun H5 e5 => EvN.is (en_sl (ed_var rfl (a2.ex (E.trans e5))) (eo_s (K := K) (i := (pl : Int)) (ed_var rfl (.int _))) eo_none) (cut_from _ pl)) ?_) ?_)) ea0) (.inr (.inr ⟨L.take pl, b, L.drop pl, fun r hr => ho r (List.mem_of_mem_take hr), bads_rc b hb, ?_, rfl, by rw [List.length_take, Nat.min_eq_left pl2]⟩)) ?_)
      · rw [List.length_take, rds_len]
        simp
        omega
      · rw [List.length_append, List.length_take, List.length_drop, rds_len]
        simp
        omega
      · unfold rds
        rw [← List.map_take, ← List.map_drop, List.append_assoc]
        rfl
      · rw [List.length_take, List.length_drop]
        omega
      · intro dd v H5 hd e5 hx av
        cases av
        refine ⟨true, (T.s_BadProgram hp ht).te, fun _ ae hae => ?_, fun z => nomatch z⟩
        exact s_when (b := false) (et_is (et_t (K := K) (ed_neI (K := K) (ed_bySup rfl hx (.int _)) (ed_var rfl (.int _)))) (by rw [decide_eq_true rfl]; rfl)) (fun z => nomatch z) (fun _ H6 e6 => hN _ _ ⟨_, rfl⟩ (e5.trans e6))
    · rintro σ' H2 ⟨y, rfl⟩ e2
      have E2 := e1.trans e2
      refine q_look (K := K) (W := fun σ => ∃ y z, σ = [some u1, some u2, some u3, some (.int (pl : Int)), y, none, z]) (n := 4) (item := fun i => .int (i : Int)) (ei_r1 (n := 4) (ea1 ed_int ea0) (by decide)) ⟨_, none, rfl⟩ ?_ ?_
      · rintro i x σ' H' H'' hi ⟨y, z, rfl⟩ e3 e4 ax Nx hN
        have hi4 : i = 0 ∨ i = 1 ∨ i = 2 ∨ i = 3 := by omega
        refine g_name ?_
        cases ax
        rcases hi4 with rfl | rfl | rfl | rfl
        · refine q_if (b := true) (et_is (et_t (K := K) (ed_eqI (K := K) (ed_var rfl (.int _)) ed_int)) (by decide)) (fun _ H5 f5 => s_doX (ex_makeZ (K := K) (r := .prog .non) (ea1 ed_non ea0) (.inl ⟨.non, "NoneType", rfl, rfl, by decide +kernel, by decide +kernel, rfl⟩) ?_)) (fun z => nomatch z)
          intro dd v H9 hd e9 hx av
          cases av
          refine ⟨true, (T.s_BadProgram hp ht).te, fun _ ae hae => ?_, fun z => nomatch z⟩
          exact s_when (b := false) (et_is (et_and (a := false) (b := false) (et_t (K := K) (ed_notN (ed_bySup rfl hx .non) (fun _ => ed_non) (fun H v a => by cases a; rfl))) (fun z => nomatch z)) rfl) (fun z => nomatch z) (fun _ H6 e6 => hN _ _ ⟨_, _, rfl⟩ (f5.trans (e9.trans e6)))
        · refine q_if (b := false) (et_is (et_t (K := K) (ed_eqI (K := K) (ed_var rfl (.int _)) ed_int)) (by decide)) (fun z => nomatch z) (fun _ H5 f5 => s_if (b := true) (et_is (et_t (K := K) (ed_eqI (K := K) (ed_var rfl (.int _)) ed_int)) (by decide)) (fun _ H6 f6 => s_doX (ex_makeZ (K := K) (r := .prog .non) (ea1 (EvN.toD (EvN.is (en_rep (n := 13) (en_lst (ea1 (d := Rnd.right.d) (ed_tup (ea1 ed_str ea0) (by show 1 ≤ 100000; decide)) ea0) (by show 1 ≤ 100000; decide)) (fun _ => ed_int) (by show 1 * 13 ≤ 100000; decide) (by decide)) (rep_rds 13 .right))) ea0) (.inr (.inl ⟨List.replicate 13 .right, by rw [List.length_replicate]; decide, by rw [List.length_replicate]; decide, rfl, rfl⟩)) ?_)) (fun z => nomatch z))
          intro dd v H9 hd e9 hx av
          cases av
          refine ⟨true, (T.s_BadProgram hp ht).te, fun _ ae hae => ?_, fun z => nomatch z⟩
          exact s_when (b := false) (et_is (et_and (a := false) (b := false) (et_t (K := K) (ed_notN (ed_bySup rfl hx .non) (fun _ => ed_non) (fun H v a => by cases a; rfl))) (fun z => nomatch z)) rfl) (fun z => nomatch z) (fun _ H6 e6 => hN _ _ ⟨_, _, rfl⟩ ((f5.trans f6).trans (e9.trans e6)))
        · refine q_if (b := false) (et_is (et_t (K := K) (ed_eqI (K := K) (ed_var rfl (.int _)) ed_int)) (by decide)) (fun z => nomatch z) (fun _ H5 f5 => s_if (b := false) (et_is (et_t (K := K) (ed_eqI (K := K) (ed_var rfl (.int _)) ed_int)) (by decide)) (fun z => nomatch z) (fun _ H6 f6 => s_if (b := true) (et_is (et_t (K := K) (ed_eqI (K := K) (ed_var rfl (.int _)) ed_int)) (by decide)) (fun _ H7 f7 => s_doX (ex_addZ (K := K) (r := .prog .non) (fs := progF (List.replicate 7 .right)) (gs := progF (List.replicate 6 .left)) (ed_make (ea1 (EvN.toD (EvN.is (en_rep (n := 7) (en_lst (ea1 (d := Rnd.right.d) (ed_tup (ea1 ed_str ea0) (by show 1 ≤ 100000; decide)) ea0) (by show 1 ≤ 100000; decide)) (fun _ => ed_int) (by show 1 * 7 ≤ 100000; decide) (by decide)) (rep_rds 7 .right))) ea0) ⟨List.replicate 7 .right, (fun r hr => by rw [List.eq_of_mem_replicate hr]; trivial), by rw [List.length_replicate]; decide, rfl, rfl⟩) (ed_make (ea1 (EvN.toD (EvN.is (en_rep (n := 6) (en_lst (ea1 (d := Rnd.left.d) (ed_tup (ea1 ed_str ea0) (by show 1 ≤ 100000; decide)) ea0) (by show 1 ≤ 100000; decide)) (fun _ => ed_int) (by show 1 * 6 ≤ 100000; decide) (by decide)) (rep_rds 6 .left))) ea0) ⟨List.replicate 6 .left, (fun r hr => by rw [List.eq_of_mem_replicate hr]; trivial), by rw [List.length_replicate]; decide, rfl, rfl⟩) ⟨List.replicate 7 .right, List.replicate 6 .left, by rw [List.length_replicate, List.length_replicate]; decide, by rw [List.length_replicate, List.length_replicate]; decide, rfl, rfl⟩ ?_)) (fun z => nomatch z)))
          intro dd v H9 hd e9 hx av
          cases av
          refine ⟨true, (T.s_BadProgram hp ht).te, fun _ ae hae => ?_, fun z => nomatch z⟩
          exact s_when (b := false) (et_is (et_and (a := false) (b := false) (et_t (K := K) (ed_notN (ed_bySup rfl hx .non) (fun _ => ed_non) (fun H v a => by cases a; rfl))) (fun z => nomatch z)) rfl) (fun z => nomatch z) (fun _ H6 e6 => hN _ _ ⟨_, _, rfl⟩ (((f5.trans f6).trans f7).trans (e9.trans e6)))
        · refine q_if (b := false) (et_is (et_t (K := K) (ed_eqI (K := K) (ed_var rfl (.int _)) ed_int)) (by decide)) (fun z => nomatch z) (fun _ H5 f5 => s_if (b := false) (et_is (et_t (K := K) (ed_eqI (K := K) (ed_var rfl (.int _)) ed_int)) (by decide)) (fun z => nomatch z) (fun _ H6 f6 => s_if (b := false) (et_is (et_t (K := K) (ed_eqI (K := K) (ed_var rfl (.int _)) ed_int)) (by decide)) (fun z => nomatch z) (fun _ H7 f7 => s_doX (ex_makeZ (K := K) (r := .prog .non) (ea1 ed_str ea0) (.inl ⟨.str "r", "str", rfl, rfl, by decide +kernel, by decide +kernel, rfl⟩) ?_))))
          intro dd v H9 hd e9 hx av
          cases av
          refine ⟨true, (T.s_BadProgram hp ht).te, fun _ ae hae => ?_, fun z => nomatch z⟩
          exact s_when (b := false) (et_is (et_and (a := false) (b := false) (et_t (K := K) (ed_notN (ed_bySup rfl hx .non) (fun _ => ed_non) (fun H v a => by cases a; rfl))) (fun z => nomatch z)) rfl) (fun z => nomatch z) (fun _ H6 e6 => hN _ _ ⟨_, _, rfl⟩ (((f5.trans f6).trans f7).trans (e9.trans e6)))
      · rintro σ' H3 ⟨y, z, rfl⟩ e3
        have E3 := E2.trans e3
        refine q_look (K := K) (W := fun σ => ∃ y z, σ = [some u1, some u2, some u3, some (.int (pl : Int)), y, none, z]) (n := 7) (item := fun i => vbads.getD i .non) (ei_tupN (ds := vbads) ?_) ⟨_, _, rfl⟩ ?_ ?_
        · exact ed_tup (ea1 (EvN.toD (ds := []) (en_lst ea0 (by show 0 ≤ 100000; decide))) (ea1 ed_non (ea1 (EvN.toD (en_lst (ea1 ed_int (ea1 ed_str ea0)) (by show 2 ≤ 100000; decide))) (ea1 (EvN.toD (en_lst (ea1 (ed_tup (ea1 ed_int (ea1 ed_int ea0)) (by show 2 ≤ 100000; decide)) ea0) (by show 1 ≤ 100000; decide))) (ea1 (EvN.toD (en_lst (ea1 (ed_tup (ea1 ed_int (ea1 (ed_neg ed_int) ea0)) (by show 2 ≤ 100000; decide)) ea0) (by show 1 ≤ 100000; decide))) (ea1 (EvN.toD (en_lst (ea1 ed_bl ea0) (by show 1 ≤ 100000; decide))) (ea1 (EvN.toD (en_rep (n := 401) (en_lst (ea1 ed_int ea0) (by show 1 ≤ 100000; decide)) (fun _ => ed_int) (by show 1 * 401 ≤ 100000; decide) (by decide))) ea0))))))) (by show 7 ≤ 100000; decide)
        · rintro i x σ' H' H'' hi ⟨y, z, rfl⟩ e4 e5 ax Nx hN
          have hb : vbads.getD i .non ∈ vbads := gd_mem (show i < vbads.length from hi)
          generalize vbads.getD i .non = b at ax hb
          refine g_name ?_
          have E := (E3.trans e4).trans e5
          refine q_doX (ex_methZ (K := K) (r := .start) (ed_var rfl (a3.ex E)) rfl (ea1 (ed_var rfl ax) ea0) ⟨L, b, rfl, vbads_ok b hb⟩ ?_)
          intro H5 f5
          exact ⟨true, T.w_BadStart, fun _ ae hae => hN _ _ ⟨_, _, rfl⟩ f5, fun z => nomatch z⟩
        · rintro σ' H4 ⟨y, z, rfl⟩ e4
          have E4 := E3.trans e4
          refine q_look (K := K) (W := fun σ => ∃ y z, σ = [some u1, some u2, some u3, some (.int (pl : Int)), y, none, z]) (n := 5) (item := fun i => obads.getD i .non) (ei_tupN (ds := obads) ?_) ⟨_, _, rfl⟩ ?_ ?_
          · exact ed_tup (ea1 ed_int (ea1 ed_int (ea1 ed_bl (ea1 ed_non (ea1 (ed_neg ed_int) ea0))))) (by show 5 ≤ 100000; decide)
          · rintro i x σ' H' H'' hi ⟨y, z, rfl⟩ e5 e6 ax Nx hN
            have hb : obads.getD i .non ∈ obads := gd_mem (show i < obads.length from hi)
            generalize obads.getD i .non = b at ax hb
            refine g_name ?_
            have E := (E4.trans e5).trans e6
            refine q_doX (ex_methZ (K := K) (r := .start) (ed_var rfl (a3.ex E)) rfl (ea1 (ed_var rfl ax) ea0) ⟨L, b, rfl, obads_ok b hb⟩ ?_)
            intro H5 f5
            exact ⟨true, T.w_BadStart, fun _ ae hae => hN _ _ ⟨_, _, rfl⟩ f5, fun z => nomatch z⟩
          · rintro σ' H5 ⟨y, z, rfl⟩ e5
            exact s_retD (K := K) ed_bl fun v H6 e6 i6 => q _ _ ((E4.trans e5).trans e6) i6

end
end My
end
section
set_option Elab.async false
set_option linter.all false
set_option maxRecDepth 100000
set_option maxHeartbeats 4000000
namespace My
open PySem PySem.Spec PyProof.Rows L2 Evl WD
local macro_rules | `(tactic| walk_at "exgo") => `(tactic| first | exact Ex.refl _ | assumption | (refine' Ex.trans ?ea ?eb; (case eb => assumption); (case ea => walk_at "exgo")))
local macro_rules | `(tactic| walk_at "is") => `(tactic| first | assumption | (refine' Is.ex ?e ?h; (case h => assumption); (case e => walk_at "exgo")) | exact Is.int _ | exact Is.bl _ | exact Is.non)
local macro_rules | `(tactic| walk_at "ev") => `(tactic| first
  | exact ed_int | exact ed_bl | exact ed_non | exact ed_str
  | ((with_reducible apply ed_var) <;> first | exact rfl | walk_at "is")
  | ((with_reducible apply ed_add) <;> walk_at "ev")
  | ((with_reducible apply ed_sub) <;> walk_at "ev")
  | ((with_reducible apply ed_neg) <;> walk_at "ev")
  | ((with_reducible apply ed_mulW) <;> try walk_at "ev")
  | ((with_reducible apply ed_divW) <;> try walk_at "ev")
  | ((with_reducible apply ed_mod) <;> try walk_at "ev")
  | ((with_reducible apply ed_ixT) <;> first | exact rfl | walk_at "ev" | skip)
  | ((with_reducible apply ed_ixL) <;> first | exact rfl | walk_at "ev" | skip)
  | ((with_reducible apply ed_lt) <;> walk_at "ev")
  | ((with_reducible apply ed_le) <;> walk_at "ev")
  | ((with_reducible apply ed_gt) <;> walk_at "ev")
  | ((with_reducible apply ed_ge) <;> walk_at "ev")
  | ((with_reducible apply ed_eqI) <;> walk_at "ev")
  | ((with_reducible apply ed_neI) <;> walk_at "ev")
  | ((with_reducible apply ed_gcd) <;> walk_at "ev")
  | ((with_reducible apply ed_abs) <;> walk_at "ev")
  | ((with_reducible apply ed_intI) <;> walk_at "ev")
  | ((with_reducible apply ed_intB) <;> walk_at "ev")
  | ((with_reducible apply ed_max2) <;> walk_at "ev")
  | ((with_reducible apply ed_min2) <;> walk_at "ev")
  | ((with_reducible apply ed_lenT) <;> walk_at "ev")
  | ((with_reducible apply ed_lenL) <;> walk_at "ev")
  | ((with_reducible apply ed_tuple) <;> walk_at "ev")
  | ((with_reducible apply ed_tupleT) <;> walk_at "ev")
  | ((with_reducible apply ed_tup) <;> first | walk_at "ea" | (simp; done) | skip)
  | ((with_reducible apply et_t) <;> walk_at "ev")
  | ((with_reducible apply et_v) <;> walk_at "ev"))
local macro_rules | `(tactic| walk_at "ea") => `(tactic| first
  | exact ea0
  | ((with_reducible apply ea1) <;> first | walk_at "ev" | walk_at "ea" | skip))

section
variable {P : Program} {w : World} {K : PySem.W.Frag} {mg : Str → Option Value} {base : Heap}
/-! ### sums of plays, bounds, rows of area 1 -/
theorem ops_app (L M : List Rnd) (n : Nat) : ops (L ++ M) n = ops L n ++ ops M n := by
  unfold ops
  rw [List.flatMap_append]
theorem avgQ_map (v : List Rat) (c : Rat) (w : Int) : avgQ (v.map fun q => q * c) w = (avgQ v w).map fun q => q * c := by
  have g : ∀ i, (v.map fun q => q * c).getD i 0 = v.getD i 0 * c := fun i => by
    rw [List.getD_eq_getElem?_getD, List.getElem?_map, List.getD_eq_getElem?_getD]
    cases v[i]? with
    | none => show (0 : Rat) = 0 * c; rw [Rat.zero_mul]
    | some x => rfl
  unfold avgQ
  rw [g, g, List.map_set, List.map_set]
  have e : (v.getD (w - 1).toNat 0 * c + v.getD w.toNat 0 * c) / 2 = (v.getD (w - 1).toNat 0 + v.getD w.toNat 0) / 2 * c := by grind
  rw [e]
theorem plyQ_map (c : Rat) (ws : List Int) : ∀ v : List Rat, plyQ (v.map fun q => q * c) ws = (plyQ v ws).map fun q => q * c := by
  induction ws with
  | nil => exact fun v => rfl
  | cons w ws ih =>
    intro v
    show plyQ (avgQ (v.map fun q => q * c) w) ws = _
    rw [avgQ_map, ih]
    rfl
theorem avgQ_bd {lo hi : Rat} {v : List Rat} (h : ∀ q ∈ v, lo ≤ q ∧ q ≤ hi) {w : Int} (w1 : 1 ≤ w) (w2 : w < v.length) : ∀ q ∈ avgQ v w, lo ≤ q ∧ q ≤ hi := by
  intro q hq
  unfold avgQ at hq
  have m1 := h _ (gd_mem (z := 0) (show (w - 1).toNat < v.length by omega))
  have m2 := h _ (gd_mem (z := 0) (show w.toNat < v.length by omega))
  have mm : lo ≤ (v.getD (w - 1).toNat 0 + v.getD w.toNat 0) / 2 ∧ (v.getD (w - 1).toNat 0 + v.getD w.toNat 0) / 2 ≤ hi := by
    generalize v.getD (w - 1).toNat 0 = x at m1
    generalize v.getD w.toNat 0 = y at m2
    constructor <;> grind
  rcases List.mem_or_eq_of_mem_set hq with hq | rfl
  · rcases List.mem_or_eq_of_mem_set hq with hq | rfl
    · exact h q hq
    · exact mm
  · exact mm
theorem plyQ_bd {lo hi : Rat} (ws : List Int) : ∀ {v : List Rat}, (∀ w ∈ ws, 1 ≤ w ∧ w < v.length) → (∀ q ∈ v, lo ≤ q ∧ q ≤ hi) → ∀ q ∈ plyQ v ws, lo ≤ q ∧ q ≤ hi := by
  induction ws with
  | nil => exact fun _ h => h
  | cons w ws ih =>
    intro v hw h
    obtain ⟨w1, w2⟩ := hw w (List.mem_cons_self ..)
    exact ih (fun x hx => by rw [avgQ_len]; exact hw x (List.mem_cons_of_mem _ hx)) (avgQ_bd h w1 w2)
theorem qv_len (v : List Int) : (qv v).length = v.length := List.length_map ..
theorem plyQ_den {L : List Rnd} {v : List Int} (ho : ∀ r ∈ L, r.ok) : ∀ q ∈ plyQ (qv v) (ops L v.length), q.den ∣ 2 ^ (L.length * v.length) := by
  intro q hq
  have res := law_res (v := v) (s := L.length * v.length) ho (Nat.le_refl _)
  rw [← res] at hq
  obtain ⟨x, _, rfl⟩ := List.mem_map.mp hq
  exact mkRat_den_dvd x (Nat.ne_of_gt (Nat.two_pow_pos _))
theorem num_bd {q : Rat} {s : Nat} {b : Nat} (hd : q.den ∣ 2 ^ s) (h1 : -((b : Int) : Rat) ≤ q) (h2 : q ≤ ((b : Int) : Rat)) : q.num.natAbs ≤ b * 2 ^ s := by
  have hp : (0 : Rat) < ((q.den : Int) : Rat) := by exact_mod_cast (show (0 : Int) < (q.den : Int) by have := q.den_pos; omega)
  have e := num_of q
  have a1 : (q.num : Rat) ≤ ((b * q.den : Int) : Rat) := by
    rw [← e, Rat.intCast_mul]
    exact Rat.mul_le_mul_of_nonneg_right h2 (Rat.le_of_lt hp)
  have a2 : ((-(b * q.den) : Int) : Rat) ≤ (q.num : Rat) := by
    rw [← e, Rat.intCast_neg, Rat.intCast_mul, ← Rat.neg_mul]
    exact Rat.mul_le_mul_of_nonneg_right h1 (Rat.le_of_lt hp)
  have b1 : q.num ≤ b * q.den := by exact_mod_cast a1
  have b2 : -((b : Int) * q.den) ≤ q.num := by exact_mod_cast a2
  have c1 : q.num.natAbs ≤ b * q.den := by
    have : ((b * q.den : Nat) : Int) = (b : Int) * q.den := Int.natCast_mul _ _
    omega
  exact Nat.le_trans c1 (Nat.mul_le_mul_left _ (Nat.le_of_dvd (Nat.two_pow_pos _) hd))
/-- a fraction as it is told -/
def tvq (q : Rat) : Tv := .p q.num q.den
theorem tvq_q (q : Rat) : (tvq q).q = q := Rat.mkRat_self q
theorem tvq_d (v : List Rat) : (v.map tvq).map Tv.d = frs v := by
  rw [List.map_map]
  rfl
theorem tvq_map (v : List Rat) : (v.map tvq).map Tv.q = v := by
  rw [List.map_map]
  have : (Tv.q ∘ tvq) = id := funext tvq_q
  rw [this, List.map_id]
theorem tvi_map (v : List Int) : (v.map Tv.i).map Tv.q = qv v := by
  rw [List.map_map]
  rfl
theorem tvi_d (v : List Int) : (v.map Tv.i).map Tv.d = iL v := by
  rw [List.map_map]
  rfl
theorem dfs_get {s : List Rat} {i : Nat} (h : i < (dfs s).length) : (dfs s)[i] = s.getD (i + 1) 0 - s.getD i 0 := by
  simp only [dfs, List.getElem_map, List.getElem_range]
theorem dfs_sms (v : List Rat) : dfs (sms v) = v := by
  unfold dfs
  rw [sms_len, Nat.add_sub_cancel]
  refine List.ext_getElem (by simp) fun i h1 h2 => ?_
  rw [List.getElem_map, List.getElem_range]
  have g : ∀ j, j ≤ v.length → (sms v).getD j 0 = S v j := fun j hj => by
    rw [getD_in (by rw [sms_len]; omega)]
    unfold sms
    rw [List.getElem_map, List.getElem_range]
  rw [g _ (by omega), g _ (by omega), S_succ v i h2]
  grind
theorem dfs_evn {n j : Nat} {s : List Rat} (hs : s.length = n + 1) (j1 : 1 ≤ j) (j2 : j < n) : dfs (evn (List.replicate n 1) s j) = avgQ (dfs s) (j : Int) := by
  have a1 : (List.replicate n (1 : Int)).getD (j - 1) 1 = 1 := by
    rw [List.getD_eq_getElem?_getD, List.getElem?_replicate]
    split <;> rfl
  have a2 : (List.replicate n (1 : Int)).getD j 1 = 1 := by
    rw [List.getD_eq_getElem?_getD, List.getElem?_replicate]
    split <;> rfl
  have dl : (dfs s).length = n := by
    unfold dfs
    rw [List.length_map, List.length_range, hs]
    rfl
  have dg : ∀ i, i < n → (dfs s).getD i 0 = s.getD (i + 1) 0 - s.getD i 0 := fun i hi => by
    rw [getD_in (by rw [dl]; exact hi)]
    unfold dfs
    rw [List.getElem_map, List.getElem_range]
  have el : (evn (List.replicate n 1) s j).length = n + 1 := (evn_len _ _ _).trans hs
  have eg : ∀ i, (evn (List.replicate n 1) s j).getD i 0 = if i = j then (s.getD (j - 1) 0 + s.getD (j + 1) 0) / 2 else s.getD i 0 := fun i => by
    by_cases c : i = j
    · subst c
      rw [if_pos rfl]
      unfold evn
      rw [a1, a2, List.getD_eq_getElem?_getD, List.getElem?_set_self (by omega)]
      show (((1 : Int) : Rat) * s.getD (i - 1) 0 + ((1 : Int) : Rat) * s.getD (i + 1) 0) / ((1 + 1 : Int) : Rat) = _
      have h1 : ((1 : Int) : Rat) = 1 := rfl
      have h2 : ((1 + 1 : Int) : Rat) = 2 := rfl
      rw [h1, h2, Rat.one_mul, Rat.one_mul]
    · rw [if_neg c]
      exact evn_ne c
  refine List.ext_getElem ?_ fun i h1 h2 => ?_
  · rw [avgQ_len, dl]
    unfold dfs
    rw [List.length_map, List.length_range, el]
    rfl
  · have hi : i < n := by rw [avgQ_len, dl] at h2; exact h2
    rw [dfs_get h1, eg, eg, ← getD_in (z := 0) h2]
    unfold avgQ
    rw [getD_set2 _ _ _ _ _ _ (by omega) (by omega), show ((j : Int) - 1).toNat = j - 1 from by omega, Int.toNat_natCast, dg _ (by omega), dg _ (by omega), dg _ hi, show j - 1 + 1 = j from by omega]
    by_cases c1 : i = j
    · subst c1
      rw [if_neg (by omega), if_pos rfl, if_pos (.inr rfl)]
      grind
    · by_cases c2 : i + 1 = j
      · rw [if_pos c2, if_neg c1, if_pos (.inl (by omega)), show j - 1 = i from by omega]
        grind
      · rw [if_neg c2, if_neg c1, if_neg (by omega)]
theorem lns_len (A : List Int) (v : List Rat) (O : List Int) (k : Nat) : (lns A v O k).length = v.length + 1 := by
  unfold lns
  induction (O.take k) generalizing v with
  | nil => exact sms_len v
  | cons o O ih =>
    have h : ∀ (O : List Int) (s : List Rat), (O.foldl (fun s o => evn A s o.toNat) s).length = s.length := fun O => by
      induction O with
      | nil => exact fun s => rfl
      | cons o O ih => exact fun s => (ih _).trans (evn_len _ _ _)
    rw [h, sms_len]
theorem row_play {n : Nat} {v : List Rat} (hv : v.length = n) {O : List Int} (hO : ∀ o ∈ O, 1 ≤ o ∧ o < n) : ∀ k, k ≤ O.length → dfs (lns (List.replicate n 1) v O k) = plyQ v (O.take k)
  | 0, _ => by
    show dfs (sms v) = v
    exact dfs_sms v
  | k + 1, hk => by
    obtain ⟨o1, o2⟩ := hO O[k] (List.getElem_mem (by omega))
    have ih := row_play hv hO k (by omega)
    rw [lns_succ _ _ _ _ (by omega), dfs_evn (by rw [lns_len, hv]) (by omega) (by omega), ih, List.take_succ_eq_append_getElem (by omega), plyQ_app, show ((O[k].toNat : Nat) : Int) = O[k] from by omega]
    rfl

end
end My
end
section
set_option Elab.async false
set_option linter.all false
set_option maxRecDepth 100000
set_option maxHeartbeats 4000000
namespace My
open PySem PySem.Spec PyProof.Rows L2 Evl WD
local macro_rules | `(tactic| walk_at "exgo") => `(tactic| first | exact Ex.refl _ | assumption | (refine' Ex.trans ?ea ?eb; (case eb => assumption); (case ea => walk_at "exgo")))
local macro_rules | `(tactic| walk_at "is") => `(tactic| first | assumption | (refine' Is.ex ?e ?h; (case h => assumption); (case e => walk_at "exgo")) | exact Is.int _ | exact Is.bl _ | exact Is.non)
local macro_rules | `(tactic| walk_at "ev") => `(tactic| first
  | exact ed_int | exact ed_bl | exact ed_non | exact ed_str
  | ((with_reducible apply ed_var) <;> first | exact rfl | walk_at "is")
  | ((with_reducible apply ed_add) <;> walk_at "ev")
  | ((with_reducible apply ed_sub) <;> walk_at "ev")
  | ((with_reducible apply ed_neg) <;> walk_at "ev")
  | ((with_reducible apply ed_mulW) <;> try walk_at "ev")
  | ((with_reducible apply ed_divW) <;> try walk_at "ev")
  | ((with_reducible apply ed_mod) <;> try walk_at "ev")
  | ((with_reducible apply ed_ixT) <;> first | exact rfl | walk_at "ev" | skip)
  | ((with_reducible apply ed_ixL) <;> first | exact rfl | walk_at "ev" | skip)
  | ((with_reducible apply ed_lt) <;> walk_at "ev")
  | ((with_reducible apply ed_le) <;> walk_at "ev")
  | ((with_reducible apply ed_gt) <;> walk_at "ev")
  | ((with_reducible apply ed_ge) <;> walk_at "ev")
  | ((with_reducible apply ed_eqI) <;> walk_at "ev")
  | ((with_reducible apply ed_neI) <;> walk_at "ev")
  | ((with_reducible apply ed_gcd) <;> walk_at "ev")
  | ((with_reducible apply ed_abs) <;> walk_at "ev")
  | ((with_reducible apply ed_intI) <;> walk_at "ev")
  | ((with_reducible apply ed_intB) <;> walk_at "ev")
  | ((with_reducible apply ed_max2) <;> walk_at "ev")
  | ((with_reducible apply ed_min2) <;> walk_at "ev")
  | ((with_reducible apply ed_lenT) <;> walk_at "ev")
  | ((with_reducible apply ed_lenL) <;> walk_at "ev")
  | ((with_reducible apply ed_tuple) <;> walk_at "ev")
  | ((with_reducible apply ed_tupleT) <;> walk_at "ev")
  | ((with_reducible apply ed_tup) <;> first | walk_at "ea" | (simp; done) | skip)
  | ((with_reducible apply et_t) <;> walk_at "ev")
  | ((with_reducible apply et_v) <;> walk_at "ev"))
local macro_rules | `(tactic| walk_at "ea") => `(tactic| first
  | exact ea0
  | ((with_reducible apply ea1) <;> first | walk_at "ev" | walk_at "ea" | skip))

section
variable {P : Program} {w : World} {K : PySem.W.Frag} {mg : Str → Option Value} {base : Heap}
theorem q_parN {σ : L2.St} {H : Hp} {En : Ends} {ta tb : TE} {tz : TS} {ds es : List D} {i j : Nat} (ha : EvN K ta σ H ds) (hb : ∀ H1, Ex H H1 → EvN K tb σ H1 es)
    (k : ∀ p xs r ys H1, H p = none → H r = none → Ex H H1 → H1 p = some (.lst xs) → All K H1 xs ds → H1 r = some (.lst ys) → All K H1 ys es → tz En ((σ.set i (some (.ref p))).set j (some (.ref r))) H1) : tSeq (tPar i j (tCons ta (tCons tb tNil))) tz En σ H :=
  ha H (Ex.refl H) _ fun p xs H1 hp e1 hx ax => hb H1 e1 H1 (Ex.refl _) _ fun r ys H2 hr e2 hy ay => ⟨_, _, rfl, k p xs r ys H2 hp (fresh_back e1 hr) (e1.trans e2) (e2 _ _ hx) (ax.ex e2) hy ay⟩
theorem en_cat3 {σ : L2.St} {H : Hp} {ta tb : TE} {ds es : List D} {l r : Addr} {xs ys : List V} (hl0 : H l = some (.lst xs)) (ax : All K H xs ds) (ho : ∀ H1, Ev ta σ H1 (.ref l)) (hr0 : H r = some (.lst ys)) (ay : All K H ys es) (ho2 : ∀ H1, Ev tb σ H1 (.ref r)) (hl : ds.length + es.length ≤ 100000) : EvN K (tOp rCat ta tb) σ H (ds ++ es) := fun H1 e1 Q q =>
  ho H1 H1 (Ex.refl _) _ fun H2 e2 => ho2 H2 H2 (Ex.refl _) _ fun H3 e3 => by
    have e13 := (e1.trans e2).trans e3
    refine ⟨l, r, xs, ys, rfl, rfl, e13 _ _ hl0, e13 _ _ hr0, ?_, fun z hz => q z _ _ (fresh_back (e2.trans e3) hz) ((e2.trans e3).trans (Ex.new hz)) upd_same (((ax.ex e13).app (ay.ex e13)).ex (Ex.new hz))⟩
    rw [ax.len, ay.len, sizeLine_eq]
    omega
theorem intSm {x : Int} {k : Nat} (h : x.natAbs < 2 ^ k) (hk : 1 ≤ k) : Sm k ((x : Int) : Rat) := Sm.int h hk
theorem done_ints {mk : List D → D} {L : List Rnd} {v : List Int} (ho : ∀ r ∈ L, r.ok) (hL : L.length ≤ 12) (l1 : 1 ≤ v.length) (l4 : v.length ≤ 24) (hv : ∀ x ∈ v, x.natAbs < 2 ^ 600) : R_done mk [progD L, mk (iL v)] (.tup (frs (plyQ (qv v) (ops L v.length)))) := by
  refine ⟨L, v.map Tv.i, 1, ho, hL, fun t ht => ?_, by rw [List.length_map]; exact l1, by rw [List.length_map]; exact l4, ?_, by rw [tvi_d], by rw [tvi_map, List.length_map]⟩
  · obtain ⟨x, hx, rfl⟩ := List.mem_map.mp ht
    exact pow_lt (by decide) (hv x hx)
  · rw [tvi_map]
    refine ⟨by decide, Nat.one_lt_two_pow (by decide), by rw [qv_len]; omega, fun q hq => ?_, fun q hq => ?_⟩
    · obtain ⟨x, _, rfl⟩ := List.mem_map.mp hq
      exact Nat.dvd_refl 1
    · obtain ⟨x, hx, rfl⟩ := List.mem_map.mp hq
      exact (intSm (hv x hx) (by decide)).mono (by decide)
theorem done_rats {L : List Rnd} {s : List Rat} {e : Nat} (ho : ∀ r ∈ L, r.ok) (hL : L.length ≤ 12) (l1 : 1 ≤ s.length) (l4 : s.length ≤ 24) (he : e ≤ 600) (hd : ∀ q ∈ s, q.den ∣ 2 ^ e) (hn : ∀ q ∈ s, q.num.natAbs < 2 ^ 650) : R_done .tup [progD L, .tup (frs s)] (.tup (frs (plyQ s (ops L s.length)))) := by
  have dl : ∀ q ∈ s, q.den < 2 ^ 650 := fun q hq => Nat.lt_of_le_of_lt (Nat.le_of_dvd (Nat.two_pow_pos _) (hd q hq)) (Nat.pow_lt_pow_right (by decide) (by omega))
  refine ⟨L, s.map tvq, 2 ^ e, ho, hL, fun t ht => ?_, by rw [List.length_map]; exact l1, by rw [List.length_map]; exact l4, ?_, by rw [tvq_d], by rw [tvq_map, List.length_map]⟩
  · obtain ⟨q, hq, rfl⟩ := List.mem_map.mp ht
    exact ⟨pow_lt (by decide) (hn q hq), q.den_pos, pow_lt (by decide) (dl q hq)⟩
  · rw [tvq_map]
    exact ⟨Nat.two_pow_pos _, Nat.pow_lt_pow_right (by decide) (by omega), by omega, hd, fun q hq => ⟨pow_lt (by decide) (hn q hq), pow_lt (by decide) (dl q hq)⟩⟩
theorem done_parts {L : List Rnd} {v : List Int} {b : Nat} (ho : ∀ r ∈ L, r.ok) (hL : L.length ≤ 12) (l1 : 1 ≤ v.length) (l4 : v.length ≤ 24) (hv : ∀ x ∈ v, x.natAbs < 2 ^ 600) (b0 : 0 < b) (b1 : b < 2 ^ 100) : R_done .lst [progD L, .lst (v.map fun x => .tup [.int x, .int (b : Int)])] (.tup (frs (plyQ (v.map fun x => mkRat x b) (ops L v.length)))) := by
  have e1 : (v.map fun x => Tv.p x b).map Tv.q = v.map fun x => mkRat x b := by
    rw [List.map_map]
    rfl
  refine ⟨L, v.map fun x => Tv.p x b, b, ho, hL, fun t ht => ?_, by rw [List.length_map]; exact l1, by rw [List.length_map]; exact l4, ?_, by rw [List.map_map]; rfl, by rw [e1, List.length_map]⟩
  · obtain ⟨x, hx, rfl⟩ := List.mem_map.mp ht
    exact ⟨pow_lt (by decide) (hv x hx), b0, pow_lt (by decide) b1⟩
  · rw [e1]
    refine ⟨b0, pow_lt (by decide) b1, by rw [List.length_map]; omega, fun q hq => ?_, fun q hq => ?_⟩
    · obtain ⟨x, _, rfl⟩ := List.mem_map.mp hq
      exact mkRat_den_dvd x (by omega)
    · obtain ⟨x, hx, rfl⟩ := List.mem_map.mp hq
      exact smMk (by omega) (pow_lt (by decide) (hv x hx)) (pow_lt (by decide) b1)
theorem mk_mul (x : Int) {b : Nat} (hb : 0 < b) : mkRat x b = (x : Rat) * (1 / ((b : Nat) : Rat)) := by
  rw [Rat.mkRat_eq_div, Rat.div_def, Rat.div_def, Rat.one_mul]
theorem parts_at {L : List Rnd} {v : List Int} {b : Nat} (hb : 0 < b) (i : Nat) (hi : i < v.length) : (plyQ (v.map fun x => mkRat x b) (ops L v.length)).getD i 0 = mkRat ((plyQ (qv v) (ops L v.length)).getD i 0).num (((plyQ (qv v) (ops L v.length)).getD i 0).den * b) := by
  have e1 : (v.map fun x => mkRat x b) = (qv v).map fun q => q * (1 / ((b : Nat) : Rat)) := by
    unfold qv
    rw [List.map_map]
    exact List.map_congr_left fun x _ => mk_mul x hb
  rw [e1, plyQ_map]
  have hl : i < (plyQ (qv v) (ops L v.length)).length := by rw [plyQ_len, qv_len]; exact hi
  rw [getD_in (by rw [List.length_map]; exact hl), List.getElem_map, getD_in hl]
  generalize (plyQ (qv v) (ops L v.length))[i] = q
  rw [mk_mul _ (Nat.mul_pos q.den_pos hb), Rat.natCast_mul, Rat.div_def, Rat.div_def, Rat.one_mul, Rat.one_mul, Rat.inv_mul_rev]
  have e2 : ((q.num : Int) : Rat) = q * ((q.den : Nat) : Rat) := (num_of q).symm
  have hne : ((q.den : Nat) : Rat) ≠ 0 := fun z => Nat.ne_of_gt q.den_pos (by exact_mod_cast z)
  have hd := Rat.mul_inv_cancel _ hne
  rw [e2]
  generalize ((q.den : Nat) : Rat) = x at hd
  generalize ((b : Nat) : Rat)⁻¹ = y
  generalize x⁻¹ = z at hd
  calc q * y = q * y * (x * z) := by rw [hd, Rat.mul_one]
    _ = q * x * (y * z) := by grind
theorem S_bd {v : List Rat} {c : Nat} (h : ∀ q ∈ v, q ≤ ((c : Int) : Rat)) : ∀ j, j ≤ v.length → S v j ≤ (((c * j : Nat) : Int) : Rat)
  | 0, _ => by
    rw [S_zero]
    exact Rat.le_refl
  | j + 1, hj => by
    have h1 := S_bd h j (by omega)
    have h2 := h _ (List.getElem_mem (show j < v.length by omega))
    rw [S_succ v j (by omega)]
    have e : (((c * (j + 1) : Nat) : Int) : Rat) = (((c * j : Nat) : Int) : Rat) + ((c : Int) : Rat) := by
      rw [Nat.mul_succ, Int.natCast_add, Rat.intCast_add]
    rw [e]
    grind
theorem good_row {n : Nat} {g : List Int} (hg : g.length = n) (n1 : 1 ≤ n) (n9 : n ≤ 24) (hb : ∀ x ∈ g, 0 ≤ x ∧ x ≤ 100) : RowOk (List.replicate n 1) (qv g) 1 (100 * n) := by
  refine ⟨by rw [qv_len, hg, List.length_replicate], by rw [List.length_replicate]; exact n1, by rw [List.length_replicate]; exact n9, fun a ha => by rw [List.eq_of_mem_replicate ha]; exact ⟨by decide, by decide⟩, by decide, Nat.one_lt_two_pow (by decide), ?_, fun q hq => ?_, fun q hq => ?_, ?_⟩
  · have h : 100 * n ≤ 2 ^ 12 := by omega
    exact Nat.lt_of_le_of_lt h (Nat.pow_lt_pow_right (by decide) (by decide))
  · obtain ⟨x, hx, rfl⟩ := List.mem_map.mp hq
    exact Rat.intCast_nonneg.mpr (hb x hx).1
  · obtain ⟨x, hx, rfl⟩ := List.mem_map.mp hq
    exact Nat.dvd_refl 1
  · have h := S_bd (v := qv g) (c := 100) (fun q hq => by
      obtain ⟨x, hx, rfl⟩ := List.mem_map.mp hq
      exact Rat.intCast_le_intCast.mpr (hb x hx).2) (qv g).length (Nat.le_refl _)
    rw [qv_len, hg] at h
    rw [qv_len, hg]
    exact h

end
end My
end
section
set_option Elab.async false
set_option linter.all false
set_option maxRecDepth 100000
set_option maxHeartbeats 4000000
namespace My
open PySem PySem.Spec PyProof.Rows L2 Evl WD
local macro_rules | `(tactic| walk_at "exgo") => `(tactic| first | exact Ex.refl _ | assumption | (refine' Ex.trans ?ea ?eb; (case eb => assumption); (case ea => walk_at "exgo")))
local macro_rules | `(tactic| walk_at "is") => `(tactic| first | assumption | (refine' Is.ex ?e ?h; (case h => assumption); (case e => walk_at "exgo")) | exact Is.int _ | exact Is.bl _ | exact Is.non)
local macro_rules | `(tactic| walk_at "ev") => `(tactic| first
  | exact ed_int | exact ed_bl | exact ed_non | exact ed_str
  | ((with_reducible apply ed_var) <;> first | exact rfl | walk_at "is")
  | ((with_reducible apply ed_add) <;> walk_at "ev")
  | ((with_reducible apply ed_sub) <;> walk_at "ev")
  | ((with_reducible apply ed_neg) <;> walk_at "ev")
  | ((with_reducible apply ed_mulW) <;> try walk_at "ev")
  | ((with_reducible apply ed_divW) <;> try walk_at "ev")
  | ((with_reducible apply ed_mod) <;> try walk_at "ev")
  | ((with_reducible apply ed_ixT) <;> first | exact rfl | walk_at "ev" | skip)
  | ((with_reducible apply ed_ixL) <;> first | exact rfl | walk_at "ev" | skip)
  | ((with_reducible apply ed_lt) <;> walk_at "ev")
  | ((with_reducible apply ed_le) <;> walk_at "ev")
  | ((with_reducible apply ed_gt) <;> walk_at "ev")
  | ((with_reducible apply ed_ge) <;> walk_at "ev")
  | ((with_reducible apply ed_eqI) <;> walk_at "ev")
  | ((with_reducible apply ed_neI) <;> walk_at "ev")
  | ((with_reducible apply ed_gcd) <;> walk_at "ev")
  | ((with_reducible apply ed_abs) <;> walk_at "ev")
  | ((with_reducible apply ed_intI) <;> walk_at "ev")
  | ((with_reducible apply ed_intB) <;> walk_at "ev")
  | ((with_reducible apply ed_max2) <;> walk_at "ev")
  | ((with_reducible apply ed_min2) <;> walk_at "ev")
  | ((with_reducible apply ed_lenT) <;> walk_at "ev")
  | ((with_reducible apply ed_lenL) <;> walk_at "ev")
  | ((with_reducible apply ed_tuple) <;> walk_at "ev")
  | ((with_reducible apply ed_tupleT) <;> walk_at "ev")
  | ((with_reducible apply ed_tup) <;> first | walk_at "ea" | (simp; done) | skip)
  | ((with_reducible apply et_t) <;> walk_at "ev")
  | ((with_reducible apply et_v) <;> walk_at "ev"))
local macro_rules | `(tactic| walk_at "ea") => `(tactic| first
  | exact ea0
  | ((with_reducible apply ea1) <;> first | walk_at "ev" | walk_at "ea" | skip))

section
variable {P : Program} {w : World} {K : PySem.W.Frag} {mg : Str → Option Value} {base : Heap}
def R_Program___eq___I (ds : List D) (d : D) : Prop := ∃ (a : List Rnd) (i : Int), ds = [progD a, .int i] ∧ d = .bl false
theorem ed_isiI {σ : L2.St} {H : Hp} {te : TE} {C : Addr} {i : Int} {b : Bool} (h : EvD K te σ H (.int i)) (hk : PySem.W.kitOne K (.type "int") (.ref C) = some b) : EvD K (tCB (rIsi K) (tCons te (tCons (tC (.ref C)) tNil))) σ H (.bl b) := fun H1 e Q q =>
  h H1 e _ fun v H2 e2 a => ⟨v, _, _, _, b, rfl, .own C, a.ty (s := "int") rfl, hk, q _ H2 e2 (.bl b)⟩
theorem ok_Program___eq___I (T : Txt K mg) : FnG P w K mg base 1 (He.ma K (He.ga K "Program") "__eq__") ["self", "other"] (spD K R_Program___eq___I) := by
  refine fnG (N := ["self", "other"]) (st := s_Program___eq__) T.f_Program___eq__ sc_Program___eq__ (fun vs H Q E h => ?_) (fun _ _ _ _ _ _ us hl => match us, hl with | [_, _], _ => rfl) (fun cdv A outer s H vs Q E hr h => ⟨_, (pss_one (ps_ret (pe_and (pe_callB call_isi (by rfl) T.z_isinstance (by decide +kernel) (pa_cons (pv 1) (pa_cons (pe_clsN (by rfl) T.m_Program) pa_nil))) (pe_one (pe_cmpR (op_eqD (hr.units)) (pe_fld (pv 0) rfl) (pe_fld (pv 1) rfl) (nomark _)))))), ?_⟩)
  · obtain ⟨ds, d, a, ⟨A, i, rfl, _⟩, _⟩ := h
    exact a.len
  · obtain ⟨ds, d, a, ⟨A, i, rfl, rfl⟩, q⟩ := h
    obtain ⟨u, u', rfl, a1, a2⟩ := All.inv2 a
    try dsimp only [cxOf, Cx.nox, Cx.wish]
    exact s_retD (K := K) (EvD.is (ed_andV (K := K) (a := false) (b := false) (ed_isiI (ed_var rfl a2) T.kn_Program) (fun z => nomatch z)) rfl) fun v2 H2 x2 i2 => q _ _ x2 i2
def sp_law (K : PySem.W.Frag) : Sp := fun vs H Q _ => ∃ (a : Addr) (ns : List Int), vs = [.ref a] ∧ ns.length ≤ 63 ∧ Rd H a (.lst (ns.map V.int)) ∧ ∀ H', Q (.bl true) H'
theorem fnF {x qual : Str} {st : Stmt} {f : Addr} {N ps : List Str} {k : Nat} {sp : Sp} {fd : FuncData} (F : FunD K x qual (defArgs st) (defBody st) (defScope st) [] [] f fd) (S : FnScope N ps (defScope st)) (len : ∀ vs H Q E, sp vs H Q E → vs.length = ps.length)
    (hbody : ∀ (cdv : Value) (A : Around) (outer : List Env) (s : Shared) (H : Hp) (vs : List V) (Q : VK) (E : XK), Room k (A.deeper (envOfC qual (defScope st) s.heap.objs.size f cdv)) → sp vs H Q E →
      ∃ t, PSs (cxOf (L2.CX P w) P w K mg base N qual (defScope st) f cdv A outer s H E).nox (defBody st) t ∧ t { nx := fun _ H' => Q .non H', rt := Q } (start N vs) H) : FnOk P w K mg base (L2.CX P w) (k + 1) f fd ps sp :=
  F.ok S len (fun cdv A outer s H vs Q E hr h => let ⟨t, h1, h2⟩ := hbody cdv A outer s H vs Q E hr h; ⟨t, h1.nox, h2⟩)
def wyb (sc : List Int) (a : Int) : Rnd := if drw sc a 2 = 0 then .right else .left
def wys (sc : List Int) (a : Int) : Str := if drw sc a 2 = 0 then "right" else "left"
theorem wyb_d (sc : List Int) (a : Int) : (wyb sc a).d = .tup [.str (wys sc a)] := by
  unfold wyb wys
  split <;> rfl
theorem wyb_ok (sc : List Int) (a : Int) : (wyb sc a).ok := by
  unfold wyb
  split <;> trivial
theorem ed_way {σ : L2.St} {H : Hp} {te : TE} {sc : List Int} {a : Int} (h : EvD K te σ H (.int (drw sc a 2))) : EvD K (tOp (rIxT K) (tTup (tCons (tC (.str "right")) (tCons (tC (.str "left")) tNil))) te) σ H (.str (wys sc a)) := by
  have hd := drw_ok sc a (m := 2) (by decide)
  refine ed_ixT (ed_tup (ds := [.str "right", .str "left"]) (ea1 ed_str (ea1 ed_str ea0)) (by decide)) h ?_
  unfold wys
  by_cases c : drw sc a 2 = 0
  · rw [c]
    rfl
  · rw [if_neg c, show drw sc a 2 = 1 from by omega]
    rfl
theorem rep_ones (n : Nat) : (List.replicate n ([.int 1] : List D)).flatten = iL (List.replicate n 1) := by
  induction n with
  | zero => rfl
  | succ m ih =>
    rw [List.replicate_succ, List.flatten_cons, ih, List.replicate_succ]
    rfl
theorem ok_law {fd : FuncData} (T : Txt K mg) (hp : P.main.file = fileS) (ht : (P.main.scope.names.lookup ("super" : Str)).isSome = false) (F : FunD K "law" "law" (defArgs s_law) (defBody s_law) (defScope s_law) [] [] (He.ga K "law") fd) : FnOk P w K mg base (L2.CX P w) 9 (He.ga K "law") fd ["script"] (sp_law K) := by
  refine fnF (N := ["script", "way", "rounds", "more", "many", "volumes", "program", "both", "below", "parts", "good", "at", "volume", "top", "bottom"]) (st := s_law) F sc_law (fun vs H Q E h => ?_) (fun cdv A outer s H vs Q E hr h => ⟨_, (pss_cons (ps_asg (pe_ix ix_tup (pe_tup (pa_cons pe_str (pa_cons pe_str pa_nil))) (pe_callG (ok__law_draw T) (hr.mono (by decide)) (by rfl) T.m__law_draw (pa_cons (pv 0) (pa_cons pe_int (pa_cons pe_int pa_nil)))) (fun _ _ => rfl)) (pg_name (i := 1) sc_law.nd rfl (.inl rfl))) (pss_cons (ps_par (i := 2) (j := 3) (by rfl) sc_law.nd rfl rfl (by decide) rfl rfl (pa_cons (pe_callG (ok__law_rounds T) (hr.mono (by decide)) (by rfl) T.m__law_rounds (pa_cons (pv 0) (pa_cons pe_int (pa_cons pe_int (pa_cons (pv 1) pa_nil))))) (pa_cons (pe_callG (ok__law_rounds T) (hr.mono (by decide)) (by rfl) T.m__law_rounds (pa_cons (pv 0) (pa_cons pe_int (pa_cons pe_int (pa_cons (pe_ix ix_tup (pe_tup (pa_cons pe_str (pa_cons pe_str pa_nil))) (pe_callG (ok__law_draw T) (hr.mono (by decide)) (by rfl) T.m__law_draw (pa_cons (pv 0) (pa_cons pe_int (pa_cons pe_int pa_nil)))) (fun _ _ => rfl)) pa_nil))))) pa_nil)) (by rfl)) (pss_cons (ps_asg (pe_op op_add pe_int (pe_callG (ok__law_draw T) (hr.mono (by decide)) (by rfl) T.m__law_draw (pa_cons (pv 0) (pa_cons pe_int (pa_cons pe_int pa_nil))))) (pg_name (i := 4) sc_law.nd rfl (.inl rfl))) (pss_cons (ps_setLc (i := 5) (own := [("at", 11)]) rfl sc_law.nd rfl rfl (sw_true rfl rfl rfl (by decide +kernel)) (pi_range1 (by rfl) T.z_range (pa_cons (pv 4) pa_nil)) (blkOk_by (own := [("at", 11)]) (N := ["script", "way", "rounds", "more", "many", "volumes", "program", "both", "below", "parts", "good", "at", "volume", "top", "bottom"]) (sc := defScope s_law) (by decide +kernel)) (fun _ _ _ _ _ => (pg_name (i := 11) sc_law.nd rfl (.inl rfl))) (fun _ _ _ _ _ => pts_nil) (fun _ _ _ _ _ => (pe_op op_sub (pe_callG (ok__law_draw T) (hr.mono (by decide)) (by rfl) T.m__law_draw (pa_cons (pv 0) (pa_cons (pe_op op_add pe_int (pv 11)) (pa_cons pe_int pa_nil)))) pe_int))) (pss_cons (ps_asg (pe_makeG T.k_Program (ok_Program___init___L T) (hr.mono (by decide)) (by rfl) T.m_Program (pa_cons (pv 2) pa_nil)) (pg_name (i := 6) sc_law.nd rfl (.inl rfl))) (pss_cons (ps_if (PW.pt (pw_or (pt_cmpR (op_neD (hr.units)) (pe_methG (pv 6) T.c_Program T.x_Program_order (ok_Program_order T) (hr.mono (by decide)) (pa_cons (pv 4) pa_nil)) (pe_callG (ok__law_order T) (hr.mono (by decide)) (by rfl) T.m__law_order (pa_cons (pv 2) (pa_cons (pv 4) pa_nil))) (nomark _)) (pw_or (pt_cmpR op_ne (pe_callB (lenO_of (ok_Program___len__ T) T.x_Program___len__ (hr.mono (by decide))) (by rfl) T.z_len PySem.boot_len (pa_cons (pv 6) pa_nil)) (pe_callB call_lenS (by rfl) T.z_len PySem.boot_len (pa_cons (pv 2) pa_nil)) (nomark _)) (pw_or1 (pt_cmpR (op_neD (hr.units)) (pe_fld (pv 6) rfl) (pe_callTy call_tupS (by rfl) T.z_tuple (by decide +kernel) (pa_cons (pv 2) pa_nil)) (nomark _)))))) (pss_one (ps_ret pe_bl)) pss_nil) (pss_cons (ps_if (PW.pt (pw_or (pt_cmpR (op_neD (hr.units)) (pe_methG (pv 6) T.c_Program T.x_Program_done (ok_Program_done_L T) (hr.mono (by decide)) (pa_cons (pv 5) pa_nil)) (pe_callG (ok__law_done T) (hr.mono (by decide)) (by rfl) T.m__law_done (pa_cons (pv 2) (pa_cons (pv 5) pa_nil))) (nomark _)) (pw_or1 (pt_cmpR (op_neD (hr.units)) (pe_methG (pv 6) T.c_Program T.x_Program_done (ok_Program_done_T T) (hr.mono (by decide)) (pa_cons (pe_callTy call_tupS (by rfl) T.z_tuple (by decide +kernel) (pa_cons (pv 5) pa_nil)) pa_nil)) (pe_methG (pv 6) T.c_Program T.x_Program_done (ok_Program_done_L T) (hr.mono (by decide)) (pa_cons (pv 5) pa_nil)) (nomark _))))) (pss_one (ps_ret pe_bl)) pss_nil) (pss_cons (ps_asg (pe_op (addO_of (ok_Program___add__ T) T.x_Program___add__ T.sf_Program (hr.mono (by decide))) (pv 6) (pe_makeG T.k_Program (ok_Program___init___T T) (hr.mono (by decide)) (by rfl) T.m_Program (pa_cons (pe_callTy call_tupS (by rfl) T.z_tuple (by decide +kernel) (pa_cons (pv 3) pa_nil)) pa_nil))) (pg_name (i := 7) sc_law.nd rfl (.inl rfl))) (pss_cons (ps_if (PW.pt (pw_or (pt_cmpR (neO_of (ok_Program___eq__ T) T.x_Program___eq__ T.ne_Program T.ob_Program (hr.mono (by decide))) (pv 7) (pe_makeG T.k_Program (ok_Program___init___L T) (hr.mono (by decide)) (by rfl) T.m_Program (pa_cons (pe_op op_cat (pv 2) (pv 3)) pa_nil)) (nomark _)) (pw_or1 (pt_cmpR (op_neD (hr.units)) (pe_methG (pv 7) T.c_Program T.x_Program_done (ok_Program_done_L T) (hr.mono (by decide)) (pa_cons (pv 5) pa_nil)) (pe_methG (pe_makeG T.k_Program (ok_Program___init___L T) (hr.mono (by decide)) (by rfl) T.m_Program (pa_cons (pv 3) pa_nil)) T.c_Program T.x_Program_done (ok_Program_done_T T) (hr.mono (by decide)) (pa_cons (pe_methG (pv 6) T.c_Program T.x_Program_done (ok_Program_done_L T) (hr.mono (by decide)) (pa_cons (pv 5) pa_nil)) pa_nil)) (nomark _))))) (pss_one (ps_ret pe_bl)) pss_nil) (pss_cons (ps_asg (pe_op op_add pe_int (pe_callG (ok__law_draw T) (hr.mono (by decide)) (by rfl) T.m__law_draw (pa_cons (pv 0) (pa_cons pe_int (pa_cons pe_int pa_nil))))) (pg_name (i := 8) sc_law.nd rfl (.inr rfl))) (pss_cons (ps_setLc (i := 9) (own := [("volume", 12)]) rfl sc_law.nd rfl rfl (sw_true rfl rfl rfl (by decide +kernel)) (pi_list (pv 5)) (blkOk_by (own := [("volume", 12)]) (N := ["script", "way", "rounds", "more", "many", "volumes", "program", "both", "below", "parts", "good", "at", "volume", "top", "bottom"]) (sc := defScope s_law) (by decide +kernel)) (fun _ _ _ _ _ => (pg_name (i := 12) sc_law.nd rfl (.inl rfl))) (fun _ _ _ _ _ => pts_nil) (fun _ _ _ _ _ => (pe_tup (pa_cons (pv 12) (pa_cons (pv 8) pa_nil))))) (pss_cons (ps_if (pt_cmpR (op_neD (hr.units)) (pe_methG (pv 6) T.c_Program T.x_Program_done (ok_Program_done_L T) (hr.mono (by decide)) (pa_cons (pv 9) pa_nil)) (pe_callTy call_tupS (by rfl) T.z_tuple (by decide +kernel) (pa_cons (pe_lc (own := [("top", 13), ("bottom", 14)]) rfl sc_law.nd (pi_tup (pe_callG (ok__law_done T) (hr.mono (by decide)) (by rfl) T.m__law_done (pa_cons (pv 2) (pa_cons (pv 5) pa_nil)))) (blkOk_by (own := [("top", 13), ("bottom", 14)]) (N := ["script", "way", "rounds", "more", "many", "volumes", "program", "both", "below", "parts", "good", "at", "volume", "top", "bottom"]) (sc := defScope s_law) (by decide +kernel)) (fun _ _ _ _ _ => (tupK (K := K) (n := 2) rfl rfl (pgs_cons (pg_name (i := 13) sc_law.nd rfl (.inl rfl)) (pgs_cons (pg_name (i := 14) sc_law.nd rfl (.inl rfl)) pgs_nil)))) (fun _ _ _ _ _ => pts_nil) (fun _ _ _ _ _ => (pe_callG (ok__law_part T) (hr.mono (by decide)) (by rfl) T.m__law_part (pa_cons (pv 13) (pa_cons (pe_op op_mulW (pv 14) (pv 8)) pa_nil))))) pa_nil)) (nomark _)) (pss_one (ps_ret pe_bl)) pss_nil) (pss_cons (ps_asg (pe_callTy call_tupS (by rfl) T.z_tuple (by decide +kernel) (pa_cons (pe_lc (own := [("volume", 12)]) rfl sc_law.nd (pi_list (pv 5)) (blkOk_by (own := [("volume", 12)]) (N := ["script", "way", "rounds", "more", "many", "volumes", "program", "both", "below", "parts", "good", "at", "volume", "top", "bottom"]) (sc := defScope s_law) (by decide +kernel)) (fun _ _ _ _ _ => (pg_name (i := 12) sc_law.nd rfl (.inl rfl))) (fun _ _ _ _ _ => pts_nil) (fun _ _ _ _ _ => (pe_callB call_absS (by rfl) T.z_abs (by decide +kernel) (pa_cons (pv 12) pa_nil)))) pa_nil)) (pg_name (i := 10) sc_law.nd rfl (.inl rfl))) (pss_cons (ps_if (PW.pt (pw_and (pt_cmpR op_le (pv 4) pe_int (nomark _)) (pw_and (pt_cmpR op_le (pe_callB call_lenS (by rfl) T.z_len PySem.boot_len (pa_cons (pe_methG (pv 6) T.c_Program T.x_Program_order (ok_Program_order T) (hr.mono (by decide)) (pa_cons (pv 4) pa_nil)) pa_nil)) pe_int (nomark _)) (pw_and1 (pt_cmpR (op_neD (hr.units)) (pe_methG (pv 6) T.c_Program T.x_Program_done (ok_Program_done_T T) (hr.mono (by decide)) (pa_cons (pv 10) pa_nil)) (pe_fld (pe_callG (ok_behind T) (hr.mono (by decide)) (by rfl) T.m_behind (pa_cons (pe_makeH T.k_Row (ok_Row___init___T T) (hr.mono (by decide)) (by rfl) T.m_Row (pa_cons (pe_op op_repT1 (pe_tup (pa_cons pe_int pa_nil)) (pv 4)) (pa_cons (pv 10) pa_nil))) (pa_cons (pe_methG (pv 6) T.c_Program T.x_Program_order (ok_Program_order T) (hr.mono (by decide)) (pa_cons (pv 4) pa_nil)) pa_nil))) rfl) (nomark _)))))) (pss_one (ps_ret pe_bl)) pss_nil) (pss_cons (ps_if (pt_not (pt_val (pe_callG (ok__law_refused T hp ht) (hr.mono (by decide)) (by rfl) T.m__law_refused (pa_cons (pv 0) (pa_cons (pv 2) (pa_cons (pv 6) pa_nil)))))) (pss_one (ps_ret pe_bl)) pss_nil) (pss_one (ps_ret (pe_and (pe_cmpR (op_eqD (hr.units)) (pe_methG (pe_makeG T.k_Program (ok_Program___init___L T) (hr.mono (by decide)) (by rfl) T.m_Program (pa_cons (pe_lst pa_nil) pa_nil)) T.c_Program T.x_Program_done (ok_Program_done_T T) (hr.mono (by decide)) (pa_cons (pv 10) pa_nil)) (pe_callTy call_tupS (by rfl) T.z_tuple (by decide +kernel) (pa_cons (pe_lc (own := [("volume", 12)]) rfl sc_law.nd (pi_tup (pv 10)) (blkOk_by (own := [("volume", 12)]) (N := ["script", "way", "rounds", "more", "many", "volumes", "program", "both", "below", "parts", "good", "at", "volume", "top", "bottom"]) (sc := defScope s_law) (by decide +kernel)) (fun _ _ _ _ _ => (pg_name (i := 12) sc_law.nd rfl (.inl rfl))) (fun _ _ _ _ _ => pts_nil) (fun _ _ _ _ _ => (pe_tup (pa_cons (pv 12) (pa_cons pe_int pa_nil))))) pa_nil)) (nomark _)) (pe_and (pe_cmpR (eqO_of (ok_Program___eq__ T) T.x_Program___eq__ (hr.mono (by decide))) (pe_makeG T.k_Program (ok_Program___init___L T) (hr.mono (by decide)) (by rfl) T.m_Program (pa_cons (pe_lst pa_nil) pa_nil)) (pe_makeG T.k_Program (ok_Program___init___T T) (hr.mono (by decide)) (by rfl) T.m_Program (pa_cons (pe_tup pa_nil) pa_nil)) (nomark _)) (pe_one (pe_cmpR (neI_of (ok_Program___eq___I T) T.x_Program___eq__ T.ne_Program T.ob_Program T.sn_Program (hr.mono (by decide))) (pv 6) pe_int (nomark _)))))))))))))))))))))), ?_⟩)
  · obtain ⟨a, ns, rfl, _⟩ := h
    rfl
  · obtain ⟨a, sc, rfl, hl, hs, q⟩ := h
    try dsimp only [cxOf, Cx.nox, Cx.wish]
    have b1 : Is K H (.ref a) (.lst (iL sc)) := .lst hs iLall
    refine q_asgD (K := K) (ed_way (sc := sc) (a := 0) (ed_call (ea1 (ed_var rfl b1) (ea1 ed_int (ea1 ed_int ea0))) ⟨sc, 0, 2, rfl, hl, by decide, by decide, by decide, rfl⟩)) fun v1 H1 e1 i1 => ?_
    cases i1
    generalize hL : lrnds sc 10 4 (wyb sc 0) = L
    generalize hM : lrnds sc 50 4 (wyb sc 1) = M
    have oL : ∀ r ∈ L, r.ok := by rw [← hL]; exact lrnds_ok (wyb_ok sc 0)
    have oM : ∀ r ∈ M, r.ok := by rw [← hM]; exact lrnds_ok (wyb_ok sc 1)
    have lL : L.length ≤ 4 := by rw [← hL]; exact lrnds_len (by decide)
    have lM : M.length ≤ 4 := by rw [← hM]; exact lrnds_len (by decide)
    refine q_parN (K := K) (ds := rds L) (es := rds M) (en_call (ea1 (ed_var rfl (b1.ex e1)) (ea1 ed_int (ea1 ed_int (ea1 (ed_var rfl (.str _)) ea0)))) ⟨sc, 10, 4, wyb sc 0, wys sc 0, wyb_d sc 0, rfl, hl, by decide, by decide, by decide, by decide, by rw [hL]⟩)
      (fun H2 e2 => en_call (ea1 (ed_var rfl (b1.ex (e1.trans e2))) (ea1 ed_int (ea1 ed_int (ea1 (ed_way (sc := sc) (a := 1) (ed_call (ea1 (ed_var rfl (b1.ex (e1.trans e2))) (ea1 ed_int (ea1 ed_int ea0))) ⟨sc, 1, 2, rfl, hl, by decide, by decide, by decide, rfl⟩)) ea0)))) ⟨sc, 50, 4, wyb sc 1, wys sc 1, wyb_d sc 1, rfl, hl, by decide, by decide, by decide, by decide, by rw [hM]⟩) fun pL xL pM xM H2 npL npM e2 hxL axL hxM axM => ?_
    have E2 := e1.trans e2
    have iL2 : Is K H2 (.ref pL) (.lst (rds L)) := .lst (.inl hxL) axL
    have iM2 : Is K H2 (.ref pM) (.lst (rds M)) := .lst (.inl hxM) axM
    obtain ⟨n, hn, n1, n9⟩ : ∃ n : Nat, 1 + drw sc 2 9 = (n : Int) ∧ 1 ≤ n ∧ n ≤ 9 := by
      have := drw_ok sc 2 (m := 9) (by decide)
      exact ⟨(1 + drw sc 2 9).toNat, by omega, by omega, by omega⟩
    refine q_asgD (K := K) (d := .int (n : Int)) (EvD.is (ed_add ed_int (ed_call (ea1 (ed_var rfl (b1.ex E2)) (ea1 ed_int (ea1 ed_int ea0))) ⟨sc, 2, 9, rfl, hl, by decide, by decide, by decide, rfl⟩)) (by rw [hn])) fun v3 H3 e3 i3 => ?_
    cases i3
    have E3 := E2.trans e3
    generalize hv : ((List.range n).map fun i : Nat => drw sc (100 + (i : Int)) 20 - 4) = vs
    have vl : vs.length = n := by rw [← hv]; simp
    have vb : ∀ x ∈ vs, -4 ≤ x ∧ x ≤ 15 := by
      rw [← hv]
      intro x hx
      obtain ⟨i, _, rfl⟩ := List.mem_map.mp hx
      have := drw_ok sc (100 + (i : Int)) (m := 20) (by decide)
      omega
    have vb6 : ∀ x ∈ vs, x.natAbs < 2 ^ 600 := fun x hx => by
      have := vb x hx
      exact Nat.lt_of_le_of_lt (show x.natAbs ≤ 2 ^ 4 by omega) (Nat.pow_lt_pow_right (by decide) (by decide))
    refine q_asgN (K := K) (ds := iL vs) (EvN.is (en_lc1 (n := n) (item := fun i => .int (i : Int)) (fun _ => true) (fun i => .int (drw sc (100 + (i : Int)) 20 - 4)) (fun H4 e4 => EvI.is (ei_r1 (ea1 (ed_var rfl (.int _)) ea0) (by omega)) (by omega)) (by omega) (fun _ _ _ => rfl) (fun x => rfl) (fun i x H4 _ _ _ => et_yes) (fun i x H4 hi e4 ax _ => ed_sub (ed_call (ea1 (ed_var rfl (b1.ex (E3.trans e4))) (ea1 (ed_add ed_int (ed_var rfl ax)) (ea1 ed_int ea0))) ⟨sc, 100 + (i : Int), 20, rfl, hl, by omega, by omega, by decide, rfl⟩) ed_int)) ?_) fun pV xV H4 npV e4 hxV axV => ?_
    · rw [gives_all, ← hv]
      unfold iL
      rw [List.map_map]
      rfl
    have E4 := E3.trans e4
    have iV4 : Is K H4 (.ref pV) (.lst (iL vs)) := .lst (.inl hxV) axV
    have iL4 := iL2.ex (e3.trans e4)
    have iM4 := iM2.ex (e3.trans e4)
    refine q_asgD (K := K) (d := progD L) (ed_make (ea1 (ed_var rfl iL4) ea0) ⟨L, oL, by omega, rfl, rfl⟩) fun vP H5 e5 iP => ?_
    have E5 := E4.trans e5
    -- the first test
    refine q_when (b := false) (et_is (et_or (a := false) (b := false) (et_is (et_t (K := K) (ed_neD (K := K) (EvN.toD (en_meth (ds := [.int (n : Int)]) (es := iL (ops L n)) (ed_var rfl iP) rfl (ea1 (ed_var rfl (.int _)) ea0) ⟨L, n, oL, by omega, n1, by omega, rfl, rfl⟩)) (EvN.toD (en_call (es := iL (ops L n)) (ea1 (ed_var rfl (iL4.ex e5)) (ea1 (ed_var rfl (.int _)) ea0)) ⟨L, n, oL, by omega, n1, by omega, rfl, rfl⟩)) (sh_iL _) (sh_iL _))) (by rw [eqv_iL, decide_eq_true rfl]; rfl)) fun _ => et_or (a := false) (b := false) (et_is (et_t (K := K) (ed_neI (K := K) (i := (L.length : Int)) (j := (L.length : Int)) (ed_lenO (ed_var rfl iP) ⟨L, rfl, rfl⟩ (by omega)) (EvD.is (ed_lenL (K := K) (ed_var rfl (iL4.ex e5))) (by rw [rds_len])))) (by rw [decide_eq_true rfl]; rfl)) fun _ => et_is (et_t (K := K) (ed_neD (K := K) (ed_fld (ed_var rfl iP) T.c_Program T.n_Program_rounds rfl) (ed_tuple (ed_var rfl (iL4.ex e5))) (shp_rnd.tup L) (shp_rnd.tup L))) (by rw [show PyData.eqv (D.tup (rds L)).py (D.tup (rds L)).py = decide (L = L) from eqvT_map _ eqv_rnd L L, decide_eq_true rfl]; rfl)) rfl) (fun z => nomatch z) (fun _ H6 e6 => ?_)
    have E6 := E5.trans e6
    have iP6 := iP.ex e6
    have iL6 := iL4.ex (e5.trans e6)
    have iM6 := iM4.ex (e5.trans e6)
    have iV6 := iV4.ex (e5.trans e6)
    have hop : ops L vs.length = ops L n := by rw [vl]
    have dL := fun mk => done_ints (mk := mk) (v := vs) oL (by omega) (by omega) (by omega) vb6
    rw [hop] at dL
    generalize hD : plyQ (qv vs) (ops L n) = D0 at dL
    have neq : ∀ (x : List Rat), (!PyData.eqv (D.tup (frs x)).py (D.tup (frs x)).py) = false := fun x => by
      rw [show PyData.eqv (D.tup (frs x)).py (D.tup (frs x)).py = decide (x = x) from eqvT_map fr eqv_fr x x, decide_eq_true rfl]
      rfl
    refine q_when (b := false) (et_is (et_or (a := false) (b := false) (et_is (et_t (K := K) (ed_neD (K := K) (ed_meth (ds := [.lst (iL vs)]) (ed_var rfl iP6) rfl (ea1 (ed_var rfl iV6) ea0) (dL .lst)) (ed_call (d := .tup (frs D0)) (ea1 (ed_var rfl iL6) (ea1 (ed_var rfl iV6) ea0)) ⟨L, vs, oL, by omega, by omega, by omega, fun x hx => by have := vb x hx; exact Nat.lt_of_le_of_lt (show x.natAbs ≤ 2 ^ 4 by omega) (Nat.pow_lt_pow_right (by decide) (by decide)), rfl, by rw [hop, hD]⟩) (shp_fr.tup D0) (shp_fr.tup D0))) (neq D0)) fun _ => et_is (et_t (K := K) (ed_neD (K := K) (ed_meth (ds := [.tup (iL vs)]) (ed_var rfl iP6) rfl (ea1 (ed_tuple (ed_var rfl iV6)) ea0) (dL .tup)) (ed_meth (ds := [.lst (iL vs)]) (ed_var rfl iP6) rfl (ea1 (ed_var rfl iV6) ea0) (dL .lst)) (shp_fr.tup D0) (shp_fr.tup D0))) (neq D0)) rfl) (fun z => nomatch z) (fun _ H7 e7 => ?_)
    have E7 := E6.trans e7
    refine q_asgD (K := K) (d := progD (L ++ M)) (ed_addO (fs := progF L) (gs := progF M) (ed_var rfl (iP6.ex e7)) (ed_make (ea1 (ed_tuple (ed_var rfl (iM6.ex e7))) ea0) ⟨M, oM, by omega, rfl, rfl⟩) ⟨L, M, oL, oM, by omega, rfl, rfl⟩) fun vB H8 e8 iB => ?_
    have E8 := E7.trans e8
    have iP8 := iP6.ex (e7.trans e8)
    have iL8 := iL6.ex (e7.trans e8)
    have iM8 := iM6.ex (e7.trans e8)
    have iV8 := iV6.ex (e7.trans e8)
    have e28 : Ex H2 H8 := ((((e3.trans e4).trans e5).trans e6).trans e7).trans e8
    have D0l : D0.length = n := by rw [← hD, plyQ_len, qv_len, vl]
    have D0d : ∀ q ∈ D0, q.den ∣ 2 ^ (L.length * n) := by
      have := plyQ_den (v := vs) oL
      rw [hop, hD, vl] at this
      exact this
    have D0n : ∀ q ∈ D0, q.num.natAbs < 2 ^ 650 := fun q hq => by
      have bd : ∀ z ∈ qv vs, -(((16 : Nat) : Int) : Rat) ≤ z ∧ z ≤ (((16 : Nat) : Int) : Rat) := fun z hz => by
        obtain ⟨x, hx, rfl⟩ := List.mem_map.mp hz
        have := vb x hx
        rw [← Rat.intCast_neg]
        exact ⟨Rat.intCast_le_intCast.mpr (by omega), Rat.intCast_le_intCast.mpr (by omega)⟩
      rw [← hD] at hq
      have h2 := plyQ_bd (ops L n) (v := qv vs) (fun w hw => by rw [qv_len, vl]; exact ops_in hw) bd q hq
      have h3 := num_bd (b := 16) (D0d q (by rw [← hD]; exact hq)) h2.1 h2.2
      have h4 : L.length * n ≤ 4 * 9 := Nat.mul_le_mul lL n9
      have h5 : 2 ^ (L.length * n) ≤ 2 ^ 36 := Nat.pow_le_pow_right (by decide) h4
      have h6 : 16 * 2 ^ (L.length * n) ≤ 16 * 2 ^ 36 := Nat.mul_le_mul_left _ h5
      exact Nat.lt_of_le_of_lt (Nat.le_trans h3 h6) (show 16 * 2 ^ 36 < 2 ^ 650 from Nat.lt_of_le_of_lt (show 16 * 2 ^ 36 ≤ 2 ^ 40 by decide) (Nat.pow_lt_pow_right (by decide) (by decide)))
    have h36 : L.length * n ≤ 600 := Nat.le_trans (Nat.mul_le_mul lL n9) (by decide)
    have dM := done_rats (L := M) (s := D0) oM (by omega) (by omega) (by omega) h36 D0d D0n
    rw [D0l] at dM
    have dB := done_ints (mk := .lst) (L := L ++ M) (v := vs) (fun r hr => (List.mem_append.mp hr).elim (oL r) (oM r)) (by rw [List.length_append]; omega) (by omega) (by omega) vb6
    rw [vl, ops_app, plyQ_app, hD] at dB
    refine q_when (b := false) (et_is (et_or (a := false) (b := false) (et_is (et_t (EvD.is (ed_neO (K := K) (fs := progF (L ++ M)) (gs := progF (L ++ M)) (b := true) (ed_var rfl iB) (ed_make (ea1 (K := K) (d := .lst (rds (L ++ M))) (EvN.toD (EvN.is (en_cat3 (e28 _ _ hxL) (axL.ex e28) (fun _ => ev_ref rfl) (e28 _ _ hxM) (axM.ex e28) (fun _ => ev_ref rfl) (by rw [rds_len, rds_len]; omega)) (by unfold rds; rw [List.map_append]))) ea0) ⟨L ++ M, fun r hr => (List.mem_append.mp hr).elim (oL r) (oM r), by rw [List.length_append]; omega, rfl, rfl⟩) ⟨L ++ M, L ++ M, rfl, by rw [decide_eq_true rfl]⟩) rfl)) rfl) fun _ => et_is (et_t (K := K) (ed_neD (K := K) (ed_meth (ds := [.lst (iL vs)]) (ed_var rfl iB) rfl (ea1 (ed_var rfl iV8) ea0) dB) (ed_meth (ds := [.tup (frs D0)]) (ed_make (fs := progF M) (ea1 (ed_var rfl iM8) ea0) ⟨M, oM, by omega, rfl, rfl⟩) rfl (ea1 (ed_meth (ds := [.lst (iL vs)]) (ed_var rfl iP8) rfl (ea1 (ed_var rfl iV8) ea0) (dL .lst)) ea0) dM) (shp_fr.tup _) (shp_fr.tup _))) (neq _)) rfl) (fun z => nomatch z) (fun _ H9 e9 => ?_)
    have E9 := E8.trans e9
    obtain ⟨b, hb, bp, b6⟩ : ∃ b : Nat, 1 + drw sc 3 6 = (b : Int) ∧ 1 ≤ b ∧ b ≤ 6 := by
      have := drw_ok sc 3 (m := 6) (by decide)
      exact ⟨(1 + drw sc 3 6).toNat, by omega, by omega, by omega⟩
    refine q_asgD (K := K) (d := .int (b : Int)) (EvD.is (ed_add ed_int (ed_call (ea1 (ed_var rfl (b1.ex E9)) (ea1 ed_int (ea1 ed_int ea0))) ⟨sc, 3, 6, rfl, hl, by decide, by decide, by decide, rfl⟩)) (by rw [hb])) fun v10 H10 e10 i10 => ?_
    cases i10
    have E10 := E9.trans e10
    have iV10 := iV8.ex (e9.trans e10)
    refine q_asgN (K := K) (ds := vs.map fun x => .tup [.int x, .int (b : Int)]) (EvN.is (en_lc1 (n := vs.length) (item := fun i => (iL vs).getD i .non) (fun _ => true) (fun i => .tup [.int (vs.getD i 0), .int (b : Int)]) (fun H11 e11 => EvI.is (ei_list (es_any (ed_var rfl (iV10.ex e11))) (iLlf vs)) (iLlen vs)) (by omega) (fun _ _ _ => rfl) (fun x => rfl) (fun i x H11 _ _ _ => et_yes) (fun i x H11 hi e11 ax _ => ?_)) ?_) fun pQ xQ H11 npQ e11 hxQ axQ => ?_
    · rw [show (iL vs).getD i .non = .int vs[i] from getD_map _ _ _ hi] at ax
      rw [getD_in hi]
      exact ed_tup (ea1 (ed_var rfl ax) (ea1 (ed_var rfl (.int _)) ea0)) (by show 2 ≤ 100000; decide)
    · rw [gives_all]
      refine List.ext_getElem (by simp) fun i h1 h2 => ?_
      rw [List.length_map, List.length_range] at h1
      simp only [List.getElem_map, List.getElem_range]
      rw [getD_in h1]
    have E11 := E10.trans e11
    have iQ11 : Is K H11 (.ref pQ) (.lst (vs.map fun x => .tup [.int x, .int (b : Int)])) := .lst (.inl hxQ) axQ
    have iP11 := iP8.ex ((e9.trans e10).trans e11)
    have iL11 := iL8.ex ((e9.trans e10).trans e11)
    have iM11 := iM8.ex ((e9.trans e10).trans e11)
    have iV11 := iV10.ex e11
    have dP := done_parts (L := L) (v := vs) (b := b) oL (by omega) (by omega) (by omega) vb6 (by omega) (Nat.lt_of_le_of_lt (show b ≤ 2 ^ 3 by omega) (Nat.pow_lt_pow_right (by decide) (by decide)))
    have pat := fun i (hi : i < n) => parts_at (L := L) (v := vs) (b := b) (by omega) i (by rw [vl]; exact hi)
    rw [hop] at dP
    have pat2 : ∀ i, i < n → (plyQ (vs.map fun x => mkRat x b) (ops L n)).getD i 0 = mkRat (D0.getD i 0).num ((D0.getD i 0).den * b) := fun i hi => by
      have := pat i hi
      rw [hop, hD] at this
      exact this
    have DPl : (plyQ (vs.map fun x => mkRat x b) (ops L n)).length = n := by rw [plyQ_len, List.length_map, vl]
    generalize plyQ (vs.map fun x => mkRat x b) (ops L n) = DP at dP pat2 DPl
    refine q_when (b := false) (et_is (et_t (K := K) (ed_neD (K := K) (d1 := .tup (frs DP)) (d2 := .tup (frs DP)) (ed_meth (ds := [.lst (vs.map fun x => .tup [.int x, .int (b : Int)])]) (ed_var rfl iP11) rfl (ea1 (ed_var rfl iQ11) ea0) dP) (ed_tuple (EvN.toD (EvN.is (en_lc2 (n := n) (c1 := fun i => .int (D0.getD i 0).num) (c2 := fun i => .int ((D0.getD i 0).den : Int)) (fun _ => true) (fun i => fr (DP.getD i 0)) (fun H12 e12 => EvI.item (EvI.is (ei_tup (ed_call (d := .tup (frs D0)) (ea1 (ed_var rfl (iL11.ex e12)) (ea1 (ed_var rfl (iV11.ex e12)) ea0)) ⟨L, vs, oL, by omega, by omega, by omega, fun x hx => by have := vb x hx; exact Nat.lt_of_le_of_lt (show x.natAbs ≤ 2 ^ 4 by omega) (Nat.pow_lt_pow_right (by decide) (by decide)), rfl, by rw [hop, hD]⟩) (frs_lf D0)) (by rw [frs_len, D0l])) (fun i hi => ?_)) (by omega) (fun _ _ _ => rfl) (fun x y => rfl) (fun i x y H12 _ _ _ _ => et_yes) (fun i z1 z2 H12 hi e12 az1 az2 _ => ?_)) ?_))) (shp_fr.tup DP) (shp_fr.tup DP))) (neq DP)) (fun z => nomatch z) (fun _ H12 e12 => ?_)
    · rw [getD_frs D0 i (by rw [D0l]; exact hi), getD_in (by rw [D0l]; exact hi)]
      rfl
    · have dm : D0.getD i 0 ∈ D0 := gd_mem (by rw [D0l]; exact hi)
      have dd : (D0.getD i 0).den < 2 ^ 601 := Nat.lt_of_le_of_lt (Nat.le_of_dvd (Nat.two_pow_pos _) (D0d _ dm)) (Nat.pow_lt_pow_right (by decide) (by omega))
      rw [pat2 i hi]
      refine ed_call (ea1 (ed_var rfl az1) (ea1 (K := K) (d := .int (((D0.getD i 0).den * b : Nat) : Int)) (EvD.is (ed_mulW (ed_var rfl az2) (ed_var rfl (.int _)) (mulW (a := 601) (b := 4) (by rw [Int.natAbs_natCast]; exact dd) (by rw [Int.natAbs_natCast]; show b < 16; omega))) (by rw [Int.natCast_mul])) ea0)) ⟨_, _, rfl, Nat.mul_pos (D0.getD i 0).den_pos (by omega), ?_, rfl⟩
      have h1 : (D0.getD i 0).den * b < 2 ^ 601 * 2 ^ 4 := Nat.mul_lt_mul'' dd (show b < 16 by omega)
      rw [← Nat.pow_add] at h1
      exact pow_lt (by decide) h1
    · rw [gives_all]
      exact frs_range _ DPl.symm
    have E12 := E11.trans e12
    have iV12 := iV11.ex e12
    generalize hg : (vs.map fun x : Int => ((x.natAbs : Nat) : Int)) = gs
    have gl : gs.length = n := by rw [← hg, List.length_map, vl]
    have gb : ∀ x ∈ gs, 0 ≤ x ∧ x ≤ 100 := by
      rw [← hg]
      intro x hx
      obtain ⟨y, hy, rfl⟩ := List.mem_map.mp hx
      have := vb y hy
      omega
    refine q_asgD (K := K) (d := .tup (iL gs)) (ed_tuple (EvN.toD (EvN.is (en_lc1 (n := vs.length) (item := fun i => (iL vs).getD i .non) (fun _ => true) (fun i => .int (((vs.getD i 0).natAbs : Nat) : Int)) (fun H13 e13 => EvI.is (ei_list (es_any (ed_var rfl (iV12.ex e13))) (iLlf vs)) (iLlen vs)) (by omega) (fun _ _ _ => rfl) (fun x => rfl) (fun i x H13 _ _ _ => et_yes) (fun i x H13 hi e13 ax _ => ?_)) ?_))) fun vG H13 e13 iG => ?_
    · rw [show (iL vs).getD i .non = .int vs[i] from getD_map _ _ _ hi] at ax
      rw [getD_in hi]
      exact EvD.is (ed_abs (ed_var rfl ax)) (by rw [abs_if])
    · rw [gives_all, ← hg]
      unfold iL
      rw [List.map_map]
      refine List.ext_getElem (by simp) fun i h1 h2 => ?_
      rw [List.length_map, List.length_range] at h1
      simp only [List.getElem_map, List.getElem_range]
      rw [getD_in h1]
      rfl
    have E13 := E12.trans e13
    have iP13 := iP11.ex (e12.trans e13)
    have iL13 := iL11.ex (e12.trans e13)
    have gb6 : ∀ x ∈ gs, x.natAbs < 2 ^ 600 := fun x hx => by
      have := gb x hx
      exact Nat.lt_of_le_of_lt (show x.natAbs ≤ 2 ^ 7 by omega) (Nat.pow_lt_pow_right (by decide) (by decide))
    have dG := done_ints (mk := .tup) (L := L) (v := gs) oL (by omega) (by omega) (by omega) gb6
    have dN := done_ints (mk := .tup) (L := []) (v := gs) (fun r h => nomatch h) (by decide) (by omega) (by omega) gb6
    rw [gl] at dG dN
    have row := row_play (n := n) (v := qv gs) (by rw [qv_len, gl]) (O := ops L n) (fun o ho => ops_in ho) (ops L n).length (Nat.le_refl _)
    rw [List.take_length] at row
    have olen : (ops L n).length ≤ 36 := Nat.le_trans (ops_len L n) (Nat.mul_le_mul lL n9)
    have rep1 : (List.replicate n ([.int 1] : List D)).flatten = iL (List.replicate n 1) := by
      exact rep_ones n
    refine q_when (b := false) (et_is (et_and (a := true) (b := false) (et_is (et_t (K := K) (ed_le (K := K) (ed_var rfl (.int _)) ed_int)) (decide_eq_true (by omega))) fun _ => et_and (a := true) (b := false) (et_is (et_t (K := K) (ed_le (K := K) (i := ((ops L n).length : Int)) (EvD.is (ed_lenL (K := K) (EvN.toD (en_meth (ds := [.int (n : Int)]) (es := iL (ops L n)) (ed_var rfl iP13) rfl (ea1 (ed_var rfl (.int _)) ea0) ⟨L, n, oL, by omega, n1, by omega, rfl, rfl⟩))) (by rw [iLlen])) ed_int)) (decide_eq_true (by omega))) fun _ => et_is (et_t (K := K) (ed_neD (K := K) (ed_meth (ds := [.tup (iL gs)]) (ed_var rfl iP13) rfl (ea1 (ed_var rfl iG) ea0) dG) (ed_fld (d := .tup (frs (plyQ (qv gs) (ops L n)))) (fs := rowF (List.replicate n 1) (plyQ (qv gs) (ops L n)) (asc [])) (ed_call (ea1 (ed_makeH (c := "Row") (fs := rowF (List.replicate n 1) (qv gs) (asc [])) (es := [.tup (iL [])]) (ea1 (EvD.is (ed_repT (n := n) (ed_tup (ea1 ed_int ea0) (by show 1 ≤ 100000; decide)) (fun _ => ed_var rfl (.int _)) (fun z => nomatch z) (by show 1 ≤ 1000; decide) n1 (by omega)) (congrArg D.tup rep1)) (ea1 (ed_var rfl iG) ea0)) (fun H => .cons (.tup (tupA_ok T.t_Row___init___0 H) .nil) .nil) ⟨List.replicate n 1, [], gs.map Tv.i, by rw [tvi_d]; rfl, by rw [List.length_replicate]; exact n1, by rw [List.length_replicate]; omega, (fun a ha => by rw [List.eq_of_mem_replicate ha]; exact ⟨by decide, by decide⟩), by rw [List.length_map, List.length_replicate, gl], (fun t ht => by
        obtain ⟨x, hx, rfl⟩ := List.mem_map.mp ht
        have := gb x hx
        exact ⟨this.1, Nat.lt_of_le_of_lt (show x.natAbs ≤ 2 ^ 7 by omega) (Nat.pow_lt_pow_right (by decide) (by decide))⟩), (fun l h => nomatch h), by decide, by rw [tvi_map]⟩) (ea1 (EvN.toD (en_meth (ds := [.int (n : Int)]) (es := iL (ops L n)) (ed_var rfl iP13) rfl (ea1 (ed_var rfl (.int _)) ea0) ⟨L, n, oL, by omega, n1, by omega, rfl, rfl⟩)) ea0)) ⟨List.replicate n 1, qv gs, asc [], 1, 100 * n, ops L n, rfl, good_row gl n1 (by omega) gb, by omega, (fun o ho => by
        have := ops_in ho
        unfold inR
        rw [List.length_replicate, decide_eq_true (show 0 < o by omega), decide_eq_true (show o < (n : Int) from this.2)]
        rfl), by rw [row]; rfl⟩) T.c_Row T.n_Row_volumes rfl) (shp_fr.tup _) (shp_fr.tup _))) (neq _)) rfl) (fun z => nomatch z) (fun _ H14 e14 => ?_)
    have E14 := E13.trans e14
    refine q_when (b := false) (et_not (a := true) (et_v (K := K) (ed_call (d := .bl true) (ea1 (ed_var rfl (b1.ex E14)) (ea1 (ed_var rfl (iL13.ex e14)) (ea1 (ed_var rfl (iP13.ex e14)) ea0))) ⟨sc, L, rfl, hl, oL, by omega, rfl⟩))) (fun z => nomatch z) (fun _ H15 e15 => ?_)
    have iG15 := iG.ex (e14.trans e15)
    have iP15 := iP13.ex (e14.trans e15)
    refine s_retD (K := K) (d := .bl true) ?_ fun v H16 e16 i16 => by
      cases i16
      exact q _
    have mkN : ∀ {σ : L2.St} {H : Hp} {E : XK}, EvD K (tMake (He.ga K "Program") (spI K "Program" (R_Prog .lst)) [] E (tCons (tLst tNil) tNil)) σ H (progD []) := ed_make (ea1 (K := K) (d := .lst (rds [])) (EvN.toD (en_lst ea0 (by show 0 ≤ 100000; decide))) ea0) ⟨[], (fun r h => nomatch h), by decide, rfl, rfl⟩
    refine ed_andV (a := true) (b := true) (EvD.is (ed_eqD (K := K) (d1 := .tup (frs (qv gs))) (d2 := .tup (frs (qv gs))) (ed_meth (fs := progF []) (ds := [.tup (iL gs)]) mkN rfl (ea1 (ed_var rfl iG15) ea0) dN) (ed_tuple (EvN.toD (EvN.is (en_lc1 (n := gs.length) (item := fun i => (iL gs).getD i .non) (fun _ => true) (fun i => fr ((qv gs).getD i 0)) (fun H16 e16 => EvI.is (ei_tup (ed_var rfl (iG15.ex e16)) (iLlf gs)) (iLlen gs)) (by omega) (fun _ _ _ => rfl) (fun x => rfl) (fun i x H16 _ _ _ => et_yes) (fun i x H16 hi e16 ax _ => ?_)) ?_))) (shp_fr.tup _) (shp_fr.tup _)) (by rw [show PyData.eqv (D.tup (frs (qv gs))).py (D.tup (frs (qv gs))).py = decide (qv gs = qv gs) from eqvT_map fr eqv_fr _ _, decide_eq_true rfl])) fun _ => ed_andV (a := true) (b := true) (ed_eqO (fs := progF []) (gs := progF []) mkN (ed_make (ea1 (K := K) (d := .tup (rds [])) (ed_tup ea0 (by show 0 ≤ 100000; decide)) ea0) ⟨[], (fun r h => nomatch h), by decide, rfl, rfl⟩) ⟨[], [], rfl, rfl⟩) fun _ => EvD.is (ed_neIO (fs := progF L) (b := false) (ed_var rfl iP15) ed_int ⟨L, 3, rfl, rfl⟩) rfl
    · rw [show (iL gs).getD i .non = .int gs[i] from getD_map _ _ _ hi] at ax
      rw [getD_in (by rw [qv_len]; exact hi)]
      unfold qv
      rw [List.getElem_map]
      exact ed_tup (ea1 (ed_var rfl ax) (ea1 ed_int ea0)) (by show 2 ≤ 100000; decide)
    · rw [gives_all]
      exact frs_range _ (by rw [qv_len])

end
end My
end
section
set_option Elab.async false
set_option linter.all false
set_option maxRecDepth 100000
set_option maxHeartbeats 0
namespace My
open PySem PySem.Spec PyProof.Rows L2
theorem facts {P : Program} {w : World} {K : PySem.W.Frag} {h : Heap} {mg : Str → Option Value} {f : Addr} (hp : P.main.file = fileS) (ht : (P.main.scope.names.lookup ("super" : Str)).isSome = false) (X : K.In h) (G : h.Ns mainGlobals mg) (hfa : mg ("law" : Str) = some (.ref f)) (c : SupX.SaysS fa fn xs fileS exB K) :
    ∃ fd : FuncData, (∀ (s : Shared) (v : Value), BindsTo s fd ⟨[v], []⟩ [("script", v)]) ∧ (∀ (H : Hp) (a : Addr) (ns : List Int), ns.length ≤ 63 → SqL K H a (ns.map V.int) → sp_law K [.ref a] H (fun v _ => v = .bl true) fun _ _ _ => False) ∧ ∀ base : Heap, K.In base → base.Ns mainGlobals mg → FnOk P w K mg base (L2.CX P w) 9 f fd ["script"] (sp_law K) := by
  have T : Txt K mg := ⟨⟨_, X, G⟩, c⟩
  obtain ⟨fd, F⟩ := T.f_law
  have F' : FunD K "law" "law" (defArgs s_law) (defBody s_law) (defScope s_law) [] [] (He.ga K "law") fd := F
  have e := hfa.symm.trans T.m_law
  cases e
  have b := FunD.bindsA (ps := ["script"]) F' fun _ _ _ _ _ _ us hl => match us, hl with | [_], _ => rfl
  exact ⟨fd, fun s v => b s [v] rfl, fun H a ns hl hS => ⟨a, ns, rfl, hl, WD.rd_of T.noL hS, fun _ => rfl⟩, fun base _ _ => ok_law T hp ht F'⟩
end My
open PySem PySem.W PySem.Calls PyProof.Rows
theorem PySem.Challenge.cw_weirlines_k01_whole_programs_holds : PySem.Challenge.rw_weirlines_k01_whole_programs.Holds := by
  w_on; o_law
  refine HandSHeadRun.head_imp (r := OpenLaw.row PySem.Challenge.rw_weirlines_k01_whole_programs) (q := view (OpenLaw.row PySem.Challenge.rw_weirlines_k01_whole_programs).prog [0, 55]) (H := My.hk) (ob := My.ob) (M := 6000) (loose := My.loose) (d := HandSHeadRun.topDef (OpenLaw.row PySem.Challenge.rw_weirlines_k01_whole_programs).prog 55) (kwd := []) My.ob_eq
    My.run (by kernel_rfl) (by kernel_rfl) (by kernel_rfl) (by rfl) (by first | assumption | decide +kernel) (by decide +kernel) ⟨rfl, rfl, rfl, rfl, rfl, by decide +kernel⟩ ?hw ?hc
  case hw => w_witness2
  case hc =>
    refine LamX.walk_ofTsE (l := PySem.Challenge.rw_weirlines_k01_whole_programs) (n := 63) (k := 9) (x := "script") (CX := fun w => L2.CX PySem.Challenge.rw_weirlines_k01_whole_programs.prog w) rfl (by decide) (by kernel_rfl) ⟨rfl, by decide, by decide⟩ ?F ?CX
    case CX =>
      intro w H s e s' z
      obtain ⟨_, _, _, _, _, _, _, _, _, _, _, _, z⟩ := z
      exact z
    case F =>
      intro w mg fa h Y G hmg0
      obtain ⟨K, KX, c⟩ := Y
      have hmg : mg ("law" : PySem.Str) = some (.ref fa) := by
        have e : (HandSHeadRun.topDef (OpenLaw.row PySem.Challenge.rw_weirlines_k01_whole_programs).prog 55).name = ("law" : PySem.Str) := by kernel_rfl
        rw [← e]
        exact hmg0
      obtain ⟨fd, hb, hS, hF⟩ := My.facts (P := PySem.Challenge.rw_weirlines_k01_whole_programs.prog) (w := w) (by rfl) (by rfl) KX G hmg c
      exact ⟨K, KX, fd, [], My.sp_law K, (fun p hp => nomatch hp), (fun p hp => nomatch hp), (fun p hp => nomatch hp), hb, fun H a ns hl _ _ hq => hS H a ns hl hq, fun base hK hN _ => hF base hK hN⟩
end
