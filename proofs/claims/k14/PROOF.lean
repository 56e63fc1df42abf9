import PyProof.Rows.All
import Wide.All
import OpenK.AllK
import Wide.FinOn
import HandS.Evl
import HandS.Words
import HandS.WordsExc
import HandS.Gcd
import HandS.Wide
import HandS.IsInst
import HandS.Defaults
import HandS.Zip
import HandS.HeadHook1
import HandS.HeadHook2
import HandS.OwnEq
import OpenK.KOps
import OpenK.KMeth
import KE.KMathGC
import PyProof.InstNe
import PyProof.FactsAll.tuple_iterator_1
import HandS.SetFor
import PyProof.ListNew
import HandS.TupAny
import KE.KMathG
import HandS.DictComp
import PyProof.ZipIter
import PyProof.CollectWalk
import KE.KItemsList
import HandS.Base
import HandS.Call
import HandS.List
import HandS.Iter
import HandS.ListItems
import HandS.Star
import KE.KExcSuper
import HandS.ExcOwn
import HandS.ExcInit
import KE.KStateDown
import HandS.Head3
import HandS.HeadEnd
import HandS.Rev
import HandS.RevTup
import HandS.Conv
import HandS.Deep
import HandS.WideBits
import HandS.Flow
import KE.KeyNested
import HandS.TupMul
import HandS.TryOnly
import KE.GoesMore
import HandS.TryMany
import HandS.Style
import HandS.Small
import PyProof.Rows.Range3
import HandS.SortInts
import HandS.HeadHook3
import HandS.RevRange
import HandS.Dict
import KE.DataEq
import HandS.WordsDict
import KE.KTupSum
import HandS.DictTup
import PyProof.DictRoadsH
import PyProof.Rows.TupTab
import KE.KDictWalk
import HandS.Comp
import HandS.HeadWalk
import PySem.Challenge.RW_weirlines_k14_whole_program_relations
section
set_option Elab.async false
set_option linter.all false
set_option maxRecDepth 100000
namespace WD
open PySem L2 Evl
inductive D where
  | non | bl (b : Bool) | int (i : Int) | str (x : Str)
  | tup (ds : List D) | lst (ds : List D) | obj (c : Str) (fs : List (Str × D))
mutual
inductive Is (K : PySem.W.Frag) (H : Hp) : V → D → Prop
  | non : Is K H .non .non
  | bl (b : Bool) : Is K H (.bl b) (.bl b)
  | int (i : Int) : Is K H (.int i) (.int i)
  | str (x : Str) : Is K H (.str x) (.str x)
  | tup {a : Addr} {xs : List V} {ds : List D} : SqT K H a xs → All K H xs ds → Is K H (.ref a) (.tup ds)
  | lst {a : Addr} {xs : List V} {ds : List D} : Rd H a (.lst xs) → All K H xs ds → Is K H (.ref a) (.lst ds)
  | obj {a dx : Addr} {c : Str} {fvs : List (Str × V)} {fs : List (Str × D)} : H a = some (.ins (He.ga K c) dx fvs) → AllF K H fvs fs → Is K H (.ref a) (.obj c fs)
inductive All (K : PySem.W.Frag) (H : Hp) : List V → List D → Prop
  | nil : All K H [] []
  | cons {v : V} {vs : List V} {d : D} {ds : List D} : Is K H v d → All K H vs ds → All K H (v :: vs) (d :: ds)
inductive AllF (K : PySem.W.Frag) (H : Hp) : List (Str × V) → List (Str × D) → Prop
  | nil : AllF K H [] []
  | cons {n : Str} {v : V} {vs : List (Str × V)} {d : D} {ds : List (Str × D)} : Is K H v d → AllF K H vs ds → AllF K H ((n, v) :: vs) ((n, d) :: ds)
end
section
variable {K : PySem.W.Frag} {H H' : Hp}
mutual
theorem Is.ex (e : Ex H H') : ∀ {v : V} {d : D}, Is K H v d → Is K H' v d
  | _, _, .non => .non
  | _, _, .bl b => .bl b
  | _, _, .int i => .int i
  | _, _, .str x => .str x
  | _, _, .tup h a => .tup (ex_t e h) (All.ex e a)
  | _, _, .lst h a => .lst (ex_rd e h) (All.ex e a)
  | _, _, .obj h a => .obj (e _ _ h) (AllF.ex e a)
theorem All.ex (e : Ex H H') : ∀ {vs : List V} {ds : List D}, All K H vs ds → All K H' vs ds
  | _, _, .nil => .nil
  | _, _, .cons h a => .cons (Is.ex e h) (All.ex e a)
theorem AllF.ex (e : Ex H H') : ∀ {vs : List (Str × V)} {ds : List (Str × D)}, AllF K H vs ds → AllF K H' vs ds
  | _, _, .nil => .nil
  | _, _, .cons h a => .cons (Is.ex e h) (AllF.ex e a)
end
theorem All.len : ∀ {vs : List V} {ds : List D}, All K H vs ds → vs.length = ds.length
  | _, _, .nil => rfl
  | _, _, .cons _ a => congrArg Nat.succ (All.len a)
theorem All.get : ∀ {vs : List V} {ds : List D} {i : Nat} {d : D}, All K H vs ds → ds[i]? = some d → ∃ v, vs[i]? = some v ∧ Is K H v d
  | _, _, _, _, .nil, h => by simp at h
  | _, _, 0, _, .cons h _, e => by
    simp at e
    subst e
    exact ⟨_, rfl, h⟩
  | _, _, i + 1, _, .cons _ a, e => by
    obtain ⟨v, h1, h2⟩ := All.get (i := i) a (by simpa using e)
    exact ⟨v, by simpa using h1, h2⟩
theorem All.app : ∀ {vs ws : List V} {ds es : List D}, All K H vs ds → All K H ws es → All K H (vs ++ ws) (ds ++ es)
  | _, _, _, _, .nil, b => b
  | _, _, _, _, .cons h a, b => .cons h (All.app a b)
theorem All.one {v : V} {d : D} (h : Is K H v d) : All K H [v] [d] := .cons h .nil
theorem All.drop : ∀ {vs : List V} {ds : List D} (n : Nat), All K H vs ds → All K H (vs.drop n) (ds.drop n)
  | _, _, 0, h => h
  | _, _, _ + 1, .nil => .nil
  | _, _, n + 1, .cons _ a => All.drop n a
theorem All.take : ∀ {vs : List V} {ds : List D} (n : Nat), All K H vs ds → All K H (vs.take n) (ds.take n)
  | _, _, 0, _ => .nil
  | _, _, _ + 1, .nil => .nil
  | _, _, n + 1, .cons h a => .cons h (All.take n a)
theorem All.set {v : V} {d : D} (h : Is K H v d) : ∀ {vs : List V} {ds : List D} (n : Nat), All K H vs ds → All K H (vs.set n v) (ds.set n d)
  | _, _, _, .nil => .nil
  | _, _, 0, .cons _ a => .cons h a
  | _, _, n + 1, .cons g a => .cons g (All.set h n a)
theorem AllF.look {f : Str} {d : D} : ∀ {vs : List (Str × V)} {ds : List (Str × D)}, AllF K H vs ds → ds.lookup f = some d → ∃ v, vs.lookup f = some v ∧ Is K H v d
  | _, _, .nil, h => by simp at h
  | _, _, .cons (n := n) h a, e => by
    rw [List.lookup_cons] at e ⊢
    cases q : (f == n) with
    | true =>
      rw [q] at e
      cases e
      exact ⟨_, rfl, h⟩
    | false =>
      rw [q] at e
      exact AllF.look a e
/-- tuples stay -/
def Gt (H H' : Hp) : Prop := ∀ a xs, Rd H a (.tup xs) → Rd H' a (.tup xs)
theorem Gt.refl (H : Hp) : Gt H H := fun _ _ h => h
theorem Gt.trans {H H1 H2 : Hp} (a : Gt H H1) (b : Gt H1 H2) : Gt H H2 := fun x y h => b x y (a x y h)
theorem Gt.of (e : Ex H H') : Gt H H' := fun _ _ h => ex_rd e h
theorem Gt.upd {p : Addr} {o : HO} {u : HO} (h : H p = some u) (hu : ∀ xs, u ≠ .tup xs) (hf : ∀ ob z, u ≠ .frz ob z) : Gt H (upd H p o) := fun a xs r => by
  rcases r with r | ⟨ob, r⟩
  · exact .inl (by
      rw [upd_ne (ne_of r h (fun z => hu xs z.symm))]
      exact r)
  · exact .inr ⟨ob, by
      rw [upd_ne (ne_of r h (fun z => hf ob _ z.symm))]
      exact r⟩
theorem Gt.lst {p : Addr} {o : HO} {xs : List V} (h : H p = some (.lst xs)) : Gt H (L2.upd H p o) := Gt.upd h (fun _ z => by cases z) (fun _ _ z => by cases z)
end
end WD
end
section
set_option Elab.async false
set_option linter.all false
set_option maxRecDepth 100000
namespace WD
open PySem L2 Evl
variable {K : PySem.W.Frag} {σ : L2.St} {H H' : Hp} {ta tb te tx : TE} {t u : TT} {d d1 d2 : D} {ds es : List D}
def EvD (K : PySem.W.Frag) (te : TE) (σ : L2.St) (H : Hp) (d : D) : Prop := ∀ H1, Ex H H1 → ∀ Q : VK, (∀ v H2, Ex H1 H2 → Is K H2 v d → Q v H2) → te σ H1 Q
/-- a new list -/
def EvN (K : PySem.W.Frag) (te : TE) (σ : L2.St) (H : Hp) (ds : List D) : Prop := ∀ H1, Ex H H1 → ∀ Q : VK, (∀ p xs H2, H1 p = none → Ex H1 H2 → H2 p = some (.lst xs) → All K H2 xs ds → Q (.ref p) H2) → te σ H1 Q
theorem EvD.mono (e : Ex H H') (h : EvD K te σ H d) : EvD K te σ H' d := fun H1 a Q q => h H1 (e.trans a) Q q
theorem EvN.mono (e : Ex H H') (h : EvN K te σ H ds) : EvN K te σ H' ds := fun H1 a Q q => h H1 (e.trans a) Q q
mutual
def D.py : D → PyData
  | .non => .none
  | .bl b => .bool b
  | .int i => .int i
  | .str x => .str x
  | .tup ds => .tuple (D.pys ds)
  | .lst ds => .list (D.pys ds)
  | .obj _ _ => .none
def D.pys : List D → List PyData
  | [] => []
  | d :: ds => D.py d :: D.pys ds
end
mutual
/-- no object in it -/
def D.fl : D → Bool
  | .tup ds => D.fls ds
  | .lst ds => D.fls ds
  | .obj _ _ => false
  | _ => true
def D.fls : List D → Bool
  | [] => true
  | d :: ds => D.fl d && D.fls ds
end
mutual
theorem Is.dp : ∀ {v : V} {d : D}, Is K H v d → d.fl = true → Dp K H v d.py
  | _, _, .non, _ => .non
  | _, _, .bl b, _ => .bl b
  | _, _, .int i, _ => .int i
  | _, _, .str x, _ => .str x
  | _, _, .tup h a, q => .tup h (All.dp a q)
  | _, _, .lst h a, q => .lst (.inl h) (All.dp a q)
theorem All.dp : ∀ {vs : List V} {ds : List D}, All K H vs ds → D.fls ds = true → DpAll K H vs (D.pys ds)
  | _, _, .nil, _ => .nil
  | _, _, .cons h a, q => .cons (Is.dp h (Bool.and_eq_true_iff.mp q).1) (All.dp a (Bool.and_eq_true_iff.mp q).2)
end
theorem atI_len {α β : Type} {xs : List α} {ys : List β} {i : Int} (h : xs.length = ys.length) {d : β} (e : atI ys i = some d) : ∃ j : Nat, ys[j]? = some d ∧ ∀ v, xs[j]? = some v → atI xs i = some v := by
  unfold atI at e ⊢
  rw [h]
  cases q : ixN ys.length i with
  | none =>
    rw [q] at e
    cases e
  | some j =>
    rw [q] at e
    exact ⟨j, e, fun v hv => hv⟩
def cutD (xs : List D) (lo hi : Option Int) : List D := (xs.drop (HT.sIx xs.length 0 lo)).take (HT.sIx xs.length xs.length hi - HT.sIx xs.length 0 lo)
def rTupS (K : PySem.W.Frag) : List V → Hp → VK → Prop := fun xs H Q => ∃ p ys, xs = [.ref p] ∧ ((SqL K H p ys ∧ ∀ l, H l = none → Q (.ref l) (upd H l (.tup ys))) ∨ (SqT K H p ys ∧ Q (.ref p) H))
def rAbs : List V → Hp → VK → Prop := fun xs H Q => ∃ i, xs = [.int i] ∧ Q (.int (if i < 0 then -i else i)) H
def rInt1 : List V → Hp → VK → Prop := fun xs H Q => (∃ i, xs = [.int i] ∧ Q (.int i) H) ∨ ∃ k, xs = [.bl k] ∧ Q (.int (if k then 1 else 0)) H
def rMin2 : List V → Hp → VK → Prop := fun xs H Q => ∃ i j, xs = [.int i, .int j] ∧ Q (.int (if j < i then j else i)) H
theorem AllF.none {f : Str} : ∀ {vs : List (Str × V)} {ds : List (Str × D)}, AllF K H vs ds → ds.lookup f = none → vs.lookup f = none
  | _, _, .nil, _ => rfl
  | _, _, .cons (n := n) h a, e => by
    rw [List.lookup_cons] at e ⊢
    cases q : (f == n) with
    | true =>
      rw [q] at e
      cases e
    | false =>
      rw [q] at e
      exact AllF.none a e
end WD
end
section
set_option Elab.async false
set_option linter.all false
set_option maxRecDepth 100000
namespace WD
open PySem L2 Evl
variable {K : PySem.W.Frag} {σ : L2.St} {H H' : Hp} {ta tb te tx : TE} {t u : TT} {d d1 d2 : D} {ds es : List D} {wi : TI} {g : TG}
def Mu (L : List Addr) (H H' : Hp) : Prop := (∀ a o, a ∉ L → H a = some o → H' a = some o) ∧ Gt H H'
theorem Mu.refl (L : List Addr) (H : Hp) : Mu L H H := ⟨fun _ _ _ h => h, Gt.refl H⟩
theorem Mu.trans {L : List Addr} {H H1 H2 : Hp} (a : Mu L H H1) (b : Mu L H1 H2) : Mu L H H2 := ⟨fun x o n h => b.1 x o n (a.1 x o n h), a.2.trans b.2⟩
theorem Mu.ex {L : List Addr} (e : Ex H H') : Mu L H H' := ⟨fun a o _ h => e a o h, Gt.of e⟩
theorem Mu.upd {L : List Addr} {l : Addr} {xs : List V} {o : HO} (hl : l ∈ L) (h : H l = some (.lst xs)) : Mu L H (L2.upd H l o) := ⟨fun a u n r => by
  rw [upd_ne (fun z => n (by rw [z]; exact hl))]
  exact r, Gt.lst h⟩
structure Walks (K : PySem.W.Frag) (J : It) (H2 : Hp) (L : List Addr) (Ps : Hp → Prop) (n : Nat) (item : Nat → D) : Prop where
  here : Ps H2
  stays : ∀ L' : List Addr, (∀ l ∈ L', l ∈ L ∨ H2 l = none) → ∀ H3 H4, Ps H3 → Mu L' H3 H4 → Ps H4
  go : ∀ H3, Ps H3 → ∀ i, i < n → J.go i H3 ∧ ∀ x H4, J.yld i H3 x H4 → Ex H3 H4 ∧ Is K H4 x (item i)
  stop : ∀ H3, Ps H3 → J.stop n H3
def EvI (K : PySem.W.Frag) (wi : TI) (σ : L2.St) (L : List Addr) (H : Hp) (n : Nat) (item : Nat → D) : Prop := ∀ R : It → Hp → Prop, (∀ J H2 Ps, Ex H H2 → Walks K J H2 L Ps n item → R J H2) → wi σ H R
end WD
end
section
set_option Elab.async false
set_option linter.all false
set_option maxRecDepth 100000
namespace L2
open PySem PySem.Spec PyProof.Rows
section
variable {X : Cx} {n : Nat}
/-- a def of one's own called by the machine (a special method) -/
theorem own_call {CX : CXT} {f : Addr} {fd : FuncData} {ps : List Str} {sp : Sp} {E : XK} {A : Around} (sb : Sub X n A) (F : FnOk X.prog X.w X.K X.mg X.base CX n f fd ps sp) (hb : Binds X.K fd ps []) (hx : Passes CX X E)
    {pins : List (Addr × Obj)} {s : Shared} {σ : St} {H : Hp} {vs : List V} {us : List Value} {Q : VK} (I : Inv X pins σ H s) (rv : Vals vs us) (hsp : sp vs H Q E) :
    wpAny (model X.prog X.w) A (call (.ref f) us) (EP X pins σ Q) X.xe s := by
  have e0 : Env0 X.prog X.w X.K X.mg X.base A X.stack s H := by
    have e := I.env0
    exact ⟨by rw [sb.fr]; exact e.frames, e.mod, e.bs, e.bsz, e.funs, e.frf, e.hok, e.bare⟩
  have hl := F.len _ _ _ _ hsp
  have hlu : us.length = ps.length := by rw [← rv.length]; exact hl
  refine wpAny_call (codeAny_mono (F.run A X.stack s H ⟨us, []⟩ us vs _ E sb.room e0 (by
    have := hb s us I.kIn (by simpa using hlu)
    simpa using this) rv hsp) fun r s' hq => ?_)
  cases r with
  | error e => exact hx pins σ H s e s' I hq
  | ok fl =>
    cases fl with
    | ret w => exact I.after hq
    | next => exact False.elim hq
    | brk => exact False.elim hq
    | cont => exact False.elim hq
/-- len(o), o an instance with a __len__ of the text -/
def rLenO (C : Addr) (sp : Sp) (E : XK) : List V → Hp → VK → Prop := fun xs H Q => ∃ a dx fs, xs = [.ref a] ∧ H a = some (.ins C dx fs) ∧ sp [.ref a] H (fun v H' => ∃ i : Int, v = .int i ∧ (0 ≤ i ∧ i < 2 ^ 63) ∧ Q (.int i) H') E
theorem call_lenO {CX : CXT} {C f : Addr} {fd : FuncData} {ps : List Str} {sp : Sp} {E : XK} (F : FnOk X.prog X.w X.K X.mg X.base CX n f fd ps sp) (hs : PySem.W.findIn X.K (.ref C) "__len__" = some (some (.ref f))) (hf : PySem.W.isFn X.K (.ref f) = true)
    (hb : Binds X.K fd ps []) (hx : Passes CX X E) (hr : Room (n + 1) X.A) : CallR X (.builtin "len") (rLenO C sp E) := by
  intro pins s σ H xs us Q I r h
  obtain ⟨a, dx, fs, rfl, ha, hsp⟩ := h
  obtain ⟨u, rfl, ru⟩ := vals1 r
  cases ru
  obtain ⟨mA, J, _⟩ := ins_get I.hok ha
  obtain ⟨od, J, _⟩ := J.look
  obtain ⟨m, hF⟩ := I.fr
  refine PySem.W.len_K hF I.ok.mod.kin J hs hf ?_
  refine wpAny_mono (own_call (A := X.A.in1) (Sub.in1 ⟨hr, rfl⟩) F hb hx I (.cons (show RelV (.ref a) (.ref a) from rfl) .nil) hsp) (fun v s' z => ?_) fun _ _ x => x
  obtain ⟨w, H', I', rw', i, rfl, hi, q⟩ := z
  obtain ⟨t, rfl⟩ := rw'
  exact ⟨hi, .int i, H', I'.tok _, ⟨_, rfl⟩, q⟩
/-- the truth of an instance with a __bool__ of the text -/
def tTruO (C : Addr) (sp : Sp) (E : XK) (ta : TE) : TT := fun σ H Q => ta σ H fun x H1 => ∃ a dx fs, x = .ref a ∧ H1 a = some (.ins C dx fs) ∧ sp [.ref a] H1 (fun v H' => ∃ b : Bool, v = .bl b ∧ Q b H') E
theorem pt_truO {CX : CXT} {C f : Addr} {fd : FuncData} {ps : List Str} {sp : Sp} {E : XK} {e : Expr} {ta : TE} (F : FnOk X.prog X.w X.K X.mg X.base CX n f fd ps sp) (hs : PySem.W.findIn X.K (.ref C) "__bool__" = some (some (.ref f))) (hf : PySem.W.isFn X.K (.ref f) = true)
    (hb : Binds X.K fd ps []) (hx : Passes CX X E) (hr : Room n X.A) (ha : PE X e ta) (he : ∀ whole, isTrue e X.env whole = (do let v ← whole; standAt e.pos; holding [v] (truthy v))) : PT X e (tTruO C sp E ta) := by
  refine ⟨fun pins s σ H Q I h => ?_⟩
  refine isTrue_plain (thn (ha.run pins s σ H _ I h) fun v s1 ⟨x, H1, I1, r1, q1⟩ => ?_) (he _)
  obtain ⟨a, dx, fs, rfl, hi, hsp⟩ := q1
  cases r1
  obtain ⟨mA, J, _⟩ := ins_get I1.hok hi
  obtain ⟨od, J, _⟩ := J.look
  obtain ⟨m, hF⟩ := I1.fr
  refine PySem.W.truthy_K hF I1.ok.mod.kin J hs hf ?_
  refine wpAny_mono (own_call (A := X.A) ⟨hr, rfl⟩ F hb hx I1 (.cons (show RelV (.ref a) (.ref a) from rfl) .nil) hsp) (fun v s' z => ?_) fun _ _ x => x
  obtain ⟨w, H', I', rw', b, rfl, q⟩ := z
  cases rw'
  exact ⟨H', I', q⟩
end
end L2
end
section
set_option Elab.async false
set_option linter.all false
set_option maxRecDepth 100000
namespace PySem.W
open PySem PySem.Calls PyProof.Rows Builtin
section
variable {prog : Program} {w : World} {A : Around} {E : Value → Shared → Prop} {s : Shared} {K : Frag} {x C L f : Addr} {h₀ : Heap} {m : Str → Option Value} {ox : Obj} {od : Option Obj} {name : Str} {b tb : Value}
theorem my_ifBound {M : Model} {id : String} {args : List Value} {Q : Option Value → Shared → Prop} (X : K.In s.heap) (I : InstAt s.heap x ox C od) (hs : findIn K (.ref C) name = some (some (.builtin id))) (hb : ∀ self, bindSpecial (.builtin id) self = pure (.builtin id, [self]))
    (h : wpAny M A (call (.builtin id) (.ref x :: args)) (fun v => Q (some v)) E s) : wpAny M A (callSpecialIfBound? (.ref x) name args) Q E s := by
  simp only [callSpecialIfBound?, bindSpecialIfBound?]
  refine wpAny_holding (wpAny_bind (wpAny_bind (wpAny_bind (I.type.here ((looks_findIn X hs).here ?_)))))
  refine wpAny_bind (wpAny_askSetting (wpAny_ite ?_))
  have fin : wpAny M A (call (.builtin id) ([.ref x] ++ args) >>= fun v => pure (some v)) Q E s := wpAny_bind (wpAny_mono h (fun v s' h' => wpAny_pure h') fun _ _ h' => h')
  split
  · exact wpAny_bind ((Looks.of_pure (hb _)).here (wpAny_pure (by exact fin)))
  · exact wpAny_tryCatch (wpAny_bind ((Looks.of_pure (hb _)).here (wpAny_pure (by exact fin))))
theorem my_ne {Q : Value → Shared → Prop} (hu : A.units + 1 < cLine) (F : Fr h₀ L s.heap m) (X₀ : K.In h₀) (I : InstAt s.heap x ox C od) (hb : Looks (model prog w) s.heap (typeOf b) (.ref C))
    (hn : findIn K (.ref C) "__ne__" = some (some (.builtin "object.__ne__"))) (hm : mroIn K C (.type "object") = some true) (hs : findIn K (.ref C) "__eq__" = some (some (.ref f))) (hf : isFn K (.ref f) = true)
    (h : wpAny (model prog w) A.in1 (call (.ref f) [.ref x, b]) (fun v s' => ∃ k, v = .bool k ∧ Q (.bool (!k)) s') E s) : wpAny (model prog w) A (compareOp .NotEq (.ref x) b) Q E s := by
  have X := X₀.keeps F.keep
  have one : wpAny (model prog w) A (tryCompare (.ref x) "__ne__" b) (fun r s' => ∃ v, r = some v ∧ Q v s') E s := by
    unfold tryCompare
    refine wpAny_bind (my_ifBound X I hn PySem.F.slot_tuple_iterator_ne.bind (wpAny_call (codeAny_call_builtin PySem.F.slot_tuple_iterator_ne.plain PySem.F.cmpEntry_ne (check_slot (i := "object.__ne__") (owner := "object") (n := "__ne__") PySem.F.cmpKind_ne PySem.F.cmpSplit_ne (I.type.andThen (looks_mroIn X hm)) (PySem.F.cmpArgs_ne _ _) ?_))))
    unfold Builtin.«object.__ne__»
    refine wpAny_bind (m := slotArgs "__ne__" 1 _) (wpAny_pure ?_)
    refine wpAny_bind (m := cRoomFor _ _) (wpAny_cRoomFor (A := A.in1) hu ?_)
    refine wpAny_bind (m := callSpecialIfBound? (.ref x) (Str.ofString "__eq__") _) (ifBound_K X I hs hf (wpAny_mono h (fun r s' hq => ?_) fun _ _ y => y))
    obtain ⟨k, rfl, q⟩ := hq
    refine wpAny_bind (wpAny_truthy_bool (wpAny_pure ?_))
    exact wpAny_pure ⟨_, rfl, q⟩
  show wpAny (model prog w) A (richCompare .NotEq (.ref x) b) Q E s
  unfold richCompare
  simp only [oneThing_ref]
  refine wpAny_holding (wpAny_bind (wpAny_cRoomFor (by omega) ?_))
  refine wpAny_bind (I.type.here (wpAny_bind (hb.here ?_)))
  rw [show (Value.ref C != Value.ref C) = false from by simp]
  simp only [Bool.false_eq_true, if_false]
  refine wpAny_bind (wpAny_pure ?_)
  simp only [Bool.false_eq_true, if_false]
  refine wpAny_bind (wpAny_mono one (fun r s' z => ?_) fun _ _ e => e)
  obtain ⟨v, rfl, hq⟩ := z
  exact wpAny_pure hq
end
end PySem.W
namespace L2
open PySem PySem.Spec PyProof.Rows
section
variable {X : Cx} {n : Nat}
/-- x != y by an __eq__ of the text -/
def rNeO (K : PySem.W.Frag) (C : Addr) (sp : Sp) (E : XK) : R2 := fun x y H Q => ∃ a b dx dy fs gs, x = .ref a ∧ y = .ref b ∧ H a = some (.ins C dx fs) ∧ H b = some (.ins C dy gs) ∧ sp [.ref a, .ref b] H (fun v H' => ∃ k : Bool, v = .bl k ∧ Q (.bl (!k)) H') E
theorem op_neO {CX : CXT} {C f : Addr} {fd : FuncData} {ps : List Str} {sp : Sp} {E : XK} (F : FnOk X.prog X.w X.K X.mg X.base CX n f fd ps sp) (hs : PySem.W.findIn X.K (.ref C) "__eq__" = some (some (.ref f))) (hf : PySem.W.isFn X.K (.ref f) = true)
    (hn : PySem.W.findIn X.K (.ref C) "__ne__" = some (some (.builtin "object.__ne__"))) (hm : PySem.W.mroIn X.K C (.type "object") = some true)
    (hb : Binds X.K fd ps []) (hx : Passes CX X E) (hr : Room (n + 1) X.A) : OpR X (compareOp .NotEq) (rNeO X.K C sp E) := by
  intro pins s σ H x y v u Q I rx ry h
  obtain ⟨a, b, dx, dy, fs, gs, rfl, rfl, ha, hb', hsp⟩ := h
  cases rx
  cases ry
  obtain ⟨mA, J, _⟩ := ins_get I.hok ha
  obtain ⟨mB, J', _⟩ := ins_get I.hok hb'
  obtain ⟨od, J, _⟩ := J.look
  obtain ⟨od', J', _⟩ := J'.look
  obtain ⟨m, hF⟩ := I.fr
  have hu : X.A.units + 1 < cLine := by
    have := hr.units
    omega
  refine PySem.W.my_ne hu hF I.ok.mod.kin J J'.type hn hm hs hf ?_
  refine wpAny_mono (own_call (A := X.A.in1) (Sub.in1 ⟨hr, rfl⟩) F hb hx I (.cons (show RelV (.ref a) (.ref a) from rfl) (.cons (show RelV (.ref b) (.ref b) from rfl) .nil)) hsp) (fun v s' z => ?_) fun _ _ x => x
  obtain ⟨w, H', I', rw', k, rfl, q⟩ := z
  cases rw'
  exact ⟨k, rfl, .bl (!k), H', I', rfl, q⟩
end
end L2
end
section
set_option Elab.async false
set_option linter.all false
set_option maxRecDepth 100000
namespace WD
open PySem PySem.Spec PyProof.Rows L2 Evl
structure FnG (P : Program) (w : World) (K : PySem.W.Frag) (mg : Str → Option Value) (base : Heap) (k : Nat) (f : Addr) (ps : List Str) (sp : Sp) : Prop where
  ex : ∃ fd, FnOk P w K mg base (L2.CX P w) k f fd ps sp ∧ Binds K fd ps []
  kp : PySem.W.keepIn K (.ref f) = true
section
variable {X : Cx} {k : Nat} {f : Addr} {ps : List Str} {sp : Sp} {x : Str} {p pos apos : Pos} {e o : Expr} {es : List Expr} {t : TA} {ta : TE} {C : Addr} {m : Str}
theorem pe_globI {i : Int} (hg : Gl X x) (hm : ∃ t, X.mg x = some (.int i t)) (hd : (x == ("__debug__" : Str)) = false := by decide) : PE X (.Name x pos) (tC (.int i)) := by
  obtain ⟨t, hm⟩ := hm
  exact pe_glob hg hm ⟨_, rfl⟩ hd
theorem pe_tyN {n : String} (hg : Gl X x) (hm : X.mg x = none) (hv : bootBuiltins x = some (.type n)) (hn : x ≠ "__name__" := by decide) (hd : (x == ("__debug__" : Str)) = false := by decide) : PE X (.Name x pos) (tC (.ty n)) := pe_bltn hg hm hv rfl hn hd
theorem pe_clsN (hg : Gl X x) (hm : X.mg x = some (.ref C)) (hd : (x == ("__debug__" : Str)) = false := by decide) : PE X (.Name x pos) (tC (.ref C)) := pe_glob hg hm rfl hd
end
def D.ty : D → Option String
  | .non => some "NoneType" | .bl _ => some "bool" | .int _ => some "int" | .str _ => some "str" | .tup _ => some "tuple" | .lst _ => some "list" | .obj _ _ => none
variable {K : PySem.W.Frag} {σ : L2.St} {H H' : Hp} {ta tb te tx : TE} {t u : TT} {d d1 d2 : D} {ds es : List D}
theorem sqT_ty {a : Addr} {xs : List V} (h : SqT K H a xs) : TyX K H (.ref a) (.type "tuple") := by
  rcases h with (h | ⟨o, h⟩) | h
  · exact .base (.tup h)
  · exact .fTuple h
  · obtain ⟨o, its, n, h1, h2, h3, _⟩ := h
    exact .kTuple h1 h2
theorem rdL_ty {a : Addr} {xs : List V} (h : Rd H a (.lst xs)) : TyX K H (.ref a) (.type "list") := by
  rcases h with h | ⟨o, h⟩
  · exact .base (.lst h)
  · exact .base (.frz h)
end WD
end
section
set_option Elab.async false
set_option linter.all false
set_option maxRecDepth 100000
namespace WD
def fr (q : Rat) : D := .tup [.int q.num, .int (q.den : Int)]
/-- short enough for products and divisors -/
structure Sm (n : Nat) (q : Rat) : Prop where
  num : q.num.natAbs < 2 ^ n
  den : q.den < 2 ^ n
theorem Sm.mono {n m : Nat} {q : Rat} (h : Sm n q) (hn : n ≤ m) : Sm m q := ⟨Nat.lt_of_lt_of_le h.num (Nat.pow_le_pow_right (by decide) hn), Nat.lt_of_lt_of_le h.den (Nat.pow_le_pow_right (by decide) hn)⟩
end WD
end
section
set_option Elab.async false
set_option linter.all false
set_option maxRecDepth 100000
namespace WD
open PySem PySem.Spec PyProof.Rows L2 Evl
variable {K : PySem.W.Frag} {σ : L2.St} {H H' : Hp} {ta tb te tx : TE} {t u : TT} {d d1 d2 : D} {ds es : List D}
theorem Is.ty {v : V} {s : String} (h : Is K H v d) (e : d.ty = some s) : TyX K H v (.type s) := by
  cases h with
  | non => cases e; exact .base .non
  | bl b => cases e; exact .base (.bl b)
  | int i => cases e; exact .base (.int i)
  | str x => cases e; exact .base (.str x)
  | tup h a => cases e; exact sqT_ty h
  | lst h a => cases e; exact rdL_ty h
  | obj h a => cases e
/-- of an instance of the text's class C, by the class itself | a built-in class -/
structure OwnTy (K : PySem.W.Frag) (c : Str) : Prop where
  cl : Cls K (He.ga K c)
  ha : PySem.W.findIn K (.ref (He.ga K c)) "__class__" = some (some (.builtin "object.__class__"))
  hn : PySem.W.specialIn K (.builtin "object.__class__") "__get__" = some (some (.builtin "getset_descriptor.__get__"))
  ht : PySem.W.takesIn K (.builtin "object.__class__") = some true
  hm : PySem.W.mroIn K (He.ga K c) (.type "object") = some true
end WD
namespace WD
open PySem PySem.Spec PyProof.Rows L2 Evl
section
variable {X : Cx}
theorem call_lenS : CallR X (.builtin "len") (rLenS X.K) := call_len_seq
theorem call_listS : CallR X (.type "list") (rListS X.K) := call_list_of
theorem call_tupS : CallR X (.type "tuple") (rTupS X.K) := call_tuple_of
theorem call_absS : CallR X (.builtin "abs") rAbs := call_abs
theorem call_intS : CallR X (.type "int") rInt1 := call_int1
theorem call_maxS (hc : X.calm = true) : CallR X (.builtin "max") rMax2 := call_max2 hc
theorem call_minS (hc : X.calm = true) : CallR X (.builtin "min") rMin2 := call_min2 hc
end
end WD
end
section
set_option Elab.async false
set_option linter.all false
set_option maxRecDepth 100000
set_option maxHeartbeats 4000000
namespace L2
open PySem PySem.Spec PyProof.Rows
section
variable {P : Program} {w : World} {A : Around} {E : Value → Shared → Prop} {s : Shared}
/-- the new set's object -/
abbrev newS (w : World) : Obj := { cls := .type "set", dict := none, data := .set #[] 0 (.fresh 0 0 (!w.params.followText "set-order")) }
end
end L2
end
section
set_option Elab.async false
set_option linter.all false
set_option maxRecDepth 100000
set_option maxHeartbeats 4000000
namespace L2
open PySem PySem.Spec PyProof.Rows
end L2
end
section
set_option Elab.async false
set_option linter.all false
set_option maxRecDepth 100000
namespace WD
open PySem PySem.Spec PyProof.Rows L2 Evl
end WD
end
section
set_option Elab.async false
set_option linter.all false
set_option maxRecDepth 100000
namespace WD
open PySem PySem.Spec PyProof.Rows L2 Evl
variable {K : PySem.W.Frag} {σ : L2.St} {H H' : Hp} {ta tb te tx tc : TE} {t u : TT} {d d1 d2 d3 : D} {ds es : List D}
/-- but for the object at x, all stays -/
def Xe (x : Addr) (H H' : Hp) : Prop := ∀ a o, a ≠ x → H a = some o → H' a = some o
theorem Xe.refl (x : Addr) (H : Hp) : Xe x H H := fun _ _ _ h => h
theorem Xe.trans {x : Addr} {H1 H2 : Hp} (a : Xe x H H1) (b : Xe x H1 H2) : Xe x H H2 := fun c o n h => b c o n (a c o n h)
theorem Xe.ex {x : Addr} (e : Ex H H') : Xe x H H' := fun a o _ h => e a o h
theorem Xe.upd {x : Addr} {o : HO} : Xe x H (L2.upd H x o) := fun a u n h => by
  rw [upd_ne n]
  exact h
end WD
end
section
set_option Elab.async false
set_option linter.all false
set_option maxRecDepth 100000
namespace WD
open PySem PySem.Spec PyProof.Rows L2 Evl
end WD
end
section
set_option Elab.async false
set_option linter.all false
set_option maxRecDepth 100000
namespace WD
open PySem PySem.Spec PyProof.Rows L2 Evl
section
variable {X : Cx} {k : Nat} {f C : Addr} {ps : List Str} {sp : Sp}
theorem lenO_of (F : FnG X.prog X.w X.K X.mg X.base k f ps sp) (hm : Meth X.K C "__len__" f) (hr : Room (k + 1) X.A) : CallR X (.builtin "len") (rLenO C sp E0) := by
  obtain ⟨⟨fd, F, B⟩, kp⟩ := F
  exact call_lenO F hm.at_ hm.fn B passL hr
theorem neO_of (F : FnG X.prog X.w X.K X.mg X.base k f ps sp) (hm : Meth X.K C "__eq__" f) (hn : PySem.W.findIn X.K (.ref C) "__ne__" = some (some (.builtin "object.__ne__"))) (ho : PySem.W.mroIn X.K C (.type "object") = some true) (hr : Room (k + 1) X.A) : OpR X (compareOp .NotEq) (rNeO X.K C sp E0) := by
  obtain ⟨⟨fd, F, B⟩, kp⟩ := F
  exact op_neO F hm.at_ hm.fn hn ho B passL hr
theorem truO_of {e : Expr} {ta : TE} (F : FnG X.prog X.w X.K X.mg X.base k f ps sp) (hm : Meth X.K C "__bool__" f) (hr : Room k X.A) (ha : PE X e ta) (he : ∀ whole, isTrue e X.env whole = (do let v ← whole; standAt e.pos; holding [v] (truthy v)) := by intro _; rfl) : PT X e (tTruO C sp E0 ta) := by
  obtain ⟨⟨fd, F, B⟩, kp⟩ := F
  exact pt_truO F hm.at_ hm.fn B passL hr ha he
end
variable {K : PySem.W.Frag} {σ : L2.St} {H H' : Hp} {ta tb te tx tc : TE} {t u : TT} {d d1 d2 d3 : D} {ds es : List D}
theorem sIx_some (n : Nat) (k : Nat) : HT.sIx n 0 (some (k : Int)) = min k n := HT.sIx_nat n 0 k
theorem sIx_someH (n : Nat) (k : Nat) : HT.sIx n n (some (k : Int)) = min k n := HT.sIx_nat n n k
theorem cut_to (xs : List D) (k : Nat) : cutD xs none (some (k : Int)) = xs.take k := by
  unfold cutD
  rw [sIx_someH, HT.sIx_none, Nat.sub_zero, List.drop_zero]
  by_cases h : k ≤ xs.length
  · rw [Nat.min_eq_left h]
  · rw [Nat.min_eq_right (by omega), List.take_of_length_le (Nat.le_refl _), List.take_of_length_le (by omega)]
theorem cut_from (xs : List D) (k : Nat) : cutD xs (some (k : Int)) none = xs.drop k := by
  unfold cutD
  rw [sIx_some, HT.sIx_none]
  by_cases h : k ≤ xs.length
  · rw [Nat.min_eq_left h, List.take_of_length_le (by rw [List.length_drop]; exact Nat.le_refl _)]
  · rw [Nat.min_eq_right (by omega), Nat.sub_self, List.drop_eq_nil_of_le (Nat.le_refl _), List.drop_eq_nil_of_le (by omega)] <;> rfl
end WD
end
section
set_option Elab.async false
set_option linter.all false
set_option maxRecDepth 100000
namespace WD
open PySem PySem.Spec PyProof.Rows L2 Evl
variable {K : PySem.W.Frag} {σ : L2.St} {H H' H0 H1 : Hp} {ta tb te tx tc : TE} {d d1 d2 d3 : D} {ds es : List D}
/-- what stands in the first ones -/
def S (v : List Rat) (j : Nat) : Rat := (v.take j).foldl (· + ·) 0
theorem S_succ (v : List Rat) (j : Nat) (h : j < v.length) : S v (j + 1) = S v j + v[j] := by
  unfold S
  rw [List.take_succ_eq_append_getElem h, List.foldl_append]
  rfl
end WD
end
section
set_option Elab.async false
set_option linter.all false
set_option maxRecDepth 100000
namespace WD
open PySem PySem.Spec PyProof.Rows L2 Evl
end WD
end
section
set_option Elab.async false
set_option linter.all false
set_option maxRecDepth 100000
namespace WD
theorem smMk {k : Nat} {n : Int} {b : Nat} (h0 : b ≠ 0) (hn : n.natAbs < 2 ^ k) (hb : b < 2 ^ k) : Sm k (mkRat n b) := by
  rw [Rat.mkRat_def, dif_neg h0]
  refine ⟨?_, ?_⟩
  · rw [Rat.num_normalize]
    rw [Int.natAbs_ediv_of_dvd (Int.ofNat_dvd_left.mpr (Nat.gcd_dvd_left _ _))]
    exact Nat.lt_of_le_of_lt (Nat.div_le_self _ _) hn
  · rw [Rat.den_normalize]
    exact Nat.lt_of_le_of_lt (Nat.div_le_self _ _) hb
theorem Sm.add {n m : Nat} {p q : Rat} (a : Sm n p) (b : Sm m q) : Sm (n + m + 1) (p + q) := by
  rw [Rat.add_def']
  refine smMk (Nat.mul_ne_zero p.den_nz q.den_nz) ?_ ?_
  · refine Nat.lt_of_le_of_lt (Int.natAbs_add_le _ _) ?_
    rw [Int.natAbs_mul, Int.natAbs_mul, Int.natAbs_natCast, Int.natAbs_natCast, Nat.pow_succ, Nat.pow_add, Nat.mul_two]
    have h1 := Nat.mul_lt_mul_of_lt_of_le a.num (Nat.le_of_lt b.den) (Nat.two_pow_pos m)
    have h2 := Nat.mul_lt_mul_of_lt_of_le b.num (Nat.le_of_lt a.den) (Nat.two_pow_pos n)
    rw [Nat.mul_comm (2 ^ m) (2 ^ n)] at h2
    omega
  · have h := Nat.mul_lt_mul_of_lt_of_le a.den (Nat.le_of_lt b.den) (Nat.two_pow_pos m)
    rw [Nat.pow_succ, Nat.pow_add]
    omega
theorem Sm.neg {n : Nat} {p : Rat} (a : Sm n p) : Sm n (-p) := ⟨by
  rw [Rat.neg_num, Int.natAbs_neg]
  exact a.num, by
  rw [Rat.neg_den]
  exact a.den⟩
theorem Sm.sub {n m : Nat} {p q : Rat} (a : Sm n p) (b : Sm m q) : Sm (n + m + 1) (p - q) := by
  rw [Rat.sub_eq_add_neg]
  exact a.add b.neg
theorem Sm.int {n : Nat} {i : Int} (h : i.natAbs < 2 ^ n) (hn : 1 ≤ n) : Sm n (i : Rat) := ⟨h, Nat.one_lt_two_pow (by omega)⟩
end WD
end
section
set_option Elab.async false
set_option linter.all false
set_option maxRecDepth 100000
namespace WD
open PySem PySem.Spec PyProof.Rows L2 Evl
section
variable {K : PySem.W.Frag} {σ : L2.St} {H H' : Hp} {ta tb te tx tc : TE} {t u : TT} {d d1 d2 d3 : D} {ds es : List D}
theorem Mu.un {L : List Addr} {p : Addr} {H H2 H' : Hp} (hp : H p = none) (e : Ex H H2) (mu : Mu (p :: L) H2 H') : Mu L H H' := ⟨fun a o n h => mu.1 a o (fun z => by
  rcases List.mem_cons.mp z with z | z
  · subst z
    rw [hp] at h
    cases h
  · exact n z) (e a o h), (Gt.of e).trans mu.2⟩
theorem Mu.keep {L : List Addr} {H H' : Hp} {a : Addr} {o : HO} (m : Mu L H H') (n : a ∉ L) (h : H a = some o) : H' a = some o := m.1 a o n h
end
end WD
end
section
set_option Elab.async false
set_option linter.all false
set_option maxRecDepth 100000
namespace WD
open PySem PySem.Spec PyProof.Rows L2 Evl
section
variable {X : Cx} {K : PySem.W.Frag} {σ : L2.St} {H : Hp} {ta tb : TE}
def rLcm : List V → Hp → VK → Prop := fun vs H Q => ∃ a b : Nat, vs = [.int (a : Int), .int (b : Int)] ∧ a < 2 ^ 6000 ∧ b < 2 ^ 6000 ∧ Q (.int ((Nat.lcm a b : Nat) : Int)) H
theorem cr_lcm : CallR X (.builtin "math.lcm") rLcm := by
  intro pins s σ H vs us Q I r h
  obtain ⟨a, b, rfl, ha, hb, q⟩ := h
  obtain ⟨t, u, rfl⟩ := Vals.int2 r
  have e : (((Nat.lcm 1 ((a : Int)).natAbs).lcm ((b : Int)).natAbs : Nat) : Int) = ((Nat.lcm a b : Nat) : Int) := by
    rw [Int.natAbs_natCast, Int.natAbs_natCast, show Nat.lcm 1 a = a from by simp [Nat.lcm]]
  have l1 : (max 1 ((a : Int)).natAbs).log2 ≤ 6000 := PySem.W.mg_log (Nat.lt_of_lt_of_le (by
    rw [Int.natAbs_natCast]
    show max 1 a < 2 ^ 6000
    exact Nat.max_lt.mpr ⟨Nat.one_lt_two_pow (by decide), ha⟩) (Nat.pow_le_pow_right (by decide) (by decide)))
  have l2 : (max ((a : Int)).natAbs ((b : Int)).natAbs).log2 ≤ 6000 := PySem.W.mg_log (Nat.lt_of_lt_of_le (by
    rw [Int.natAbs_natCast, Int.natAbs_natCast]
    show max a b < 2 ^ 6000
    exact Nat.max_lt.mpr ⟨ha, hb⟩) (Nat.pow_le_pow_right (by decide) (by decide)))
  have hs : ((((Nat.lcm 1 ((a : Int)).natAbs).lcm ((b : Int)).natAbs : Nat) : Int)).natAbs.log2 < bitsLine := by
    rw [e, Int.natAbs_natCast]
    refine Nat.lt_of_le_of_lt (PySem.W.mg_log (k := 12000) ?_) (by decide)
    refine Nat.lt_of_lt_of_le (?_ : _ < 2 ^ 12000) (Nat.pow_le_pow_right (by decide) (by decide))
    have h1 : Nat.lcm a b ≤ a * b := by
      unfold Nat.lcm
      exact Nat.div_le_self _ _
    refine Nat.lt_of_le_of_lt h1 ?_
    rw [show (12000 : Nat) = 6000 + 6000 from rfl, Nat.pow_add]
    exact Nat.mul_lt_mul_of_lt_of_le ha (Nat.le_of_lt hb) (Nat.two_pow_pos _)
  refine call_function_meets PySem.W.MGF.kind_lcm PySem.W.MGF.plain_lcm PySem.W.MGF.entry_lcm (PySem.W.MGF.args_lcm _ _) (PySem.W.mg_run_lcm (a : Int) t (b : Int) u (by omega) (by omega) hs).meets ?_
  exact ⟨.int _, H, I.tok _, ⟨_, congrArg (fun z => Value.int z _) e⟩, q⟩
end
end WD
end
section
set_option Elab.async false
set_option linter.all false
set_option maxRecDepth 100000
namespace WD
open PySem PySem.Spec PyProof.Rows L2 Evl
theorem mkRat_den_dvd (n : Int) {d : Nat} (hd : d ≠ 0) : (mkRat n d).den ∣ d := by
  rw [Rat.mkRat_def, dif_neg hd, Rat.den_normalize]
  exact Nat.div_dvd_of_dvd (Nat.gcd_dvd_right _ _)
theorem num_of (q : Rat) : q * ((q.den : Int) : Rat) = (q.num : Rat) := by
  have h := Rat.mkRat_self q
  rw [Rat.mkRat_eq_div] at h
  have h1 : ((q.den : Nat) : Rat) = ((q.den : Int) : Rat) := rfl
  have h2 : ((q.den : Int) : Rat) ≠ 0 := by
    have := q.den_pos
    exact_mod_cast (by omega : (q.den : Int) ≠ 0)
  rw [h1] at h
  grind
theorem over_of_dvd {q : Rat} {M : Nat} (h : q.den ∣ M) : q * ((M : Int) : Rat) = ((q.num * ((M / q.den : Nat) : Int) : Int) : Rat) := by
  obtain ⟨c, rfl⟩ := h
  rw [Nat.mul_div_cancel_left _ q.den_pos, Rat.intCast_mul, Int.natCast_mul, Rat.intCast_mul, ← Rat.mul_assoc]
  rw [num_of]
theorem dvd_of_over {q : Rat} {M : Nat} {n : Int} (h0 : M ≠ 0) (h : q * ((M : Int) : Rat) = (n : Rat)) : q.den ∣ M := by
  have hm : ((M : Int) : Rat) ≠ 0 := by exact_mod_cast (show (M : Int) ≠ 0 by omega)
  have e : q = mkRat n M := by
    rw [Rat.mkRat_eq_div]
    have : ((M : Nat) : Rat) = ((M : Int) : Rat) := rfl
    grind
  rw [e]
  exact mkRat_den_dvd n h0
theorem den_add {p q : Rat} {M : Nat} (h0 : M ≠ 0) (hp : p.den ∣ M) (hq : q.den ∣ M) : (p + q).den ∣ M := by
  refine dvd_of_over (n := p.num * ((M / p.den : Nat) : Int) + q.num * ((M / q.den : Nat) : Int)) h0 ?_
  rw [Rat.add_mul, over_of_dvd hp, over_of_dvd hq, Rat.intCast_add]
theorem S_den {v : List Rat} {M : Nat} (h0 : M ≠ 0) (h : ∀ q ∈ v, q.den ∣ M) : ∀ j, j ≤ v.length → (S v j).den ∣ M
  | 0, _ => ⟨M, (Nat.one_mul M).symm⟩
  | j + 1, hj => by
    rw [S_succ v j hj]
    exact den_add h0 (S_den h0 h j (by omega)) (h _ (List.getElem_mem _))
theorem S_step {v : List Rat} (h : ∀ q ∈ v, 0 ≤ q) {j : Nat} (hj : j < v.length) : S v j ≤ S v (j + 1) := by
  rw [S_succ v j hj]
  have := h _ (List.getElem_mem hj)
  grind
theorem S_mono {v : List Rat} (h : ∀ q ∈ v, 0 ≤ q) {i : Nat} : ∀ {j : Nat}, i ≤ j → j ≤ v.length → S v i ≤ S v j
  | 0, h1, _ => by
    have : i = 0 := by omega
    subst this
    exact Rat.le_refl
  | j + 1, h1, h2 => by
    by_cases e : i = j + 1
    · subst e
      exact Rat.le_refl
    · exact Rat.le_trans (S_mono h (show i ≤ j by omega) (by omega)) (S_step h h2)
theorem S_nn {v : List Rat} (h : ∀ q ∈ v, 0 ≤ q) {j : Nat} (hj : j ≤ v.length) : 0 ≤ S v j := S_mono h (Nat.zero_le j) hj
/-- a row of sizes that are told -/
structure RowOk (A : List Int) (v : List Rat) (M W : Nat) : Prop where
  len : v.length = A.length
  a1 : 1 ≤ A.length
  al : A.length ≤ 24
  ar : ∀ a ∈ A, 1 ≤ a ∧ a ≤ 1000
  m0 : 0 < M
  m1 : M < 2 ^ 400
  w1 : W < 2 ^ 400
  nn : ∀ q ∈ v, 0 ≤ q
  dn : ∀ q ∈ v, q.den ∣ M
  tot : S v v.length ≤ ((W : Int) : Rat)
theorem sm_of {q : Rat} {M W : Nat} (m0 : 0 < M) (m1 : M < 2 ^ 400) (w1 : W < 2 ^ 400) (h0 : 0 ≤ q) (h1 : q ≤ ((W : Int) : Rat)) (hd : q.den ∣ M) : Sm 800 q := by
  have dl := Nat.le_of_dvd m0 hd
  refine ⟨?_, Nat.lt_of_le_of_lt dl (Nat.lt_of_lt_of_le m1 (Nat.pow_le_pow_right (by decide) (by decide)))⟩
  have hden : (0 : Rat) ≤ ((q.den : Int) : Rat) := by exact_mod_cast Int.natCast_nonneg q.den
  have e : ((q.num : Int) : Rat) = q * ((q.den : Int) : Rat) := (num_of q).symm
  have n0 : (0 : Rat) ≤ ((q.num : Int) : Rat) := by
    rw [e]
    exact Rat.mul_nonneg h0 hden
  have n1 : ((q.num : Int) : Rat) ≤ (((W : Int) * (q.den : Int) : Int) : Rat) := by
    rw [e, Rat.intCast_mul]
    exact Rat.mul_le_mul_of_nonneg_right h1 hden
  have z0 : 0 ≤ q.num := by exact_mod_cast n0
  have z1 : q.num ≤ (W : Int) * (q.den : Int) := by exact_mod_cast n1
  have z2 : q.num.natAbs ≤ W * q.den := by
    rw [← Int.natCast_mul] at z1
    omega
  have z3 : W * q.den ≤ W * M := Nat.mul_le_mul_left _ dl
  have z4 : W * M < 2 ^ 400 * 2 ^ 400 := Nat.mul_lt_mul_of_lt_of_le w1 (Nat.le_of_lt m1) (Nat.two_pow_pos _)
  rw [← Nat.pow_add] at z4
  omega
theorem RowOk.sumOk {A : List Int} {v : List Rat} {M W : Nat} (h : RowOk A v M W) {j : Nat} (hj : j ≤ v.length) : 0 ≤ S v j ∧ S v j ≤ ((W : Int) : Rat) ∧ (S v j).den ∣ M ∧ Sm 800 (S v j) := by
  have a := S_nn h.nn hj
  have b := Rat.le_trans (S_mono h.nn hj (Nat.le_refl _)) h.tot
  have c := S_den (by have := h.m0; omega) h.dn j hj
  exact ⟨a, b, c, sm_of h.m0 h.m1 h.w1 a b c⟩
theorem RowOk.le {A : List Int} {v : List Rat} {M W : Nat} (h : RowOk A v M W) {q : Rat} (hq : q ∈ v) : q ≤ ((W : Int) : Rat) := by
  obtain ⟨j, hj, rfl⟩ := List.getElem_of_mem hq
  have a := (h.sumOk (show j ≤ v.length by omega)).1
  have b := (h.sumOk (show j + 1 ≤ v.length by omega)).2.1
  rw [S_succ v j hj] at b
  grind
section
variable {K : PySem.W.Frag} {σ : L2.St} {H : Hp} {te : TE} {ds : List D}
theorem EvI.item {wi : TI} {L : List Addr} {n : Nat} {item item' : Nat → D} (h : EvI K wi σ L H n item) (q : ∀ i, i < n → item i = item' i) : EvI K wi σ L H n item' := fun R r => h R fun J H2 Ps e w => r J H2 Ps e ⟨w.here, w.stays, fun H3 p i hi => ⟨(w.go H3 p i hi).1, fun x H4 y => ⟨((w.go H3 p i hi).2 x H4 y).1, q i hi ▸ ((w.go H3 p i hi).2 x H4 y).2⟩⟩, w.stop⟩
end
end WD
end
section
set_option Elab.async false
set_option linter.all false
set_option maxRecDepth 100000
namespace WD
open PySem PySem.Spec PyProof.Rows L2 Evl
end WD
end
section
set_option Elab.async false
set_option linter.all false
set_option maxRecDepth 100000
namespace WD
open PySem PySem.Spec PyProof.Rows L2 Evl
end WD
end
section
set_option Elab.async false
set_option linter.all false
set_option maxRecDepth 100000
namespace WD
open PySem PySem.Spec PyProof.Rows L2 Evl RZ
end WD
end
section
set_option Elab.async false
set_option linter.all false
set_option maxRecDepth 100000
namespace PySem
open Sem (wp)
end PySem
end
section
set_option Elab.async false
set_option linter.all false
set_option maxRecDepth 100000
set_option maxHeartbeats 2000000
namespace ZL
open PySem PySem.Spec PyProof.Rows L2
/-- tuples of two at their addresses -/
def putZ : Hp → List Addr → List V → List V → Hp
  | H, a :: as, x :: xs, y :: ys => putZ (upd H a (.tup [x, y])) as xs ys
  | H, _, _, _ => H
theorem putZ_off {b : Addr} : ∀ (as : List Addr) (xs ys : List V) (H : Hp), b ∉ as → putZ H as xs ys b = H b
  | [], _, _, _, _ => rfl
  | _ :: _, [], _, _, _ => rfl
  | _ :: _, _ :: _, [], _, _ => rfl
  | a :: as, x :: xs, y :: ys, H, h => by
    have h1 := putZ_off as xs ys (upd H a (.tup [x, y])) fun z => h (List.mem_cons_of_mem _ z)
    have h2 : b ≠ a := fun z => h (by rw [z]; exact List.mem_cons_self ..)
    exact h1.trans (upd_ne h2)
theorem putZ_at : ∀ (as : List Addr) (xs ys : List V) (H : Hp), as.length = xs.length → as.length = ys.length → as.Nodup → ∀ (j : Nat) (t : Addr) (x y : V), as[j]? = some t → xs[j]? = some x → ys[j]? = some y → putZ H as xs ys t = some (.tup [x, y])
  | [], _, _, _, _, _, _, j, t, x, y, h, _, _ => by simp at h
  | _ :: _, [], _, _, h, _, _, _, _, _, _, _, _, _ => by cases h
  | _ :: _, _ :: _, [], _, _, h, _, _, _, _, _, _, _, _ => by cases h
  | a :: as, x :: xs, y :: ys, H, h1, h2, nd, j, t, u, v, e1, e2, e3 => by
    have n := List.nodup_cons.mp nd
    cases j with
    | zero =>
      cases e1
      cases e2
      cases e3
      show putZ (upd H a (.tup [x, y])) as xs ys a = _
      rw [putZ_off as xs ys _ n.1]
      exact upd_same
    | succ j => exact putZ_at as xs ys _ (Nat.succ.inj h1) (Nat.succ.inj h2) n.2 j t u v e1 e2 e3
theorem vals_at : ∀ {xs : List V} {us : List Value}, Vals xs us → ∀ {j : Nat} {u : Value}, us[j]? = some u → ∃ x, xs[j]? = some x ∧ RelV x u
  | _, _, .nil, j, u, h => by simp at h
  | _, _, .cons r t, 0, u, h => by
    cases h
    exact ⟨_, rfl, r⟩
  | _, _, .cons r t, j + 1, u, h => vals_at t h
section
variable {X : Cx} {e e2 : Expr} {ta : TA} {p p2 pos pos2 : Pos}
theorem laid {pins : List (Addr × Obj)} {σ : L2.St} {H : Hp} {s : Shared} {h' : Heap} {tk : Nat} {xs ys : List V} {us vs : List Value} {acc : Array Value} {c : Nat} {as : List Addr} {S : Addr} (I : Inv X pins σ H s) (hz : xs.length ≤ sizeLine) (r1 : Vals xs us) (r2 : Vals ys vs) (hxy : xs.length = ys.length)
    (hk : ∀ b o, s.heap.get? b = some o → h'.get? b = some o) (hSl : s.heap.objs.size ≤ S) (hS : h'.get? S = some { cls := .type "list", dict := none, data := .seq acc c, slots := #[] }) (hl : as.length = xs.length) (hacc : acc.toList = as.map Value.ref) (abv : ∀ a ∈ as, S < a) (up : as.Pairwise (· < ·))
    (hp : ∀ (j : Nat) (a : Addr), as[j]? = some a → ∃ x y, us[j]? = some x ∧ vs[j]? = some y ∧ IsPair h' a x y) :
    ∃ H' : Hp, (∀ b o, H b = some o → H' b = some o) ∧ H S = none ∧ (∀ t ∈ as, H t = none) ∧ S ∉ as ∧ H' S = some (.lst (as.map V.ref)) ∧ (∀ (j : Nat) (t : Addr) (x y : V), as[j]? = some t → xs[j]? = some x → ys[j]? = some y → H' t = some (.tup [x, y])) ∧ Inv X pins σ H' { s with heap := h', toks := tk } := by
  have sn : S ∉ as := fun z => Nat.lt_irrefl _ (abv _ z)
  have nd : as.Nodup := List.Pairwise.imp (fun {a b} (h : a < b) => Nat.ne_of_lt h) up
  have new : ∀ t ∈ as, H t = none := fun t ht => I.hok.fresh (Nat.le_of_lt (Nat.lt_of_le_of_lt hSl (abv t ht)))
  have newS : H S = none := I.hok.fresh hSl
  generalize hH0 : upd H S (.lst (as.map V.ref)) = H0
  have a1 : H0 S = some (.lst (as.map V.ref)) := by rw [← hH0]; exact upd_same
  have a2 : ∀ b, b ≠ S → H0 b = H b := fun b n => by rw [← hH0]; exact upd_ne n
  have off : ∀ b, b ∉ as → b ≠ S → putZ H0 as xs ys b = H b := fun b n1 n2 => (putZ_off as xs ys H0 n1).trans (a2 b n2)
  have low : ∀ b o, s.heap.get? b = some o → b ∉ as ∧ b ≠ S := fun b o e => ⟨fun z => absurd (Heap.lt_size e) (Nat.not_lt.mpr (Nat.le_of_lt (Nat.lt_of_le_of_lt hSl (abv b z)))), fun z => absurd (Heap.lt_size e) (Nat.not_lt.mpr (by rw [z]; exact hSl))⟩
  have kp : ∀ b u, H b = some u → putZ H0 as xs ys b = some u := fun b u e => by
    rw [off b (fun z => by rw [new b z] at e; cases e) (fun z => by rw [z, newS] at e; cases e)]
    exact e
  have eS : putZ H0 as xs ys S = some (.lst (as.map V.ref)) := (putZ_off as xs ys H0 sn).trans a1
  have at' := putZ_at as xs ys H0 hl (hl.trans hxy) nd
  refine ⟨putZ H0 as xs ys, kp, newS, new, sn, eS, at', ?_⟩
  refine I.call' (ch := []) rfl ⟨fun b o q _ _ _ => hk b o q, fun b o q _ _ _ => ⟨o.slots, hk b o q⟩, fun b o q n _ => ?_, fun b o q _ => ⟨o, hk b o q⟩, fun b xs q => kp b _ q, fun b o u q => kp b _ q, fun b ps q => ⟨#[], by rw [kp b _ q]; simp⟩⟩ (fun b u q => ?_) I.bare fun b z => by simp at z
  · obtain ⟨z1, z2⟩ := low b o q
    exact (off b z1 z2).trans n
  · by_cases hb : b ∈ as
    · obtain ⟨j, hj⟩ := List.getElem?_of_mem hb
      obtain ⟨x, y, f1, f2, f3⟩ := hp j b hj
      obtain ⟨x', g1, g2⟩ := vals_at r1 f1
      obtain ⟨y', g3, g4⟩ := vals_at r2 f2
      rw [at' j b x' y' hj g1 g3] at q
      cases q
      exact ⟨by show 2 ≤ sizeLine; decide, [x, y], .cons g2 (.cons g4 .nil), ⟨_, f3, rfl, _, rfl⟩⟩
    · by_cases hb2 : b = S
      · rw [hb2] at q ⊢
        rw [eS] at q
        cases q
        refine ⟨by rw [List.length_map]; omega, acc.toList, c, by rw [hacc]; exact LiI.vals_refs as, ?_⟩
        rw [Array.toArray_toList]
        exact hS
      · rw [off b hb hb2] at q
        exact (I.hok b u q).stay (fun d v _ y => hk d v y) (fun d y => kp d _ y) fun d xs y => kp d _ y
end
end ZL
end
section
set_option Elab.async false
set_option linter.all false
set_option maxRecDepth 100000
namespace WD
open PySem PySem.Spec PyProof.Rows L2 Evl StX
end WD
end
section
set_option Elab.async false
set_option linter.all false
set_option maxRecDepth 100000
set_option maxHeartbeats 4000000
namespace SupX
open PySem PySem.W PySem.Calls PyProof.Rows PySem.HandSPX
/-- the body -/
def supBody (txt f a : Str) (sn : Str) (k : Nat) (p0 p1 p2 p3 p4 p5 p6 p7 p8 p9 : Pos) : List Stmt :=
  [.Expr (.Call (.Attribute (.Call (.Name "super" p0) [] [] p1) "__init__" p2) [.Constant (.str txt) k p3] [] p4) p5, .Assign [.Attribute (.Name sn p6) f p7] (.Name a p8) p9]
section
variable {prog : Program} {w : World} {A : Around} {E : Value → Shared → Prop} {h : Heap} {g : Array GenState} {d : Drawn} {t : Nat} {os : OsState}
/-- ValueError.__init__ bound to an exception, called -/
theorem call_bound {B nw ini : String} {bmB : List Value} (fb : ExcBaseFacts B nw ini bmB) {nm q : Str} {C N u e t0 : Addr} {bs bm : List Value} {hdct : Bool} {sn : List Str} {sub : List Value} {ab : Bool} {col : Option Bool} {dd : Option Addr} {k0 k1 k2 k3 k5 : Option Value} {us : List Value} {Q : Value → Shared → Prop}
    (hC : h.get? C = some (excClassObj nm q C N bs bm hdct sn sub ab col dd k0 k1 k2 k3 k5 nw)) (he : h.get? e = some (excO C t0)) (hu : h.get? u = some (kxs_mw ini e)) (hl : us.length ≤ sizeLine)
    (hq : ∀ h' t1, (∀ b o, b ≠ e → h.get? b = some o → h'.get? b = some o) → h'.get? e = some (excO C t1) → Q .none ⟨h', g, d, t, os⟩) : wpAny (model prog w) A (call (.ref u) us) Q E ⟨h, g, d, t, os⟩ := by
  apply wpAny_call; apply codeAny_of_tree
  show wpAny _ A.in1 (callAny (.ref u) ⟨us, []⟩) _ _ _
  unfold callAny; apply wpAny_bind; apply wpAny_load hu
  have mw : (Value.type "method-wrapper" == Value.type "method" || Value.type "method-wrapper" == Value.type "builtin_function_or_method" || Value.type "method-wrapper" == Value.type "method-wrapper") = true := by decide
  simp only [kxs_mw, mw, if_true]
  apply KFB.if_so (by decide); apply wpAny_bind; apply check_bound_init fb.toExcCallFacts hC he rfl
  refine wpAny_bind (wpAny_pure (wpAny_pure ⟨plainId_quiet fb.init.plain _, codeAny_builtin fb.initEntry ?_⟩))
  exact exc_init_tree (cls := .ref C) (t0 := t0) (dv := none) (c2 := .none) (c3 := .none) (b4 := .bool false) he hl fun h' k e2 _ => hq h' _ k e2
end
/-- what the written part says of the class x at C, its __init__ at fI: super().__init__(txt), then self.f = its argument -/
structure Sup (prog : Program) (K : Frag) (mg : Str → Option Value) (C fI : Addr) (x f txt : Str) : Prop where
  gC : mg x = some (.ref C)
  cls : ∃ nm q N bs bm sn sub ab col dd k0 k1 k2 k3 k5, K.lookup C = some (excClassObj nm q C N bs bm true sn sub ab col dd k0 k1 k2 k3 k5 "ValueError.__new__") ∧ refsVE bm = true
  sa : findIn K (.ref C) "__setattr__" = some (some (.builtin "object.__setattr__"))
  ga : findIn K (.ref C) "__getattribute__" = some (some (.builtin "BaseException.__getattribute__"))
  gg : findIn K (.ref C) "__getattr__" = some none
  noN : findIn K (.ref C) f = some none
  iC : findIn K (.ref C) "__init__" = some (some (.ref fI))
  tC : typeIn K (.ref fI) = some (.type "function")
  kC : keepIn K (.ref C) = true
  exC : subIn K (.ref C) (.type "BaseException") = some true
  veC : subIn K (.ref C) (.type "ValueError") = some true
  tyC : typeIn K (.ref C) = some (.type "type")
  hdC : hasDictIn K C = true
  meC : mroIn K C (.ref C) = some true
  te : exmOne K (.ref C) (.ref C) = some true
  sup : ks_superIn K C C "__init__" = some (some (.builtin "ValueError.__init__"))
  opq : nsIn K cStatics "thirdparty.any" = some none
  noS : mg "super" = none
  top : (prog.main.scope.names.lookup ("super" : Str)).isSome = false
  fn : ∃ (oc : Value) (od : Option Addr) (qual a sn : Str) (pr : Arguments) (sc : Scope) (kV doc pm : Value) (an : Option Addr) (cda cc : Addr) (ct : Value) (osl : Array (Option Value)) (ar : Arg) (k : Nat) (p0 p1 p2 p3 p4 p5 p6 p7 p8 p9 : Pos),
    K.lookup fI = some ⟨oc, od, .func (ksFn "__init__" qual pr (supBody txt f a sn k p0 p1 p2 p3 p4 p5 p6 p7 p8 p9) sc .none kV doc pm an (.ref cda) ct cc), osl⟩ ∧ codeIn K (.ref cda) qual = true ∧
    (∃ cl cld csl, K.lookup cc = some ⟨cl, cld, .cell (some (.ref C)), csl⟩) ∧ (∃ ccl cdd vs ccs file tf, K.lookup cda = some ⟨ccl, cdd, .fields vs, ccs⟩ ∧ vs[2]? = some (.str file tf) ∧ ((prog.main.file : Str) == file) = true) ∧
    (∀ u v : Value, bindArgs (ksFn "__init__" qual pr (supBody txt f a sn k p0 p1 p2 p3 p4 p5 p6 p7 p8 p9) sc .none kV doc pm an (.ref cda) ct cc) ⟨[u, v], []⟩ = pure [(sn, u), (a, v)]) ∧
    (pr.posonlyargs ++ pr.args).head? = some ar ∧ ar.arg = sn ∧ a ≠ sn ∧ (sn == ("__debug__" : Str)) = false ∧ (a == ("__debug__" : Str)) = false ∧ (∀ y ∈ sc.names, y.2 ≠ .cell) ∧ sc.names.lookup sn = some .local ∧ sc.names.lookup a = some .local ∧ sc.names.lookup ("super" : Str) = some .globalImplicit ∧
    sc.names.lookup ("__class__" : Str) = some .free ∧ sc.kind = .function ∧ sc.isCoroutine = false ∧ sc.isGenerator = false ∧
    (∀ L : Addr, ∃ pl : Sem Bool, eval (.Call (.Attribute (.Call (.Name "super" p0) [] [] p1) "__init__" p2) [.Constant (.str txt) k p3] [] p4) (ksEnv qual sc L fI (.ref cda) cc) = (do
      let ov ← attributeBase (.Call (.Name "super" p0) [] [] p1) "__init__" (ksEnv qual sc L fI (.ref cda) cc) (eval (.Call (.Name "super" p0) [] [] p1) (ksEnv qual sc L fI (.ref cda) cc))
      standAt p2.atName
      let (f, first) ← holding [ov] (getMethod ov "__init__" pl)
      callWith p4 f first (backTo p4 (starEach [.Constant (.str txt) k p3] (ksEnv qual sc L fI (.ref cda) cc))) [])) ∧
    (∀ L : Addr, interactive (ksEnv qual sc L fI (.ref cda) cc) = false) ∧
    (∀ L : Addr, swapsWith (.Call (.Attribute (.Call (.Name "super" p0) [] [] p1) "__init__" p2) [.Constant (.str txt) k p3] [] p4) none p5.line (ksEnv qual sc L fI (.ref cda) cc) = pure false) ∧
    (∀ L : Addr, swapsWith (.Name a p8) (some (.Attribute (.Name sn p6) f p7)) p9.line (ksEnv qual sc L fI (.ref cda) cc) = pure false) ∧
    (∀ L : Addr, starEach [.Constant (.str txt) k p3] (ksEnv qual sc L fI (.ref cda) cc) = (false, eval (.Constant (.str txt) k p3) (ksEnv qual sc L fI (.ref cda) cc)) :: starEach [] (ksEnv qual sc L fI (.ref cda) cc)) ∧
    (∀ L : Addr, starEach [] (ksEnv qual sc L fI (.ref cda) cc) = [])
/-- what __init__ leaves -/
structure SupEnd (h h' : Heap) (x C dx : Addr) (f : Str) (v : Value) : Prop where
  keep : ∀ b o, b ≠ x → h.get? b = some o → h'.get? b = some o
  obj : ∃ t1 : Addr, h'.get? x = some { cls := .ref C, dict := some dx, data := .fields #[.ref t1, .none, .none, .none, .bool false, .none] }
  dbig : h.objs.size ≤ dx
  dne : dx ≠ x
  ns : h'.Ns1 dx (fun y => if y = f then some v else none)
section
variable {prog : Program} {w : World} {A : Around} {E : Value → Shared → Prop} {R : Result → Shared → Prop} {s : Shared} {K : Frag} {mg mb : Str → Option Value} {C fI : Addr} {x f txt : Str}
theorem sup_init (T : Sup prog K mg C fI x f txt) {e t0 : Addr} {v : Value} (X : K.In s.heap) (G : s.heap.Ns mainGlobals mg) (B : s.heap.Ns builtinsNs mb) (bt : mb "super" = some (.type "super")) (hlim : s.heap.NoLimit) (he : s.heap.get? e = some (excO C t0)) (hnx : K.lookup e = none)
    (hroom : A.depth < recursionLimit) (hq : ∀ h' tk dx, SupEnd s.heap h' e C dx f v → R (.ok (.ret .none)) { s with heap := h', toks := tk }) : codeAny (model prog w) A (.call (.ref fI) ⟨[.ref e, v], []⟩) R s := by
  obtain ⟨oc, od, qual, a, sn, pr, sc, kV, doc, pm, an, cda, cc, ct, osl, ar, k, p0, p1, p2, p3, p4, p5, p6, p7, p8, p9, ho, hcd, ⟨cl, cld, csl, hcc⟩, ⟨ccl, cdd, vs, ccs, file, tf, hcda, hvs, hfile⟩, hbind, hp, rfl, nsn, dsn, da, hcell, l1, l2, l3, l4, kd, hco, hgen, hev, hint, hw1, hw2, hst, hst0⟩ := T.fn
  obtain ⟨nm, q, N, bs, bm, sn, sub, ab, col, dd, k0, k1, k2, k3, k5, hC, hbm⟩ := T.cls
  have hcl : clsIn K C = some { name := nm, bases := bs, mro := .ref C :: bm, ns := N, qualname := q, hasDict := true, slotNames := sn, subclasses := sub, abstract := ab, collection := col, hasDel := false } := by unfold clsIn; rw [hC] <;> rfl
  refine ks_codeAny_call_defAt (binds := [(ar.arg, .ref e), (a, v)]) hroom (X _ _ ho) rfl hlim (codeRec_of X hcd) rfl (BindsTo.of_eq (hbind _ _)) hcell (fun y hy => ?_) (fun h1 hns k1 => ?_) hco hgen kd
  · rcases List.mem_cons.mp hy with rfl | hy
    · exact l1
    · rw [List.mem_singleton.mp hy]; exact l2
  have X1 : K.In h1 := X.keeps k1
  have he1 := k1 _ _ he
  have hC1 : h1.get? C = some (excClassObj nm q C N bs bm true sn sub ab col dd _ _ _ _ _ "ValueError.__new__") := X1 _ _ hC
  have xC : e ≠ C := fun z => by rw [z, hC] at hnx; cases hnx
  have G1 : h1.Ns mainGlobals mg := G.keeps k1
  have B1 : h1.Ns builtinsNs mb := B.keeps k1
  have KF := kxs_ValueError
  show PySem.wpAt (model prog w) (A.deeper (ksEnv qual sc s.heap.objs.size fI (.ref cda) cc)) (.func (supBody txt f a ar.arg k p0 p1 p2 p3 p4 p5 p6 p7 p8 p9) (ksEnv qual sc s.heap.objs.size fI (.ref cda) cc)) (execs (supBody txt f a ar.arg k p0 p1 p2 p3 p4 p5 p6 p7 p8 p9) (ksEnv qual sc s.heap.objs.size fI (.ref cda) cc)) _ _ _
  generalize hA2 : A.deeper (ksEnv qual sc s.heap.objs.size fI (.ref cda) cc) = A2
  unfold supBody
  obtain ⟨pl, hev⟩ := hev s.heap.objs.size
  refine ks_wpAt_execs_cons (ks_wpAt_Expr_any (ks_wpAt_MethodCall (ks_wpAt_super_base (env := ksEnv qual sc s.heap.objs.size fI (.ref cda) cc) l3 l4 (by decide) rfl (X1 _ _ ho) rfl hp rfl (X1 _ _ hcda) rfl hvs hfile T.top ?_) hev) (hint _) (hw1 _))
  refine ks_loadName_global kd l3 (loadGlobal_builtin (env := ksEnv qual sc s.heap.objs.size fI (.ref cda) cc) G1 T.noS B1 bt ⟨rfl, ?_⟩)
  refine wpAny_loadName_free (c := cc) kd l4 (by rfl) ⟨_, X1 _ _ hcc, rfl⟩ (wpAny_loadName_local kd l1 hns (v := .ref e) ?_ ?_)
  · show List.lookup ar.arg [(a, v), (ar.arg, .ref e)] = some (.ref e)
    rw [List.lookup_cons, List.lookup_cons_self]
    have z : (ar.arg == a) = false := by simpa using nsn.symm
    rw [z]
  refine ks_wpAny_isType_cls hC1 rfl ⟨rfl, ?_⟩
  refine ks_wpAny_call_super hC1 rfl he1 rfl (fun c z => by cases z) (looks_mroIn X1 T.meC) fun h2 hso k2 => ?_
  have X2 : K.In h2 := X1.keeps k2
  have he2 := k2 _ _ he1
  have I2 : InstAt h2 e (excO C t0) C none := ⟨he2, rfl, rfl, trivial⟩
  have hf := T.sup
  unfold ks_superIn at hf
  rw [hcl] at hf
  refine kxs_getMethod KF hso (looks_opaque X2 T.opq) (l₀ := .ref C :: bm) (fun A Q E s k q => wpAny_bind ((looks_clsIn X2 hcl) A _ E s k (wpAny_pure q))) rfl X2 hf (I2.type.andThen (looks_subIn X2 T.veC)) xC (by decide) ?_
  have k3 : ∀ b o, h2.get? b = some o → (h2.push (kxs_mw "ValueError.__init__" e)).get? b = some o := fun b o z => Heap.get?_push_of_some _ z
  show wpAny _ _ (callWith p4 (.ref h2.objs.size) [] (backTo p4 (starEach [.Constant (.str txt) k p3] (ksEnv qual sc s.heap.objs.size fI (.ref cda) cc))) []) _ _ _
  rw [hst, hst0]
  refine kxs_callWith (i := "ValueError.__init__") (x := e) (by rfl) (evalArgs_plain ?_)
  refine spliced_cons (wpAny_Constant_str (k := k) (pos := p3) (spliced_nil ?_))
  have hu : (h2.push (kxs_mw "ValueError.__init__" e)).get? h2.objs.size = some (kxs_mw "ValueError.__init__" e) := Heap.get?_push_size _ rfl
  refine ⟨hu, ?_⟩
  refine call_bound PySem.F.excBase_ValueError (k3 _ _ (k2 _ _ hC1)) (k3 _ _ he2) hu (by show 1 ≤ sizeLine; rw [sizeLine_eq]; decide) fun h4 t4 k4 he4 => ?_
  have kk : ∀ b o, b ≠ e → s.heap.get? b = some o → h4.get? b = some o := fun b o hb z => k4 b o hb (k3 b o (k2 b o (k1 b o z)))
  have X4 : K.In h4 := fun b o z => kk b o (fun y => by rw [y, hnx] at z; cases z) (X b o z)
  have eL : s.heap.objs.size ≠ e := Nat.ne_of_gt (Heap.lt_size he)
  have lt4 : s.heap.objs.size < h4.objs.size := by
    obtain ⟨oL, es, ep, hL, r⟩ := hns
    exact Heap.lt_size (k4 _ _ eL (k3 _ _ (k2 _ _ hL)))
  have hns4 : h4.Ns s.heap.objs.size (fun y => List.lookup y [(ar.arg, Value.ref e), (a, v)].reverse) := by
    obtain ⟨oL, es, ep, hL, r⟩ := hns
    exact ⟨oL, es, ep, k4 _ _ eL (k3 _ _ (k2 _ _ hL)), r⟩
  show PySem.wpAt _ _ _ (execs [.Assign [.Attribute (.Name ar.arg p6) f p7] (.Name a p8) p9] (ksEnv qual sc s.heap.objs.size fI (.ref cda) cc)) _ _ _
  refine wpAt_of_wpAny (wpAny_execs_cons (plainObj_wpAny_Assign_Attribute ?_ (hw2 _)))
  refine wpAny_Name (wpAny_loadName_local kd l2 hns4 (v := v) ?_ ?_) da
  · show List.lookup a [(a, v), (ar.arg, .ref e)] = some v
    rw [List.lookup_cons_self]
  refine wpAny_Name (wpAny_loadName_local kd l1 hns4 (v := .ref e) ?_ ?_) dsn
  · show List.lookup ar.arg [(a, v), (ar.arg, .ref e)] = some (.ref e)
    rw [List.lookup_cons, List.lookup_cons_self]
    have z : (ar.arg == a) = false := by simpa using nsn.symm
    rw [z]
  refine set_plain X4 (ox := excO C t4) (od := none) ⟨he4, rfl, rfl, trivial⟩ T.sa ?_
  refine exc_osa X4 he4 hcl (show refsVE (.ref C :: bm) = true from hbm) rfl T.noN (fun h5 tk5 dx k5 dn dne hx5 hn5 => ?_)
  show wpAny _ _ (execs [] _) _ _ _
  exact wpAny_execs_nil (hq h5 tk5 dx ⟨fun b o hb z => k5 b o hb (kk b o hb z), ⟨t4, hx5⟩, Nat.le_of_lt (Nat.lt_of_lt_of_le lt4 dn), dne, hn5⟩)
/-- one that is made -/
structure SupMade (h h' : Heap) (e C d : Addr) (f : Str) (v : Value) : Prop where
  keep : ∀ b o, h.get? b = some o → h'.get? b = some o
  new : h.objs.size ≤ e
  obj : ∃ oe vs, h'.get? e = some oe ∧ oe.cls = .ref C ∧ oe.dict = some d ∧ oe.data = .fields vs ∧ vs[1]? = some .none
  dbig : h.objs.size ≤ d
  dne : d ≠ e
  ns : h'.Ns1 d (fun y => if y = f then some v else none)
theorem sup_made (T : Sup prog K mg C fI x f txt) {v : Value} (X : K.In s.heap) (G : s.heap.Ns mainGlobals mg) (B : s.heap.Ns builtinsNs mb) (bt : mb "super" = some (.type "super")) (hlim : s.heap.NoLimit) (hroom : A.depth + 1 < recursionLimit)
    (hq : ∀ h' tk e d, SupMade s.heap h' e C d f v → R (.ok (.ret (.ref e))) { s with heap := h', toks := tk }) : codeAny (model prog w) A (.call (.ref C) ⟨[v], []⟩) R s := by
  obtain ⟨nm, q, N, bs, bm, sn, sub, ab, col, dd, k0, k1, k2, k3, k5, hC, hbm⟩ := T.cls
  rcases s with ⟨hp, g, dr, tk, os⟩
  have up : ∀ b o, hp.get? b = some o → ((hp.push (kdv_tup [v])).push (excO C hp.objs.size)).get? b = some o := fun b o z => Heap.get?_push_of_some _ (Heap.get?_push_of_some _ z)
  have new : ((hp.push (kdv_tup [v])).push (excO C hp.objs.size)).get? (hp.objs.size + 1) = some (excO C hp.objs.size) := by heap_get
  have out : K.lookup (hp.objs.size + 1) = none := by
    cases z : K.lookup (hp.objs.size + 1) with
    | none => rfl
    | some o =>
      have y : hp.get? (hp.objs.size + 1) = some o := X _ _ z
      exact absurd (Nat.lt_of_succ_lt (Heap.lt_size y)) (Nat.lt_irrefl _)
  have one : [v].length ≤ sizeLine := by show 1 ≤ sizeLine; rw [sizeLine_eq]; decide
  refine call_own PySem.F.excBase_ValueError (fun Y => refsVE_contains Y bm hbm) (X _ _ hC) (looks_findIn X T.iC) (fun self => bind_fn X self T.tC) one ?_
  refine sup_init (s := ⟨(hp.push (kdv_tup [v])).push (excO C hp.objs.size), g, dr, tk, os⟩) T (X.keeps up) (G.keeps up) (B.keeps up) bt (hlim.keeps up) new out ?_ fun h' tk' dx F => ?_
  · show A.depth + 1 < recursionLimit
    exact hroom
  · have old : ∀ b o, hp.get? b = some o → h'.get? b = some o := fun b o z => F.keep b o (Nat.ne_of_lt (Nat.lt_succ_of_lt (Heap.lt_size z))) (up b o z)
    have big : hp.objs.size ≤ dx := by
      have y := F.dbig
      rw [Heap.size_push, Heap.size_push] at y
      exact Nat.le_trans (Nat.le_add_right _ 2) y
    obtain ⟨t1, ob⟩ := F.obj
    exact ⟨rfl, hq h' tk' (hp.objs.size + 1) dx ⟨old, Nat.le_succ _, ⟨_, _, ob, rfl, rfl, rfl, rfl⟩, big, F.dne, F.ns⟩⟩
end
end SupX
namespace L2
open PySem PySem.Spec PyProof.Rows
theorem relO_sup {v : V} {u : Value} (r : RelV v u) (f g : Str) : RelO (List.lookup g [(f, v)]) (if g = f then some u else none) := by
  by_cases z : g = f
  · subst z
    rw [if_pos rfl, List.lookup_cons_self]
    exact r
  · have y : (g == f) = false := by simpa using z
    rw [if_neg z, List.lookup_cons, y]
    exact True.intro
section
variable {X : Cx} {C fI : Addr} {x f txt : Str}
/-- C(e) -/
def tMkSup (C : Addr) (f : Str) (ta : TA) : St → Hp → XK → Prop := fun σ H Q => ta σ H fun vs H1 => ∃ v, vs = [v] ∧ ∀ d, H1 d = none → Q (.ref C) (some d) (upd H1 d (.xd [(f, v)]))
theorem pmk_sup {a : Expr} {ta : TA} {p pos : Pos} {k : Nat} (T : SupX.Sup X.prog X.K X.mg C fI x f txt) (hr : Room k X.A) (ha : PA X [a] ta) (hg : Gl X x) (hd : (x == ("__debug__" : Str)) = false := by decide)
    (hst : starEach (a :: []) X.env = (false, eval a X.env) :: starEach [] X.env := by rfl) (hpl : (backTo pos (starEach [] X.env)).any (·.1) = false := by rfl) :
    PMk X (.Call (.Name x p) [a] [] pos) (tMkSup C f ta) := by
  intro pins s σ H Q I h
  refine wpAny_Call_Name_kw (ld_glob I hg T.gC ?_ hd)
  refine PySem.W.callWith_K (h₀ := X.base) I.ok.mod.kin T.kC (thn (ha.run pos pins s σ H _ I h) fun us s1 ⟨vs, H1, I1, r1, v, ev, q1⟩ => ⟨I1.kIn, ?_⟩) hst hpl
  subst ev
  obtain ⟨u, rfl, ru⟩ := r1.one
  show wpAny _ _ (call (.ref C) [u]) _ _ _
  have lim := I1.nolimit
  obtain ⟨mb, nb, eb⟩ := I1.ok.mod.blt
  have glo : s1.heap.Ns mainGlobals X.mg := I1.ok.mod.glob.keeps I1.bk
  have blt : s1.heap.Ns builtinsNs mb := nb.keeps I1.bk
  obtain ⟨hp, g, dr, tk, os⟩ := s1
  refine wpAny_call (SupX.sup_made (s := ⟨hp, g, dr, tk, os⟩) T I1.kIn glo blt ((eb _ (by decide +kernel)).trans (by decide +kernel)) lim (by have := hr.dp; omega) fun h' tk' e d M => ?_)
  show MkP X pins σ Q (.ref e) ⟨h', g, dr, tk', os⟩
  obtain ⟨oe, fv, hoe, hc, hd2, hdat, h1⟩ := M.obj
  obtain ⟨G', g1, g2⟩ := restrict h' fun b => decide (b ≠ e)
  have gk : ∀ b, b ≠ e → G'.get? b = h'.get? b := fun b hb => g1 b (decide_eq_true hb)
  have ge : G'.get? e = none := g2 e (by simp)
  have old : ∀ b o, hp.get? b = some o → G'.get? b = some o := fun b o q => (gk b (Nat.ne_of_lt (Nat.lt_of_lt_of_le (Heap.lt_size q) M.new))).trans (M.keep b o q)
  have ob : ObjOk X.prog X.w (upd H1 d (.xd [(f, v)])) G' d (.xd [(f, v)]) := ⟨_, M.ns.at (fun o q => (gk d M.dne).trans q), fun g => relO_sup ru f g⟩
  have J : Inv X pins σ (upd H1 d (.xd [(f, v)])) ⟨G', g, dr, tk', os⟩ := I1.laid (t' := tk') old M.dbig ob
  refine ⟨e, oe, fv, ⟨G', g, dr, tk', os⟩, _, .ref C, some d, rfl, J, fun b o q => ?_, ge, hoe, ⟨hc, hd2⟩, hdat, h1, ?_, rfl, I1.bare, raises_own T.exC T.tyC, q1 d (I1.hok.fresh M.dbig)⟩
  · by_cases hb : b = e
    · have q' : G'.get? b = some o := q
      rw [hb, ge] at q'; cases q'
    · exact (gk b hb).symm.trans q
  · rw [upd_ne (Ne.symm M.dne)]
    exact I1.hok.fresh M.new
/-- raise C(e) -/
def tRaiseSup (C : Addr) (f : Str) (W : WX) (ta : TA) : TS := fun _ σ H => tMkSup C f ta σ H fun cls d H' => W cls d σ H'
theorem ps_raiseSup {a : Expr} {ta : TA} {W : WX} {p pos pos2 : Pos} {k : Nat} (hc : X.calm = true) (T : SupX.Sup X.prog X.K X.mg C fI x f txt) (hr : Room k X.A) (tk : Takes X W) (ha : PA X [a] ta) (hg : Gl X x) (hd : (x == ("__debug__" : Str)) = false := by decide)
    (hst : starEach (a :: []) X.env = (false, eval a X.env) :: starEach [] X.env := by rfl) (hpl : (backTo pos (starEach [] X.env)).any (·.1) = false := by rfl) :
    PS X (.Raise (some (.Call (.Name x p) [a] [] pos)) none pos2) (tRaiseSup C f W ta) := ps_raise hc tk (pmk_sup T hr ha hg hd hst hpl)
end
end L2
end
section
set_option Elab.async false
set_option linter.all false
set_option maxRecDepth 100000
set_option maxHeartbeats 4000000
namespace SupX
open PySem PySem.W PySem.Calls PyProof.Rows PySem.HandSPX L2
def clsB (K : Frag) (C : Addr) : Bool := match K.lookup C with
  | some ⟨.type t, _, .cls cd, sl⟩ => decide (t = "type") && (decide (cd.mro.head? = some (.ref C)) && (refsVE (cd.mro.drop 1) && (cd.hasDict && (!cd.hasDel && (decide (sl.size = 6) && decide (sl[4]? = some (some (.builtin "ValueError.__new__"))))))))
  | _ => false
theorem clsB_ok {K : Frag} {C : Addr} (h : clsB K C = true) : ∃ nm q N bs bm sn sub ab col dd k0 k1 k2 k3 k5, K.lookup C = some (excClassObj nm q C N bs bm true sn sub ab col dd k0 k1 k2 k3 k5 "ValueError.__new__") ∧ refsVE bm = true := by
  unfold clsB at h
  cases e : K.lookup C with
  | none => rw [e] at h; cases h
  | some o =>
    obtain ⟨oc, od, dt, sl⟩ := o
    rw [e] at h
    cases oc with
    | type t =>
      cases dt with
      | cls cd =>
        obtain ⟨nm, bs, mro, ns, qn, hd, sn, sub, ab, col, del⟩ := cd
        obtain ⟨h1, h⟩ := He.ba h
        obtain ⟨h2, h⟩ := He.ba h
        obtain ⟨h3, h⟩ := He.ba h
        obtain ⟨h4, h⟩ := He.ba h
        obtain ⟨h5, h⟩ := He.ba h
        obtain ⟨h6, h7⟩ := He.ba h
        have h1 := of_decide_eq_true h1
        have h2 := of_decide_eq_true h2
        have h6 := of_decide_eq_true h6
        have h7 := of_decide_eq_true h7
        subst h1
        cases mro with
        | nil => cases h2
        | cons c bm =>
          cases h2
          cases hd with
          | false => cases h4
          | true =>
            cases del with
            | true => cases h5
            | false =>
              obtain ⟨l⟩ := sl
              match l, h6, h7 with
              | [k0, k1, k2, k3, k4, k5], _, h7 =>
                cases h7
                exact ⟨nm, qn, ns, bs, bm, sn, sub, ab, col, od, k0, k1, k2, k3, k5, rfl, h3⟩
      | _ => cases h
    | _ => cases dt <;> cases h
/-- a def that closes over its class: its text -/
abbrev FnC : Type := Option (Str × Str × Arguments × FuncBody × Scope × Addr × List Str × Addr)
def fnC (K : Frag) (f : Addr) : FnC := match K.lookup f with
  | some ⟨_, _, .func fd, _⟩ => some (fd.name, fd.qualname, fd.params, fd.body, fd.scope, fd.globals, fd.closure.map (·.1), fd.builtins)
  | _ => none
/-- an exception's class: its name, its field, its __init__, as the text has them -/
structure XcD where
  x : Str
  f : Str
  txt : Str
  qual : Str
  st : Stmt
def XcD.C (K : Frag) (d : XcD) : Addr := He.ga K d.x
def XcD.i (K : Frag) (d : XcD) : Addr := He.ma K (d.C K) "__init__"
def XcD.val (d : XcD) : FnC := some ("__init__", d.qual, defArgs d.st, .stmts (defBody d.st), defScope d.st, mainGlobals, ["__class__"], builtinsNs)
def cellB (K : Frag) (c C : Addr) : Bool := match K.lookup c with
  | some ⟨_, _, .cell (some (.ref a)), _⟩ => decide (a = C)
  | _ => false
def codeB (K : Frag) (file : Str) (cd : Value) : Bool := match cd with
  | .ref c => (match K.lookup c with
    | some ⟨_, _, .fields vs, _⟩ => (match (vs[2]? : Option Value) with
      | some (Value.str f _) => decide (f = file)
      | _ => false)
    | _ => false)
  | _ => false
def initB (K : Frag) (file : Str) (d : XcD) : Bool := match K.lookup (d.i K) with
  | some ⟨_, _, .func fd, _⟩ => codeIn K fd.code d.qual && (codeB K file fd.code && (fd.closure.all (fun q => cellB K q.2 (d.C K)) && decide (fd.defaults = .none)))
  | _ => false
def XcD.ok (K : Frag) (file : Str) (d : XcD) : Bool := He.eqO (nsIn K mainGlobals d.x) (some (some (.ref (d.C K)))) && (clsB K (d.C K) && (He.eqO (findIn K (.ref (d.C K)) "__setattr__") (some (some (.builtin "object.__setattr__"))) &&
  (He.eqO (findIn K (.ref (d.C K)) "__getattribute__") (some (some (.builtin "BaseException.__getattribute__"))) && (He.eqO (findIn K (.ref (d.C K)) "__getattr__") (some none) && (He.eqO (findIn K (.ref (d.C K)) d.f) (some none) &&
  (He.eqO (findIn K (.ref (d.C K)) "__init__") (some (some (.ref (d.i K)))) && (decide (typeIn K (.ref (d.i K)) = some (.type "function")) && (keepIn K (.ref (d.C K)) && (decide (subIn K (.ref (d.C K)) (.type "BaseException") = some true) &&
  (decide (subIn K (.ref (d.C K)) (.type "ValueError") = some true) && (decide (typeIn K (.ref (d.C K)) = some (.type "type")) && (hasDictIn K (d.C K) && (decide (mroIn K (d.C K) (.ref (d.C K)) = some true) &&
  (decide (exmOne K (.ref (d.C K)) (.ref (d.C K)) = some true) && (He.eqO (ks_superIn K (d.C K) (d.C K) "__init__") (some (some (.builtin "ValueError.__init__"))) && (He.eqO (nsIn K cStatics "thirdparty.any") (some none) && (He.eqO (nsIn K mainGlobals "super") (some none) && initB K file d)))))))))))))))))
/-- what the text of such an __init__ gives, however it stands in the heap -/
def TextOk (d : XcD) : Prop := ∃ (a sn : Str) (ar : Arg) (k : Nat) (p0 p1 p2 p3 p4 p5 p6 p7 p8 p9 : Pos), defBody d.st = supBody d.txt d.f a sn k p0 p1 p2 p3 p4 p5 p6 p7 p8 p9 ∧
  (∀ (kV doc pm : Value) (an : Option Addr) (cda cc : Addr) (ct u v : Value), bindArgs (ksFn "__init__" d.qual (defArgs d.st) (supBody d.txt d.f a sn k p0 p1 p2 p3 p4 p5 p6 p7 p8 p9) (defScope d.st) .none kV doc pm an (.ref cda) ct cc) ⟨[u, v], []⟩ = pure [(sn, u), (a, v)]) ∧
  ((defArgs d.st).posonlyargs ++ (defArgs d.st).args).head? = some ar ∧ ar.arg = sn ∧ a ≠ sn ∧ (sn == ("__debug__" : Str)) = false ∧ (a == ("__debug__" : Str)) = false ∧ (∀ y ∈ (defScope d.st).names, y.2 ≠ .cell) ∧ (defScope d.st).names.lookup sn = some .local ∧ (defScope d.st).names.lookup a = some .local ∧
  (defScope d.st).names.lookup ("super" : Str) = some .globalImplicit ∧ (defScope d.st).names.lookup ("__class__" : Str) = some .free ∧ (defScope d.st).kind = .function ∧ (defScope d.st).isCoroutine = false ∧ (defScope d.st).isGenerator = false ∧
  ∀ (L fI cda cc : Addr),
    (∃ pl : Sem Bool, eval (.Call (.Attribute (.Call (.Name "super" p0) [] [] p1) "__init__" p2) [.Constant (.str d.txt) k p3] [] p4) (ksEnv d.qual (defScope d.st) L fI (.ref cda) cc) = (do
      let ov ← attributeBase (.Call (.Name "super" p0) [] [] p1) "__init__" (ksEnv d.qual (defScope d.st) L fI (.ref cda) cc) (eval (.Call (.Name "super" p0) [] [] p1) (ksEnv d.qual (defScope d.st) L fI (.ref cda) cc))
      standAt p2.atName
      let (f, first) ← holding [ov] (getMethod ov "__init__" pl)
      callWith p4 f first (backTo p4 (starEach [.Constant (.str d.txt) k p3] (ksEnv d.qual (defScope d.st) L fI (.ref cda) cc))) [])) ∧
    interactive (ksEnv d.qual (defScope d.st) L fI (.ref cda) cc) = false ∧
    swapsWith (.Call (.Attribute (.Call (.Name "super" p0) [] [] p1) "__init__" p2) [.Constant (.str d.txt) k p3] [] p4) none p5.line (ksEnv d.qual (defScope d.st) L fI (.ref cda) cc) = pure false ∧
    swapsWith (.Name a p8) (some (.Attribute (.Name sn p6) d.f p7)) p9.line (ksEnv d.qual (defScope d.st) L fI (.ref cda) cc) = pure false ∧
    starEach [.Constant (.str d.txt) k p3] (ksEnv d.qual (defScope d.st) L fI (.ref cda) cc) = (false, eval (.Constant (.str d.txt) k p3) (ksEnv d.qual (defScope d.st) L fI (.ref cda) cc)) :: starEach [] (ksEnv d.qual (defScope d.st) L fI (.ref cda) cc) ∧
    starEach [] (ksEnv d.qual (defScope d.st) L fI (.ref cda) cc) = []
theorem sup_of {prog : Program} {K : Frag} {h : Heap} {mg : Str → Option Value} {file : Str} {d : XcD} (X : K.In h) (G : h.Ns mainGlobals mg) (t : TextOk d) (e : fnC K (d.i K) = d.val) (c : d.ok K file = true) (hp : prog.main.file = file) (ht : (prog.main.scope.names.lookup ("super" : Str)).isSome = false) :
    Sup prog K mg (d.C K) (d.i K) d.x d.f d.txt := by
  obtain ⟨c1, c⟩ := He.ba c
  obtain ⟨c2, c⟩ := He.ba c
  obtain ⟨c3, c⟩ := He.ba c
  obtain ⟨c4, c⟩ := He.ba c
  obtain ⟨c5, c⟩ := He.ba c
  obtain ⟨c6, c⟩ := He.ba c
  obtain ⟨c7, c⟩ := He.ba c
  obtain ⟨c8, c⟩ := He.ba c
  obtain ⟨c9, c⟩ := He.ba c
  obtain ⟨c10, c⟩ := He.ba c
  obtain ⟨c11, c⟩ := He.ba c
  obtain ⟨c12, c⟩ := He.ba c
  obtain ⟨c13, c⟩ := He.ba c
  obtain ⟨c14, c⟩ := He.ba c
  obtain ⟨c15, c⟩ := He.ba c
  obtain ⟨c16, c⟩ := He.ba c
  obtain ⟨c17, c⟩ := He.ba c
  obtain ⟨c18, c⟩ := He.ba c
  refine { gC := mg_of X G (He.eqO_ok c1), cls := clsB_ok c2, sa := He.eqO_ok c3, ga := He.eqO_ok c4, gg := He.eqO_ok c5, noN := He.eqO_ok c6, iC := He.eqO_ok c7, tC := of_decide_eq_true c8, kC := c9, exC := of_decide_eq_true c10, veC := of_decide_eq_true c11, tyC := of_decide_eq_true c12, hdC := c13, meC := of_decide_eq_true c14, te := of_decide_eq_true c15, sup := He.eqO_ok c16, opq := He.eqO_ok c17, noS := mg_none_of X G (He.eqO_ok c18), top := ht, fn := ?_ }
  obtain ⟨a, sn, ar, k, p0, p1, p2, p3, p4, p5, p6, p7, p8, p9, tb, t1, t2, t3, t4, t5, t6, t7, t8, t9, t10, t11, t12, t13, t14, t15⟩ := t
  unfold initB at c
  unfold fnC at e
  cases q : K.lookup (d.i K) with
  | none => rw [q] at c; cases c
  | some o =>
    obtain ⟨oc, od, dt, osl⟩ := o
    rw [q] at c e
    cases dt with
    | func fd =>
      obtain ⟨n1, n2, n3, n4, n5, n6, n7, n8, n9, n10, n11, n12, n13, n14, n15⟩ := fd
      have e2 : (some (n1, n2, n3, n4, n5, n6, n7.map (·.1), n15) : FnC) = d.val := e
      unfold XcD.val at e2
      simp only [Option.some.injEq, Prod.mk.injEq] at e2
      obtain ⟨h1, h2, h3, h4, h5, h6, h7, h8⟩ := e2
      have c' : (codeIn K n13 d.qual && (codeB K file n13 && (n7.all (fun q => cellB K q.2 (d.C K)) && decide (n8 = .none)))) = true := c
      obtain ⟨b1, b⟩ := He.ba c'
      obtain ⟨b2, b⟩ := He.ba b
      obtain ⟨b3, b4⟩ := He.ba b
      have b4 := of_decide_eq_true b4
      subst h1 h2 h3 h4 h5 h6 h8 b4
      rw [tb] at q
      match n7, h7, b3 with
      | [(z, cc)], h7, b3 =>
        have hz : z = "__class__" := by simpa using h7
        subst hz
        have b3 : cellB K cc (d.C K) = true := by simpa using b3
        cases n13 with
        | ref cda =>
          refine ⟨oc, od, d.qual, a, sn, defArgs d.st, defScope d.st, n9, n10, n11, n12, cda, cc, n14, osl, ar, k, p0, p1, p2, p3, p4, p5, p6, p7, p8, p9, by rw [tb], b1, ?_, ?_, t1 _ _ _ _ _ _ _, t2, t3, t4, t5, t6, t7, t8, t9, t10, t11, t12, t13, t14, fun L => (t15 L _ cda cc).1, fun L => (t15 L _ cda cc).2.1, fun L => (t15 L _ cda cc).2.2.1, fun L => (t15 L _ cda cc).2.2.2.1, fun L => (t15 L _ cda cc).2.2.2.2.1, fun L => (t15 L _ cda cc).2.2.2.2.2⟩
          · unfold cellB at b3
            split at b3
            · rename_i c1 c2 a sl ho
              have := of_decide_eq_true b3
              subst this
              exact ⟨_, _, _, ho⟩
            · cases b3
          · have b2 : (match K.lookup cda with
              | some ⟨_, _, .fields vs, _⟩ => (match (vs[2]? : Option Value) with
                | some (Value.str f _) => decide (f = file)
                | _ => false)
              | _ => false) = true := b2
            cases y : K.lookup cda with
            | none => rw [y] at b2; cases b2
            | some o2 =>
              obtain ⟨o2c, o2d, o2t, o2s⟩ := o2
              simp only [y] at b2
              cases o2t with
              | fields vs =>
                simp only at b2
                split at b2
                · rename_i f tf hv
                  exact ⟨_, _, vs, _, f, tf, rfl, hv, by rw [hp, of_decide_eq_true b2]; exact beq_self_eq_true _⟩
                · cases b2
              | _ => cases b2
        | _ => cases b1
    | _ => cases c
abbrev AlS : Type := He.AlD × Bool × List FnC
def obsS (fa : List He.Fa) (fn : List He.DefD) (xs : List XcD) (file : Str) (ex : Frag → Bool) (K : Frag) : AlS := (He.obsD fa fn K, ex K && xs.all (fun d => d.ok K file), xs.map fun d => fnC K (d.i K))
def valS (fn : List He.DefD) (xs : List XcD) : AlS := (He.valD fn, true, xs.map XcD.val)
def SaysS (fa : List He.Fa) (fn : List He.DefD) (xs : List XcD) (file : Str) (ex : Frag → Bool) (K : Frag) : Prop := obsS fa fn xs file ex K = valS fn xs
section
variable {fa : List He.Fa} {fn : List He.DefD} {xs : List XcD} {file : Str} {ex : Frag → Bool} {K : Frag}
theorem SaysS.d (c : SaysS fa fn xs file ex K) : He.SaysD fa fn K := congrArg (fun z : AlS => z.1) c
theorem SaysS.two (c : SaysS fa fn xs file ex K) : (ex K && xs.all (fun d => d.ok K file)) = true := congrArg (fun z : AlS => z.2.1) c
theorem SaysS.exq (c : SaysS fa fn xs file ex K) : ex K = true := (He.ba c.two).1
theorem SaysS.xok (c : SaysS fa fn xs file ex K) (i : Nat) {d : XcD} (h : xs[i]? = some d := by rfl) : d.ok K file = true := List.all_eq_true.mp (He.ba c.two).2 d (List.mem_of_getElem? h)
theorem SaysS.xfn (c : SaysS fa fn xs file ex K) (i : Nat) {d : XcD} (h : xs[i]? = some d := by rfl) : fnC K (d.i K) = d.val := by
  have e : (xs.map fun d => fnC K (d.i K)) = xs.map XcD.val := congrArg (fun z : AlS => z.2.2) c
  have e2 : (xs.map fun d => fnC K (d.i K))[i]? = (xs.map XcD.val)[i]? := by rw [e]
  rw [List.getElem?_map, List.getElem?_map, h] at e2
  exact Option.some.inj e2
end
end SupX
namespace WD
open PySem PySem.Spec PyProof.Rows L2
/-- no list stands in the written part -/
def noLst (K : PySem.W.Frag) : Bool := K.all fun p => match p.2.cls with
  | .type c => decide (c ≠ "list")
  | _ => true
theorem rd_of {K : PySem.W.Frag} {H : Hp} {a : Addr} {xs : List V} (n : noLst K = true) (h : SqL K H a xs) : Rd H a (.lst xs) := by
  rcases h with h | ⟨o, its, k, h1, h2, _⟩
  · exact h
  · have mem : (a, o) ∈ K := by
      have key : ∀ l : List (Addr × Obj), l.lookup a = some o → (a, o) ∈ l := by
        intro l
        induction l with
        | nil => intro h; cases h
        | cons q l ih =>
          obtain ⟨b, u⟩ := q
          intro h
          rw [List.lookup_cons] at h
          cases z : (a == b) with
          | true =>
            rw [z] at h
            cases h
            rw [beq_iff_eq.mp z]
            exact List.mem_cons_self
          | false =>
            rw [z] at h
            exact List.mem_cons_of_mem _ (ih h)
      exact key K h1
    have y := List.all_eq_true.mp n _ mem
    simp only [h2] at y
    exact absurd rfl (of_decide_eq_true y)
end WD
end
section
set_option Elab.async false
set_option linter.all false
set_option maxRecDepth 100000
namespace WD
open PySem PySem.Spec PyProof.Rows L2 Evl
section
variable {P : Program} {w : World} {K : PySem.W.Frag} {mg : Str → Option Value} {base : Heap}
/-- a def that may raise, its body's reading -/
theorem fnX {x qual : Str} {st : Stmt} {f : Addr} {N ps : List Str} {k : Nat} {sp : Sp} (F : ∃ fd, FunD K x qual (defArgs st) (defBody st) (defScope st) [] [] f fd) (S : FnScope N ps (defScope st)) (len : ∀ vs H Q E, sp vs H Q E → vs.length = ps.length)
    (hb : ∀ (kV doc pm : Value) (an : Option Addr) (cdv ct : Value) (us : List Value), us.length = ps.length → bindArgs (PySem.W.fnOf x qual (defArgs st) (defBody st) (defScope st) .none kV doc pm an cdv ct) ⟨us, []⟩ = pure (ps.zip us))
    (hbody : ∀ (cdv : Value) (A : Around) (outer : List Env) (s : Shared) (H : Hp) (vs : List V) (Q : VK) (E : XK), Room k (A.deeper (envOfC qual (defScope st) s.heap.objs.size f cdv)) → sp vs H Q E →
      ∃ t, PSs (cxOf (L2.CX P w) P w K mg base N qual (defScope st) f cdv A outer s H E) (defBody st) t ∧ t { nx := fun _ H' => Q .non H', rt := Q } (start N vs) H) : FnG P w K mg base (k + 1) f ps sp := by
  obtain ⟨fd, F⟩ := F
  exact ⟨⟨fd, F.ok S len (fun cdv A outer s H vs Q E hr h => hbody cdv A outer s H vs Q E hr h), F.bindsN hb⟩, F.kp⟩
end
section
variable {X : Cx} {k : Nat} {f : Addr} {ps : List Str} {sp : Sp} {x : Str} {p pos : Pos} {e : Expr} {es : List Expr} {t : TA} {W : WX}
/-- a call that may raise -/
theorem pe_callSG (F : FnG X.prog X.w X.K X.mg X.base k f ps sp) (hr : Room k X.A) (hg : Gl X x) (hm : X.mg x = some (.ref f)) (tk : Takes X W) (ha : PA X (e :: es) t)
    (hdb : (x == ("__debug__" : Str)) = false := by decide) (hst : starEach (e :: es) X.env = (false, eval e X.env) :: starEach es X.env := by rfl) (hpl : (backTo pos (starEach es X.env)).any (·.1) = false := by rfl) :
    PE X (.Call (.Name x p) (e :: es) [] pos) (tCallS sp (WE W) t) := by
  obtain ⟨⟨fd, F, B⟩, kp⟩ := F
  exact pe_callS F hr hg hm kp B (fun σ => passAt tk σ) ha hdb hst hpl
end
end WD
end
section
set_option Elab.async false
set_option linter.all false
set_option maxRecDepth 100000
set_option maxHeartbeats 4000000
namespace L2
open PySem PySem.Spec PyProof.Rows
section
variable {X : Cx}
/-- list(range(a, b, c)), c below 0: a, a + c .. -/
def tListRg3 (ta : TA) : TE := fun σ H Q => ta σ H fun vs H1 => ∃ (i j c : Int) (n : Nat), vs = [.int i, .int j, .int c] ∧ RgC i j c n ∧ n ≤ 2 ^ 20 ∧ ∀ q, H1 q = none → Q (.ref q) (upd H1 q (.lst ((List.range n).map fun k => V.int (i + (k : Nat) * c))))
theorem pe_listRg3 {a b c : Expr} {ta : TA} {p p2 pos pos2 : Pos} (hc : X.calm = true) (hg : Gl X "list") (hm : X.mg "list" = none) (hg2 : Gl X "range") (hm2 : X.mg "range" = none) (ha : PA X [a, b, c] ta)
    (hs : starEach [a, b, c] X.env = (false, eval a X.env) :: starEach [b, c] X.env := by rfl) (hpl : (backTo pos2 (starEach [b, c] X.env)).any (·.1) = false := by rfl)
    (hs2 : starEach [.Call (.Name "range" p2) [a, b, c] [] pos2] X.env = (false, eval (.Call (.Name "range" p2) [a, b, c] [] pos2) X.env) :: starEach [] X.env := by rfl) :
    PE X (.Call (.Name "list" p) [.Call (.Name "range" p2) [a, b, c] [] pos2] [] pos) (tListRg3 ta) := by
  refine ⟨fun pins s σ H Q I h => ?_⟩
  refine Call_ (ld_blt I hg hm boot_list (PyProof.Rows.callWith_type1 (args_cons (Call_ (ld_blt I hg2 hm2 boot_range (PyProof.Rows.callWith_type1 (thn (ha.run pos2 pins s σ H _ I h) fun us s1 ⟨vs, H1, I1, r1, q1⟩ => ?_) hs hpl))) hs2) hs2 rfl))
  obtain ⟨i, j, k, n, e, ⟨c0, c1, c2, c3⟩, hn, q⟩ := q1
  subst e
  cases r1 with
  | cons r rr =>
    cases rr with
    | cons r' rr =>
      cases rr with
      | cons r'' rr =>
        cases rr
        obtain ⟨t, rfl⟩ := r
        obtain ⟨t', rfl⟩ := r'
        obtain ⟨t'', rfl⟩ := r''
        refine call_range_3 c0 (args_nil ?_) (.inl (PyProof.noPylong_small c1))
        refine call_list_range (n := n) (I1.ok.hd hc) (IsRange.new ..) c2 c3 (Nat.le_trans hn (by decide)) fun h' tk acc cc hk e' hi => ?_
        have k0 : ∀ b o, s1.heap.get? b = some o → h'.get? b = some o := fun b o e => hk b o (Heap.get?_push_of_some _ e)
        refine ⟨.ref _, upd H1 _ (.lst ((List.range n).map fun m => V.int (i + (m : Nat) * k))), I1.laid (t' := tk) k0 (by rw [Heap.size_push]; omega) (show ObjOk X.prog X.w _ _ _ (.lst _) from ⟨?_, acc.toList, cc, ?_, ?_⟩), rfl, q _ (I1.hok.fresh (by rw [Heap.size_push]; omega))⟩
        · rw [List.length_map, List.length_range, sizeLine_eq]; omega
        · have el : acc.toList.length = n := by rw [Array.length_toList]; exact hi.1
          rw [← el]
          refine vals_of_get acc.toList _ fun m u hm => ?_
          obtain ⟨t, rfl⟩ := hi.2 m u (by rw [← hm, Array.getElem?_toList])
          exact ⟨t, rfl⟩
        · rw [Array.toArray_toList]; exact e'
/-- x in (.., ..), data of any depth in a tuple -/
def rInDT (K : PySem.W.Frag) : R2 := fun x y H Q => ∃ d ds, Dp K H x d ∧ Dp K H y (.tuple ds) ∧ PyData.canLay0 d = true ∧ PyData.canLayAll0 ds = true ∧ PyData.depthAll ds ≤ 60 ∧ Q (.bl (ds.any fun z => PyData.eqv z d)) H
theorem op_inDT (hu : X.A.units + 64 < cLine) : OpR X (compareOp .In) (rInDT X.K) := by
  intro pins s σ H x y v u Q I rx ry h
  obtain ⟨d, ds, hd, he, sd, se, hdp, q⟩ := h
  obtain ⟨as, r1⟩ := Dp.reads I d x v hd rx
  obtain ⟨bs, r2⟩ := Dp.reads I (.tuple ds) y u he ry
  exact SeqAt.in_tuple_reads r2 r1 se sd (by omega) ⟨.bl _, H, I, rfl, q⟩
/-- a + b, a an instance with an __add__ of the text -/
def rAddO (C : Addr) (sp : Sp) (E : XK) : R2 := fun x y H Q => ∃ a b dx dy fs gs, x = .ref a ∧ y = .ref b ∧ H a = some (.ins C dx fs) ∧ H b = some (.ins C dy gs) ∧ sp [.ref a, .ref b] H (fun v H' => ∃ c, v = .ref c ∧ Q (.ref c) H') E
section
variable {CX : CXT} {C f : Addr} {fd : FuncData} {ps : List Str} {sp : Sp} {n : Nat} {pins : List (Addr × Obj)} {s : Shared} {σ : St} {H : Hp} {E : XK}
theorem run_addO (F : FnOk X.prog X.w X.K X.mg X.base CX n f fd ps sp) (hm : Meth X.K C "__add__" f) (hsf : PySem.W.selfFirst X.K C = true) (hb : Binds X.K fd ps []) (hx : PassesAt CX X σ E) (hr : Room n X.A)
    {a b dx dy : Addr} {fs gs : List (Str × V)} {Q : VK} (I : Inv X pins σ H s) (ha : H a = some (.ins C dx fs)) (hb' : H b = some (.ins C dy gs)) (hsp : sp [.ref a, .ref b] H (fun v H' => ∃ c, v = .ref c ∧ Q (.ref c) H') E) :
    wpAny (model X.prog X.w) X.A (binaryOp .Add (.ref a) (.ref b)) (EP X pins σ Q) X.xe s := by
  obtain ⟨mA, J, _⟩ := ins_get I.hok ha
  obtain ⟨mB, J', _⟩ := ins_get I.hok hb'
  obtain ⟨od, J, _⟩ := J.look
  obtain ⟨od', J', _⟩ := J'.look
  obtain ⟨m, hF⟩ := I.fr
  refine PySem.W.binop_K (op := .Add) hF I.ok.mod.kin J J'.type hsf hm.at_ hm.fn ?_
  refine wpAny_mono (run_fnS (E := fun _ => E) F hr hb hx I (.cons (show RelV (.ref a) (.ref a) from rfl) (.cons (show RelV (.ref b) (.ref b) from rfl) .nil)) hsp) (fun v s' z => ?_) fun _ _ x => x
  obtain ⟨w, H', I', rw', c, rfl, q⟩ := z
  cases rw'
  exact ⟨.ref c, H', I', rfl, q⟩
end
section
variable {C f : Addr} {ps : List Str} {sp : Sp} {n : Nat} {e1 e2 : Expr} {ta tb : TE} {pos : Pos} {W : WX}
theorem addO_of (F : WD.FnG X.prog X.w X.K X.mg X.base n f ps sp) (hm : Meth X.K C "__add__" f) (hsf : PySem.W.selfFirst X.K C = true) (hr : Room n X.A) : OpR X (binaryOp .Add) (rAddO C sp E0) := by
  obtain ⟨⟨fd, F, B⟩, kp⟩ := F
  intro pins s σ H x y v u Q I rx ry h
  obtain ⟨a, b, dx, dy, fs, gs, rfl, rfl, ha, hb', hsp⟩ := h
  cases rx
  cases ry
  exact run_addO F hm hsf B (fun pins H s e s' I c => passL pins σ H s e s' I c) hr I ha hb' hsp
def tMakeX (C : Addr) (sp : Sp) (E : St → XK) (t : TA) : TE := fun σ H Q => t σ H fun vs H1 => ∀ x dx, H1 x = none → H1 dx = none → dx ≠ x → sp (.ref x :: vs) (upd (upd H1 dx (.own x)) x (.ins C dx [])) (fun v H2 => v = .non ∧ Q (.ref x) H2) (E σ)
theorem run_makeS {CX : CXT} {fd : FuncData} {pins : List (Addr × Obj)} {σ : St} {H : Hp} {s : Shared} {Q : VK} {E : XK} {us : List Value} {vs : List V} (M : Mk X.K C f) (F : FnOk X.prog X.w X.K X.mg X.base CX n f fd ps sp) (hr : Room (n + 1) X.A) (hb : Binds X.K fd ps [])
    (hx : PassesAt CX X σ E) (I : Inv X pins σ H s) (r : Vals vs us)
    (h : ∀ x dx, H x = none → H dx = none → dx ≠ x → sp (.ref x :: vs) (upd (upd H dx (.own x)) x (.ins C dx [])) (fun v H2 => v = .non ∧ Q (.ref x) H2) E) :
    wpAny (model X.prog X.w) X.A (call (.ref C) us) (EP X pins σ Q) X.xe s := by
  have hq := h (s.heap.objs.size + 1) s.heap.objs.size (I.hok.fresh (Nat.le_succ _)) (I.hok.fresh (Nat.le_refl _)) (Nat.ne_of_lt (Nat.lt_succ_self _))
  have I2 := Inv.made (C := C) I
  have r2 : Vals (V.ref (s.heap.objs.size + 1) :: vs) (Value.ref (s.heap.objs.size + 1) :: us) := .cons rfl r
  have hl : (Value.ref (s.heap.objs.size + 1) :: us).length = ps.length := by
    have e := r2.length
    rw [F.len _ _ _ _ hq] at e
    exact e.symm
  refine wpAny_call (make_map (f := f) I.kIn M.makes M.init (beq_iff_eq.mp M.fn) (codeAny_mono (F.run _ X.stack _ _ ⟨Value.ref (s.heap.objs.size + 1) :: us, []⟩ (Value.ref (s.heap.objs.size + 1) :: us) _ _ E (hr.make C us [])
    (I2.env0.make C us []) (by
      have b := hb _ (Value.ref (s.heap.objs.size + 1) :: us) I2.kIn (by rw [List.append_nil]; exact hl)
      rw [List.append_nil] at b
      exact b) r2 hq) fun r s' hq' => ?_))
  cases r with
  | error e => exact hx pins _ _ e s' I2 hq'
  | ok fl =>
    cases fl with
    | ret u =>
      obtain ⟨v, H', I3, rv, ev, q3⟩ := I2.after hq'
      subst ev
      exact ⟨rv, ⟨V.ref (s.heap.objs.size + 1), H', I3, rfl, q3⟩⟩
    | next => exact False.elim hq'
    | brk => exact False.elim hq'
    | cont => exact False.elim hq'
theorem pe_makeSG {e : Expr} {es : List Expr} {x : Str} {p : Pos} {t : TA} (M : Mk X.K C f) (F : WD.FnG X.prog X.w X.K X.mg X.base n f ps sp) (hr : Room (n + 1) X.A) (hg : Gl X x) (hm : X.mg x = some (.ref C)) (tk : Takes X W) (ha : PA X (e :: es) t)
    (hdb : (x == ("__debug__" : Str)) = false := by decide) (he : starEach (e :: es) X.env = (false, eval e X.env) :: starEach es X.env := by rfl) (hpl : (backTo pos (starEach es X.env)).any (·.1) = false := by rfl) :
    PE X (.Call (.Name x p) (e :: es) [] pos) (tMakeX C sp (WE W) t) := by
  obtain ⟨⟨fd, F, B⟩, kp⟩ := F
  refine ⟨fun pins s σ H Q I h => ?_⟩
  refine wpAny_Call_Name_kw (ld_glob I hg hm ?_ hdb)
  refine PySem.W.callWith_K (h₀ := X.base) I.ok.mod.kin M.kp (thn (ha.run pos pins s σ H _ I h) fun us s1 ⟨vs, H1, I1, r, q⟩ => ⟨I1.kIn, ?_⟩) he hpl
  exact run_makeS M F hr B (passAt tk σ) I1 r q
end
end
end L2
end
section
set_option Elab.async false
set_option linter.all false
set_option maxRecDepth 100000
namespace PM
open PySem L2 Evl
/-- what is known of the module, and the world (for what texts hash to) -/
structure Kw where
  K : PySem.W.Frag
  w : World
instance : CoeOut Kw PySem.W.Frag := ⟨Kw.K⟩
abbrev _root_.L2.Cx.kw (X : L2.Cx) : Kw := ⟨X.K, X.w⟩
inductive D where
  | non | bl (b : Bool) | int (i : Int) | str (x : Str)
  | tup (ds : List D) | lst (ds : List D) | obj (c : Str) (fs : List (Str × D)) | ptr (n : Nat) | scr (ns : List Int)
  | dic (ks vs : List D)
instance : Inhabited D := ⟨.non⟩
inductive Cell where
  | lst (ds : List D) | obj (c : Str) (fs : List (Str × D)) | dead | dic (kvs : List (Key × D)) | dct (ks vs : List D)
abbrev Sto := List Cell
/-- an exception: its class, its one field -/
structure Er where
  cls : Str
  arg : Option (Str × D)
inductive Out (α : Type) where
  | ok (a : α) (s : Sto) | er (x : Er) (s : Sto) | no
abbrev M (α : Type) := Sto → Out α
def ret {α : Type} (a : α) : M α := fun s => .ok a s
def Out.then {α β : Type} (o : Out α) (f : α → M β) : Out β := match o with
  | .ok a s => f a s
  | .er x s => .er x s
  | .no => .no
def bind {α β : Type} (m : M α) (f : α → M β) : M β := fun s => (m s).then f
def stuck {α : Type} : M α := fun _ => .no
structure Env where
  sl : List (Option D)
  ex : Option (Nat × Er)
inductive SO where
  | nx (e : Env) (s : Sto) | rt (d : D) (s : Sto) | bk (e : Env) (s : Sto) | ct (e : Env) (s : Sto) | er (x : Er) (e : Env) (s : Sto) | no
abbrev Stm := Env → Sto → SO
@[simp] theorem ret_ap {α : Type} (a : α) (s : Sto) : ret a s = .ok a s := rfl
@[simp] theorem bind_ap {α β : Type} (m : M α) (f : α → M β) (s : Sto) : bind m f s = (m s).then f := rfl
@[simp] theorem then_ok {α β : Type} (a : α) (s : Sto) (f : α → M β) : (Out.ok a s).then f = f a s := rfl
@[simp] theorem then_er {α β : Type} (x : Er) (s : Sto) (f : α → M β) : (Out.er x s).then f = .er x s := rfl
@[simp] theorem then_no {α β : Type} (f : α → M β) : (Out.no : Out α).then f = .no := rfl
@[simp] theorem stuck_ap {α : Type} (s : Sto) : (stuck : M α) s = .no := rfl
def Out.sat {α : Type} (o : Out α) (P : α → Sto → Prop) (E : Er → Sto → Prop) : Prop := match o with
  | .ok a s => P a s
  | .er x s => E x s
  | .no => False
theorem sat_then {α β : Type} {o : Out α} {f : α → M β} {P : β → Sto → Prop} {E : Er → Sto → Prop} : (o.then f).sat P E ↔ o.sat (fun a s => (f a s).sat P E) E := by
  cases o <;> exact Iff.rfl
theorem Out.sat.imp {α : Type} {o : Out α} {P P' : α → Sto → Prop} {E E' : Er → Sto → Prop} (h : o.sat P E) (hp : ∀ a s, P a s → P' a s) (he : ∀ x s, E x s → E' x s) : o.sat P' E' := by
  cases o with
  | ok a s => exact hp a s h
  | er x s => exact he x s h
  | no => exact h
def SO.sat (o : SO) (N : Env → Sto → Prop) (R : D → Sto → Prop) (B C : Env → Sto → Prop) (E : Er → Env → Sto → Prop) : Prop := match o with
  | .nx e s => N e s
  | .rt d s => R d s
  | .bk e s => B e s
  | .ct e s => C e s
  | .er x e s => E x e s
  | .no => False
theorem SO.sat.imp {o : SO} {N N' B B' C C' : Env → Sto → Prop} {R R' : D → Sto → Prop} {E E' : Er → Env → Sto → Prop} (h : o.sat N R B C E) (hn : ∀ e s, N e s → N' e s) (hr : ∀ d s, R d s → R' d s) (hb : ∀ e s, B e s → B' e s) (hc : ∀ e s, C e s → C' e s) (he : ∀ x e s, E x e s → E' x e s) : o.sat N' R' B' C' E' := by
  cases o with
  | nx e s => exact hn e s h
  | rt d s => exact hr d s h
  | bk e s => exact hb e s h
  | ct e s => exact hc e s h
  | er x e s => exact he x e s h
  | no => exact h
/-- F: what is known and stays; B: where the cells stand; U: what stands there and is nobody's business -/
structure Wd where
  F : Hp
  B : List Addr
  U : Hp
structure Wd.le (w w' : Wd) : Prop where
  f : Ex w.F w'.F
  b : w.B <+: w'.B
  u : w'.U = w.U
theorem Wd.le.refl (w : Wd) : w.le w := ⟨Ex.refl _, List.prefix_rfl, rfl⟩
theorem Wd.le.trans {a b c : Wd} (h : a.le b) (g : b.le c) : a.le c := ⟨h.f.trans g.f, h.b.trans g.b, g.u.trans h.u⟩
mutual
def D.nk : D → NestedKey
  | .int i => .num i
  | .str x => .text x
  | .tup ds => .tup (D.nks ds)
  | _ => .none
def D.nks : List D → List NestedKey
  | [] => []
  | d :: ds => D.nk d :: D.nks ds
end
mutual
def D.nok : D → Bool
  | .int _ => true
  | .str _ => true
  | .non => true
  | .tup ds => D.noks ds
  | _ => false
def D.noks : List D → Bool
  | [] => true
  | d :: ds => D.nok d && D.noks ds
end
/-- a key that is a tuple -/
def D.tok : D → Bool
  | .tup ds => D.noks ds && decide (NestedKey.depth (D.nk (.tup ds)) ≤ 8)
  | _ => false
def kD : Key → D
  | .inl i => .int i
  | .inr x => .str x
def entN (W : World) (x : NestedKey × Addr × Value) : DictEntry := ⟨x.1.hash W, .ref x.2.1, x.2.2⟩
/-- a dict whose keys are tuples of any depth -/
def DNo (W : World) (a : Addr) (xs : List (NestedKey × Addr × Value)) : HO := .ext fun h => xs.length ≤ sizeLine ∧ (a == sysModules) = false ∧ (xs.map (·.1)).Nodup ∧ ∃ o es ep, h.get? a = some o ∧ o.ExactDict ∧ o.data = .dict es ep ∧ es.toList = xs.map (entN W)
mutual
inductive VR (K : Kw) (w : Wd) : V → D → Prop
  | non : VR K w .non .non
  | bl (b : Bool) : VR K w (.bl b) (.bl b)
  | int (i : Int) : VR K w (.int i) (.int i)
  | str (x : Str) : VR K w (.str x) (.str x)
  | tup {a : Addr} {xs : List V} {ds : List D} : SqT K w.F a xs → VRs K w xs ds → VR K w (.ref a) (.tup ds)
  | lst {a : Addr} {xs : List V} {ds : List D} : w.F a = some (.lst xs) → VRs K w xs ds → VR K w (.ref a) (.lst ds)
  | scr {a : Addr} {ns : List Int} : Rd w.F a (.lst (ns.map V.int)) → VR K w (.ref a) (.scr ns)
  | obj {a dx : Addr} {c : Str} {fvs : List (Str × V)} {fs : List (Str × D)} : w.F a = some (.ins (He.ga K c) dx fvs) → VRf K w fvs fs → VR K w (.ref a) (.obj c fs)
  | ptr {a : Addr} {n : Nat} : w.B[n]? = some a → VR K w (.ref a) (.ptr n)
  | dic {a : Addr} {od : Obj} {u : HO} {ks vs : List D} : w.F a = some (.frz od u) → VRd K w a u ks vs → VR K w (.ref a) (.dic ks vs)
inductive VRd (K : Kw) (w : Wd) : Addr → HO → List D → List D → Prop
  | k {a : Addr} {kvs : List (Key × V)} {vs : List D} : VRs K w (kvs.map (·.2)) vs → VRd K w a (.dK kvs) (kvs.map fun p => kD p.1) vs
  | n {a : Addr} {xs : List (NestedKey × Addr × Value)} {ys : List V} {ks vs : List D} : xs ≠ [] → VRs K w (xs.map fun x => V.ref x.2.1) ks → (ks.all D.tok = true) → xs.map (·.1) = ks.map D.nk → VRs K w ys vs → Vals ys (xs.map (·.2.2)) → VRd K w a (DNo K.w a xs) ks vs
inductive VRs (K : Kw) (w : Wd) : List V → List D → Prop
  | nil : VRs K w [] []
  | cons {v : V} {vs : List V} {d : D} {ds : List D} : VR K w v d → VRs K w vs ds → VRs K w (v :: vs) (d :: ds)
inductive VRf (K : Kw) (w : Wd) : List (Str × V) → List (Str × D) → Prop
  | nil : VRf K w [] []
  | cons {n : Str} {v : V} {vs : List (Str × V)} {d : D} {ds : List (Str × D)} : VR K w v d → VRf K w vs ds → VRf K w ((n, v) :: vs) ((n, d) :: ds)
end
section
variable {K : Kw} {w w' : Wd}
theorem pre_get {α : Type} {l l' : List α} {n : Nat} {a : α} (h : l <+: l') (e : l[n]? = some a) : l'[n]? = some a := by
  obtain ⟨r, rfl⟩ := h
  rw [List.getElem?_append_left (List.getElem?_eq_some_iff.mp e).1]
  exact e
mutual
theorem VR.up (e : w.le w') : ∀ {v : V} {d : D}, VR K w v d → VR K w' v d
  | _, _, .non => .non
  | _, _, .bl b => .bl b
  | _, _, .int i => .int i
  | _, _, .str x => .str x
  | _, _, .tup h a => .tup (ex_t e.f h) (VRs.up e a)
  | _, _, .lst h a => .lst (e.f _ _ h) (VRs.up e a)
  | _, _, .scr h => .scr (ex_rd e.f h)
  | _, _, .obj h a => .obj (e.f _ _ h) (VRf.up e a)
  | _, _, .ptr h => .ptr (pre_get e.b h)
  | _, _, .dic h a => .dic (e.f _ _ h) (VRd.up e a)
theorem VRd.up (e : w.le w') : ∀ {a : Addr} {u : HO} {ks vs : List D}, VRd K w a u ks vs → VRd K w' a u ks vs
  | _, _, _, _, .k h => .k (VRs.up e h)
  | _, _, _, _, .n h0 h1 h2 h3 h4 h5 => .n h0 (VRs.up e h1) h2 h3 (VRs.up e h4) h5
theorem VRs.up (e : w.le w') : ∀ {v : List V} {d : List D}, VRs K w v d → VRs K w' v d
  | _, _, .nil => .nil
  | _, _, .cons h a => .cons (VR.up e h) (VRs.up e a)
theorem VRf.up (e : w.le w') : ∀ {v : List (Str × V)} {d : List (Str × D)}, VRf K w v d → VRf K w' v d
  | _, _, .nil => .nil
  | _, _, .cons h a => .cons (VR.up e h) (VRf.up e a)
end
theorem nd_ix {α : Type} : ∀ {l : List α} {i j : Nat} {a : α}, l.Nodup → l[i]? = some a → l[j]? = some a → i = j
  | [], _, _, _, _, h, _ => by simp at h
  | x :: l, 0, 0, _, _, _, _ => rfl
  | x :: l, 0, j + 1, a, n, h, g => by
    simp at h g
    subst h
    exact absurd (List.mem_of_getElem? g) (List.nodup_cons.mp n).1
  | x :: l, i + 1, 0, a, n, h, g => by
    simp at h g
    subst g
    exact absurd (List.mem_of_getElem? h) (List.nodup_cons.mp n).1
  | x :: l, i + 1, j + 1, a, n, h, g => congrArg Nat.succ (nd_ix (List.nodup_cons.mp n).2 (by simpa using h) (by simpa using g))
theorem VRs.len : ∀ {vs : List V} {ds : List D}, VRs K w vs ds → vs.length = ds.length
  | _, _, .nil => rfl
  | _, _, .cons _ a => congrArg Nat.succ (VRs.len a)
theorem VRs.get : ∀ {vs : List V} {ds : List D} {i : Nat} {d : D}, VRs K w vs ds → ds[i]? = some d → ∃ v, vs[i]? = some v ∧ VR K w v d
  | _, _, _, _, .nil, h => by simp at h
  | _, _, 0, _, .cons h _, e => by
    simp at e
    subst e
    exact ⟨_, rfl, h⟩
  | _, _, i + 1, _, .cons _ a, e => by
    obtain ⟨v, h1, h2⟩ := VRs.get (i := i) a (by simpa using e)
    exact ⟨v, by simpa using h1, h2⟩
theorem VRs.app : ∀ {vs ws : List V} {ds es : List D}, VRs K w vs ds → VRs K w ws es → VRs K w (vs ++ ws) (ds ++ es)
  | _, _, _, _, .nil, b => b
  | _, _, _, _, .cons h a, b => .cons h (VRs.app a b)
theorem VRs.one {v : V} {d : D} (h : VR K w v d) : VRs K w [v] [d] := .cons h .nil
theorem VRs.drop : ∀ {vs : List V} {ds : List D} (n : Nat), VRs K w vs ds → VRs K w (vs.drop n) (ds.drop n)
  | _, _, 0, h => h
  | _, _, _ + 1, .nil => .nil
  | _, _, n + 1, .cons _ a => VRs.drop n a
theorem VRs.take : ∀ {vs : List V} {ds : List D} (n : Nat), VRs K w vs ds → VRs K w (vs.take n) (ds.take n)
  | _, _, 0, _ => .nil
  | _, _, _ + 1, .nil => .nil
  | _, _, n + 1, .cons h a => .cons h (VRs.take n a)
theorem VRs.set {v : V} {d : D} (h : VR K w v d) : ∀ {vs : List V} {ds : List D} (n : Nat), VRs K w vs ds → VRs K w (vs.set n v) (ds.set n d)
  | _, _, _, .nil => .nil
  | _, _, 0, .cons _ a => .cons h a
  | _, _, n + 1, .cons g a => .cons g (VRs.set h n a)
theorem VRs.rep : ∀ {vs : List V} {ds : List D} (n : Nat), VRs K w vs ds → VRs K w (List.replicate n vs).flatten (List.replicate n ds).flatten
  | _, _, 0, _ => .nil
  | _, _, n + 1, h => by
    rw [List.replicate_succ, List.replicate_succ, List.flatten_cons, List.flatten_cons]
    exact h.app (VRs.rep n h)
theorem VRs.rev {vs : List V} {ds : List D} (h : VRs K w vs ds) : VRs K w vs.reverse ds.reverse := by
  induction h using VRs.rec (motive_1 := fun _ _ _ => True) (motive_2 := fun _ _ _ _ _ => True) (motive_4 := fun _ _ _ => True) with
  | nil => exact .nil
  | cons h a _ ih =>
    rw [List.reverse_cons, List.reverse_cons]
    exact ih.app (.one h)
  | _ => trivial
theorem VRs.ints : ∀ (ns : List Int), VRs K w (ns.map V.int) (ns.map D.int)
  | [] => .nil
  | n :: ns => .cons (.int n) (VRs.ints ns)
theorem VRf.look {f : Str} {d : D} : ∀ {vs : List (Str × V)} {ds : List (Str × D)}, VRf K w vs ds → ds.lookup f = some d → ∃ v, vs.lookup f = some v ∧ VR K w v d
  | _, _, .nil, h => by simp at h
  | _, _, .cons (n := n) h a, e => by
    rw [List.lookup_cons] at e ⊢
    cases q : (f == n) with
    | true =>
      rw [q] at e
      cases e
      exact ⟨_, rfl, h⟩
    | false =>
      rw [q] at e
      exact VRf.look a e
theorem VRf.none {f : Str} : ∀ {vs : List (Str × V)} {ds : List (Str × D)}, VRf K w vs ds → ds.lookup f = none → vs.lookup f = none
  | _, _, .nil, _ => rfl
  | _, _, .cons (n := n) h a, e => by
    rw [List.lookup_cons] at e ⊢
    cases q : (f == n) with
    | true =>
      rw [q] at e
      cases e
    | false =>
      rw [q] at e
      exact VRf.none a e
theorem VRf.len : ∀ {vs : List (Str × V)} {ds : List (Str × D)}, VRf K w vs ds → vs.length = ds.length
  | _, _, .nil => rfl
  | _, _, .cons _ a => congrArg Nat.succ (VRf.len a)
def putD (f : Str) (v : D) : List (Str × D) → List (Str × D)
  | [] => [(f, v)]
  | (g, x) :: r => if g = f then (g, v) :: r else (g, x) :: putD f v r
theorem VRf.put {f : Str} {v : V} {d : D} (h : VR K w v d) : ∀ {vs : List (Str × V)} {ds : List (Str × D)}, VRf K w vs ds → VRf K w (putF f v vs) (putD f d ds)
  | _, _, .nil => .cons h .nil
  | _, _, .cons (n := n) g a => by
    unfold putF putD
    by_cases e : n = f
    · rw [if_pos e, if_pos e]
      exact .cons h a
    · rw [if_neg e, if_neg e]
      exact .cons g (VRf.put h a)
end
/-- what is hidden does not matter to values -/
structure Wd.eqv (w w' : Wd) : Prop where
  f : w'.F = w.F
  b : w'.B = w.B
section
variable {K : Kw} {w w' : Wd}
mutual
theorem VR.via (e : w.eqv w') : ∀ {v : V} {d : D}, VR K w v d → VR K w' v d
  | _, _, .non => .non
  | _, _, .bl b => .bl b
  | _, _, .int i => .int i
  | _, _, .str x => .str x
  | _, _, .tup h a => .tup (e.f ▸ h) (VRs.via e a)
  | _, _, .lst h a => .lst (e.f ▸ h) (VRs.via e a)
  | _, _, .scr h => .scr (e.f ▸ h)
  | _, _, .obj h a => .obj (e.f ▸ h) (VRf.via e a)
  | _, _, .ptr h => .ptr (e.b ▸ h)
  | _, _, .dic h a => .dic (e.f ▸ h) (VRd.via e a)
theorem VRd.via (e : w.eqv w') : ∀ {a : Addr} {u : HO} {ks vs : List D}, VRd K w a u ks vs → VRd K w' a u ks vs
  | _, _, _, _, .k h => .k (VRs.via e h)
  | _, _, _, _, .n h0 h1 h2 h3 h4 h5 => .n h0 (VRs.via e h1) h2 h3 (VRs.via e h4) h5
theorem VRs.via (e : w.eqv w') : ∀ {v : List V} {d : List D}, VRs K w v d → VRs K w' v d
  | _, _, .nil => .nil
  | _, _, .cons h a => .cons (VR.via e h) (VRs.via e a)
theorem VRf.via (e : w.eqv w') : ∀ {v : List (Str × V)} {d : List (Str × D)}, VRf K w v d → VRf K w' v d
  | _, _, .nil => .nil
  | _, _, .cons h a => .cons (VR.via e h) (VRf.via e a)
end
end
def Cell.live : Cell → Bool
  | .dead => false
  | _ => true
def CellOk (K : Kw) (w : Wd) (H : Hp) (a : Addr) : Cell → Prop
  | .lst ds => ∃ xs, H a = some (.lst xs) ∧ VRs K w xs ds
  | .obj c fs => ∃ dx fvs, H a = some (.ins (He.ga K c) dx fvs) ∧ VRf K w fvs fs
  | .dead => True
  | .dct ks vs => ∃ u, H a = some u ∧ VRd K w a u ks vs
  | .dic kvs => ∃ vs : List (Key × V), H a = some (.dK vs) ∧ vs.map (·.1) = kvs.map (·.1) ∧ VRs K w (vs.map (·.2)) (kvs.map (·.2))
structure Rel (K : Kw) (w : Wd) (S : Sto) (H : Hp) : Prop where
  ex : Ex w.F H
  len : w.B.length = S.length
  nd : w.B.Nodup
  used : ∀ a ∈ w.B, ∃ o, H a = some o
  cell : ∀ (n : Nat) (a : Addr) (c : Cell), w.B[n]? = some a → S[n]? = some c → c.live = true → w.F a = none ∧ CellOk K w H a c
  hid : ∀ (a : Addr) (o : HO), w.U a = some o → H a = some o ∧ w.F a = none ∧ a ∉ w.B
section
variable {K : Kw} {w w' : Wd} {S : Sto} {H H' : Hp}
theorem CellOk.up {a : Addr} {c : Cell} (e : w.le w') (h : CellOk K w H a c) (hh : H' a = H a) : CellOk K w' H' a c := by
  cases c with
  | lst ds =>
    obtain ⟨xs, h1, h2⟩ := h
    exact ⟨xs, hh.trans h1, h2.up e⟩
  | obj c fs =>
    obtain ⟨dx, fvs, h1, h2⟩ := h
    exact ⟨dx, fvs, hh.trans h1, h2.up e⟩
  | dic kvs =>
    obtain ⟨vs, h1, h2, h3⟩ := h
    exact ⟨vs, hh.trans h1, h2, h3.up e⟩
  | dct ks vs =>
    obtain ⟨u, h1, h2⟩ := h
    exact ⟨u, hh.trans h1, h2.up e⟩
  | dead => trivial
theorem CellOk.via {a : Addr} {c : Cell} (e : w.eqv w') (h : CellOk K w H a c) (hh : H' a = H a) : CellOk K w' H' a c := by
  cases c with
  | lst ds =>
    obtain ⟨xs, h1, h2⟩ := h
    exact ⟨xs, hh.trans h1, h2.via e⟩
  | obj c fs =>
    obtain ⟨dx, fvs, h1, h2⟩ := h
    exact ⟨dx, fvs, hh.trans h1, h2.via e⟩
  | dic kvs =>
    obtain ⟨vs, h1, h2, h3⟩ := h
    exact ⟨vs, hh.trans h1, h2, h3.via e⟩
  | dct ks vs =>
    obtain ⟨u, h1, h2⟩ := h
    exact ⟨u, hh.trans h1, h2.via e⟩
  | dead => trivial
/-- the known part grows by an object at p, new -/
def Wd.plus (w : Wd) (p : Addr) (o : HO) : Wd := ⟨upd w.F p o, w.B, w.U⟩
theorem Rel.fresh (r : Rel K w S H) {p : Addr} (h : H p = none) : w.F p = none := fresh_back r.ex h
theorem Wd.le_plus {p : Addr} {o : HO} (h : w.F p = none) : w.le (w.plus p o) := ⟨Ex.new h, List.prefix_rfl, rfl⟩
theorem Rel.plus (r : Rel K w S H) {p : Addr} {o : HO} (h : H p = none) : w.le (w.plus p o) ∧ Rel K (w.plus p o) S (upd H p o) := by
  have hF := r.fresh h
  have le : w.le (w.plus p o) := Wd.le_plus hF
  refine ⟨le, ?_, r.len, r.nd, fun a ha => ?_, fun n a c h1 h2 h3 => ?_, fun a u hu => by
    obtain ⟨k1, k2, k3⟩ := r.hid a u hu
    have ne : a ≠ p := ne_of_none k1 h
    exact ⟨by rw [upd_ne ne]; exact k1, show upd w.F p o a = none by rw [upd_ne ne]; exact k2, k3⟩⟩
  · intro a u e
    by_cases q : a = p
    · subst q
      have : upd w.F a o a = some u := e
      rw [upd_same] at this
      rw [upd_same]
      exact this
    · have : upd w.F p o a = some u := e
      rw [upd_ne q] at this
      rw [upd_ne q]
      exact r.ex a u this
  · obtain ⟨u, hu⟩ := r.used a ha
    exact ⟨u, by rw [upd_ne (ne_of_none hu h)]; exact hu⟩
  · obtain ⟨g1, g2⟩ := r.cell n a c h1 h2 h3
    obtain ⟨u, hu⟩ := r.used a (List.mem_of_getElem? h1)
    have ne : a ≠ p := ne_of_none hu h
    exact ⟨show upd w.F p o a = none by rw [upd_ne ne]; exact g1, g2.up le (upd_ne ne)⟩
/-- the heap grows by things that nobody speaks of -/
theorem Rel.grow (r : Rel K w S H) (e : Ex H H') : Rel K w S H' := by
  refine ⟨r.ex.trans e, r.len, r.nd, fun a ha => ?_, fun n a c h1 h2 h3 => ?_, fun a u hu => ⟨e a u (r.hid a u hu).1, (r.hid a u hu).2⟩⟩
  · obtain ⟨u, hu⟩ := r.used a ha
    exact ⟨u, e a u hu⟩
  · obtain ⟨g1, g2⟩ := r.cell n a c h1 h2 h3
    obtain ⟨u, hu⟩ := r.used a (List.mem_of_getElem? h1)
    exact ⟨g1, g2.up (Wd.le.refl w) ((e a u hu).trans hu.symm)⟩
/-- a new cell -/
def Wd.cell (w : Wd) (p : Addr) : Wd := ⟨w.F, w.B ++ [p], w.U⟩
theorem Wd.le_cell {p : Addr} : w.le (w.cell p) := ⟨Ex.refl _, List.prefix_append _ _, rfl⟩
theorem Rel.newcell (r : Rel K w S H) {p : Addr} {o : HO} {c : Cell} (h : H p = none) (hc : CellOk K w (upd H p o) p c) : Rel K (w.cell p) (S ++ [c]) (upd H p o) := by
  have np : p ∉ w.B := fun hp => by
    obtain ⟨u, hu⟩ := r.used p hp
    rw [h] at hu
    cases hu
  refine ⟨fun a u e => ?_, by simp [Wd.cell, r.len], ?_, fun a ha => ?_, fun n a c' h1 h2 h3 => ?_, fun a u hu => by
    obtain ⟨k1, k2, k3⟩ := r.hid a u hu
    have ne : a ≠ p := ne_of_none k1 h
    exact ⟨by rw [upd_ne ne]; exact k1, k2, fun z => by
      rcases List.mem_append.mp (show a ∈ w.B ++ [p] from z) with z | z
      · exact k3 z
      · exact ne (List.mem_singleton.mp z)⟩⟩
  · have := r.ex a u e
    rw [upd_ne (ne_of_none this h)]
    exact this
  · exact List.nodup_append.mpr ⟨r.nd, by simp, fun a ha b hb => by
      rw [List.mem_singleton.mp hb]
      exact fun z => np (z ▸ ha)⟩
  · rcases List.mem_append.mp ha with ha | ha
    · obtain ⟨u, hu⟩ := r.used a ha
      exact ⟨u, by rw [upd_ne (ne_of_none hu h)]; exact hu⟩
    · rw [List.mem_singleton.mp ha]
      exact ⟨o, upd_same⟩
  · have h1' : (w.B ++ [p])[n]? = some a := h1
    by_cases hn : n < w.B.length
    · rw [List.getElem?_append_left hn] at h1'
      rw [List.getElem?_append_left (by rw [← r.len]; exact hn)] at h2
      obtain ⟨g1, g2⟩ := r.cell n a c' h1' h2 h3
      have ne : a ≠ p := fun z => np (z ▸ List.mem_of_getElem? h1')
      exact ⟨g1, g2.up Wd.le_cell (upd_ne ne)⟩
    · have e : n = w.B.length := by
        have := (List.getElem?_eq_some_iff.mp h1').1
        simp at this
        omega
      subst e
      rw [List.getElem?_append_right (Nat.le_refl _), Nat.sub_self] at h1'
      rw [List.getElem?_append_right (by rw [r.len]; exact Nat.le_refl _), r.len, Nat.sub_self] at h2
      cases h1'
      cases h2
      exact ⟨r.fresh h, hc.up Wd.le_cell rfl⟩
theorem cell_at (p : Addr) (r : Rel K w S H) : (w.cell p).B[S.length]? = some p := by
  show (w.B ++ [p])[S.length]? = some p
  rw [← r.len, List.getElem?_append_right (Nat.le_refl _), Nat.sub_self]
  rfl
/-- a cell is written -/
theorem Rel.put (r : Rel K w S H) {n : Nat} {a : Addr} {c0 c : Cell} {o : HO} (h1 : w.B[n]? = some a) (h2 : S[n]? = some c0) (h3 : c0.live = true) (hc : CellOk K w (upd H a o) a c) : Rel K w (S.set n c) (upd H a o) := by
  obtain ⟨f0, _⟩ := r.cell n a c0 h1 h2 h3
  refine ⟨fun b u e => ?_, by rw [r.len, List.length_set], r.nd, fun b hb => ?_, fun m b c' g1 g2 g3 => ?_, fun b u hu => by
    obtain ⟨k1, k2, k3⟩ := r.hid b u hu
    have ne : b ≠ a := fun z => k3 (z ▸ List.mem_of_getElem? h1)
    exact ⟨by rw [upd_ne ne]; exact k1, k2, k3⟩⟩
  · rw [upd_ne (ne_of_none e f0)]
    exact r.ex b u e
  · by_cases q : b = a
    · subst q
      exact ⟨o, upd_same⟩
    · obtain ⟨u, hu⟩ := r.used b hb
      exact ⟨u, by rw [upd_ne q]; exact hu⟩
  · by_cases q : m = n
    · subst q
      rw [h1] at g1
      cases g1
      rw [List.getElem?_set_self (List.getElem?_eq_some_iff.mp h2).1] at g2
      cases g2
      exact ⟨f0, hc⟩
    · rw [List.getElem?_set_ne (fun z => q z.symm)] at g2
      obtain ⟨k1, k2⟩ := r.cell m b c' g1 g2 g3
      have ne : b ≠ a := fun z => by
        subst z
        exact q (nd_ix r.nd g1 h1)
      exact ⟨k1, k2.up (Wd.le.refl w) (upd_ne ne)⟩
/-- a cell becomes known: never to be written again -/
theorem Rel.freeze (r : Rel K w S H) {n : Nat} {a : Addr} {c : Cell} {o : HO} (h1 : w.B[n]? = some a) (h2 : S[n]? = some c) (h3 : c.live = true) (ho : H a = some o) : w.le (w.plus a o) ∧ Rel K (w.plus a o) (S.set n .dead) H := by
  obtain ⟨f0, _⟩ := r.cell n a c h1 h2 h3
  have le : w.le (w.plus a o) := Wd.le_plus f0
  refine ⟨le, fun b u e => ?_, by rw [List.length_set]; exact r.len, r.nd, r.used, fun m b c' g1 g2 g3 => ?_, fun b u hu => by
    obtain ⟨k1, k2, k3⟩ := r.hid b u hu
    have ne : b ≠ a := fun z => k3 (z ▸ List.mem_of_getElem? h1)
    exact ⟨k1, show upd w.F a o b = none by rw [upd_ne ne]; exact k2, k3⟩⟩
  · have e' : upd w.F a o b = some u := e
    by_cases q : b = a
    · subst q
      rw [upd_same] at e'
      cases e'
      exact ho
    · rw [upd_ne q] at e'
      exact r.ex b u e'
  · by_cases q : m = n
    · subst q
      rw [List.getElem?_set_self (List.getElem?_eq_some_iff.mp h2).1] at g2
      cases g2
      cases g3
    · rw [List.getElem?_set_ne (fun z => q z.symm)] at g2
      obtain ⟨k1, k2⟩ := r.cell m b c' g1 g2 g3
      have ne : b ≠ a := fun z => by
        subst z
        exact q (nd_ix r.nd g1 h1)
      exact ⟨show upd w.F a o b = none by rw [upd_ne ne]; exact k1, k2.up le rfl⟩
/-- something hidden: it stands there, unknown -/
def Wd.hide (w : Wd) (p : Addr) (o : HO) : Wd := ⟨w.F, w.B, upd w.U p o⟩
theorem Rel.hide (r : Rel K w S H) {p : Addr} {o : HO} (h : H p = none) : Rel K (w.hide p o) S (upd H p o) := by
  have r2 := r.grow (Ex.new (o := o) h)
  refine ⟨r2.ex, r2.len, r2.nd, r2.used, fun n a c h1 h2 h3 => ⟨(r2.cell n a c h1 h2 h3).1, CellOk.via (w := w) (w' := w.hide p o) ⟨rfl, rfl⟩ (r2.cell n a c h1 h2 h3).2 rfl⟩, fun a u hu => ?_⟩
  by_cases q : a = p
  · subst q
    have : upd w.U a o a = some u := hu
    rw [upd_same] at this
    cases this
    exact ⟨upd_same, r.fresh h, fun z => by
      obtain ⟨v, hv⟩ := r.used a z
      rw [h] at hv
      cases hv⟩
  · have : upd w.U p o a = some u := hu
    rw [upd_ne q] at this
    exact r2.hid a u this
/-- .. it changes -/
theorem Rel.rehide {p : Addr} {o : HO} (r : Rel K (w.hide p o) S H) {o' : HO} : Rel K (w.hide p o') S (upd H p o') := by
  obtain ⟨k1, k2, k3⟩ := r.hid p o upd_same
  have nB : ∀ a ∈ w.B, a ≠ p := fun a ha z => k3 (z ▸ ha)
  refine ⟨fun a u e => ?_, r.len, r.nd, fun a ha => ?_, fun n a c h1 h2 h3 => ?_, fun a u hu => ?_⟩
  · rw [upd_ne (ne_of_none e k2)]
    exact r.ex a u e
  · obtain ⟨v, hv⟩ := r.used a ha
    exact ⟨v, by rw [upd_ne (nB a ha)]; exact hv⟩
  · obtain ⟨g1, g2⟩ := r.cell n a c h1 h2 h3
    exact ⟨g1, CellOk.via (w := w.hide p o) (w' := w.hide p o') ⟨rfl, rfl⟩ g2 (upd_ne (nB a (List.mem_of_getElem? h1)))⟩
  · by_cases q : a = p
    · subst q
      have : upd w.U a o' a = some u := hu
      rw [upd_same] at this
      cases this
      exact ⟨upd_same, k2, k3⟩
    · have e1 : upd w.U p o' a = some u := hu
      rw [upd_ne q] at e1
      obtain ⟨m1, m2, m3⟩ := r.hid a u (by show upd w.U p o a = some u; rw [upd_ne q]; exact e1)
      exact ⟨by rw [upd_ne q]; exact m1, m2, m3⟩
/-- .. it is let go of -/
theorem Rel.unhide {p : Addr} {o : HO} (r : Rel K (w.hide p o) S H) (hu : ∀ a u, w.U a = some u → a ≠ p) : Rel K w S H := 
  ⟨r.ex, r.len, r.nd, r.used, fun n a c h1 h2 h3 => ⟨(r.cell n a c h1 h2 h3).1, CellOk.via (w := w.hide p o) (w' := w) ⟨rfl, rfl⟩ (r.cell n a c h1 h2 h3).2 rfl⟩, fun a u h => r.hid a u (by show upd w.U p o a = some u; rw [upd_ne (hu a u h)]; exact h)⟩
end
end PM
end
section
set_option Elab.async false
set_option linter.all false
set_option maxRecDepth 100000
namespace PM
open PySem L2 Evl
/-- where a text is read: the module's facts, what is wished of an exception, the exception that a suite holds -/
structure Ct where
  K : Kw
  W : WX
  sx : Addr × Value × Option Addr
def ErR (K : Kw) (w : Wd) (x : Er) (c : Value) (dd : Option Addr) : Prop := c = .ref (He.ga K x.cls) ∧ match x.arg with
  | none => True
  | some (f, d) => ∃ a v, dd = some a ∧ w.F a = some (.xd [(f, v)]) ∧ VR K w v d
theorem ErR.up {K : Kw} {w w' : Wd} {x : Er} {c : Value} {dd : Option Addr} (e : w.le w') (h : ErR K w x c dd) : ErR K w' x c dd := by
  refine ⟨h.1, ?_⟩
  have h2 := h.2
  cases q : x.arg with
  | none => trivial
  | some p =>
    rw [q] at h2
    obtain ⟨a, v, h3, h4, h5⟩ := h2
    exact ⟨a, v, h3, e.f _ _ h4, h5.up e⟩
structure EnvR (C : Ct) (w : Wd) (σ : L2.St) (e : Env) : Prop where
  len : σ.length = e.sl.length
  sl : ∀ (i : Nat) (d : D), e.sl[i]? = some (some d) → ∃ v, σ[i]? = some (some v) ∧ VR C.K w v d
  ex : ∀ (i : Nat) (x : Er), e.ex = some (i, x) → σ[i]? = some (some (.ref C.sx.1)) ∧ ErR C.K w x C.sx.2.1 C.sx.2.2
theorem EnvR.up {C : Ct} {w w' : Wd} {σ : L2.St} {e : Env} (l : w.le w') (h : EnvR C w σ e) : EnvR C w' σ e := ⟨h.len, fun i d q => by
  obtain ⟨v, h1, h2⟩ := h.sl i d q
  exact ⟨v, h1, h2.up l⟩, fun i x q => ⟨(h.ex i x q).1, (h.ex i x q).2.up l⟩⟩
def PV (K : Kw) (w : Wd) (Q : VK) (d : D) (S : Sto) : Prop := ∀ (w' : Wd) (H' : Hp) (v : V), w.le w' → Rel K w' S H' → VR K w' v d → Q v H'
def PX (C : Ct) (w : Wd) (σ : L2.St) (x : Er) (S : Sto) : Prop := ∀ (w' : Wd) (H' : Hp) (c : Value) (dd : Option Addr), w.le w' → Rel C.K w' S H' → ErR C.K w' x c dd → C.W c dd σ H'
def PB (K : Kw) (w : Wd) (Q : Bool → Hp → Prop) (b : Bool) (S : Sto) : Prop := ∀ (w' : Wd) (H' : Hp), w.le w' → Rel K w' S H' → Q b H'
def PL (K : Kw) (w : Wd) (Q : List V → Hp → Prop) (ds : List D) (S : Sto) : Prop := ∀ (w' : Wd) (H' : Hp) (vs : List V), w.le w' → Rel K w' S H' → VRs K w' vs ds → Q vs H'
def PO' (K : Kw) (w : Wd) (Q : Option Int → Hp → Prop) (o : Option Int) (S : Sto) : Prop := ∀ (w' : Wd) (H' : Hp), w.le w' → Rel K w' S H' → Q o H'
theorem PX.up {C : Ct} {w w' : Wd} {σ : L2.St} {x : Er} {S : Sto} (l : w.le w') (h : PX C w σ x S) : PX C w' σ x S := fun w2 H c d l2 r e => h w2 H c d (l.trans l2) r e
theorem PV.up {K : Kw} {w w' : Wd} {Q : VK} {d : D} {S : Sto} (l : w.le w') (h : PV K w Q d S) : PV K w' Q d S := fun w2 H v l2 r e => h w2 H v (l.trans l2) r e
theorem PB.up {K : Kw} {w w' : Wd} {Q : Bool → Hp → Prop} {b : Bool} {S : Sto} (l : w.le w') (h : PB K w Q b S) : PB K w' Q b S := fun w2 H l2 r => h w2 H (l.trans l2) r
theorem PL.up {K : Kw} {w w' : Wd} {Q : List V → Hp → Prop} {d : List D} {S : Sto} (l : w.le w') (h : PL K w Q d S) : PL K w' Q d S := fun w2 H v l2 r e => h w2 H v (l.trans l2) r e
def SndE (C : Ct) (te : TE) (m : Env → M D) : Prop := ∀ (e : Env) (σ : L2.St) (w : Wd) (S : Sto) (H : Hp) (Q : VK), EnvR C w σ e → Rel C.K w S H → (m e S).sat (PV C.K w Q) (PX C w σ) → te σ H Q
def SndT (C : Ct) (tt : TT) (m : Env → M Bool) : Prop := ∀ (e : Env) (σ : L2.St) (w : Wd) (S : Sto) (H : Hp) (Q : Bool → Hp → Prop), EnvR C w σ e → Rel C.K w S H → (m e S).sat (PB C.K w Q) (PX C w σ) → tt σ H Q
def SndA (C : Ct) (ta : TA) (m : Env → M (List D)) : Prop := ∀ (e : Env) (σ : L2.St) (w : Wd) (S : Sto) (H : Hp) (Q : List V → Hp → Prop), EnvR C w σ e → Rel C.K w S H → (m e S).sat (PL C.K w Q) (PX C w σ) → ta σ H Q
def SndO (C : Ct) (to : TO) (m : Env → M (Option Int)) : Prop := ∀ (e : Env) (σ : L2.St) (w : Wd) (S : Sto) (H : Hp) (Q : Option Int → Hp → Prop), EnvR C w σ e → Rel C.K w S H → (m e S).sat (PO' C.K w Q) (PX C w σ) → to σ H Q
/-- what is asked of a place where things may be raised -/
structure Hyp (X : Cx) (C : Ct) : Prop where
  tk : Takes X C.W
  ps : PassesOwn (model X.prog X.w) X.A X.env X.xe
structure CE (X : Cx) (C : Ct) (e : Expr) (te : TE) (m : Env → M D) : Prop where
  hK : X.kw = C.K
  pe : Hyp X C → PE X e te
  sn : SndE C te m
structure CT (X : Cx) (C : Ct) (e : Expr) (tt : TT) (m : Env → M Bool) : Prop where
  hK : X.kw = C.K
  pt : Hyp X C → PT X e tt
  sn : SndT C tt m
structure CW (X : Cx) (C : Ct) (e : Expr) (tt : TT) (m : Env → M Bool) : Prop where
  hK : X.kw = C.K
  pw : Hyp X C → PW X e tt
  sn : SndT C tt m
structure CA (X : Cx) (C : Ct) (es : List Expr) (ta : TA) (m : Env → M (List D)) : Prop where
  pa : Hyp X C → PA X es ta
  sn : SndA C ta m
structure COp (X : Cx) (C : Ct) (e : Option Expr) (to : TO) (m : Env → M (Option Int)) : Prop where
  po : Hyp X C → PO X e to
  sn : SndO C to m
def gd {α : Type} (c : Prop) [Decidable c] (m : M α) : M α := if c then m else stuck
theorem gd_sat {α : Type} {c : Prop} [Decidable c] {m : M α} {S : Sto} {P : α → Sto → Prop} {E : Er → Sto → Prop} (h : (gd c m S).sat P E) : c ∧ (m S).sat P E := by
  unfold gd at h
  by_cases q : c
  · rw [if_pos q] at h
    exact ⟨q, h⟩
  · rw [if_neg q] at h
    exact h.elim
def eVar (i : Nat) (e : Env) : M D := match e.sl[i]? with
  | some (some d) => ret d
  | _ => stuck
def eC (d : D) (_ : Env) : M D := ret d
def e2 (g : D → D → M D) (a b : Env → M D) (e : Env) : M D := bind (a e) fun x => bind (b e) fun y => g x y
def e1 (g : D → M D) (a : Env → M D) (e : Env) : M D := bind (a e) g
def aNil (_ : Env) : M (List D) := ret []
def aCons (a : Env → M D) (r : Env → M (List D)) (e : Env) : M (List D) := bind (a e) fun d => bind (r e) fun ds => ret (d :: ds)
def eA (g : List D → M D) (a : Env → M (List D)) (e : Env) : M D := bind (a e) g
def lim : Nat := 100000
def dTup (ds : List D) : M D := gd (ds.length ≤ lim) (ret (.tup ds))
def dLst (ds : List D) : M D := gd (ds.length ≤ lim) (ret (.lst ds))
/-- a new list that may change -/
def dNew (ds : List D) : M D := fun S => if ds.length ≤ lim then .ok (.ptr S.length) (S ++ [.lst ds]) else .no
def dBool : D → M Bool
  | .bl b => ret b
  | _ => stuck
def tOf (a : Env → M D) (e : Env) : M Bool := bind (a e) dBool
def tNotP (a : Env → M Bool) (e : Env) : M Bool := bind (a e) fun b => ret (!b)
def tAndP (a b : Env → M Bool) (e : Env) : M Bool := bind (a e) fun x => if x then b e else ret false
def tOrP (a b : Env → M Bool) (e : Env) : M Bool := bind (a e) fun x => if x then ret true else b e
def eIf (t : Env → M Bool) (a b : Env → M D) (e : Env) : M D := bind (t e) fun x => if x then a e else b e
def eAnd (a b : Env → M D) (e : Env) : M D := bind (a e) fun x => bind (dBool x) fun c => if c then b e else ret (.bl false)
def eOr (a b : Env → M D) (e : Env) : M D := bind (a e) fun x => bind (dBool x) fun c => if c then ret (.bl true) else b e
def eNot (a : Env → M D) (e : Env) : M D := bind (a e) fun x => bind (dBool x) fun c => ret (.bl (!c))
def dAdd : D → D → M D
  | .int i, .int j => ret (.int (i + j))
  | .tup a, .tup b => gd (a.length + b.length ≤ lim) (ret (.tup (a ++ b)))
  | .lst a, .lst b => gd (a.length + b.length ≤ lim) (ret (.lst (a ++ b)))
  | _, _ => stuck
def dSub : D → D → M D
  | .int i, .int j => ret (.int (i - j))
  | _, _ => stuck
def dMul : D → D → M D
  | .int i, .int j => gd (i.natAbs.log2 + j.natAbs.log2 < 1000000) (ret (.int (i * j)))
  | .lst a, .int k => gd (-1000 ≤ k ∧ k ≤ 1000 ∧ a.length * k.toNat ≤ lim) (ret (.lst (List.replicate k.toNat a).flatten))
  | .tup a, .int k => gd (a.length ≠ 0 ∧ 1 ≤ k ∧ k ≤ 1000 ∧ a.length ≤ 1000) (ret (.tup (List.replicate k.toNat a).flatten))
  | _, _ => stuck
def dDiv : D → D → M D
  | .int i, .int j => gd (0 < j ∧ j.natAbs.log2 < 9000) (ret (.int (i / j)))
  | _, _ => stuck
def dMod : D → D → M D
  | .int i, .int j => gd (0 < j) (ret (.int (i % j)))
  | _, _ => stuck
def dPow : D → D → M D
  | .int i, .int j => gd (0 ≤ j ∧ j ≤ 1000000 ∧ i.natAbs < 2 ^ 64) (ret (.int (i ^ j.toNat)))
  | _, _ => stuck
def dShl : D → D → M D
  | .int i, .int j => gd (0 ≤ j ∧ (Builtin.Int.intBits i : Int) + j ≤ 2 ^ 27) (ret (.int (i * 2 ^ j.toNat)))
  | _, _ => stuck
def dShr : D → D → M D
  | .int i, .int j => gd (0 ≤ j) (ret (.int (i / 2 ^ j.toNat)))
  | _, _ => stuck
def dNeg : D → M D
  | .int i => ret (.int (-i))
  | _ => stuck
def dLt : D → D → M D
  | .int i, .int j => ret (.bl (decide (i < j)))
  | _, _ => stuck
def dLe : D → D → M D
  | .int i, .int j => ret (.bl (decide (i ≤ j)))
  | _, _ => stuck
def dGt : D → D → M D
  | .int i, .int j => ret (.bl (decide (j < i)))
  | _, _ => stuck
def dGe : D → D → M D
  | .int i, .int j => ret (.bl (decide (j ≤ i)))
  | _, _ => stuck
def D.isNon : D → Bool
  | .non => true
  | _ => false
/-- x is None -/
def dIsN (neg : Bool) : D → D → M D
  | d, .non => ret (.bl (neg != d.isNon))
  | _, _ => stuck
section
variable {X : Cx} {C : Ct} {ta tb tc te : TE} {a b c : Expr} {ma mb mc : Env → M D} {pos : Pos}
theorem ce_var (i : Nat) {x : Str} (hN : X.N[i]? = some x := by rfl) (hv : Vis X.env.scope x := by first | exact Or.inl rfl | exact Or.inr (Or.inl rfl) | exact Or.inr (Or.inr rfl)) (hd : (x == ("__debug__" : Str)) = false := by decide)
    (hcd : (x == ("__classdict__" : Str)) = false := by decide) (hK : X.kw = C.K := by rfl) : CE X C (.Name x pos) (tVar i) (eVar i) := ⟨hK, fun y => pe_var hN hv hd hcd, fun e σ w S H Q E R h => by
  unfold eVar at h
  cases q : e.sl[i]? with
  | none =>
    rw [q] at h
    exact h.elim
  | some o =>
    cases o with
    | none =>
      rw [q] at h
      exact h.elim
    | some d =>
      rw [q] at h
      obtain ⟨v, h1, h2⟩ := E.sl i d q
      exact ⟨v, h1, h w H v (Wd.le.refl w) R h2⟩⟩
theorem snd_c {v : V} {d : D} (hv : ∀ w, VR C.K w v d) : SndE C (tC v) (eC d) := fun e σ w S H Q E R h => h w H v (Wd.le.refl w) R (hv w)
theorem ce_int {i : Int} {j} (hK : X.kw = C.K := by rfl) : CE X C (.Constant (.int i) j pos) (tC (.int i)) (eC (.int i)) := ⟨hK, fun y => pe_int, snd_c fun _ => .int i⟩
theorem ce_bl {i : Bool} {j} (hK : X.kw = C.K := by rfl) : CE X C (.Constant (.bool i) j pos) (tC (.bl i)) (eC (.bl i)) := ⟨hK, fun y => pe_bl, snd_c fun _ => .bl i⟩
theorem ce_non {j} (hK : X.kw = C.K := by rfl) : CE X C (.Constant .none j pos) (tC .non) (eC .non) := ⟨hK, fun y => pe_non, snd_c fun _ => .non⟩
theorem ce_str {x j} (hK : X.kw = C.K := by rfl) : CE X C (.Constant (.str x) j pos) (tC (.str x)) (eC (.str x)) := ⟨hK, fun y => pe_str, snd_c fun _ => .str x⟩
theorem ce_globI {x : Str} {i : Int} (hg : Gl X x) (hm : ∃ t, X.mg x = some (.int i t)) (hd : (x == ("__debug__" : Str)) = false := by decide) (hK : X.kw = C.K := by rfl) : CE X C (.Name x pos) (tC (.int i)) (eC (.int i)) := ⟨hK, fun y => WD.pe_globI hg hm hd, snd_c fun _ => .int i⟩
/-- a rule of two values -/
def OpS (K : Kw) (r : R2) (g : D → D → M D) : Prop := ∀ (w : Wd) (S : Sto) (H : Hp) (x y : V) (d1 d2 : D) (Q : VK) (E : Er → Sto → Prop), Rel K w S H → VR K w x d1 → VR K w y d2 → (g d1 d2 S).sat (PV K w Q) E → r x y H Q
def UnS (K : Kw) (r : V → Hp → VK → Prop) (g : D → M D) : Prop := ∀ (w : Wd) (S : Sto) (H : Hp) (x : V) (d : D) (Q : VK) (E : Er → Sto → Prop), Rel K w S H → VR K w x d → (g d S).sat (PV K w Q) E → r x H Q
def CallS (K : Kw) (r : List V → Hp → VK → Prop) (g : List D → M D) : Prop := ∀ (w : Wd) (S : Sto) (H : Hp) (xs : List V) (ds : List D) (Q : VK) (E : Er → Sto → Prop), Rel K w S H → VRs K w xs ds → (g ds S).sat (PV K w Q) E → r xs H Q
theorem snd_op {r : R2} {g : D → D → M D} (ha : SndE C ta ma) (hb : SndE C tb mb) (hr : OpS C.K r g) : SndE C (tOp r ta tb) (e2 g ma mb) := fun e σ w S H Q E R h => by
  have h := sat_then.mp h
  refine ha e σ w S H _ E R (h.imp (fun d1 S1 h1 w1 H1 v1 l1 R1 r1 => ?_) (fun x s hx => hx))
  have h1 := sat_then.mp h1
  refine hb e σ w1 S1 H1 _ (E.up l1) R1 (h1.imp (fun d2 S2 h2 w2 H2 v2 l2 R2 r2 => ?_) (fun x s hx => hx.up l1))
  exact hr w2 S2 H2 v1 v2 d1 d2 Q _ R2 (r1.up l2) r2 (h2.imp (fun d s q => q.up (l1.trans l2)) fun _ _ z => z)
theorem snd_un {r : V → Hp → VK → Prop} {g : D → M D} (ha : SndE C ta ma) (hr : UnS C.K r g) : SndE C (tUn r ta) (e1 g ma) := fun e σ w S H Q E R h => by
  have h := sat_then.mp h
  refine ha e σ w S H _ E R (h.imp (fun d1 S1 h1 w1 H1 v1 l1 R1 r1 => ?_) (fun x s hx => hx))
  exact hr w1 S1 H1 v1 d1 Q _ R1 r1 (h1.imp (fun d s q => q.up l1) fun _ _ z => z)
theorem ce_op {op : Operator} {r : R2} {g : D → D → M D} (ho : OpR X (binaryOp op) r) (hs : OpS C.K r g) (ha : CE X C a ta ma) (hb : CE X C b tb mb) : CE X C (.BinOp a op b pos) (tOp r ta tb) (e2 g ma mb) :=
  ⟨ha.hK, fun y => pe_op ho (ha.pe y) (hb.pe y), snd_op ha.sn hb.sn hs⟩
theorem ce_cmp {op : CmpOp} {r : R2} {g : D → D → M D} (ho : OpR X (compareOp op) r) (hs : OpS C.K r g) (ha : CE X C a ta ma) (hb : CE X C b tb mb) (hm : behindInMarks op b = false) : CE X C (.Compare a [op] [b] pos) (tOp r ta tb) (e2 g ma mb) :=
  ⟨ha.hK, fun y => pe_cmpR ho (ha.pe y) (hb.pe y) hm, snd_op ha.sn hb.sn hs⟩
theorem opOr {f : Value → Value → Sem Value} {r1 r2 : R2} (h1 : OpR X f r1) (h2 : OpR X f r2) : OpR X f (fun x y H Q => r1 x y H Q ∨ r2 x y H Q) := fun pins s σ H x y v u Q I rx ry h => by
  rcases h with h | h
  · exact h1 pins s σ H x y v u Q I rx ry h
  · exact h2 pins s σ H x y v u Q I rx ry h
abbrev rAddZ (K : Kw) : R2 := fun x y H Q => rI0 (fun i j => .int (i + j)) x y H Q ∨ (rCatA K x y H Q ∨ rCat x y H Q)
theorem sz_lim {n : Nat} (h : n ≤ lim) : n ≤ sizeLine := sz_of h
theorem ops_add (K : Kw) : OpS K (rAddZ K) dAdd := fun w S H x y d1 d2 Q E R a b h => by
  cases a with
  | int i =>
    cases b with
    | int j => exact .inl ⟨i, j, rfl, rfl, h w H _ (Wd.le.refl w) R (.int _)⟩
    | _ => exact h.elim
  | @tup p xs ds s1 a1 =>
    cases b with
    | @tup q ys es s2 a2 =>
      obtain ⟨c, h⟩ := gd_sat h
      · refine .inr (.inl ⟨p, q, xs, ys, rfl, rfl, ex_t R.ex s1, ex_t R.ex s2, sz_lim (by rw [a1.len, a2.len]; exact c), fun z => ?_, fun _ z => ?_, fun _ _ l hl => ?_⟩)
        · subst z
          cases a1
          exact h w H _ (Wd.le.refl w) R (.tup s2 a2)
        · subst z
          cases a2
          exact h w H _ (Wd.le.refl w) R (by rw [List.append_nil]; exact .tup s1 a1)
        · obtain ⟨le, R'⟩ := R.plus (o := .tup (xs ++ ys)) hl
          exact h _ _ _ le R' (.tup (st_of upd_same) ((a1.up le).app (a2.up le)))
    | _ => exact h.elim
  | @lst p xs ds s1 a1 =>
    cases b with
    | @lst q ys es s2 a2 =>
      obtain ⟨c, h⟩ := gd_sat h
      · refine .inr (.inr ⟨p, q, xs, ys, rfl, rfl, R.ex _ _ s1, R.ex _ _ s2, sz_lim (by rw [a1.len, a2.len]; exact c), fun l hl => ?_⟩)
        obtain ⟨le, R'⟩ := R.plus (o := .lst (xs ++ ys)) hl
        exact h _ _ _ le R' (.lst upd_same ((a1.up le).app (a2.up le)))
    | _ => exact h.elim
  | _ => exact h.elim
theorem ce_add (ha : CE X C a ta ma) (hb : CE X C b tb mb) : CE X C (.BinOp a .Add b pos) (tOp (rAddZ C.K) ta tb) (e2 dAdd ma mb) := ce_op (by rw [← ha.hK]; exact opOr op_add (opOr op_catA op_cat)) (ops_add _) ha hb
end
end PM
end
section
set_option Elab.async false
set_option linter.all false
set_option maxRecDepth 100000
set_option maxHeartbeats 4000000
namespace WD
open PySem PySem.Spec PyProof.Rows L2 Evl
end WD
end
section
set_option Elab.async false
set_option linter.all false
set_option maxRecDepth 100000
set_option maxHeartbeats 4000000
namespace WD
open PySem PySem.Spec PyProof.Rows L2 Evl
end WD
end
section
set_option Elab.async false
set_option linter.all false
set_option maxRecDepth 100000
set_option maxHeartbeats 4000000
namespace PySem.W
open PySem PySem.Calls PyProof.Rows Builtin
end PySem.W
namespace L2
open PySem PySem.Spec PyProof.Rows
section
variable {X : Cx} {n : Nat}
theorem tuple_mul1 (l : Addr) (items : Array Value) (n : Nat) (dd : Option Addr) (sl : Array (Option Value)) (u : Tok) :
    Meets (Builtin.«tuple.__mul__» ⟨[.ref l, .int 1 u], []⟩) (fun _ R s => s.heap.get? l = some { cls := .type "tuple", dict := dd, data := .seq items n, slots := sl } ∧ R (.ok (.ret (Value.ref l))) s) :=
  .of_wp fun prog w A R s h => by
    obtain ⟨hp, g, d, tk, os⟩ := s
    obtain ⟨hl, h⟩ := h
    have f1 := AutoSeq1.idx_int
    have c0 : (decide ((1 : Int) < -(2 ^ 63)) || decide ((1 : Int) ≥ 2 ^ 63)) = false := by decide
    have c1 : (items.isEmpty || (1 : Int) == 1) = true := by simp
    wp_walk using wpAny_loadPart' hl
    repeat (first
      | (refine wpAny_ite_false (decide_eq_false (by rw [c0]; exact Bool.false_ne_true)) ?_; wp_walk using wpAny_loadPart' hl)
      | (refine wpAny_ite_true (decide_eq_true c1) ?_; wp_walk using wpAny_loadPart' hl))
    exact ⟨_, rfl, h⟩
/-- t * k, k from 1 on -/
def rRepT1 (K : PySem.W.Frag) : R2 := fun x y H Q => ∃ l k xs, x = .ref l ∧ y = .int k ∧ SqT K H l xs ∧ xs ≠ [] ∧ 1 ≤ k ∧ k ≤ 1000 ∧ xs.length ≤ 1000 ∧ (k = 1 → Q (.ref l) H) ∧ (2 ≤ k → ∀ p, H p = none → Q (.ref p) (upd H p (.tup (List.replicate k.toNat xs).flatten)))
theorem op_repT1 : OpR X (binaryOp .Mult) (rRepT1 X.K) := by
  intro pins s σ H x y v u Q I rx ry h
  obtain ⟨l, k, xs, rfl, rfl, hT, hne, h1, h2, hz, q1, q2⟩ := h
  by_cases c : 2 ≤ k
  · exact op_repT pins s σ H _ _ v u Q I rx ry ⟨l, k, xs, rfl, rfl, hT, hne, c, h2, hz, q2 c⟩
  · have e : k = 1 := by omega
    subst e
    cases rx
    obtain ⟨t, rfl⟩ := ry
    obtain ⟨its, r, ⟨⟨cls, dd, data, sl⟩, ho, hc, n, hd⟩, hs⟩ := I.tuple hT
    simp only at hc hd
    subst hc hd
    refine wpAny_binaryOp_repeat_ref (T := "tuple") (U := "int") (by decide) ⟨_, ho, rfl⟩ (fun s' => typeIs_int s' 1 t) noFill_tuple_mul F.fills_int_mul F.slot_int_rmul repeat_tuple F.slot_int_index.lookup
      (call_meets F.slot_int_rmul (typeIs_int s 1 t) F.entry_int_rmul (F.args_int_rmul_2 _ _) (int_rmul_tuple 1 t l its.toArray n dd sl)
        ⟨ho, rfl, ⟨_, ho, rfl⟩, call_meets F.slot_tuple_mul ⟨_, ho, rfl⟩ F.entry_tuple_mul (F.args_tuple_mul_2 _ _) (tuple_mul1 l its.toArray n dd sl t) ⟨ho, ?_⟩⟩)
    exact ⟨.ref l, H, I, rfl, q1 rfl⟩
end
end L2
namespace WD
open PySem PySem.Spec PyProof.Rows L2 Evl
section
variable {K : PySem.W.Frag} {σ : L2.St} {H : Hp} {ta tb te : TE} {d : D} {ds : List D}
theorem All.rep {vs : List V} {H : Hp} (a : All K H vs ds) : ∀ n : Nat, All K H (List.replicate n vs).flatten (List.replicate n ds).flatten
  | 0 => .nil
  | n + 1 => by
    rw [List.replicate_succ, List.replicate_succ, List.flatten_cons, List.flatten_cons]
    exact a.app (All.rep a n)
end
end WD
end
section
set_option Elab.async false
set_option linter.all false
set_option maxRecDepth 100000
namespace PM
open PySem L2 Evl
section
variable {X : Cx} {C : Ct} {ta tb tc te : TE} {a b c : Expr} {ma mb mc : Env → M D} {pos : Pos}
theorem ops_ii {r : R2} {g : D → D → M D} {K : Kw} (hg : ∀ d1 d2 S P E, (g d1 d2 S).sat P E → ∃ i j, d1 = .int i ∧ d2 = .int j) (hr : ∀ (i j : Int) (w : Wd) (S : Sto) (H : Hp) (Q : VK) (E : Er → Sto → Prop), Rel K w S H → (g (.int i) (.int j) S).sat (PV K w Q) E → r (.int i) (.int j) H Q) : OpS K r g := fun w S H x y d1 d2 Q E R a b h => by
  obtain ⟨i, j, rfl, rfl⟩ := hg d1 d2 S _ _ h
  cases a
  cases b
  exact hr i j w S H Q E R h
theorem ops_sub (K : Kw) : OpS K (rI0 fun i j => .int (i - j)) dSub := ops_ii (fun d1 d2 S P E h => by
  cases d1 <;> first | exact h.elim | skip
  cases d2 <;> first | exact h.elim | exact ⟨_, _, rfl, rfl⟩) fun i j w S H Q E R h => ⟨i, j, rfl, rfl, h w H _ (Wd.le.refl w) R (.int _)⟩
theorem ce_sub (ha : CE X C a ta ma) (hb : CE X C b tb mb) : CE X C (.BinOp a .Sub b pos) (tOp (rI0 fun i j => .int (i - j)) ta tb) (e2 dSub ma mb) := ce_op op_sub (ops_sub _) ha hb
theorem ops_div (K : Kw) : OpS K (rI CDivW fun i j => .int (i / j)) dDiv := ops_ii (fun d1 d2 S P E h => by
  cases d1 <;> first | exact h.elim | skip
  cases d2 <;> first | exact h.elim | exact ⟨_, _, rfl, rfl⟩) fun i j w S H Q E R h => by
  obtain ⟨c, h⟩ := gd_sat h
  exact ⟨i, j, rfl, rfl, c, h w H _ (Wd.le.refl w) R (.int _)⟩
theorem ce_div (ha : CE X C a ta ma) (hb : CE X C b tb mb) : CE X C (.BinOp a .FloorDiv b pos) (tOp (rI CDivW fun i j => .int (i / j)) ta tb) (e2 dDiv ma mb) := ce_op op_fdivW (ops_div _) ha hb
theorem ops_mod (K : Kw) : OpS K (rI (fun _ j => 0 < j) fun i j => .int (i % j)) dMod := ops_ii (fun d1 d2 S P E h => by
  cases d1 <;> first | exact h.elim | skip
  cases d2 <;> first | exact h.elim | exact ⟨_, _, rfl, rfl⟩) fun i j w S H Q E R h => by
  obtain ⟨c, h⟩ := gd_sat h
  exact ⟨i, j, rfl, rfl, c, h w H _ (Wd.le.refl w) R (.int _)⟩
theorem ce_mod (ha : CE X C a ta ma) (hb : CE X C b tb mb) : CE X C (.BinOp a .Mod b pos) (tOp (rI (fun _ j => 0 < j) fun i j => .int (i % j)) ta tb) (e2 dMod ma mb) := ce_op op_mod (ops_mod _) ha hb
theorem ops_pow (K : Kw) : OpS K (rI CPow fun i j => .int (i ^ j.toNat)) dPow := ops_ii (fun d1 d2 S P E h => by
  cases d1 <;> first | exact h.elim | skip
  cases d2 <;> first | exact h.elim | exact ⟨_, _, rfl, rfl⟩) fun i j w S H Q E R h => by
  obtain ⟨c, h⟩ := gd_sat h
  exact ⟨i, j, rfl, rfl, c, h w H _ (Wd.le.refl w) R (.int _)⟩
theorem ce_pow (ha : CE X C a ta ma) (hb : CE X C b tb mb) : CE X C (.BinOp a .Pow b pos) (tOp (rI CPow fun i j => .int (i ^ j.toNat)) ta tb) (e2 dPow ma mb) := ce_op op_pow (ops_pow _) ha hb
theorem ops_shl (K : Kw) : OpS K (rI CShl fun i j => .int (i * 2 ^ j.toNat)) dShl := ops_ii (fun d1 d2 S P E h => by
  cases d1 <;> first | exact h.elim | skip
  cases d2 <;> first | exact h.elim | exact ⟨_, _, rfl, rfl⟩) fun i j w S H Q E R h => by
  obtain ⟨c, h⟩ := gd_sat h
  exact ⟨i, j, rfl, rfl, c, h w H _ (Wd.le.refl w) R (.int _)⟩
theorem ce_shl (ha : CE X C a ta ma) (hb : CE X C b tb mb) : CE X C (.BinOp a .LShift b pos) (tOp (rI CShl fun i j => .int (i * 2 ^ j.toNat)) ta tb) (e2 dShl ma mb) := ce_op op_shlW (ops_shl _) ha hb
theorem ops_shr (K : Kw) : OpS K (rI (fun _ j => 0 ≤ j) fun i j => .int (i / 2 ^ j.toNat)) dShr := ops_ii (fun d1 d2 S P E h => by
  cases d1 <;> first | exact h.elim | skip
  cases d2 <;> first | exact h.elim | exact ⟨_, _, rfl, rfl⟩) fun i j w S H Q E R h => by
  obtain ⟨c, h⟩ := gd_sat h
  exact ⟨i, j, rfl, rfl, c, h w H _ (Wd.le.refl w) R (.int _)⟩
theorem ce_shr (ha : CE X C a ta ma) (hb : CE X C b tb mb) : CE X C (.BinOp a .RShift b pos) (tOp (rI (fun _ j => 0 ≤ j) fun i j => .int (i / 2 ^ j.toNat)) ta tb) (e2 dShr ma mb) := ce_op op_shr (ops_shr _) ha hb
abbrev rMulZ (K : Kw) : R2 := fun x y H Q => rI CMulW (fun i j => .int (i * j)) x y H Q ∨ (rRep x y H Q ∨ rRepT1 K x y H Q)
theorem ops_mul (K : Kw) : OpS K (rMulZ K) dMul := fun w S H x y d1 d2 Q E R a b h => by
  cases a with
  | int i =>
    cases b with
    | int j =>
      obtain ⟨c, h⟩ := gd_sat h
      exact .inl ⟨i, j, rfl, rfl, c, h w H _ (Wd.le.refl w) R (.int _)⟩
    | _ => exact h.elim
  | @lst p xs ds s1 a1 =>
    cases b with
    | int k =>
      obtain ⟨⟨c1, c2, c3⟩, h⟩ := gd_sat h
      refine .inr (.inl ⟨p, k, xs, rfl, rfl, R.ex _ _ s1, by omega, by omega, sz_lim (by rw [a1.len]; exact c3), fun l hl => ?_⟩)
      obtain ⟨le, R'⟩ := R.plus (o := .lst (List.replicate k.toNat xs).flatten) hl
      exact h _ _ _ le R' (.lst upd_same ((a1.up le).rep _))
    | _ => exact h.elim
  | @tup p xs ds s1 a1 =>
    cases b with
    | int k =>
      obtain ⟨⟨c0, c1, c2, c3⟩, h⟩ := gd_sat h
      refine .inr (.inr ⟨p, k, xs, rfl, rfl, ex_t R.ex s1, fun z => ?_, c1, c2, by rw [a1.len]; exact c3, fun e => ?_, fun _ l hl => ?_⟩)
      · subst z
        cases a1
        exact c0 rfl
      · subst e
        exact h w H _ (Wd.le.refl w) R (by
          show VR K w _ (.tup (List.replicate 1 ds).flatten)
          rw [List.replicate_one, List.flatten_singleton]
          exact .tup s1 a1)
      · obtain ⟨le, R'⟩ := R.plus (o := .tup (List.replicate k.toNat xs).flatten) hl
        exact h _ _ _ le R' (.tup (st_of upd_same) ((a1.up le).rep _))
    | _ => exact h.elim
  | _ => exact h.elim
theorem ce_mul (ha : CE X C a ta ma) (hb : CE X C b tb mb) : CE X C (.BinOp a .Mult b pos) (tOp (rMulZ C.K) ta tb) (e2 dMul ma mb) := ce_op (by rw [← ha.hK]; exact opOr op_mulW (opOr op_rep op_repT1)) (ops_mul _) ha hb
theorem ce_neg (ha : CE X C a ta ma) : CE X C (.UnaryOp .USub a pos) (tUn (rU fun i => .int (-i)) ta) (e1 dNeg ma) := ⟨ha.hK, fun y => pe_un un_neg (ha.pe y), snd_un ha.sn fun w S H x d Q E R a h => by
  cases a with
  | int i => exact ⟨i, rfl, h w H _ (Wd.le.refl w) R (.int _)⟩
  | _ => exact h.elim⟩
theorem ops_lt (K : Kw) : OpS K (rI0 fun i j => .bl (decide (i < j))) dLt := ops_ii (fun d1 d2 S P E h => by
  cases d1 <;> first | exact h.elim | skip
  cases d2 <;> first | exact h.elim | exact ⟨_, _, rfl, rfl⟩) fun i j w S H Q E R h => ⟨i, j, rfl, rfl, h w H _ (Wd.le.refl w) R (.bl _)⟩
theorem ops_le (K : Kw) : OpS K (rI0 fun i j => .bl (decide (i ≤ j))) dLe := ops_ii (fun d1 d2 S P E h => by
  cases d1 <;> first | exact h.elim | skip
  cases d2 <;> first | exact h.elim | exact ⟨_, _, rfl, rfl⟩) fun i j w S H Q E R h => ⟨i, j, rfl, rfl, h w H _ (Wd.le.refl w) R (.bl _)⟩
theorem ops_gt (K : Kw) : OpS K (rI0 fun i j => .bl (decide (j < i))) dGt := ops_ii (fun d1 d2 S P E h => by
  cases d1 <;> first | exact h.elim | skip
  cases d2 <;> first | exact h.elim | exact ⟨_, _, rfl, rfl⟩) fun i j w S H Q E R h => ⟨i, j, rfl, rfl, h w H _ (Wd.le.refl w) R (.bl _)⟩
theorem ops_ge (K : Kw) : OpS K (rI0 fun i j => .bl (decide (j ≤ i))) dGe := ops_ii (fun d1 d2 S P E h => by
  cases d1 <;> first | exact h.elim | skip
  cases d2 <;> first | exact h.elim | exact ⟨_, _, rfl, rfl⟩) fun i j w S H Q E R h => ⟨i, j, rfl, rfl, h w H _ (Wd.le.refl w) R (.bl _)⟩
theorem ops_notN (K : Kw) : OpS K (fun x y H Q => y = .non ∧ Q (.bl (!decide (x = .non))) H) (dIsN true) := fun w S H x y d1 d2 Q E R a b h => by
  cases b with
  | non =>
    refine ⟨rfl, ?_⟩
    cases a <;> exact h w H _ (Wd.le.refl w) R (.bl _)
  | _ => cases a <;> exact h.elim
mutual
def D.py : D → PyData
  | .bl b => .bool b
  | .int i => .int i
  | .str x => .str x
  | .tup ds => .tuple (D.pys ds)
  | .lst ds => .list (D.pys ds)
  | .scr ns => .list (ns.map .int)
  | _ => .none
def D.pys : List D → List PyData
  | [] => []
  | d :: ds => D.py d :: D.pys ds
end
/-- what == is asked of: no object in it, at most n deep -/
def D.okD : Nat → D → Bool
  | _, .non => true
  | _, .bl _ => true
  | _, .int _ => true
  | _, .str x => PyData.strOk x
  | n + 1, .tup ds => ds.all (D.okD n)
  | n + 1, .lst ds => ds.all (D.okD n)
  | _ + 1, .scr _ => true
  | _, _ => false
theorem pys_map : ∀ ds : List D, D.pys ds = ds.map D.py
  | [] => rfl
  | d :: ds => by
    show D.py d :: D.pys ds = _
    rw [pys_map ds]
    rfl
theorem lay_all : ∀ ds : List PyData, (∀ d ∈ ds, d.canLay0 = true) → PyData.canLayAll0 ds = true
  | [], _ => by simp only [PyData.canLayAll0]
  | d :: ds, h => by
    simp only [PyData.canLayAll0, h d (by simp), lay_all ds fun e he => h e (by simp [he]), Bool.and_self]
theorem dep_all {n : Nat} : ∀ ds : List PyData, (∀ d ∈ ds, d.depth ≤ n) → PyData.depthAll ds ≤ n
  | [], _ => by simp [PyData.depthAll]
  | d :: ds, h => by
    simp only [PyData.depthAll]
    have h1 := h d (by simp)
    have h2 := dep_all ds fun e he => h e (by simp [he])
    omega
theorem Dp.ints {K : Kw} {H : Hp} : ∀ ns : List Int, DpAll K H (ns.map V.int) (ns.map PyData.int)
  | [] => .nil
  | n :: ns => .cons (.int n) (Dp.ints ns)
theorem dp_of {K : Kw} {w : Wd} {H : Hp} (e : Ex w.F H) : ∀ (n : Nat) (v : V) (d : D), VR K w v d → d.okD n = true → Dp K H v d.py ∧ d.py.canLay0 = true ∧ d.py.depth ≤ n := by
  intro n
  induction n with
  | zero =>
    intro v d a h
    cases a with
    | non => exact ⟨.non, rfl, by simp [D.py, PyData.depth]⟩
    | bl b => exact ⟨.bl b, rfl, by simp [D.py, PyData.depth]⟩
    | int i => exact ⟨.int i, rfl, by simp [D.py, PyData.depth]⟩
    | str x => exact ⟨.str x, by
        simp only [D.py, PyData.canLay0]
        exact h, by simp [D.py, PyData.depth]⟩
    | _ => cases h
  | succ n ih =>
    have seq : ∀ (vs : List V) (ds : List D), VRs K w vs ds → ds.all (D.okD n) = true → DpAll K H vs (D.pys ds) ∧ PyData.canLayAll0 (D.pys ds) = true ∧ PyData.depthAll (D.pys ds) ≤ n := by
      intro vs
      induction vs with
      | nil =>
        intro ds a h
        cases a
        exact ⟨.nil, by simp [D.pys, PyData.canLayAll0], by simp [D.pys, PyData.depthAll]⟩
      | cons v vs ih2 =>
        intro ds a h
        cases a with
        | cons a1 a2 =>
          obtain ⟨h1, h2⟩ := Bool.and_eq_true_iff.mp (show (D.okD n _ && List.all _ (D.okD n)) = true from h)
          obtain ⟨p1, p2, p3⟩ := ih _ _ a1 h1
          obtain ⟨q1, q2, q3⟩ := ih2 _ a2 h2
          refine ⟨.cons p1 q1, by simp only [D.pys, PyData.canLayAll0, p2, q2, Bool.and_self], ?_⟩
          simp only [D.pys, PyData.depthAll]
          omega
    intro v d a h
    cases a with
    | non => exact ⟨.non, rfl, by simp [D.py, PyData.depth]⟩
    | bl b => exact ⟨.bl b, rfl, by simp [D.py, PyData.depth]⟩
    | int i => exact ⟨.int i, rfl, by simp [D.py, PyData.depth]⟩
    | str x => exact ⟨.str x, by
        simp only [D.py, PyData.canLay0]
        exact h, by simp [D.py, PyData.depth]⟩
    | tup s a =>
      obtain ⟨p1, p2, p3⟩ := seq _ _ a h
      refine ⟨.tup (ex_t e s) p1, by simpa [D.py, PyData.canLay0] using p2, ?_⟩
      simp only [D.py, PyData.depth]
      omega
    | lst s a =>
      obtain ⟨p1, p2, p3⟩ := seq _ _ a h
      refine ⟨.lst (.inl (.inl (e _ _ s))) p1, by simpa [D.py, PyData.canLay0] using p2, ?_⟩
      simp only [D.py, PyData.depth]
      omega
    | @scr _ ns s =>
      refine ⟨.lst (.inl (ex_rd e s)) (Dp.ints _), ?_, ?_⟩
      · simp only [D.py, PyData.canLay0]
        exact lay_all _ fun d hd => by
          obtain ⟨i, _, rfl⟩ := List.mem_map.mp hd
          rfl
      · simp only [D.py, PyData.depth]
        have := dep_all (n := 0) (List.map PyData.int ns) fun d hd => by
          obtain ⟨i, _, rfl⟩ := List.mem_map.mp hd
          simp [PyData.depth]
        omega
    | _ => cases h
theorem sh_of {d : PyData} {n : Nat} (h1 : d.canLay0 = true) (h2 : d.depth ≤ n) (hn : n ≤ 60) : SeqAt.shaped d = true := by
  unfold SeqAt.shaped
  rw [h1, decide_eq_true (by omega)]
  rfl
/-- a list that changes, read as it stands -/
def rdD (S : Sto) : D → D
  | .ptr n => match S[n]? with
    | some (.lst ds) => .lst ds
    | _ => .ptr n
  | d => d
theorem rdD_dp {K : Kw} {w : Wd} {S : Sto} {H : Hp} {v : V} {d : D} (R : Rel K w S H) (a : VR K w v d) (h : (rdD S d).okD 12 = true) : Dp K H v (rdD S d).py ∧ SeqAt.shaped (rdD S d).py = true := by
  by_cases hp : ∃ n ds, d = .ptr n ∧ S[n]? = some (.lst ds)
  · obtain ⟨n, ds, rfl, hs⟩ := hp
    have er : rdD S (.ptr n) = .lst ds := by
      show (match S[n]? with
        | some (.lst ds) => D.lst ds
        | _ => .ptr n) = _
      rw [hs]
    cases a with
    | ptr hb =>
      obtain ⟨_, xs, hx, ax⟩ := R.cell _ _ _ hb hs rfl
      rw [er] at h ⊢
      -- read in the world grown by it
      have gr : VR K ⟨upd w.F _ (.lst xs), w.B, w.U⟩ (.ref _) (.lst ds) := .lst upd_same (ax.up (Wd.le_plus (R.cell _ _ _ hb hs rfl).1))
      obtain ⟨R2l, R2⟩ := R.freeze hb hs rfl hx
      obtain ⟨p1, p2, p3⟩ := dp_of R2.ex 12 _ _ gr h
      exact ⟨p1, sh_of p2 p3 (by decide)⟩
  · have er : rdD S d = d := by
      cases d with
      | ptr n =>
        show (match S[n]? with
          | some (.lst ds) => D.lst ds
          | _ => .ptr n) = _
        cases q : S[n]? with
        | none => rfl
        | some c =>
          cases c with
          | lst ds => exact absurd ⟨n, ds, rfl, q⟩ hp
          | _ => rfl
      | _ => rfl
    rw [er] at h ⊢
    obtain ⟨p1, p2, p3⟩ := dp_of R.ex 12 _ _ a h
    exact ⟨p1, sh_of p2 p3 (by decide)⟩
def dEq (neg : Bool) (x y : D) : M D := fun S => gd ((rdD S x).okD 12 = true ∧ (rdD S y).okD 12 = true) (ret (.bl (neg != PyData.eqv (rdD S x).py (rdD S y).py))) S
theorem ops_eq (K : Kw) : OpS K (rEqD K) (dEq false) := fun w S H x y d1 d2 Q E R a b h => by
  obtain ⟨⟨c1, c2⟩, h⟩ := gd_sat h
  obtain ⟨p1, p2⟩ := rdD_dp R a c1
  obtain ⟨q1, q2⟩ := rdD_dp R b c2
  refine ⟨_, _, p1, q1, p2, q2, ?_⟩
  have := h w H _ (Wd.le.refl w) R (.bl _)
  rwa [Bool.false_bne] at this
theorem ops_ne (K : Kw) : OpS K (rNeD K) (dEq true) := fun w S H x y d1 d2 Q E R a b h => by
  obtain ⟨⟨c1, c2⟩, h⟩ := gd_sat h
  obtain ⟨p1, p2⟩ := rdD_dp R a c1
  obtain ⟨q1, q2⟩ := rdD_dp R b c2
  refine ⟨_, _, p1, q1, p2, q2, ?_⟩
  have := h w H _ (Wd.le.refl w) R (.bl _)
  rwa [Bool.true_bne] at this
/-- x in a list of data | a tuple -/
def dIn (neg : Bool) (x y : D) : M D := fun S => match rdD S y with
  | .lst ds => gd ((rdD S x).okD 12 = true ∧ (D.lst ds).okD 12 = true) (ret (.bl (neg != (D.pys ds).any fun z => PyData.eqv z (rdD S x).py))) S
  | .tup ds => gd (neg = false ∧ (rdD S x).okD 12 = true ∧ (D.tup ds).okD 12 = true) (ret (.bl ((D.pys ds).any fun z => PyData.eqv z (rdD S x).py))) S
  | _ => .no
theorem ce_eq (hu : X.A.units + 64 < cLine) (ha : CE X C a ta ma) (hb : CE X C b tb mb) : CE X C (.Compare a [.Eq] [b] pos) (tOp (rEqD C.K) ta tb) (e2 (dEq false) ma mb) := ce_cmp (by rw [← ha.hK]; exact op_eqD hu) (ops_eq _) ha hb (nobehind _ (by decide) (by decide))
theorem ce_le (ha : CE X C a ta ma) (hb : CE X C b tb mb) : CE X C (.Compare a [.LtE] [b] pos) (tOp (rI0 fun i j => .bl (decide (i ≤ j))) ta tb) (e2 dLe ma mb) := ce_cmp op_le (ops_le _) ha hb (nobehind _ (by decide) (by decide))
theorem ce_notN (ha : CE X C a ta ma) (hb : CE X C b tb mb) : CE X C (.Compare a [.IsNot] [b] pos) (tOp (fun x y H Q => y = .non ∧ Q (.bl (!decide (x = .non))) H) ta tb) (e2 (dIsN true) ma mb) := ce_cmp op_notN (ops_notN _) ha hb (nobehind _ (by decide) (by decide))
theorem ops_in (K : Kw) : OpS K (fun x y H Q => rInD K x y H Q ∨ rInDT K x y H Q) (dIn false) := fun w S H x y d1 d2 Q E R a b h => by
  unfold dIn at h
  cases q : rdD S d2 with
  | lst ds =>
    rw [q] at h
    obtain ⟨⟨c1, c2⟩, h⟩ := gd_sat h
    rw [← q] at c2
    obtain ⟨p1, p2⟩ := rdD_dp R a c1
    obtain ⟨q1, q2⟩ := rdD_dp R b c2
    rw [q] at q1 q2
    refine .inl ⟨_, _, p1, q1, p2, q2, ?_⟩
    have := h w H _ (Wd.le.refl w) R (.bl _)
    rwa [Bool.false_bne] at this
  | tup ds =>
    rw [q] at h
    obtain ⟨⟨_, c1, c2⟩, h⟩ := gd_sat h
    rw [← q] at c2
    obtain ⟨p1, p2⟩ := rdD_dp R a c1
    obtain ⟨q1, q2⟩ := rdD_dp R b c2
    have e2 : d2 = .tup ds := by
      cases d2 with
      | ptr n =>
        have z : (match S[n]? with
          | some (.lst ds) => D.lst ds
          | _ => .ptr n) = .tup ds := q
        cases r : S[n]? with
        | none =>
          rw [r] at z
          cases z
        | some cc =>
          rw [r] at z
          cases cc <;> cases z
      | _ => exact q
    obtain ⟨r1, r2, r3⟩ := dp_of R.ex 12 _ _ (e2 ▸ b) (q ▸ c2)
    refine .inr ⟨_, D.pys ds, p1, r1, SeqAt.canLay_of_shaped p2, by simpa [D.py, PyData.canLay0] using r2, ?_, h w H _ (Wd.le.refl w) R (.bl _)⟩
    simp only [D.py, PyData.depth] at r3
    omega
  | _ =>
    rw [q] at h
    exact h.elim
theorem ops_notIn (K : Kw) : OpS K (rNotInD K) (dIn true) := fun w S H x y d1 d2 Q E R a b h => by
  unfold dIn at h
  cases q : rdD S d2 with
  | lst ds =>
    rw [q] at h
    obtain ⟨⟨c1, c2⟩, h⟩ := gd_sat h
    rw [← q] at c2
    obtain ⟨p1, p2⟩ := rdD_dp R a c1
    obtain ⟨q1, q2⟩ := rdD_dp R b c2
    rw [q] at q1 q2
    refine ⟨_, _, p1, q1, p2, q2, ?_⟩
    have := h w H _ (Wd.le.refl w) R (.bl _)
    rwa [Bool.true_bne] at this
  | tup ds =>
    rw [q] at h
    obtain ⟨⟨c0, _⟩, h⟩ := gd_sat h
    cases c0
  | _ =>
    rw [q] at h
    exact h.elim
theorem ce_in (hu : X.A.units + 65 < cLine) (ha : CE X C a ta ma) (hb : CE X C b tb mb) (hm : behindInMarks .In b = false) : CE X C (.Compare a [.In] [b] pos) (tOp (fun x y H Q => rInD C.K x y H Q ∨ rInDT C.K x y H Q) ta tb) (e2 (dIn false) ma mb) := ce_cmp (by rw [← ha.hK]; exact opOr (op_inD hu) (op_inDT (by omega))) (ops_in _) ha hb hm
/-- x not in a tuple of plain things -/
def dNotInF (x y : D) : M D := fun S => match y with
  | .tup ds => gd (D.okD 0 x = true ∧ ds.all (D.okD 0) = true) (ret (.bl (!(D.pys ds).any fun z => PyData.eqv z x.py))) S
  | _ => dIn true x y S
theorem flat_of {K : Kw} {w : Wd} {v : V} {d : D} (a : VR K w v d) (h : D.okD 0 d = true) : flatV v = true := by
  cases a <;> first | rfl | cases h
theorem eqV_py {K : Kw} {w : Wd} {v u : V} {d e : D} (a : VR K w v d) (b : VR K w u e) (h1 : D.okD 0 d = true) (h2 : D.okD 0 e = true) : eqV v u = PyData.eqv d.py e.py := by
  cases a <;> first | (cases h1; done) | (cases b <;> first | (cases h2; done) | (simp [eqV, D.py, PyData.eqv] <;> done) | skip)
theorem anyV_py {K : Kw} {w : Wd} {v : V} {d : D} (a : VR K w v d) (h : D.okD 0 d = true) : ∀ {vs : List V} {ds : List D}, VRs K w vs ds → ds.all (D.okD 0) = true → vs.all flatV = true ∧ inV v vs = (D.pys ds).any fun z => PyData.eqv z d.py
  | _, _, .nil, _ => ⟨rfl, rfl⟩
  | _, _, .cons (v := u) (vs := vs) (d := e) (ds := ds) b bs, q => by
    obtain ⟨q1, q2⟩ := Bool.and_eq_true_iff.mp (show (D.okD 0 e && List.all ds (D.okD 0)) = true from q)
    obtain ⟨r1, r2⟩ := anyV_py a h bs q2
    refine ⟨by
      show (flatV u && vs.all flatV) = true
      rw [flat_of b q1, r1]
      rfl, ?_⟩
    show (eqV u v || inV v vs) = (PyData.eqv e.py d.py || (D.pys ds).any fun z => PyData.eqv z d.py)
    rw [eqV_py b a q1 h, r2]
theorem ops_notInF (K : Kw) : OpS K (fun x y H Q => rIn K true x y H Q ∨ rNotInD K x y H Q) dNotInF := fun w S H x y d1 d2 Q E R a b h => by
  unfold dNotInF at h
  cases b with
  | tup s bs =>
    obtain ⟨⟨c1, c2⟩, h⟩ := gd_sat h
    obtain ⟨r1, r2⟩ := anyV_py a c1 bs c2
    refine .inl ⟨_, _, rfl, .inr (ex_t R.ex s), flat_of a c1, r1, ?_⟩
    rw [r2]
    exact h w H _ (Wd.le.refl w) R (.bl _)
  | non => exact .inr (ops_notIn K w S H _ _ _ _ Q E R a .non h)
  | bl k => exact .inr (ops_notIn K w S H _ _ _ _ Q E R a (.bl k) h)
  | int k => exact .inr (ops_notIn K w S H _ _ _ _ Q E R a (.int k) h)
  | str k => exact .inr (ops_notIn K w S H _ _ _ _ Q E R a (.str k) h)
  | lst s bs => exact .inr (ops_notIn K w S H _ _ _ _ Q E R a (.lst s bs) h)
  | obj s bs => exact .inr (ops_notIn K w S H _ _ _ _ Q E R a (.obj s bs) h)
  | ptr s => exact .inr (ops_notIn K w S H _ _ _ _ Q E R a (.ptr s) h)
  | scr s => exact .inr (ops_notIn K w S H _ _ _ _ Q E R a (.scr s) h)
  | dic s z => exact .inr (ops_notIn K w S H _ _ _ _ Q E R a (.dic s z) h)
theorem bool_sat {K : Kw} {w : Wd} {v : V} {d : D} {S : Sto} {P : Bool → Sto → Prop} {E : Er → Sto → Prop} (a : VR K w v d) (h : (dBool d S).sat P E) : ∃ k, d = .bl k ∧ v = .bl k ∧ P k S := by
  cases a with
  | bl k => exact ⟨k, rfl, rfl, h⟩
  | _ => exact h.elim
theorem snd_B (ha : SndE C ta ma) : SndT C (tB ta) (tOf ma) := fun e σ w S H Q E R h => by
  have h := sat_then.mp h
  refine ha e σ w S H _ E R (h.imp (fun d1 S1 h1 w1 H1 v1 l1 R1 r1 => ?_) (fun x s hx => hx))
  obtain ⟨k, rfl, rfl, h2⟩ := bool_sat r1 h1
  exact ⟨k, rfl, h2 w1 H1 l1 R1⟩
theorem snd_test (ha : SndE C ta ma) : SndT C (tTest ta) (tOf ma) := snd_B ha
theorem ct_val {e : Expr} (h : CE X C e te ma) (he : ∀ whole, isTrue e X.env whole = (do let v ← whole; standAt e.pos; holding [v] (truthy v)) := by intro _; rfl) : CT X C e (tB te) (tOf ma) := ⟨h.hK, fun y => pt_val (h.pe y) he, snd_B h.sn⟩
theorem snd_notT {t : TT} {m : Env → M Bool} (h : SndT C t m) : SndT C (tNot t) (tNotP m) := fun e σ w S H Q E R q => by
  have q := sat_then.mp q
  exact h e σ w S H _ E R (q.imp (fun b S1 h1 => h1) (fun x s hx => hx))
theorem ct_not {t : TT} {m : Env → M Bool} (h : CT X C a t m) : CT X C (.UnaryOp .Not a pos) (tNot t) (tNotP m) := ⟨h.hK, fun y => pt_not (h.pt y), snd_notT h.sn⟩
theorem snd_andT {t u : TT} {m n : Env → M Bool} (h : SndT C t m) (g : SndT C u n) : SndT C (tAnd t u) (tAndP m n) := fun e σ w S H Q E R q => by
  have q := sat_then.mp q
  refine h e σ w S H _ E R (q.imp (fun k S1 h1 w1 H1 l1 R1 => ?_) (fun x s hx => hx))
  cases k with
  | true => exact g e σ w1 S1 H1 _ (E.up l1) R1 (Out.sat.imp (show (n e S1).sat _ _ from h1) (fun b s z => z.up l1) fun x s z => z.up l1)
  | false => exact h1 w1 H1 l1 R1
theorem snd_orT {t u : TT} {m n : Env → M Bool} (h : SndT C t m) (g : SndT C u n) : SndT C (tOr t u) (tOrP m n) := fun e σ w S H Q E R q => by
  have q := sat_then.mp q
  refine h e σ w S H _ E R (q.imp (fun k S1 h1 w1 H1 l1 R1 => ?_) (fun x s hx => hx))
  cases k with
  | false => exact g e σ w1 S1 H1 _ (E.up l1) R1 (Out.sat.imp (show (n e S1).sat _ _ from h1) (fun b s z => z.up l1) fun x s z => z.up l1)
  | true => exact h1 w1 H1 l1 R1
theorem cw_and {t u : TT} {m n : Env → M Bool} {rest : List Expr} (h : CT X C a t m) (g : CW X C (.BoolOp .And (b :: rest) pos) u n) : CW X C (.BoolOp .And (a :: b :: rest) pos) (tAnd t u) (tAndP m n) := ⟨h.hK, fun y => pw_and (h.pt y) (g.pw y), snd_andT h.sn g.sn⟩
theorem cw_or {t u : TT} {m n : Env → M Bool} {rest : List Expr} (h : CT X C a t m) (g : CW X C (.BoolOp .Or (b :: rest) pos) u n) : CW X C (.BoolOp .Or (a :: b :: rest) pos) (tOr t u) (tOrP m n) := ⟨h.hK, fun y => pw_or (h.pt y) (g.pw y), snd_orT h.sn g.sn⟩
theorem cw_and1 {t : TT} {m : Env → M Bool} (h : CT X C a t m) : CW X C (.BoolOp .And [a] pos) t m := ⟨h.hK, fun y => pw_and1 (h.pt y), h.sn⟩
theorem cw_or1 {t : TT} {m : Env → M Bool} (h : CT X C a t m) : CW X C (.BoolOp .Or [a] pos) t m := ⟨h.hK, fun y => pw_or1 (h.pt y), h.sn⟩
theorem cw_t {t : TT} {m : Env → M Bool} (h : CW X C a t m) : CT X C a t m := ⟨h.hK, fun y => PW.pt (h.pw y), h.sn⟩
theorem ct_cmp {op : CmpOp} {r : R2} {g : D → D → M D} (ho : OpR X (compareOp op) r) (hs : OpS C.K r g) (ha : CE X C a ta ma) (hb : CE X C b tb mb) (hm : behindInMarks op b = false) : CT X C (.Compare a [op] [b] pos) (tTest (tOp r ta tb)) (tOf (e2 g ma mb)) :=
  ⟨ha.hK, fun y => pt_cmpR ho (ha.pe y) (hb.pe y) hm, snd_test (snd_op ha.sn hb.sn hs)⟩
theorem snd_if {t : TT} {m : Env → M Bool} (h : SndT C t m) (ha : SndE C ta ma) (hb : SndE C tb mb) : SndE C (tIf t ta tb) (eIf m ma mb) := fun e σ w S H Q E R q => by
  have q := sat_then.mp q
  refine h e σ w S H _ E R (q.imp (fun k S1 h1 w1 H1 l1 R1 => ?_) (fun x s hx => hx))
  cases k with
  | true => exact ha e σ w1 S1 H1 _ (E.up l1) R1 (Out.sat.imp (show (ma e S1).sat _ _ from h1) (fun b s z => z.up l1) fun x s z => z.up l1)
  | false => exact hb e σ w1 S1 H1 _ (E.up l1) R1 (Out.sat.imp (show (mb e S1).sat _ _ from h1) (fun b s z => z.up l1) fun x s z => z.up l1)
theorem ce_if {t : TT} {m : Env → M Bool} (h : CT X C c t m) (ha : CE X C a ta ma) (hb : CE X C b tb mb) : CE X C (.IfExp c a b pos) (tIf t ta tb) (eIf m ma mb) := ⟨h.hK, fun y => pe_ifExp (h.pt y) (ha.pe y) (hb.pe y), snd_if h.sn ha.sn hb.sn⟩
theorem ce_not (ha : CE X C a ta ma) : CE X C (.UnaryOp .Not a pos) (tNotV ta) (eNot ma) := ⟨ha.hK, fun y => pe_not (ha.pe y), fun e σ w S H Q E R h => by
  have h := sat_then.mp h
  refine ha.sn e σ w S H _ E R (h.imp (fun d1 S1 h1 w1 H1 v1 l1 R1 r1 => ?_) (fun x s hx => hx))
  obtain ⟨k, rfl, rfl, h2⟩ := bool_sat r1 (sat_then.mp h1)
  exact ⟨k, rfl, h2 w1 H1 _ l1 R1 (.bl _)⟩⟩
theorem ce_one {op : BoolOp} (ha : CE X C a ta ma) : CE X C (.BoolOp op [a] pos) ta ma := ⟨ha.hK, fun y => pe_one (ha.pe y), ha.sn⟩
theorem ce_and {rest : List Expr} (ha : CE X C a ta ma) (hb : CE X C (.BoolOp .And (b :: rest) pos) tb mb) : CE X C (.BoolOp .And (a :: b :: rest) pos) (tAndV ta tb) (eAnd ma mb) := ⟨ha.hK, fun y => pe_and (ha.pe y) (hb.pe y), fun e σ w S H Q E R h => by
  have h := sat_then.mp h
  refine ha.sn e σ w S H _ E R (h.imp (fun d1 S1 h1 w1 H1 v1 l1 R1 r1 => ?_) (fun x s hx => hx))
  obtain ⟨k, rfl, rfl, h2⟩ := bool_sat r1 (sat_then.mp h1)
  refine ⟨k, rfl, ?_⟩
  cases k with
  | true => exact hb.sn e σ w1 S1 H1 _ (E.up l1) R1 (Out.sat.imp (show (mb e S1).sat _ _ from h2) (fun b s z => z.up l1) fun x s z => z.up l1)
  | false => exact h2 w1 H1 _ l1 R1 (.bl _)⟩
theorem ce_or {rest : List Expr} (ha : CE X C a ta ma) (hb : CE X C (.BoolOp .Or (b :: rest) pos) tb mb) : CE X C (.BoolOp .Or (a :: b :: rest) pos) (tOrV ta tb) (eOr ma mb) := ⟨ha.hK, fun y => pe_or (ha.pe y) (hb.pe y), fun e σ w S H Q E R h => by
  have h := sat_then.mp h
  refine ha.sn e σ w S H _ E R (h.imp (fun d1 S1 h1 w1 H1 v1 l1 R1 r1 => ?_) (fun x s hx => hx))
  obtain ⟨k, rfl, rfl, h2⟩ := bool_sat r1 (sat_then.mp h1)
  refine ⟨k, rfl, ?_⟩
  cases k with
  | false => exact hb.sn e σ w1 S1 H1 _ (E.up l1) R1 (Out.sat.imp (show (mb e S1).sat _ _ from h2) (fun b s z => z.up l1) fun x s z => z.up l1)
  | true => exact h2 w1 H1 _ l1 R1 (.bl _)⟩
/-- a < b < c -/
def eChain (g g' : D → D → M D) (a b c : Env → M D) (e : Env) : M D := bind (a e) fun x => bind (b e) fun y => bind (g x y) fun z => bind (dBool z) fun k => if k then bind (c e) fun u => g' y u else ret (.bl false)
theorem snd_chain {r r' : R2} {g g' : D → D → M D} (ha : SndE C ta ma) (hb : SndE C tb mb) (hc : SndE C tc mc) (hr : OpS C.K r g) (hr' : OpS C.K r' g') : SndE C (tChain r r' ta tb tc) (eChain g g' ma mb mc) := fun e σ w S H Q E R h => by
  have h := sat_then.mp h
  refine ha e σ w S H _ E R (h.imp (fun d1 S1 h1 w1 H1 v1 l1 R1 r1 => ?_) (fun x s hx => hx))
  have h1 := sat_then.mp h1
  refine hb e σ w1 S1 H1 _ (E.up l1) R1 (h1.imp (fun d2 S2 h2 w2 H2 v2 l2 R2 r2 => ?_) (fun x s hx => hx.up l1))
  have h2 := sat_then.mp h2
  refine hr w2 S2 H2 v1 v2 d1 d2 _ _ R2 (r1.up l2) r2 (h2.imp (fun d3 S3 h3 w3 H3 v3 l3 R3 r3 => ?_) fun _ _ z => z)
  obtain ⟨k, rfl, rfl, h4⟩ := bool_sat r3 (sat_then.mp h3)
  refine ⟨k, rfl, ?_⟩
  have l13 := (l1.trans l2).trans l3
  cases k with
  | false => exact h4 w3 H3 _ l13 R3 (.bl _)
  | true =>
    have h4 := sat_then.mp (show ((mc e S3).then _).sat _ _ from h4)
    refine hc e σ w3 S3 H3 _ (E.up l13) R3 (h4.imp (fun d4 S4 h5 w4 H4 v4 l4 R4 r4 => ?_) (fun x s hx => hx.up l13))
    exact hr' w4 S4 H4 v2 v4 d2 d4 Q _ R4 (r2.up (l3.trans l4)) r4 (h5.imp (fun d s q => q.up (l13.trans l4)) fun _ _ z => z)
theorem ce_chain {op op' : CmpOp} {r r' : R2} {g g' : D → D → M D} (ho : OpR X (compareOp op) r) (ho' : OpR X (compareOp op') r') (hs : OpS C.K r g) (hs' : OpS C.K r' g') (ha : CE X C a ta ma) (hb : CE X C b tb mb) (hc : CE X C c tc mc)
    (hm : lastMarks [op, op'] [b, c] = false := by with_unfolding_all rfl) : CE X C (.Compare a [op, op'] [b, c] pos) (tChain r r' ta tb tc) (eChain g g' ma mb mc) := ⟨ha.hK, fun y => pe_chain ho ho' (ha.pe y) (hb.pe y) (hc.pe y) hm, snd_chain ha.sn hb.sn hc.sn hs hs'⟩
end
end PM
end
section
set_option Elab.async false
set_option linter.all false
set_option maxRecDepth 100000
namespace PM
open PySem L2 Evl
section
variable {X : Cx} {C : Ct} {ta tb tc te : TE} {a b c : Expr} {ma mb mc : Env → M D} {pos : Pos}
theorem ca_nil : CA X C [] tNil aNil := ⟨fun y => pa_nil, fun e σ w S H Q E R h => h w H [] (Wd.le.refl w) R .nil⟩
theorem snd_cons {tr : TA} {mr : Env → M (List D)} (h : SndE C te mc) (g : SndA C tr mr) : SndA C (tCons te tr) (aCons mc mr) := fun e σ w S H Q E R q => by
  have q := sat_then.mp q
  refine h e σ w S H _ E R (q.imp (fun d S1 h1 w1 H1 v1 l1 R1 r1 => ?_) (fun x s hx => hx))
  have h1 := sat_then.mp h1
  refine g e σ w1 S1 H1 _ (E.up l1) R1 (h1.imp (fun ds S2 h2 w2 H2 vs l2 R2 rs => ?_) (fun x s hx => hx.up l1))
  exact h2 w2 H2 _ (l1.trans l2) R2 (.cons (r1.up l2) rs)
theorem ca_cons {e : Expr} {es : List Expr} {tr : TA} {mr : Env → M (List D)} (h : CE X C e te mc) (g : CA X C es tr mr) (hs : starEach (e :: es) X.env = (false, eval e X.env) :: starEach es X.env := by rfl) : CA X C (e :: es) (tCons te tr) (aCons mc mr) :=
  ⟨fun y => pa_cons (h.pe y) (g.pa y) hs, snd_cons h.sn g.sn⟩
/-- a list that is read, as it stands -/
def rdL (S : Sto) : D → Option (List D)
  | .lst ds => some ds
  | .scr ns => some (ns.map .int)
  | .ptr n => match S[n]? with
    | some (.lst ds) => some ds
    | _ => none
  | _ => none
/-- a list or a tuple -/
def rdQ (S : Sto) : D → Option (List D)
  | .tup ds => some ds
  | d => rdL S d
theorem rdL_ok {K : Kw} {w : Wd} {S : Sto} {H : Hp} {v : V} {d : D} {ds : List D} (R : Rel K w S H) (a : VR K w v d) (h : rdL S d = some ds) : ∃ p xs, v = .ref p ∧ SqL K H p xs ∧ VRs K w xs ds ∧ Rd H p (.lst xs) := by
  cases a with
  | lst s as =>
    cases h
    exact ⟨_, _, rfl, .inl (.inl (R.ex _ _ s)), as, .inl (R.ex _ _ s)⟩
  | @scr p ns s =>
    cases h
    exact ⟨_, _, rfl, .inl (ex_rd R.ex s), VRs.ints ns, ex_rd R.ex s⟩
  | @ptr p n hb =>
    cases q : S[n]? with
    | none =>
      simp [rdL, q] at h
    | some cc =>
      cases cc with
      | lst es =>
        simp [rdL, q] at h
        subst h
        obtain ⟨_, xs, hx, ax⟩ := R.cell _ _ _ hb q rfl
        exact ⟨_, _, rfl, .inl (.inl hx), ax, .inl hx⟩
      | _ => simp [rdL, q] at h
  | _ => cases h
theorem rdQ_ok {K : Kw} {w : Wd} {S : Sto} {H : Hp} {v : V} {d : D} {ds : List D} (R : Rel K w S H) (a : VR K w v d) (h : rdQ S d = some ds) : ∃ p xs, v = .ref p ∧ (SqL K H p xs ∨ SqT K H p xs) ∧ VRs K w xs ds := by
  cases a with
  | tup s as =>
    cases h
    exact ⟨_, _, rfl, .inr (ex_t R.ex s), as⟩
  | non => cases h
  | bl b => cases h
  | int b => cases h
  | str b => cases h
  | obj s as => cases h
  | lst s as =>
    obtain ⟨p, xs, h1, h2, h3, _⟩ := rdL_ok R (.lst s as) h
    exact ⟨p, xs, h1, .inl h2, h3⟩
  | dic s z => cases h
  | scr s =>
    obtain ⟨p, xs, h1, h2, h3, _⟩ := rdL_ok R (.scr s) h
    exact ⟨p, xs, h1, .inl h2, h3⟩
  | ptr s =>
    obtain ⟨p, xs, h1, h2, h3, _⟩ := rdL_ok R (.ptr s) h
    exact ⟨p, xs, h1, .inl h2, h3⟩
def aStar (a : Env → M D) (r : Env → M (List D)) (e : Env) : M (List D) := bind (a e) fun d => fun S => match rdQ S d with
  | some xs => (bind (r e) fun ds => ret (xs ++ ds)) S
  | none => .no
theorem ca_star {e : Expr} {es : List Expr} {p : Pos} {tr : TA} {mr : Env → M (List D)} (h : CE X C e te mc) (g : CA X C es tr mr) (hs : starEach (.Starred e p :: es) X.env = (true, eval e X.env) :: starEach es X.env := by rfl) : CA X C (.Starred e p :: es) (StX.tStar C.K te tr) (aStar mc mr) :=
  ⟨fun y => by rw [← h.hK]; exact StX.pa_star (h.pe y) (g.pa y) hs, fun e σ w S H Q E R q => by
    have q := sat_then.mp q
    refine h.sn e σ w S H _ E R (q.imp (fun d S1 h1 w1 H1 v1 l1 R1 r1 => ?_) (fun x s hx => hx))
    cases z : rdQ S1 d with
    | none =>
      rw [z] at h1
      exact h1.elim
    | some xs =>
      rw [z] at h1
      obtain ⟨p, vs, e1, e2, e3⟩ := rdQ_ok R1 r1 z
      refine ⟨p, vs, e1, e2.symm, ?_⟩
      have h1 := sat_then.mp (show ((mr e S1).then _).sat _ _ from h1)
      refine g.sn e σ w1 S1 H1 _ (E.up l1) R1 (h1.imp (fun ds S2 h2 w2 H2 us l2 R2 rs => ?_) (fun x s hx => hx.up l1))
      exact h2 w2 H2 _ (l1.trans l2) R2 ((e3.up l2).app rs)⟩
theorem snd_tup {tr : TA} {mr : Env → M (List D)} (g : SndA C tr mr) : SndE C (tTup tr) (eA dTup mr) := fun e σ w S H Q E R q => by
  have q := sat_then.mp q
  refine g e σ w S H _ E R (q.imp (fun ds S1 h1 w1 H1 vs l1 R1 rs => ?_) (fun x s hx => hx))
  obtain ⟨c, h1⟩ := gd_sat h1
  refine ⟨sz_lim (by rw [rs.len]; exact c), fun p hp => ?_⟩
  obtain ⟨le, R'⟩ := R1.plus (o := .tup vs) hp
  exact h1 _ _ _ (l1.trans le) R' (.tup (st_of upd_same) (rs.up le))
theorem ce_tup {es : List Expr} {tr : TA} {mr : Env → M (List D)} {x1} (g : CA X C es tr mr) (hK : X.kw = C.K := by rfl) : CE X C (.Tuple es x1 pos) (tTup tr) (eA dTup mr) := ⟨hK, fun y => pe_tup (g.pa y), snd_tup g.sn⟩
theorem ce_lst {es : List Expr} {tr : TA} {mr : Env → M (List D)} (g : CA X C es tr mr) (hK : X.kw = C.K := by rfl) : CE X C (.List es pos) (tLst tr) (eA dLst mr) := ⟨hK, fun y => pe_lst (g.pa y), fun e σ w S H Q E R q => by
  have q := sat_then.mp q
  refine g.sn e σ w S H _ E R (q.imp (fun ds S1 h1 w1 H1 vs l1 R1 rs => ?_) (fun x s hx => hx))
  obtain ⟨c, h1⟩ := gd_sat h1
  refine ⟨sz_lim (by rw [rs.len]; exact c), fun p hp => ?_⟩
  obtain ⟨le, R'⟩ := R1.plus (o := .lst vs) hp
  exact h1 _ _ _ (l1.trans le) R' (.lst upd_same (rs.up le))⟩
/-- [..], a list that will change -/
theorem ce_lstC {es : List Expr} {tr : TA} {mr : Env → M (List D)} (g : CA X C es tr mr) (hK : X.kw = C.K := by rfl) : CE X C (.List es pos) (tLst tr) (eA dNew mr) := ⟨hK, fun y => pe_lst (g.pa y), fun e σ w S H Q E R q => by
  have q := sat_then.mp q
  refine g.sn e σ w S H _ E R (q.imp (fun ds S1 h1 w1 H1 vs l1 R1 rs => ?_) (fun x s hx => hx))
  unfold dNew at h1
  by_cases c : ds.length ≤ lim
  · rw [if_pos c] at h1
    refine ⟨sz_lim (by rw [rs.len]; exact c), fun p hp => ?_⟩
    have R' := R1.newcell (o := .lst vs) (c := .lst ds) hp ⟨vs, upd_same, rs⟩
    exact h1 _ _ _ (l1.trans Wd.le_cell) R' (.ptr (cell_at p R1))
  · rw [if_neg c] at h1
    exact h1.elim⟩
def dIx (x y : D) : M D := fun S => match y with
  | .int i => match rdQ S x with
    | some ds => match atI ds i with
      | some d => .ok d S
      | none => .no
    | none => .no
  | _ => .no
theorem atI_of {α β : Type} {xs : List α} {ys : List β} {i : Int} (h : xs.length = ys.length) {d : β} (e : atI ys i = some d) : ∃ j : Nat, ys[j]? = some d ∧ ∀ v, xs[j]? = some v → atI xs i = some v := WD.atI_len h e
theorem ops_ix (K : Kw) : OpS K (fun x y H Q => rIxT K x y H Q ∨ rIxL K x y H Q) dIx := fun w S H x y d1 d2 Q E R a b h => by
  cases b with
  | int i =>
    cases z : rdQ S d1 with
    | none =>
      simp only [dIx, z] at h
      exact h.elim
    | some ds =>
      simp only [dIx, z] at h
      cases z2 : atI ds i with
      | none =>
        rw [z2] at h
        exact h.elim
      | some d =>
        rw [z2] at h
        obtain ⟨p, xs, rfl, e2, e3⟩ := rdQ_ok R a z
        obtain ⟨j, j1, j2⟩ := atI_of e3.len z2
        obtain ⟨v, v1, v2⟩ := e3.get j1
        rcases e2 with e2 | e2
        · exact .inr ⟨p, xs, i, v, rfl, rfl, e2, j2 v v1, h w H v (Wd.le.refl w) R v2⟩
        · exact .inl ⟨p, xs, i, v, rfl, rfl, e2, j2 v v1, h w H v (Wd.le.refl w) R v2⟩
  | _ =>
    simp only [dIx] at h
    exact h.elim
theorem ixOr {r1 r2 : R2} (h1 : IxR X r1) (h2 : IxR X r2) : IxR X (fun x y H Q => r1 x y H Q ∨ r2 x y H Q) := fun va sl pins s σ H x y v u Q I rx ry h hs => by
  rcases h with h | h
  · exact h1 va sl pins s σ H x y v u Q I rx ry h hs
  · exact h2 va sl pins s σ H x y v u Q I rx ry h hs
theorem ce_ix (ha : CE X C a ta ma) (hb : CE X C b tb mb) (hs : PlainIx b := by exact fun _ _ => rfl) : CE X C (.Subscript a b pos) (tOp (fun x y H Q => rIxT C.K x y H Q ∨ rIxL C.K x y H Q) ta tb) (e2 dIx ma mb) :=
  ⟨ha.hK, fun y => pe_ix (by rw [← ha.hK]; exact ixOr ix_tup ix_list) (ha.pe y) (hb.pe y) hs, snd_op ha.sn hb.sn (ops_ix _)⟩
def oNone (_ : Env) : M (Option Int) := ret none
def oSome (a : Env → M D) (e : Env) : M (Option Int) := bind (a e) fun d => match d with
  | .int i => ret (some i)
  | _ => stuck
theorem co_none : COp X C none tNoPart oNone := ⟨fun y => po_none, fun e σ w S H Q E R h => h w H (Wd.le.refl w) R⟩
theorem co_some (ha : CE X C a ta ma) : COp X C (some a) (tPart ta) (oSome ma) := ⟨fun y => po_some (ha.pe y), fun e σ w S H Q E R h => by
  have h := sat_then.mp h
  refine ha.sn e σ w S H _ E R (h.imp (fun d1 S1 h1 w1 H1 v1 l1 R1 r1 => ?_) (fun x s hx => hx))
  cases r1 with
  | int i => exact ⟨i, rfl, h1 w1 H1 l1 R1⟩
  | _ => exact h1.elim⟩
def cutD (ds : List D) (lo hi : Option Int) : List D := (ds.drop (HT.sIx ds.length 0 lo)).take (HT.sIx ds.length ds.length hi - HT.sIx ds.length 0 lo)
theorem cutR {K : Kw} {w : Wd} {lo hi : Option Int} {xs : List V} {ds : List D} (a : VRs K w xs ds) : VRs K w (cutV xs lo hi) (cutD ds lo hi) := by
  unfold cutV cutD
  rw [a.len]
  exact (a.drop _).take _
def dSl (x : D) (lo hi : Option Int) : M D := fun S => match x with
  | .tup ds => .ok (.tup (cutD ds lo hi)) S
  | _ => match rdL S x with
    | some ds => .ok (.lst (cutD ds lo hi)) S
    | none => .no
def eSl (a : Env → M D) (lo hi : Env → M (Option Int)) (e : Env) : M D := bind (a e) fun x => bind (lo e) fun l => bind (hi e) fun h => dSl x l h
theorem slOr {r1 r2 : V → Option Int → Option Int → Hp → VK → Prop} (h1 : SlR X r1) (h2 : SlR X r2) : SlR X (fun x l u H Q => r1 x l u H Q ∨ r2 x l u H Q) := fun pins s σ H x v vl vu lo hi sl Q I rx hs p1 p2 h => by
  rcases h with h | h
  · exact h1 pins s σ H x v vl vu lo hi sl Q I rx hs p1 p2 h
  · exact h2 pins s σ H x v vl vu lo hi sl Q I rx hs p1 p2 h
theorem snd_sl {tl th : TO} {ml mh : Env → M (Option Int)} (ha : SndE C ta ma) (hl : SndO C tl ml) (hh : SndO C th mh) : SndE C (tSl (fun x l u H Q => rSlA C.K x l u H Q ∨ rSlL C.K x l u H Q) ta tl th) (eSl ma ml mh) := fun e σ w S H Q E R h => by
  have h := sat_then.mp h
  refine ha e σ w S H _ E R (h.imp (fun d1 S1 h1 w1 H1 v1 l1 R1 r1 => ?_) (fun x s hx => hx))
  have h1 := sat_then.mp h1
  refine hl e σ w1 S1 H1 _ (E.up l1) R1 (h1.imp (fun lo S2 h2 w2 H2 l2 R2 => ?_) (fun x s hx => hx.up l1))
  have h2 := sat_then.mp h2
  refine hh e σ w2 S2 H2 _ (E.up (l1.trans l2)) R2 (h2.imp (fun hi S3 h3 w3 H3 l3 R3 => ?_) (fun x s hx => hx.up (l1.trans l2)))
  have l13 := (l1.trans l2).trans l3
  have r3 := r1.up (l2.trans l3)
  have lists : ∀ ds, rdL S3 d1 = some ds → (Out.ok (D.lst (cutD ds lo hi)) S3).sat (PV C.K w Q) (PX C w σ) → rSlL C.K v1 lo hi H3 Q := fun ds z h => by
    obtain ⟨p, xs, rfl, e2, e3, _⟩ := rdL_ok R3 r3 z
    refine ⟨p, xs, rfl, e2, fun q hq => ?_⟩
    obtain ⟨le, R'⟩ := R3.plus (o := .lst (cutV xs lo hi)) hq
    exact h _ _ _ (l13.trans le) R' (.lst upd_same ((cutR e3).up le))
  by_cases ht : ∃ ds, d1 = .tup ds
  · obtain ⟨ds, rfl⟩ := ht
    cases r3 with
    | @tup p xs _ s as =>
      refine .inl ⟨p, xs, rfl, ex_t R3.ex s, fun z => ?_, fun _ q hq => ?_⟩
      · refine h3 w3 H3 _ l13 R3 ?_
        have : cutD ds lo hi = ds := by
          unfold cutD
          rw [← as.len, z.1, z.2, List.drop_zero, Nat.sub_zero, as.len, List.take_length]
        rw [this]
        exact .tup s as
      · obtain ⟨le, R'⟩ := R3.plus (o := .tup (cutV xs lo hi)) hq
        exact h3 _ _ _ (l13.trans le) R' (.tup (st_of upd_same) ((cutR as).up le))
  · have e1 : dSl d1 lo hi S3 = match rdL S3 d1 with
      | some ds => .ok (.lst (cutD ds lo hi)) S3
      | none => .no := by
      cases d1 <;> first | rfl | exact absurd ⟨_, rfl⟩ ht
    rw [e1] at h3
    cases z : rdL S3 d1 with
    | none =>
      rw [z] at h3
      exact h3.elim
    | some ds =>
      rw [z] at h3
      exact .inr (lists ds z h3)
theorem ce_sl {lo hi : Option Expr} {tl th : TO} {ml mh : Env → M (Option Int)} {p2 : Pos} (ha : CE X C a ta ma) (hl : COp X C lo tl ml) (hh : COp X C hi th mh) :
    CE X C (.Subscript a (.Slice lo hi none p2) pos) (tSl (fun x l u H Q => rSlA C.K x l u H Q ∨ rSlL C.K x l u H Q) ta tl th) (eSl ma ml mh) := ⟨ha.hK, fun y => pe_slice (by rw [← ha.hK]; exact slOr sl_tupA sl_list) (ha.pe y) (hl.po y) (hh.po y), snd_sl ha.sn hl.sn hh.sn⟩
/-- the classes whose instances have the attribute f -/
def FldOk (K : Kw) (f : Str) (cs : List Str) : Prop := ∀ c ∈ cs, Cls K (He.ga K c) ∧ NoAttr K (He.ga K c) f
def dFldC (cs : List Str) (f : Str) (x : D) : M D := fun S => match x with
  | .obj c fs => if cs.contains c then match fs.lookup f with
    | some d => .ok d S
    | none => .no else .no
  | .ptr n => match S[n]? with
    | some (.obj c fs) => if cs.contains c then match fs.lookup f with
      | some d => .ok d S
      | none => .no else .no
    | _ => .no
  | _ => .no
theorem ce_fld {f : Str} (cs : List Str) (ok : FldOk C.K f cs) (ha : CE X C a ta ma) (hb : attributeBase a f X.env (eval a X.env) = eval a X.env := by rfl) : CE X C (.Attribute a f pos) (tFld C.K ta f) (e1 (dFldC cs f) ma) := ⟨ha.hK, fun y => by rw [← ha.hK]; exact pe_fld (ha.pe y) hb, fun e σ w S H Q E R h => by
  have h := sat_then.mp h
  refine ha.sn e σ w S H _ E R (h.imp (fun d1 S1 h1 w1 H1 v1 l1 R1 r1 => ?_) (fun x s hx => hx))
  cases r1 with
  | @obj p dx c fvs fs s as =>
    simp only [dFldC] at h1
    by_cases hc : cs.contains c = true
    · rw [if_pos hc] at h1
      obtain ⟨o1, o2⟩ := ok c (List.contains_iff_mem.mp hc)
      cases z : fs.lookup f with
      | none =>
        rw [z] at h1
        exact h1.elim
      | some d =>
        rw [z] at h1
        obtain ⟨v, v1, v2⟩ := as.look z
        exact ⟨p, _, dx, fvs, v, rfl, R1.ex _ _ s, o1, o2, v1, h1 w1 H1 v l1 R1 v2⟩
    · rw [if_neg hc] at h1
      exact h1.elim
  | @ptr p n hb =>
    simp only [dFldC] at h1
    cases q : S1[n]? with
    | none =>
      rw [q] at h1
      exact h1.elim
    | some cc =>
      rw [q] at h1
      cases cc with
      | obj c fs =>
        simp only at h1
        by_cases hc : cs.contains c = true
        · rw [if_pos hc] at h1
          obtain ⟨o1, o2⟩ := ok c (List.contains_iff_mem.mp hc)
          cases z : fs.lookup f with
          | none =>
            rw [z] at h1
            exact h1.elim
          | some d =>
            rw [z] at h1
            obtain ⟨_, dx, fvs, hx, as⟩ := R1.cell _ _ _ hb q rfl
            obtain ⟨v, v1, v2⟩ := as.look z
            exact ⟨p, _, dx, fvs, v, rfl, hx, o1, o2, v1, h1 w1 H1 v l1 R1 v2⟩
        · rw [if_neg hc] at h1
          exact h1.elim
      | _ => exact h1.elim
  | _ => exact h1.elim⟩
/-- the promise of a def that does what f says -/
def spM (K : Kw) (f : List D → M D) : Sp := fun vs H Q E => ∃ (w : Wd) (ds : List D) (S : Sto), Rel K w S H ∧ VRs K w vs ds ∧
  (f ds S).sat (PV K w Q) (fun x S' => ∀ (w' : Wd) (H' : Hp) (c : Value) (dd : Option Addr), w.le w' → Rel K w' S' H' → ErR K w' x c dd → E c dd H')
theorem ce_call {e : Expr} {es : List Expr} {tr : TA} {mr : Env → M (List D)} {x : Str} {p : Pos} {k : Nat} {f : Addr} {ps : List Str} {g : List D → M D} (F : WD.FnG X.prog X.w X.K X.mg X.base k f ps (spM X.kw g)) (hr : Room k X.A) (hg : Gl X x) (hm : X.mg x = some (.ref f)) (ha : CA X C (e :: es) tr mr)
    (hdb : (x == ("__debug__" : Str)) = false := by decide) (hst : starEach (e :: es) X.env = (false, eval e X.env) :: starEach es X.env := by rfl) (hpl : (backTo pos (starEach es X.env)).any (·.1) = false := by rfl) (hK : X.kw = C.K := by rfl) :
    CE X C (.Call (.Name x p) (e :: es) [] pos) (tCallS (spM C.K g) (WE C.W) tr) (eA g mr) := ⟨hK, fun y => by rw [← hK]; exact WD.pe_callSG F hr hg hm y.tk (ha.pa y) hdb hst hpl, fun e σ w S H Q E R h => by
  have h := sat_then.mp h
  refine ha.sn e σ w S H _ E R (h.imp (fun ds S1 h1 w1 H1 vs l1 R1 rs => ?_) (fun x s hx => hx))
  exact ⟨w1, ds, S1, R1, rs, Out.sat.imp (show (g ds S1).sat _ _ from h1) (fun d s z => z.up l1) fun x s z => z.up l1⟩⟩
end
end PM
end
section
set_option Elab.async false
set_option linter.all false
set_option maxRecDepth 100000
set_option maxHeartbeats 4000000
namespace EnT
open PySem PySem.Spec PyProof.Rows L2
/-- what enumerate makes of anything that can be begun -/
theorem new_enum {v : Value} {o : Obj} {B : Heap → Prop} (b : Begins v o B) : Meets (Builtin.«enumerate.__new__» ⟨[.type "enumerate", v], []⟩) (fun _ R s => B s.heap ∧
    R (.ok (.ret (.ref (s.heap.push o).objs.size))) { s with heap := (s.heap.push o).push { cls := .type "enumerate", data := .fields #[.none, .bool false, .ref s.heap.objs.size, rawInt 0, .none, .none] } }) := by
  refine .of_wp fun prog w A R s h => ?_
  rcases s with ⟨hp, g, d, tk, os⟩
  obtain ⟨hb, hr⟩ := h
  have isub := sub_enumerate
  have it : ∀ {A' : Around} {E : Value → Shared → Prop} {Q : Value → Shared → Prop}, Q (.ref hp.objs.size) ⟨hp.push o, g, d, tk, os⟩ → wpAny (model prog w) A' (pyIter v) Q E ⟨hp, g, d, tk, os⟩ := fun q => b.iter prog w _ _ ⟨hp, g, d, tk, os⟩ _ hb q
  wp_walk using it
  refine wpAny_stack_any fun st => wpAny_pure ?_
  split
  · rename_i c _ _ _ _ _
    cases (c == Value.type "enumerate") <;> (wp_walk using it; exact ⟨_, rfl, hr⟩)
  · wp_walk using it
    exact ⟨_, rfl, hr⟩
section
variable {prog : Program} {w : World} {A : Around} {E : Value → Shared → Prop} {s : Shared}
/-- enumerate(t) called: two new objects -/
theorem call_enum {l : Addr} {us : Array Value} {Q : Value → Shared → Prop} (hl : s.heap.IsTuple l us)
    (h : ∀ h', IsEnum h' (s.heap.objs.size + 1) s.heap.objs.size 0 .none → h'.IsTupleIter s.heap.objs.size l 0 → (∀ b o, s.heap.get? b = some o → h'.get? b = some o) → Q (.ref (s.heap.objs.size + 1)) { s with heap := h' }) :
    wpAny (model prog w) A (call (.type "enumerate") [.ref l]) Q E s := by
  have b := begins_tuple l us
  refine callType_new F.called_enumerate (by decide) (F.typeCall_enumerate_1 _) (F.newCall_enumerate_1 _) (fun obj => F.args_object_init_2 obj _) F.entry_enumerate_new (new_enum b) ⟨hl, ?_⟩
  generalize ho : ({ cls := .type "tuple_iterator", data := .fields #[.ref l, .int 0 0] } : Obj) = io
  have fr : io.isFreed = false := by rw [← ho]; rfl
  have z1 : (s.heap.push io).objs.size = s.heap.objs.size + 1 := Heap.size_push ..
  generalize hen : ({ cls := .type "enumerate", data := .fields #[.none, .bool false, .ref s.heap.objs.size, rawInt 0, .none, .none] } : Obj) = eo
  have fe : eo.isFreed = false := by rw [← hen]; rfl
  have ge : ((s.heap.push io).push eo).get? (s.heap.objs.size + 1) = some eo := by rw [← z1]; exact Heap.get?_push_size _ fe
  have gi : ((s.heap.push io).push eo).get? s.heap.objs.size = some io := Heap.get?_push_of_some _ (Heap.get?_push_size _ fr)
  show _ ∧ _
  rw [z1]
  refine ⟨⟨_, ge, by rw [← hen]⟩, h _ (by rw [← hen] at ge ⊢; exact ge) ⟨io, gi, by rw [← ho], by rw [← ho]; rfl⟩ fun b o e => Heap.get?_push_of_some _ (Heap.get?_push_of_some _ e)⟩
end
/-- the tuple at a, its items with their places in new pairs -/
def IteT (K : PySem.W.Frag) (a : Addr) : It :=
  ⟨fun i H => ∃ (xs : List V) (x : V), SqT K H a xs ∧ xs[i]? = some x, fun i H v H' => ∃ p x, v = .ref p ∧ H p = none ∧ H' = upd H p (.tup [.int (i : Nat), x]) ∧ ∀ xs, SqT K H a xs → xs[i]? = some x, fun i H => ∃ xs : List V, SqT K H a xs ∧ xs.length ≤ i⟩
/-- behind the last item nothing comes -/
theorem over {prog : Program} {w : World} {A : Around} {it a : Addr} {us : Array Value} {n : Nat} (hh : A.handled = none) (hn : us[n]? = none) :
    Draws prog w A it [it, a] n (fun _ _ => False) (fun i h => i = n ∧ h.IsTupleIter it a n ∧ h.IsTuple a us) where
  live := fun i h st => by
    obtain ⟨_, ⟨o, ho, _⟩, _⟩ := st
    exact ⟨o, ho⟩
  frame := fun i h h' st k => ⟨st.1, st.2.1.at fun o e => k it (by simp) o e, st.2.2.at fun o e => k a (by simp) o e⟩
  item := fun i s Q E hi st _ => by
    have := st.1
    omega
  done := fun s Q E st hE => wpAny_nextOf_tuple_end hh st.2.1 st.2.2 hn hE
theorem turn_enumT {P : Program} {w : World} {K : PySem.W.Frag} {elts : List Expr} {kk : Nat} {tpos : Pos} {a e it : Addr} (hae : a ≠ e) (hai : a ≠ it) (hne : e ≠ it) :
    Turn P w K (.Tuple elts kk tpos) (IteT K a) [e, it] e (fun i h => (∃ old, IsEnum h e it ((i : Nat) : Int) old) ∧ h.IsTupleIter it a i) where
  mem := List.mem_cons_self
  obj := by
    rintro i h ⟨⟨old, he⟩, ⟨o, ho, hc, hd⟩⟩ b hb
    rcases List.mem_cons.mp hb with rfl | hb
    · exact ⟨_, he, fun v q => nomatch q⟩
    · exact ⟨o, by rw [List.mem_singleton.mp hb]; exact ho, fun v q => by rw [hd] at q; cases q⟩
  keep := by
    rintro i h h' ⟨⟨old, he⟩, hi⟩ k
    exact ⟨⟨old, k e (by simp) _ he⟩, hi.at fun o q => k it (by simp) o q⟩
  item := by
    rintro X rfl rfl rfl hc i pins s σ H E I hf ⟨⟨old, he⟩, hit⟩ ⟨xs, x, hq, hx⟩
    obtain ⟨its, rv, p, hz⟩ := I.tuple hq
    obtain ⟨u, hu, ru⟩ := rv.get hx
    have le : e < s.heap.objs.size := Heap.lt_size he
    have li : it < s.heap.objs.size := by obtain ⟨_, q, _⟩ := hit; exact Heap.lt_size q
    have hh : X.A.in1.handled = none := by simp [I.ok.hd hc]
    have il : i < its.toArray.size := by
      have := (List.getElem?_eq_some_iff.mp hu).1
      simpa using this
    refine wpAny_pyNext_enum_itemD (Draws.tuple hh it a hai its.toArray) he ⟨hit, p⟩ il hne (fun z => by
      rcases List.mem_cons.mp z with z | z
      · exact hne z
      · exact hae (List.mem_singleton.mp z).symm) fun x' h' tk hx' ho st' hT hsz hk => ?_
    have ex : x' = u := by
      have hx2 : its.toArray[i]? = some x' := hx'
      rw [List.getElem?_toArray, hu] at hx2
      exact (Option.some.inj hx2).symm
    subst ex
    refine ⟨_, rfl, wpAny_letOwnedTupleGo_enum (s := { s with heap := h', toks := tk + 1 }) ho fun h2 he2 sb => ?_⟩
    have nT : s.heap.objs.size ≠ e := Nat.ne_of_gt le
    have nI : s.heap.objs.size ≠ it := Nat.ne_of_gt li
    have hT2 : h2.get? s.heap.objs.size = some { cls := .type "tuple", data := .seq #[.int i tk, x'] } := (sb.2 _ nT).trans hT
    have new : ObjOk X.prog X.w (upd H s.heap.objs.size (.tup [.int (i : Nat), x])) h2 s.heap.objs.size (.tup [.int (i : Nat), x]) := ⟨by show 2 ≤ sizeLine; rw [sizeLine_eq]; decide, [.int i tk, x'], .cons ⟨_, rfl⟩ (.cons ru .nil), ⟨_, hT2, rfl, _, rfl⟩⟩
    have J : Inv X pins σ (upd H s.heap.objs.size (.tup [.int (i : Nat), x])) { s with heap := h2, toks := tk + 1 } :=
      I.turnedNew (ch := [e, it]) (fun b ob hb q => (sb.2 b (fun z => hb (by simp [z]))).trans (hk b ob (fun z => hb (by simp [z])) (fun z => hb (by simp [z])) q)) hf (Nat.le_refl _) new
    refine ⟨.ref s.heap.objs.size, _, J, rfl, ⟨_, x, rfl, I.hok.fresh (Nat.le_refl _), rfl, fun ys hy => by rw [I.tuple_inj hy hq]; exact hx⟩, ⟨⟨x', by rw [show ((i + 1 : Nat) : Int) = (i : Int) + 1 by omega]; exact he2⟩, st'.1.at fun o q => (sb.2 it hne.symm).trans q⟩, fun b hb => ?_⟩
    have lb : b < s.heap.objs.size := by
      rcases List.mem_cons.mp hb with z | z
      · rw [z]; exact le
      · rw [List.mem_singleton.mp z]; exact li
    rw [upd_ne (Nat.ne_of_lt lb)]
    exact (hf b hb).1
  done := by
    rintro X rfl rfl rfl hc i pins s σ H E I hf ⟨⟨old, he⟩, hit⟩ ⟨xs, hq, hx⟩
    obtain ⟨its, rv, p, hz⟩ := I.tuple hq
    have hh : X.A.in1.handled = none := by simp [I.ok.hd hc]
    have il : its.toArray[i]? = none := by
      have y := rv.length
      rw [Array.getElem?_eq_none]
      simpa using (show its.length ≤ i by omega)
    obtain ⟨f0, f1, f2, f3, f4, f5⟩ := hf it (by simp)
    exact wpAny_pyNext_enum_endD (over hh il) he ⟨rfl, hit, p⟩ fun h' eb => ⟨rfl, I.turned (t' := s.toks) (fun b o hb q => eb b o hb q) f0 f1 f3 f4 f5⟩
  self := fun A i s Q E st h => by
    obtain ⟨⟨_, he⟩, _⟩ := st
    exact wpAny_pyIter_enum he h
def iEnumT (K : PySem.W.Frag) (ta : TA) : TI := fun σ H R => ta σ H fun vs H1 => ∃ a xs, vs = [.ref a] ∧ SqT K H1 a xs ∧ R (IteT K a) H1
theorem pi_enumT {X : Cx} {e : Expr} {ta : TA} {p pos tpos : Pos} {elts : List Expr} {kk : Nat} (hg : Gl X "enumerate") (hm : X.mg "enumerate" = none) (ha : PA X [e] ta) (hst : starEach [e] X.env = [(false, eval e X.env)] := by rfl) :
    PI X (.Tuple elts kk tpos) (.Call (.Name "enumerate" p) [e] [] pos) (iEnumT X.K ta) := by
  refine ⟨fun pins s σ H R I h => Call_ (ld_blt I hg hm boot_enumerate (PyProof.Rows.callWith_type1 (thn (ha.run pos pins s σ H _ I h) fun us s1 ⟨vs, H1, I1, r1, q1⟩ => ?_) hst rfl))⟩
  obtain ⟨a, xs, rfl, hq, q⟩ := q1
  obtain ⟨u, rfl, ru⟩ := r1.one
  obtain rfl : u = Value.ref a := ru
  obtain ⟨its, rv, pt, hz⟩ := I1.tuple hq
  have la : a < s1.heap.objs.size := by
    obtain ⟨o, ho, _⟩ := id pt
    exact Heap.lt_size ho
  refine call_enum pt fun h' he hit hk => wpAny_pyIter_enum he ?_
  have I2 : Inv X pins σ H1 { s1 with heap := h' } := I1.kept (t' := s1.toks) hk
  refine ⟨s1.heap.objs.size + 1, [s1.heap.objs.size + 1, s1.heap.objs.size], _, _, H1, rfl, I2, turn_enumT (a := a) (Nat.ne_of_lt (Nat.lt_succ_of_lt la)) (Nat.ne_of_lt la) (Nat.succ_ne_self _), ⟨⟨.none, he⟩, hit⟩, fun b hb => ?_, q⟩
  have lb : s1.heap.objs.size ≤ b := by
    rcases List.mem_cons.mp hb with z | z
    · rw [z]; exact Nat.le_succ _
    · rw [List.mem_singleton.mp z]; exact Nat.le_refl _
  exact I1.fpOk lb (I1.hok.fresh lb)
end EnT
namespace WD
open PySem PySem.Spec PyProof.Rows L2 Evl
end WD
end
section
set_option Elab.async false
set_option linter.all false
set_option maxRecDepth 100000
namespace PM
open PySem L2 Evl
section
variable {X : Cx} {C : Ct} {ta tb tc te : TE} {a b c : Expr} {ma mb mc : Env → M D} {pos : Pos}
/-- an instance of the class c without a field m -/
def insOf (S : Sto) (c m : Str) : D → Bool
  | .obj c' fs => decide (c' = c) && (fs.lookup m).isNone
  | .ptr n => match S[n]? with
    | some (.obj c' fs) => decide (c' = c) && (fs.lookup m).isNone
    | _ => false
  | _ => false
theorem insOf_ok {K : Kw} {w : Wd} {S : Sto} {H : Hp} {v : V} {d : D} {c m : Str} (R : Rel K w S H) (r : VR K w v d) (h : insOf S c m d = true) : ∃ p dx fvs, v = .ref p ∧ H p = some (.ins (He.ga K c) dx fvs) ∧ fvs.lookup m = none := by
  cases r with
  | @obj p dx c' fvs fs s as =>
    obtain ⟨h1, h2⟩ := Bool.and_eq_true_iff.mp h
    obtain rfl := of_decide_eq_true h1
    exact ⟨p, dx, fvs, rfl, R.ex _ _ s, as.none (Option.isNone_iff_eq_none.mp h2)⟩
  | @ptr p n hb =>
    cases q : S[n]? with
    | none =>
      simp [insOf, q] at h
    | some cc =>
      cases cc with
      | obj c' fs =>
        simp only [insOf, q] at h
        obtain ⟨h1, h2⟩ := Bool.and_eq_true_iff.mp h
        obtain rfl := of_decide_eq_true h1
        obtain ⟨_, dx, fvs, hx, as⟩ := R.cell _ _ _ hb q rfl
        exact ⟨p, dx, fvs, rfl, hx, as.none (Option.isNone_iff_eq_none.mp h2)⟩
      | _ => simp [insOf, q] at h
  | _ => cases h
theorem sp_of {K : Kw} {w : Wd} {S : Sto} {H : Hp} {vs : List V} {ds : List D} {g : List D → M D} {Q : VK} {E : XK} (R : Rel K w S H) (rs : VRs K w vs ds) {P : D → Sto → Prop} {F : Er → Sto → Prop} (h : (g ds S).sat P F) (hp : ∀ d s, P d s → PV K w Q d s)
    (he : ∀ x s, F x s → ∀ (w' : Wd) (H' : Hp) (c : Value) (dd : Option Addr), w.le w' → Rel K w' s H' → ErR K w' x c dd → E c dd H') : spM K g vs H Q E := ⟨w, ds, S, R, rs, h.imp hp he⟩
def eMeth (c m : Str) (g : List D → M D) (o : Env → M D) (r : Env → M (List D)) (e : Env) : M D := bind (o e) fun d => fun S => if insOf S c m d then (bind (r e) fun ds => g (d :: ds)) S else .no
def noE {α : Type} (o : Out α) : Out α := match o with
  | .er _ _ => .no
  | o => o
theorem noE_sat {α : Type} {o : Out α} {P : α → Sto → Prop} {E E' : Er → Sto → Prop} (h : (noE o).sat P E) : o.sat P E' := by
  cases o with
  | ok d s => exact h
  | er x s => exact h.elim
  | no => exact h
@[simp] theorem noE_ok {α : Type} (d : α) (s : Sto) : noE (Out.ok d s) = .ok d s := rfl
def eMeth0 (c m : Str) (g : List D → M D) (o : Env → M D) (e : Env) : M D := bind (o e) fun d => fun S => if insOf S c m d then noE (g [d] S) else .no
/-- a method with defaults, whose data are es -/
def eMethH (c m : Str) (g : List D → M D) (dd : List D) (o : Env → M D) (r : Env → M (List D)) (e : Env) : M D := bind (o e) fun d => fun S => if insOf S c m d then (bind (r e) fun ds => fun S2 => noE (g (d :: (ds ++ dd)) S2)) S else .no
/-- an instance made: it stays (keep: it may change) -/
def mkObj (keep : Bool) (c : Str) (g : List D → M D) (ds : List D) : M D := fun S => match g (.ptr S.length :: ds) (S ++ [.obj c []]) with
  | .ok .non S' => match S'[S.length]? with
    | some (.obj c' fs) => if keep then .ok (.ptr S.length) S' else .ok (.obj c' fs) (S'.set S.length .dead)
    | _ => .no
  | .er x S' => .er x S'
  | _ => .no
theorem make_ok {K : Kw} {keep : Bool} {c : Str} {g : List D → M D} {ds : List D} {w0 w : Wd} {S : Sto} {H : Hp} {vs : List V} {Q : VK} {E : XK} {F : Er → Sto → Prop} {x dx : Addr} (l0 : w0.le w) (R : Rel K w S H) (rs : VRs K w vs ds) (h : (mkObj keep c g ds S).sat (PV K w0 Q) F) (h1 : H x = none) (h2 : H dx = none) (ne : dx ≠ x)
    (he : ∀ e s, F e s → ∀ (w' : Wd) (H' : Hp) (c : Value) (dd : Option Addr), w.le w' → Rel K w' s H' → ErR K w' e c dd → E c dd H') : spM K g (.ref x :: vs) (upd (upd H dx (.own x)) x (.ins (He.ga K c) dx [])) (fun v H2 => v = .non ∧ Q (.ref x) H2) E := by
  have Ra := R.grow (Ex.new (o := .own x) h2)
  have hx : upd H dx (.own x) x = none := by
    rw [upd_ne (Ne.symm ne)]
    exact h1
  have Rb := Ra.newcell (o := .ins (He.ga K c) dx []) (c := .obj c []) hx ⟨dx, [], upd_same, .nil⟩
  refine ⟨w.cell x, .ptr S.length :: ds, S ++ [.obj c []], Rb, .cons (.ptr (cell_at x R)) (rs.up Wd.le_cell), ?_⟩
  unfold mkObj at h
  cases q : g (.ptr S.length :: ds) (S ++ [.obj c []]) with
  | no =>
    rw [q] at h
    exact h.elim
  | er e s =>
    rw [q] at h
    exact fun w' H' c dd l r er => he e s h w' H' c dd (Wd.le_cell.trans l) r er
  | ok d s =>
    rw [q] at h
    intro w' H' v l r a
    cases a with
    | non =>
      refine ⟨rfl, ?_⟩
      simp only at h
      have hb : w'.B[S.length]? = some x := pre_get l.b (cell_at x R)
      cases z : s[S.length]? with
      | none =>
        rw [z] at h
        exact h.elim
      | some cc =>
        rw [z] at h
        cases cc with
        | obj c' fs =>
          simp only at h
          have l2 := l0.trans (Wd.le_cell.trans l)
          cases keep with
          | true => exact h w' H' _ l2 r (.ptr hb)
          | false =>
            obtain ⟨_, dy, fvs, hy, as⟩ := r.cell _ _ _ hb z rfl
            obtain ⟨l3, r3⟩ := r.freeze hb z rfl hy
            exact h _ H' _ (l2.trans l3) r3 (.obj upd_same (as.up l3))
        | _ => exact h.elim
    | _ => exact h.elim
theorem ce_make (keep : Bool) {e : Expr} {es : List Expr} {x c : Str} {p : Pos} {tr : TA} {mr : Env → M (List D)} {k : Nat} {f : Addr} {ps : List Str} {g : List D → M D} (Mk_ : Mk X.K (He.ga X.K c) f) (F : WD.FnG X.prog X.w X.K X.mg X.base k f ps (spM X.kw g)) (hr : Room (k + 1) X.A) (hg : Gl X x) (hm : X.mg x = some (.ref (He.ga X.K c))) (ha : CA X C (e :: es) tr mr)
    (hdb : (x == ("__debug__" : Str)) = false := by decide) (he : starEach (e :: es) X.env = (false, eval e X.env) :: starEach es X.env := by rfl) (hpl : (backTo pos (starEach es X.env)).any (·.1) = false := by rfl) (hK : X.kw = C.K := by rfl) :
    CE X C (.Call (.Name x p) (e :: es) [] pos) (tMakeX (He.ga C.K c) (spM C.K g) (WE C.W) tr) (eA (mkObj keep c g) mr) := ⟨hK, fun y => by rw [← hK]; exact pe_makeSG Mk_ F hr hg hm y.tk (ha.pa y) hdb he hpl, fun e σ w S H Q E R h => by
  have h := sat_then.mp h
  refine ha.sn e σ w S H _ E R (h.imp (fun ds S1 h1 w1 H1 vs l1 R1 rs => ?_) (fun x s hx => hx))
  exact fun x dx n1 n2 ne => make_ok l1 R1 rs h1 n1 n2 ne fun e s q => q.up l1⟩
def dLenO (c : Str) (g : List D → M D) (ds : List D) : M D := fun S => match ds with
  | [d] => if insOf S c "" d then (noE (g [d] S)).then fun r => match r with
    | .int i => gd (0 ≤ i ∧ i < 2 ^ 63) (ret (.int i))
    | _ => stuck else .no
  | _ => .no
theorem calls_lenO {K : Kw} {c : Str} {g : List D → M D} : CallS K (rLenO (He.ga K c) (spM K g) E0) (dLenO c g) := fun w S H xs ds Q E R rs h => by
  cases rs with
  | nil => exact h.elim
  | cons r1 rr =>
    cases rr with
    | cons _ _ => exact h.elim
    | nil =>
      rename_i v d
      have h : (if insOf S c "" d then (noE (g [d] S)).then _ else Out.no).sat _ _ := h
      by_cases z : insOf S c "" d = true
      · rw [if_pos z] at h
        obtain ⟨p, dx, fvs, rfl, hp, _⟩ := insOf_ok R r1 z
        have h := sat_then.mp h
        refine ⟨p, dx, fvs, rfl, hp, sp_of R (.cons r1 .nil) (noE_sat (E' := fun _ _ => False) h) (fun d s q w' H' v l r a => ?_) fun _ _ q => q.elim⟩
        cases a with
        | int i =>
          obtain ⟨c1, q⟩ := gd_sat q
          exact ⟨i, rfl, c1, q w' H' _ l r (.int _)⟩
        | _ => exact q.elim
      · rw [if_neg z] at h
        exact h.elim
def dEqO (neg : Bool) (c : Str) (g : List D → M D) (x y : D) : M D := fun S => if insOf S c "" x && insOf S c "" y then (noE (g [x, y] S)).then fun r => match r with
    | .bl b => ret (.bl (neg != b))
    | _ => stuck else .no
theorem ops_neO {K : Kw} {c : Str} {g : List D → M D} : OpS K (rNeO K (He.ga K c) (spM K g) E0) (dEqO true c g) := fun w S H x y d1 d2 Q E R a b h => by
  unfold dEqO at h
  by_cases z : (insOf S c "" d1 && insOf S c "" d2) = true
  · rw [if_pos z] at h
    obtain ⟨z1, z2⟩ := Bool.and_eq_true_iff.mp z
    obtain ⟨p, dx, fvs, rfl, hp, _⟩ := insOf_ok R a z1
    obtain ⟨p', dx', fvs', rfl, hp', _⟩ := insOf_ok R b z2
    have h := sat_then.mp h
    refine ⟨p, p', dx, dx', fvs, fvs', rfl, rfl, hp, hp', sp_of R (.cons a (.cons b .nil)) (noE_sat (E' := fun _ _ => False) h) (fun d s q w' H' v l r a => ?_) fun _ _ q => q.elim⟩
    cases a with
    | bl k =>
      have := q w' H' _ l r (.bl _)
      rw [Bool.true_bne] at this
      exact ⟨k, rfl, this⟩
    | _ => exact q.elim
  · rw [if_neg z] at h
    exact h.elim
/-- the truth of an instance -/
def tTru (c : Str) (g : List D → M D) (a : Env → M D) (e : Env) : M Bool := bind (a e) fun d => fun S => if insOf S c "" d then (noE (g [d] S)).then dBool else .no
theorem ct_truO {e : Expr} {c : Str} {g : List D → M D} {k : Nat} {f : Addr} {ps : List Str} (F : WD.FnG X.prog X.w X.K X.mg X.base k f ps (spM X.kw g)) (hm : Meth X.K (He.ga X.K c) "__bool__" f) (hr : Room k X.A) (ha : CE X C e ta ma)
    (he : ∀ whole, isTrue e X.env whole = (do let v ← whole; standAt e.pos; holding [v] (truthy v)) := by intro _; rfl) : CT X C e (tTruO (He.ga C.K c) (spM C.K g) E0 ta) (tTru c g ma) := ⟨ha.hK, fun y => by rw [← ha.hK]; exact WD.truO_of F hm hr (ha.pe y) he, fun e σ w S H Q E R h => by
  have h := sat_then.mp h
  refine ha.sn e σ w S H _ E R (h.imp (fun d S1 h1 w1 H1 v l1 R1 r1 => ?_) (fun x s hx => hx))
  by_cases z : insOf S1 c "" d = true
  · rw [if_pos z] at h1
    obtain ⟨p, dx, fvs, rfl, hp, _⟩ := insOf_ok R1 r1 z
    have h1 := sat_then.mp h1
    refine ⟨p, dx, fvs, rfl, hp, sp_of R1 (.cons r1 .nil) (noE_sat (E' := fun _ _ => False) h1) (fun d s q w' H' v l r a => ?_) fun _ _ q => q.elim⟩
    obtain ⟨kk, rfl, rfl, q⟩ := bool_sat a q
    exact ⟨kk, rfl, q w' H' (l1.trans l) r⟩
  · rw [if_neg z] at h1
    exact h1.elim⟩
theorem ce_callB {e : Expr} {es : List Expr} {tr : TA} {mr : Env → M (List D)} {x : Str} {p : Pos} {id : String} {r : List V → Hp → VK → Prop} {g : List D → M D} (hc : CallR X (.builtin id) r) (hs : CallS C.K r g) (hg : Gl X x) (hm : X.mg x = none) (hv : bootBuiltins x = some (.builtin id)) (ha : CA X C (e :: es) tr mr) (hn : x ≠ "__name__" := by decide) (hdb : (x == ("__debug__" : Str)) = false := by decide)
    (he : starEach (e :: es) X.env = (false, eval e X.env) :: starEach es X.env := by rfl) (hpl : (backTo pos (starEach es X.env)).any (·.1) = false := by rfl) (hK : X.kw = C.K := by rfl) : CE X C (.Call (.Name x p) (e :: es) [] pos) (tCB r tr) (eA g mr) := ⟨hK, fun y => pe_callB hc hg hm hv (ha.pa y) hn hdb he hpl, fun e σ w S H Q E R h => by
  have h := sat_then.mp h
  refine ha.sn e σ w S H _ E R (h.imp (fun ds S1 h1 w1 H1 vs l1 R1 rs => ?_) (fun x s hx => hx))
  exact hs w1 S1 H1 vs ds Q _ R1 rs (h1.imp (fun d s q => q.up l1) fun _ _ z => z)⟩
theorem ce_callTy {e : Expr} {es : List Expr} {tr : TA} {mr : Env → M (List D)} {x : Str} {p : Pos} {T : String} {r : List V → Hp → VK → Prop} {g : List D → M D} (hc : CallR X (.type T) r) (hs : CallS C.K r g) (hg : Gl X x) (hm : X.mg x = none) (hv : bootBuiltins x = some (.type T)) (ha : CA X C (e :: es) tr mr) (hn : x ≠ "__name__" := by decide) (hdb : (x == ("__debug__" : Str)) = false := by decide)
    (he : starEach (e :: es) X.env = (false, eval e X.env) :: starEach es X.env := by rfl) (hpl : (backTo pos (starEach es X.env)).any (·.1) = false := by rfl) (hK : X.kw = C.K := by rfl) : CE X C (.Call (.Name x p) (e :: es) [] pos) (tCB r tr) (eA g mr) := ⟨hK, fun y => pe_callTy hc hg hm hv (ha.pa y) hn hdb he hpl, fun e σ w S H Q E R h => by
  have h := sat_then.mp h
  refine ha.sn e σ w S H _ E R (h.imp (fun ds S1 h1 w1 H1 vs l1 R1 rs => ?_) (fun x s hx => hx))
  exact hs w1 S1 H1 vs ds Q _ R1 rs (h1.imp (fun d s q => q.up l1) fun _ _ z => z)⟩
theorem ce_callBf {e : Expr} {es : List Expr} {tr : TA} {mr : Env → M (List D)} {x : Str} {p : Pos} {id : String} {r : List V → Hp → VK → Prop} {g : List D → M D} (hc : CallR X (.builtin id) r) (hs : CallS C.K r g) (hg : Gl X x) (hm : X.mg x = some (.builtin id)) (ha : CA X C (e :: es) tr mr) (hdb : (x == ("__debug__" : Str)) = false := by decide)
    (he : starEach (e :: es) X.env = (false, eval e X.env) :: starEach es X.env := by rfl) (hpl : (backTo pos (starEach es X.env)).any (·.1) = false := by rfl) (hK : X.kw = C.K := by rfl) : CE X C (.Call (.Name x p) (e :: es) [] pos) (tCB r tr) (eA g mr) := ⟨hK, fun y => pe_callBfun hc hg hm (ha.pa y) hdb he hpl, fun e σ w S H Q E R h => by
  have h := sat_then.mp h
  refine ha.sn e σ w S H _ E R (h.imp (fun ds S1 h1 w1 H1 vs l1 R1 rs => ?_) (fun x s hx => hx))
  exact hs w1 S1 H1 vs ds Q _ R1 rs (h1.imp (fun d s q => q.up l1) fun _ _ z => z)⟩
def d1 (g : D → M D) (ds : List D) : M D := match ds with
  | [d] => g d
  | _ => stuck
def d2 (g : D → D → M D) (ds : List D) : M D := match ds with
  | [d, e] => g d e
  | _ => stuck
theorem calls1 {K : Kw} {r : List V → Hp → VK → Prop} {g : D → M D} (h : ∀ (w : Wd) (S : Sto) (H : Hp) (x : V) (d : D) (Q : VK) (E : Er → Sto → Prop), Rel K w S H → VR K w x d → (g d S).sat (PV K w Q) E → r [x] H Q) : CallS K r (d1 g) := fun w S H xs ds Q E R rs q => by
  cases rs with
  | nil => exact q.elim
  | cons r1 rr =>
    cases rr with
    | cons _ _ => exact q.elim
    | nil => exact h w S H _ _ Q E R r1 q
theorem calls2 {K : Kw} {r : List V → Hp → VK → Prop} {g : D → D → M D} (h : ∀ (w : Wd) (S : Sto) (H : Hp) (x y : V) (d e : D) (Q : VK) (E : Er → Sto → Prop), Rel K w S H → VR K w x d → VR K w y e → (g d e S).sat (PV K w Q) E → r [x, y] H Q) : CallS K r (d2 g) := fun w S H xs ds Q E R rs q => by
  cases rs with
  | nil => exact q.elim
  | cons r1 rr =>
    cases rr with
    | nil => exact q.elim
    | cons r2 rr =>
      cases rr with
      | cons _ _ => exact q.elim
      | nil => exact h w S H _ _ _ _ Q E R r1 r2 q
/-- with what is read as a list or a tuple -/
def wQ {α : Type} (x : D) (g : List D → M α) : M α := fun S => match rdQ S x with
  | some ds => g ds S
  | none => .no
def wL {α : Type} (x : D) (g : List D → M α) : M α := fun S => match rdL S x with
  | some ds => g ds S
  | none => .no
theorem wQ_sat {α : Type} {x : D} {g : List D → M α} {S : Sto} {P : α → Sto → Prop} {E : Er → Sto → Prop} (h : (wQ x g S).sat P E) : ∃ ds, rdQ S x = some ds ∧ (g ds S).sat P E := by
  unfold wQ at h
  cases z : rdQ S x with
  | none =>
    rw [z] at h
    exact h.elim
  | some ds =>
    rw [z] at h
    exact ⟨ds, rfl, h⟩
theorem wL_sat {α : Type} {x : D} {g : List D → M α} {S : Sto} {P : α → Sto → Prop} {E : Er → Sto → Prop} (h : (wL x g S).sat P E) : ∃ ds, rdL S x = some ds ∧ (g ds S).sat P E := by
  unfold wL at h
  cases z : rdL S x with
  | none =>
    rw [z] at h
    exact h.elim
  | some ds =>
    rw [z] at h
    exact ⟨ds, rfl, h⟩
def dLen (x : D) : M D := wQ x fun ds => ret (.int ds.length)
theorem calls_len {K : Kw} : CallS K (rLenS K) (d1 dLen) := calls1 fun w S H x d Q E R a h => by
  obtain ⟨ds, z, h⟩ := wQ_sat h
  obtain ⟨p, xs, rfl, e2, e3⟩ := rdQ_ok R a z
  refine ⟨p, xs, rfl, e2, ?_⟩
  rw [e3.len]
  exact h w H _ (Wd.le.refl w) R (.int _)
def dTuple (x : D) : M D := fun S => match x with
  | .tup ds => .ok (.tup ds) S
  | _ => wL x (fun ds => ret (.tup ds)) S
theorem calls_tuple {K : Kw} : CallS K (WD.rTupS K) (d1 dTuple) := calls1 fun w S H x d Q E R a h => by
  by_cases ht : ∃ ds, d = .tup ds
  · obtain ⟨ds, rfl⟩ := ht
    cases a with
    | @tup p xs _ s as => exact ⟨p, xs, rfl, .inr ⟨ex_t R.ex s, h w H _ (Wd.le.refl w) R (.tup s as)⟩⟩
  · have e1 : dTuple d S = wL d (fun ds => ret (.tup ds)) S := by
      cases d <;> first | rfl | exact absurd ⟨_, rfl⟩ ht
    rw [e1] at h
    obtain ⟨ds, z, h⟩ := wL_sat h
    obtain ⟨p, xs, rfl, e2, e3, _⟩ := rdL_ok R a z
    refine ⟨p, xs, rfl, .inl ⟨e2, fun l hl => ?_⟩⟩
    obtain ⟨le, R'⟩ := R.plus (o := .tup xs) hl
    exact h _ _ _ le R' (.tup (st_of upd_same) (e3.up le))
def dList (x : D) : M D := wQ x fun ds => ret (.lst ds)
theorem calls_list {K : Kw} : CallS K (rListS K) (d1 dList) := calls1 fun w S H x d Q E R a h => by
  obtain ⟨ds, z, h⟩ := wQ_sat h
  obtain ⟨p, xs, rfl, e2, e3⟩ := rdQ_ok R a z
  refine ⟨p, xs, rfl, e2, fun l hl => ?_⟩
  obtain ⟨le, R'⟩ := R.plus (o := .lst xs) hl
  exact h _ _ _ le R' (.lst upd_same (e3.up le))
/-- list(x), a list that will change -/
def dListC (x : D) : M D := wQ x dNew
theorem calls_listC {K : Kw} : CallS K (rListS K) (d1 dListC) := calls1 fun w S H x d Q E R a h => by
  obtain ⟨ds, z, h⟩ := wQ_sat h
  obtain ⟨p, xs, rfl, e2, e3⟩ := rdQ_ok R a z
  unfold dNew at h
  by_cases c : ds.length ≤ lim
  · rw [if_pos c] at h
    refine ⟨p, xs, rfl, e2, fun l hl => ?_⟩
    exact h _ _ _ Wd.le_cell (R.newcell (o := .lst xs) (c := .lst ds) hl ⟨xs, upd_same, e3⟩) (.ptr (cell_at l R))
  · rw [if_neg c] at h
    exact h.elim
def dInt : D → M D
  | .int i => ret (.int i)
  | .bl b => ret (.int (if b then 1 else 0))
  | _ => stuck
theorem calls_int {K : Kw} : CallS K WD.rInt1 (d1 dInt) := calls1 fun w S H x d Q E R a h => by
  cases a with
  | int i => exact .inl ⟨i, rfl, h w H _ (Wd.le.refl w) R (.int _)⟩
  | bl b => exact .inr ⟨b, rfl, h w H _ (Wd.le.refl w) R (.int _)⟩
  | _ => exact h.elim
def dAbs : D → M D
  | .int i => ret (.int (if i < 0 then -i else i))
  | _ => stuck
def dMin2 : D → D → M D
  | .int i, .int j => ret (.int (if j < i then j else i))
  | _, _ => stuck
def dMax2 : D → D → M D
  | .int i, .int j => ret (.int (if j > i then j else i))
  | _, _ => stuck
def dGcd : D → D → M D
  | .int i, .int j => ret (.int ((Nat.gcd i.natAbs j.natAbs : Nat) : Int))
  | _, _ => stuck
def dLcm : D → D → M D
  | .int i, .int j => gd (0 ≤ i ∧ 0 ≤ j ∧ i.toNat.log2 < 5999 ∧ j.toNat.log2 < 5999) (ret (.int ((Nat.lcm i.toNat j.toNat : Nat) : Int)))
  | _, _ => stuck
theorem calls_min2 {K : Kw} : CallS K WD.rMin2 (d2 dMin2) := calls2 fun w S H x y d e Q E R a b h => by
  cases a with
  | int i =>
    cases b with
    | int j => exact ⟨i, j, rfl, h w H _ (Wd.le.refl w) R (.int _)⟩
    | _ => exact h.elim
  | _ => exact h.elim
theorem calls_max2 {K : Kw} : CallS K rMax2 (d2 dMax2) := calls2 fun w S H x y d e Q E R a b h => by
  cases a with
  | int i =>
    cases b with
    | int j => exact ⟨i, j, rfl, h w H _ (Wd.le.refl w) R (.int _)⟩
    | _ => exact h.elim
  | _ => exact h.elim
theorem lt_pow_of_log2 {n k : Nat} (h : n.log2 < k) : n < 2 ^ (k + 1) := by
  by_cases z : n = 0
  · subst z
    exact Nat.two_pow_pos _
  · exact Nat.lt_of_lt_of_le ((Nat.log2_lt z).mp h) (Nat.pow_le_pow_right (by decide) (by omega))
theorem calls_lcm {K : Kw} : CallS K WD.rLcm (d2 dLcm) := calls2 fun w S H x y d e Q E R a b h => by
  cases a with
  | int i =>
    cases b with
    | int j =>
      obtain ⟨⟨c1, c2, c3, c4⟩, h⟩ := gd_sat h
      exact ⟨i.toNat, j.toNat, by rw [Int.toNat_of_nonneg c1, Int.toNat_of_nonneg c2], lt_pow_of_log2 c3, lt_pow_of_log2 c4, h w H _ (Wd.le.refl w) R (.int _)⟩
    | _ => exact h.elim
  | _ => exact h.elim
def asInts : List D → Option (List Int)
  | [] => some []
  | .int i :: ds => (asInts ds).map (i :: ·)
  | _ => none
def asBools : List D → Option (List Bool)
  | [] => some []
  | .bl i :: ds => (asBools ds).map (i :: ·)
  | _ => none
theorem asInts_ok {K : Kw} {w : Wd} : ∀ {vs : List V} {ds : List D} {ns : List Int}, VRs K w vs ds → asInts ds = some ns → vs = ns.map V.int
  | _, _, _, .nil, h => by
    cases h
    rfl
  | _, _, ns, .cons (ds := ds) (.int i) as, h => by
    cases q : asInts ds with
    | none => simp [asInts, q] at h
    | some ms =>
      simp [asInts, q] at h
      subst h
      rw [asInts_ok as q]
      rfl
  | _, _, _, .cons .non _, h => by cases h
  | _, _, _, .cons (.bl _) _, h => by cases h
  | _, _, _, .cons (.str _) _, h => by cases h
  | _, _, _, .cons (.tup _ _) _, h => by cases h
  | _, _, _, .cons (.lst _ _) _, h => by cases h
  | _, _, _, .cons (.obj _ _) _, h => by cases h
  | _, _, _, .cons (.ptr _) _, h => by cases h
  | _, _, _, .cons (.scr _) _, h => by cases h
@[simp] theorem asInts_map (ns : List Int) : asInts (ns.map D.int) = some ns := by
  induction ns with
  | nil => rfl
  | cons n ns ih => simp [asInts, ih]
@[simp] theorem bools_map (ns : List Bool) : asBools (ns.map D.bl) = some ns := by
  induction ns with
  | nil => rfl
  | cons n ns ih => simp [asBools, ih]
def oM {α β : Type} (o : Option α) (g : α → M β) : M β := match o with
  | some a => g a
  | none => stuck
@[simp] theorem oM_some {α β : Type} (a : α) (g : α → M β) : oM (some a) g = g a := rfl
theorem oM_sat {α β : Type} {o : Option α} {g : α → M β} {S : Sto} {P : β → Sto → Prop} {E : Er → Sto → Prop} (h : (oM o g S).sat P E) : ∃ a, o = some a ∧ (g a S).sat P E := by
  cases o with
  | none => exact h.elim
  | some a => exact ⟨a, rfl, h⟩
def dSum (x : D) : M D := wL x fun ds => oM (asInts ds) fun ns => ret (.int ns.sum)
def maxI : Int → List Int → Int
  | m, [] => m
  | m, n :: ns => maxI (if n > m then n else m) ns
theorem calls_sum {K : Kw} : CallS K (rSum K) (d1 dSum) := calls1 fun w S H x d Q E R a h => by
  obtain ⟨ds, z, h⟩ := wL_sat h
  obtain ⟨ns, z2, h⟩ := oM_sat h
  obtain ⟨p, xs, rfl, e2, e3, _⟩ := rdL_ok R a z
  obtain rfl := asInts_ok e3 z2
  exact ⟨p, ns, rfl, e2, h w H _ (Wd.le.refl w) R (.int _)⟩
end
end PM
end
section
set_option Elab.async false
set_option linter.all false
set_option maxRecDepth 100000
namespace PM
open PySem L2 Evl
section
variable {X : Cx} {C : Ct} {ta tb tc te : TE} {a b c : Expr} {ma mb mc : Env → M D} {pos : Pos}
abbrev Ty := String ⊕ Str
def bks : List String := ["NoneType", "bool", "int", "str", "tuple", "list", "dict"]
def bts : List String := ["bool", "int", "str", "tuple", "list", "dict"]
def kitP (s n : String) : Bool := s == n || (s == "bool" && n == "int")
theorem kitAll : (bks.all fun s => bts.all fun n => decide (kitB s n = some (kitP s n))) = true := by decide +kernel
structure KT (K : PySem.W.Frag) (own : List Str) (sub : Str → Str → Bool) : Prop where
  ty : ∀ c ∈ own, WD.OwnTy K c
  ob : ∀ c ∈ own, ∀ n ∈ bts, PySem.W.kitOne K (.ref (He.ga K c)) (.type n) = some false
  bo : ∀ c ∈ own, ∀ s ∈ bks, PySem.W.kitOne K (.type s) (.ref (He.ga K c)) = some false
  oo : ∀ c ∈ own, ∀ c' ∈ own, PySem.W.kitOne K (.ref (He.ga K c)) (.ref (He.ga K c')) = some (sub c c')
def tyv (K : Kw) : Ty → Value
  | .inl n => .type n
  | .inr c => .ref (He.ga K c)
def tV (K : Kw) : Ty → V
  | .inl n => .ty n
  | .inr c => .ref (He.ga K c)
theorem clsV {K : Kw} : ∀ t : Ty, ClsV (tV K t) (tyv K t)
  | .inl n => .ty n
  | .inr c => .own _
def okT (own : List Str) : Ty → Bool
  | .inl n => bts.contains n
  | .inr c => own.contains c
def okK (own : List Str) : Ty → Bool
  | .inl n => bks.contains n
  | .inr c => own.contains c
def isK (sub : Str → Str → Bool) : Ty → Ty → Bool
  | .inl s, .inl n => kitP s n
  | .inr c, .inr c' => sub c c'
  | _, _ => false
theorem kit_is {K : Kw} {own : List Str} {sub : Str → Str → Bool} (T : KT K own sub) {k t : Ty} (hk : okK own k = true) (ht : okT own t = true) : PySem.W.kitOne K (tyv K k) (tyv K t) = some (isK sub k t) := by
  cases k with
  | inl s =>
    cases t with
    | inl n => exact kit_ty (of_decide_eq_true (List.all_eq_true.mp (List.all_eq_true.mp kitAll s (List.contains_iff_mem.mp hk)) n (List.contains_iff_mem.mp ht)))
    | inr c => exact T.bo c (List.contains_iff_mem.mp ht) s (List.contains_iff_mem.mp hk)
  | inr c =>
    cases t with
    | inl n => exact T.ob c (List.contains_iff_mem.mp hk) n (List.contains_iff_mem.mp ht)
    | inr c' => exact T.oo c (List.contains_iff_mem.mp hk) c' (List.contains_iff_mem.mp ht)
def kindOf (S : Sto) : D → Option Ty
  | .non => some (.inl "NoneType")
  | .bl _ => some (.inl "bool")
  | .int _ => some (.inl "int")
  | .str _ => some (.inl "str")
  | .tup _ => some (.inl "tuple")
  | .lst _ => some (.inl "list")
  | .scr _ => some (.inl "list")
  | .obj c _ => some (.inr c)
  | .dic _ _ => none
  | .ptr n => match S[n]? with
    | some (.lst _) => some (.inl "list")
    | some (.obj c _) => some (.inr c)
    | some (.dic _) => some (.inl "dict")
    | _ => none
theorem ins_ty {K : Kw} {own : List Str} {sub : Str → Str → Bool} (T : KT K own sub) {H : Hp} {p dx : Addr} {c : Str} {fs : List (Str × V)} (h : H p = some (.ins (He.ga K c) dx fs)) (hc : own.contains c = true) : TyX K H (.ref p) (.ref (He.ga K c)) := by
  have o := T.ty c (List.contains_iff_mem.mp hc)
  exact .base (.ins h o.cl o.ha o.hn o.ht o.hm)
theorem ty_of {K : Kw} {own : List Str} {sub : Str → Str → Bool} (T : KT K own sub) {w : Wd} {S : Sto} {H : Hp} {v : V} {d : D} {k : Ty} (R : Rel K w S H) (a : VR K w v d) (h : kindOf S d = some k) (hk : okK own k = true) : TyX K H v (tyv K k) := by
  cases a with
  | non => cases h; exact .base .non
  | bl b => cases h; exact .base (.bl b)
  | int b => cases h; exact .base (.int b)
  | str b => cases h; exact .base (.str b)
  | tup s as => cases h; exact WD.sqT_ty (ex_t R.ex s)
  | lst s as => cases h; exact WD.rdL_ty (.inl (R.ex _ _ s))
  | scr s => cases h; exact WD.rdL_ty (ex_rd R.ex s)
  | dic s z => cases h
  | obj s as => cases h; exact ins_ty T (R.ex _ _ s) hk
  | @ptr p n hb =>
    cases q : S[n]? with
    | none => simp [kindOf, q] at h
    | some cc =>
      cases cc with
      | lst ds =>
        simp [kindOf, q] at h
        subst h
        obtain ⟨_, xs, hx, _⟩ := R.cell _ _ _ hb q rfl
        exact WD.rdL_ty (.inl hx)
      | obj c fs =>
        simp [kindOf, q] at h
        subst h
        obtain ⟨_, dx, fvs, hx, _⟩ := R.cell _ _ _ hb q rfl
        exact ins_ty T hx hk
      | dic kvs =>
        simp [kindOf, q] at h
        subst h
        obtain ⟨_, vs, hx, _⟩ := R.cell _ _ _ hb q rfl
        exact .base (.dK hx)
      | dead => simp [kindOf, q] at h
      | dct ks vs => simp [kindOf, q] at h
def dIs (own : List Str) (sub : Str → Str → Bool) (ts : List Ty) (x : D) : M D := fun S => oM (kindOf S x) (fun k => gd (okK own k = true) (ret (.bl (ts.any (isK sub k))))) S
theorem ce_is {e2 : Expr} {p : Pos} {own : List Str} {sub : Str → Str → Bool} (T : KT C.K own sub) (t : Ty) (ht : okT own t = true) (h2 : PE X e2 (tC (tV C.K t))) (hg : Gl X "isinstance") (hm : X.mg "isinstance" = none) (ha : CE X C a ta ma)
    (hv : bootBuiltins "isinstance" = some (.builtin "isinstance") := by decide +kernel) (hs : starEach [a, e2] X.env = (false, eval a X.env) :: starEach [e2] X.env := by rfl) (hs2 : starEach [e2] X.env = (false, eval e2 X.env) :: starEach [] X.env := by rfl) (hpl : (backTo pos (starEach [e2] X.env)).any (·.1) = false := by rfl) :
    CE X C (.Call (.Name "isinstance" p) [a, e2] [] pos) (tCB (rIsi C.K) (tCons ta (tCons (tC (tV C.K t)) tNil))) (e1 (dIs own sub [t]) ma) := ⟨ha.hK, fun y => pe_callB (by rw [← ha.hK]; exact call_isi) hg hm hv (pa_cons (ha.pe y) (pa_cons h2 pa_nil hs2) hs) (by decide) (by decide) hs hpl, fun e σ w S H Q E R h => by
  have h := sat_then.mp h
  refine ha.sn e σ w S H _ E R (h.imp (fun d S1 h1 w1 H1 v l1 R1 r1 => ?_) (fun x s hx => hx))
  obtain ⟨k, z, h1⟩ := oM_sat h1
  obtain ⟨ok, h1⟩ := gd_sat h1
  refine ⟨v, _, _, _, isK sub k t, rfl, clsV t, ty_of T R1 r1 z ok, kit_is T ok ht, ?_⟩
  have := h1 w1 H1 _ l1 R1 (.bl _)
  simp only [List.any_cons, List.any_nil, Bool.or_false] at this
  exact this⟩
theorem ce_isT {e2 e3 : Expr} {p pt : Pos} {kk : Nat} {own : List Str} {sub : Str → Str → Bool} (T : KT C.K own sub) (t u : Ty) (ht : okT own t = true) (hu : okT own u = true) (h2 : PE X e2 (tC (tV C.K t))) (h3 : PE X e3 (tC (tV C.K u))) (hg : Gl X "isinstance") (hm : X.mg "isinstance" = none) (ha : CE X C a ta ma)
    (hv : bootBuiltins "isinstance" = some (.builtin "isinstance") := by decide +kernel) (hs2 : starEach [e2, e3] X.env = (false, eval e2 X.env) :: starEach [e3] X.env := by rfl) (hs3 : starEach [e3] X.env = (false, eval e3 X.env) :: starEach [] X.env := by rfl)
    (hs : starEach [a, .Tuple [e2, e3] kk pt] X.env = (false, eval a X.env) :: starEach [.Tuple [e2, e3] kk pt] X.env := by rfl) (hs4 : starEach [.Tuple [e2, e3] kk pt] X.env = (false, eval (.Tuple [e2, e3] kk pt) X.env) :: starEach [] X.env := by rfl) (hpl : (backTo pos (starEach [.Tuple [e2, e3] kk pt] X.env)).any (·.1) = false := by rfl) :
    CE X C (.Call (.Name "isinstance" p) [a, .Tuple [e2, e3] kk pt] [] pos) (tCB (rIsiT C.K) (tCons ta (tCons (tTup (tCons (tC (tV C.K t)) (tCons (tC (tV C.K u)) tNil))) tNil))) (e1 (dIs own sub [t, u]) ma) := ⟨ha.hK, fun y => pe_callB (by rw [← ha.hK]; exact call_isiT) hg hm hv (pa_cons (ha.pe y) (pa_cons (pe_tup (pa_cons h2 (pa_cons h3 pa_nil hs3) hs2)) pa_nil hs4) hs) (by decide) (by decide) hs hpl, fun e σ w S H Q E R h => by
  have h := sat_then.mp h
  refine ha.sn e σ w S H _ E R (h.imp (fun d S1 h1 w1 H1 v l1 R1 r1 => ?_) (fun x s hx => hx))
  obtain ⟨k, z, h1⟩ := oM_sat h1
  obtain ⟨ok, h1⟩ := gd_sat h1
  refine ⟨by show 2 ≤ sizeLine; decide, fun q hq => ?_⟩
  obtain ⟨le, R2⟩ := R1.plus (o := .tup [tV C.K t, tV C.K u]) hq
  refine ⟨v, q, _, _, _, (isK sub k t || isK sub k u), rfl, upd_same, .cons (clsV t) (.cons (clsV u) .nil), ty_of T R2 (r1.up le) z ok, ?_, ?_⟩
  · refine kitAny_cons (b := isK sub k t) (kit_is T ok ht) (fun z => ?_) (fun z => by rw [z]; rfl)
    rw [z, Bool.false_or]
    exact kitAny_cons (b := isK sub k u) (kit_is T ok hu) (fun z => by rw [z]; exact kitAny_nil) (fun z => z)
  · have := h1 _ _ _ (l1.trans le) R2 (.bl _)
    simp only [List.any_cons, List.any_nil, Bool.or_false] at this
    exact this⟩
def rangeD (i j : Int) : List D := (List.range (j - i).toNat).map fun (k : Nat) => D.int (i + k)
def dRange : D → D → M D
  | .int i, .int j => gd (-1000000 ≤ i ∧ i ≤ 1000000 ∧ -1000000 ≤ j ∧ j ≤ 1000000) (ret (.lst (rangeD i j)))
  | _, _ => stuck
theorem VRs.map {K : Kw} {w : Wd} {α : Type} {f : α → V} {g : α → D} (h : ∀ a, VR K w (f a) (g a)) : ∀ xs : List α, VRs K w (xs.map f) (xs.map g)
  | [] => .nil
  | x :: xs => .cons (h x) (VRs.map h xs)
theorem ce_listRg {p p2 pos2 : Pos} (hc : X.calm = true) (hg : Gl X "list") (hm : X.mg "list" = none) (hg2 : Gl X "range") (hm2 : X.mg "range" = none) (ha : CE X C a ta ma) (hb : CE X C b tb mb)
    (na : starEach [a, b] X.env = (false, eval a X.env) :: starEach [b] X.env := by rfl) (nb : starEach [b] X.env = (false, eval b X.env) :: starEach [] X.env := by rfl) (hp : (backTo pos2 (starEach [b] X.env)).any (·.1) = false := by rfl)
    (nn : starEach [.Call (.Name "range" p2) [a, b] [] pos2] X.env = (false, eval (.Call (.Name "range" p2) [a, b] [] pos2) X.env) :: starEach [] X.env := by rfl) :
    CE X C (.Call (.Name "list" p) [.Call (.Name "range" p2) [a, b] [] pos2] [] pos) (tLstRg (tRg2 ta tb)) (e2 dRange ma mb) := ⟨ha.hK, fun y => pe_listRg hc hg hm (prg_2 hg2 hm2 (ha.pe y) (hb.pe y) na nb hp) nn, fun e σ w S H Q E R h => by
  have h := sat_then.mp h
  refine ha.sn e σ w S H _ E R (h.imp (fun d1 S1 h1 w1 H1 v1 l1 R1 r1 => ?_) (fun x s hx => hx))
  have h1 := sat_then.mp h1
  refine hb.sn e σ w1 S1 H1 _ (E.up l1) R1 (h1.imp (fun d2 S2 h2 w2 H2 v2 l2 R2 r2 => ?_) (fun x s hx => hx.up l1))
  have r1 := r1.up l2
  cases r1 with
  | int i =>
    cases r2 with
    | int j =>
      obtain ⟨cc, h2⟩ := gd_sat h2
      refine ⟨i, j, rfl, rfl, ⟨by omega, by omega, by omega, by omega, by omega⟩, fun q hq => ?_⟩
      obtain ⟨le, R'⟩ := R2.plus (o := .lst (rgV i j)) hq
      exact h2 _ _ _ ((l1.trans l2).trans le) R' (.lst upd_same (VRs.map (fun k => .int _) _))
    | _ => exact h2.elim
  | _ =>
    cases r2 <;> exact h2.elim⟩
/-- range(a, b, -1) -/
def dRangeB : List D → M D
  | [.int i, .int j, .int c] => gd (c = -1 ∧ -400000 ≤ i ∧ i ≤ 400000 ∧ -400000 ≤ j ∧ j ≤ i) (ret (.lst ((List.range (i - j).toNat).map fun (k : Nat) => D.int (i + k * -1))))
  | _ => stuck
theorem ce_listRg3 {p p2 pos2 : Pos} {tr : TA} {mr : Env → M (List D)} (hc : X.calm = true) (hg : Gl X "list") (hm : X.mg "list" = none) (hg2 : Gl X "range") (hm2 : X.mg "range" = none) (ha : CA X C [a, b, c] tr mr)
    (hs : starEach [a, b, c] X.env = (false, eval a X.env) :: starEach [b, c] X.env := by rfl) (hpl : (backTo pos2 (starEach [b, c] X.env)).any (·.1) = false := by rfl)
    (hs2 : starEach [.Call (.Name "range" p2) [a, b, c] [] pos2] X.env = (false, eval (.Call (.Name "range" p2) [a, b, c] [] pos2) X.env) :: starEach [] X.env := by rfl) (hK : X.kw = C.K := by rfl) :
    CE X C (.Call (.Name "list" p) [.Call (.Name "range" p2) [a, b, c] [] pos2] [] pos) (tListRg3 tr) (eA dRangeB mr) := ⟨hK, fun y => pe_listRg3 hc hg hm hg2 hm2 (ha.pa y) hs hpl hs2, fun e σ w S H Q E R h => by
  have h := sat_then.mp h
  refine ha.sn e σ w S H _ E R (h.imp (fun ds S1 h1 w1 H1 vs l1 R1 rs => ?_) (fun x s hx => hx))
  unfold dRangeB at h1
  split at h1
  · obtain ⟨cc, h2⟩ := gd_sat h1
    obtain ⟨ce, c1, c2, c3, c4⟩ := cc
    subst ce
    rename_i i j
    cases rs with
    | cons a1 rs =>
      cases rs with
      | cons a2 rs =>
        cases rs with
        | cons a3 rs =>
          cases rs
          cases a1
          cases a2
          cases a3
          refine ⟨i, j, -1, (i - j).toNat, rfl, RgC.neg (by omega) (by omega) (by omega) (by omega), by omega, fun q hq => ?_⟩
          obtain ⟨le, R'⟩ := R1.plus (o := .lst ((List.range (i - j).toNat).map fun k => V.int (i + (k : Nat) * -1))) hq
          exact h2 _ _ _ (l1.trans le) R' (.lst upd_same (VRs.map (fun k => .int _) _))
  · exact h1.elim⟩
/-- list(zip(a, b)) of lists as long as one another -/
def zipD (xs ys : List D) : List D := (xs.zip ys).map fun p => D.tup [p.1, p.2]
end
end PM
end
section
set_option Elab.async false
set_option linter.all false
set_option maxRecDepth 100000
namespace PM
open PySem L2 Evl
structure Wd.le0 (w w' : Wd) : Prop where
  f : Ex w.F w'.F
  b : w.B <+: w'.B
theorem Wd.le.z {w w' : Wd} (h : w.le w') : w.le0 w' := ⟨h.f, h.b⟩
theorem Wd.le0.trans {a b c : Wd} (h : a.le0 b) (g : b.le0 c) : a.le0 c := ⟨h.f.trans g.f, h.b.trans g.b⟩
theorem Wd.le0.hide {w w' : Wd} {p : Addr} {o : HO} (h : w.le0 w') : w.le0 (w'.hide p o) := ⟨h.f, h.b⟩
section
variable {K : Kw} {w w' : Wd} {S : Sto} {H H' : Hp}
theorem VR.up0 (e : w.le0 w') {v : V} {d : D} (h : VR K w v d) : VR K w' v d := VR.via (w := ⟨w'.F, w'.B, w.U⟩) (w' := w') ⟨rfl, rfl⟩ (h.up (w' := ⟨w'.F, w'.B, w.U⟩) ⟨e.f, e.b, rfl⟩)
theorem VRs.up0 (e : w.le0 w') {v : List V} {d : List D} (h : VRs K w v d) : VRs K w' v d := VRs.via (w := ⟨w'.F, w'.B, w.U⟩) (w' := w') ⟨rfl, rfl⟩ (h.up (w' := ⟨w'.F, w'.B, w.U⟩) ⟨e.f, e.b, rfl⟩)
theorem ErR.up0 {x : Er} {c : Value} {dd : Option Addr} (e : w.le0 w') (h : ErR K w x c dd) : ErR K w' x c dd := by
  refine ⟨h.1, ?_⟩
  have h2 := h.2
  cases q : x.arg with
  | none => trivial
  | some p =>
    rw [q] at h2
    obtain ⟨a, v, h3, h4, h5⟩ := h2
    exact ⟨a, v, h3, e.f _ _ h4, h5.up0 e⟩
theorem EnvR.up0 {C : Ct} {σ : L2.St} {e : Env} (l : w.le0 w') (h : EnvR C w σ e) : EnvR C w' σ e := ⟨h.len, fun i d q => by
  obtain ⟨v, h1, h2⟩ := h.sl i d q
  exact ⟨v, h1, h2.up0 l⟩, fun i x q => ⟨(h.ex i x q).1, (h.ex i x q).2.up0 l⟩⟩
/-- what was hidden becomes known -/
theorem Rel.known {p : Addr} {o : HO} (r : Rel K (w.hide p o) S H) (hu : w.U p = none) : w.le (w.plus p o) ∧ Rel K (w.plus p o) S H := by
  obtain ⟨k1, k2, k3⟩ := r.hid p o upd_same
  have le : w.le (w.plus p o) := Wd.le_plus k2
  have r2 := r.unhide (fun a u h z => by
    rw [z, hu] at h
    cases h)
  refine ⟨le, fun a u e => ?_, r.len, r.nd, r.used, fun n a c h1 h2 h3 => ?_, fun a u h => ?_⟩
  · have e : upd w.F p o a = some u := e
    by_cases q : a = p
    · subst q
      rw [upd_same] at e
      cases e
      exact k1
    · rw [upd_ne q] at e
      exact r2.ex a u e
  · obtain ⟨g1, g2⟩ := r2.cell n a c h1 h2 h3
    have ne : a ≠ p := fun z => k3 (z ▸ List.mem_of_getElem? h1)
    exact ⟨show upd w.F p o a = none by rw [upd_ne ne]; exact g1, g2.up le rfl⟩
  · obtain ⟨m1, m2, m3⟩ := r2.hid a u h
    have ne : a ≠ p := fun z => by
      have h' : w.U a = some u := h
      rw [z, hu] at h'
      cases h'
    exact ⟨m1, show upd w.F p o a = none by rw [upd_ne ne]; exact m2, m3⟩
/-- .. becomes a cell -/
theorem Rel.celled {p : Addr} {o : HO} {c : Cell} (r : Rel K (w.hide p o) S H) (hu : w.U p = none) (hc : CellOk K w H p c) : Rel K (w.cell p) (S ++ [c]) H := by
  obtain ⟨k1, k2, k3⟩ := r.hid p o upd_same
  have r2 := r.unhide (fun a u h z => by
    rw [z, hu] at h
    cases h)
  refine ⟨r2.ex, by simp [Wd.cell, r2.len], ?_, fun a ha => ?_, fun n a c' h1 h2 h3 => ?_, fun a u h => ?_⟩
  · exact List.nodup_append.mpr ⟨r2.nd, by simp, fun a ha b hb => by
      rw [List.mem_singleton.mp hb]
      exact fun z => k3 (z ▸ ha)⟩
  · rcases List.mem_append.mp ha with ha | ha
    · exact r2.used a ha
    · rw [List.mem_singleton.mp ha]
      exact ⟨o, k1⟩
  · have h1' : (w.B ++ [p])[n]? = some a := h1
    by_cases hn : n < w.B.length
    · rw [List.getElem?_append_left hn] at h1'
      rw [List.getElem?_append_left (by rw [← r2.len]; exact hn)] at h2
      obtain ⟨g1, g2⟩ := r2.cell n a c' h1' h2 h3
      exact ⟨g1, g2.up Wd.le_cell rfl⟩
    · have e : n = w.B.length := by
        have := (List.getElem?_eq_some_iff.mp h1').1
        simp at this
        omega
      subst e
      rw [List.getElem?_append_right (Nat.le_refl _), Nat.sub_self] at h1'
      rw [List.getElem?_append_right (by rw [r2.len]; exact Nat.le_refl _), r2.len, Nat.sub_self] at h2
      cases h1'
      cases h2
      exact ⟨k2, hc.up Wd.le_cell rfl⟩
  · obtain ⟨m1, m2, m3⟩ := r2.hid a u h
    refine ⟨m1, m2, fun z => ?_⟩
    rcases List.mem_append.mp (show a ∈ w.B ++ [p] from z) with z | z
    · exact m3 z
    · rw [List.mem_singleton.mp z] at h
      have h : w.U p = some u := h
      rw [hu] at h
      cases h
end
mutual
def D.same : D → D → Bool
  | .non, .non => true
  | .bl a, .bl b => a == b
  | .int a, .int b => decide (a = b)
  | .str a, .str b => decide (a = b)
  | .tup a, .tup b => D.sames a b
  | .lst a, .lst b => D.sames a b
  | .obj c a, .obj c' b => decide (c = c') && D.samef a b
  | .ptr a, .ptr b => decide (a = b)
  | .scr a, .scr b => decide (a = b)
  | .dic a b, .dic c d => D.sames a c && D.sames b d
  | _, _ => false
def D.sames : List D → List D → Bool
  | [], [] => true
  | a :: as, b :: bs => D.same a b && D.sames as bs
  | _, _ => false
def D.samef : List (Str × D) → List (Str × D) → Bool
  | [], [] => true
  | (n, a) :: as, (m, b) :: bs => decide (n = m) && (D.same a b && D.samef as bs)
  | _, _ => false
end
mutual
theorem same_eq : ∀ {a b : D}, D.same a b = true → a = b
  | .non, b, h => by cases b <;> first | rfl | cases h
  | .bl a, b, h => by
    cases b with
    | bl b =>
      have h : (a == b) = true := h
      rw [eq_of_beq h]
    | _ => cases h
  | .int a, b, h => by
    cases b with
    | int b => rw [show a = b from of_decide_eq_true h]
    | _ => cases h
  | .str a, b, h => by
    cases b with
    | str b => rw [show a = b from of_decide_eq_true h]
    | _ => cases h
  | .tup a, b, h => by
    cases b with
    | tup b => rw [sames_eq (a := a) (b := b) h]
    | _ => cases h
  | .lst a, b, h => by
    cases b with
    | lst b => rw [sames_eq (a := a) (b := b) h]
    | _ => cases h
  | .obj c a, b, h => by
    cases b with
    | obj c' b =>
      obtain ⟨h1, h2⟩ := Bool.and_eq_true_iff.mp (show (decide (c = c') && D.samef a b) = true from h)
      rw [of_decide_eq_true h1, samef_eq (a := a) (b := b) h2]
    | _ => cases h
  | .ptr a, b, h => by
    cases b with
    | ptr b => rw [show a = b from of_decide_eq_true h]
    | _ => cases h
  | .scr a, b, h => by
    cases b with
    | scr b => rw [show a = b from of_decide_eq_true h]
    | _ => cases h
  | .dic a c, b, h => by
    cases b with
    | dic b d =>
      obtain ⟨h1, h2⟩ := Bool.and_eq_true_iff.mp (show (D.sames a b && D.sames c d) = true from h)
      rw [sames_eq (a := a) (b := b) h1, sames_eq (a := c) (b := d) h2]
    | _ => cases h
theorem sames_eq : ∀ {a b : List D}, D.sames a b = true → a = b
  | [], b, h => by cases b <;> first | rfl | cases h
  | x :: xs, b, h => by
    cases b with
    | nil => cases h
    | cons y ys =>
      obtain ⟨h1, h2⟩ := Bool.and_eq_true_iff.mp (show (D.same x y && D.sames xs ys) = true from h)
      rw [same_eq (a := x) (b := y) h1, sames_eq (a := xs) (b := ys) h2]
theorem samef_eq : ∀ {a b : List (Str × D)}, D.samef a b = true → a = b
  | [], b, h => by cases b <;> first | rfl | cases h
  | (n, x) :: xs, b, h => by
    cases b with
    | nil => cases h
    | cons y ys =>
      obtain ⟨m, y⟩ := y
      obtain ⟨h1, h2⟩ := Bool.and_eq_true_iff.mp (show (decide (n = m) && (D.same x y && D.samef xs ys)) = true from h)
      obtain ⟨h2, h3⟩ := Bool.and_eq_true_iff.mp h2
      rw [of_decide_eq_true h1, same_eq (a := x) (b := y) h2, samef_eq (a := xs) (b := ys) h3]
end
mutual
theorem same_refl : ∀ a : D, D.same a a = true
  | .non => rfl
  | .bl a => by
    show (a == a) = true
    simp
  | .int a => decide_eq_true rfl
  | .str a => decide_eq_true rfl
  | .tup a => sames_refl a
  | .lst a => sames_refl a
  | .obj c a => by
    show (decide (c = c) && D.samef a a) = true
    rw [decide_eq_true rfl, samef_refl a]
    rfl
  | .ptr a => decide_eq_true rfl
  | .scr a => decide_eq_true rfl
  | .dic a b => by
    show (D.sames a a && D.sames b b) = true
    rw [sames_refl a, sames_refl b]
    rfl
theorem sames_refl : ∀ a : List D, D.sames a a = true
  | [] => rfl
  | x :: xs => by
    show (D.same x x && D.sames xs xs) = true
    rw [same_refl x, sames_refl xs]
    rfl
theorem samef_refl : ∀ a : List (Str × D), D.samef a a = true
  | [] => rfl
  | (n, x) :: xs => by
    show (decide (n = n) && (D.same x x && D.samef xs xs)) = true
    rw [decide_eq_true rfl, same_refl x, samef_refl xs]
    rfl
end
structure Itm where
  ds : List D
  src : List (Nat × List D)
def okSrc (src : List (Nat × List D)) (S : Sto) : Bool := src.all fun p => match S[p.1]? with
  | some (.lst xs) => D.sames xs p.2
  | _ => false
@[simp] theorem okSrc_nil (S : Sto) : okSrc [] S = true := rfl
def rdS (S : Sto) : D → Option Itm
  | .lst ds => some ⟨ds, []⟩
  | .scr ns => some ⟨ns.map .int, []⟩
  | .ptr n => match S[n]? with
    | some (.lst ds) => some ⟨ds, [(n, ds)]⟩
    | _ => none
  | _ => none
def LR (K : Kw) (w : Wd) (a : Addr) (it : Itm) : Prop := ∀ (w' : Wd) (S : Sto) (H : Hp), w.le0 w' → Rel K w' S H → okSrc it.src S = true → ∃ xs, Rd H a (.lst xs) ∧ VRs K w' xs it.ds
def LT (K : Kw) (w : Wd) (a : Addr) (ds : List D) : Prop := ∀ (w' : Wd) (S : Sto) (H : Hp), w.le0 w' → Rel K w' S H → ∃ xs, SqT K H a xs ∧ VRs K w' xs ds
theorem lr_of {K : Kw} {w : Wd} {S : Sto} {H : Hp} {v : V} {d : D} {it : Itm} (R : Rel K w S H) (a : VR K w v d) (h : rdS S d = some it) : ∃ p, v = .ref p ∧ LR K w p it ∧ okSrc it.src S = true := by
  cases a with
  | lst s as =>
    cases h
    exact ⟨_, rfl, fun w' S' H' l R' _ => ⟨_, .inl (R'.ex _ _ (l.f _ _ s)), as.up0 l⟩, rfl⟩
  | scr s =>
    cases h
    exact ⟨_, rfl, fun w' S' H' l R' _ => ⟨_, ex_rd R'.ex (ex_rd l.f s), VRs.ints _⟩, rfl⟩
  | @ptr p n hb =>
    cases q : S[n]? with
    | none => simp [rdS, q] at h
    | some cc =>
      cases cc with
      | lst ds =>
        simp [rdS, q] at h
        subst h
        refine ⟨_, rfl, fun w' S' H' l R' ok => ?_, ?_⟩
        · have ok : (match S'[n]? with
            | some (.lst xs) => D.sames xs ds
            | _ => false) = true := by
            have := List.all_eq_true.mp ok (n, ds) (by simp)
            exact this
          cases z : S'[n]? with
          | none =>
            rw [z] at ok
            cases ok
          | some c2 =>
            rw [z] at ok
            cases c2 with
            | lst es =>
              obtain rfl := sames_eq ok
              obtain ⟨_, xs, hx, ax⟩ := R'.cell _ _ _ (pre_get l.b hb) z rfl
              exact ⟨xs, .inl hx, ax⟩
            | _ => cases ok
        · show ([(n, ds)] : List (Nat × List D)).all _ = true
          simp [q, sames_refl]
      | _ => simp [rdS, q] at h
  | _ => cases h
structure WalksR (K : Kw) (J : It) (w : Wd) (it : Itm) : Prop where
  go : ∀ (w' : Wd) (S : Sto) (H : Hp), w.le0 w' → Rel K w' S H → okSrc it.src S = true → ∀ (i : Nat) (d : D), it.ds[i]? = some d → J.go i H ∧ ∀ (x : V) (H' : Hp), J.yld i H x H' → ∃ w2 : Wd, w'.le w2 ∧ Rel K w2 S H' ∧ VR K w2 x d
  stop : ∀ (w' : Wd) (S : Sto) (H : Hp), w.le0 w' → Rel K w' S H → okSrc it.src S = true → J.stop it.ds.length H
def SndI (C : Ct) (wi : TI) (m : Env → M Itm) : Prop := ∀ (e : Env) (σ : L2.St) (w : Wd) (S : Sto) (H : Hp) (R : It → Hp → Prop), EnvR C w σ e → Rel C.K w S H →
  (m e S).sat (fun it S' => ∀ (w' : Wd) (H' : Hp) (J : It), w.le w' → Rel C.K w' S' H' → WalksR C.K J w' it → R J H') (PX C w σ) → wi σ H R
structure CI (X : Cx) (C : Ct) (tg iter : Expr) (wi : TI) (m : Env → M Itm) : Prop where
  hK : X.kw = C.K
  pi : Hyp X C → PI X tg iter wi
  sn : SndI C wi m
section
variable {X : Cx} {C : Ct} {ta tb tc te : TE} {a b c tg : Expr} {ma mb mc : Env → M D} {pos : Pos}
theorem piOr {iter : Expr} {w1 w2 : TI} (h1 : PI X tg iter w1) (h2 : PI X tg iter w2) : PI X tg iter (fun σ H R => w1 σ H R ∨ w2 σ H R) := ⟨fun pins s σ H R I h => by
  rcases h with h | h
  · exact h1.run pins s σ H R I h
  · exact h2.run pins s σ H R I h⟩
theorem walks_list {K : Kw} {w : Wd} {p : Addr} {it : Itm} (h : LR K w p it) : WalksR K (Itl K p) w it := ⟨fun w' S H l R ok i d hd => by
  obtain ⟨xs, hx, ax⟩ := h w' S H l R ok
  obtain ⟨v, v1, v2⟩ := ax.get hd
  refine ⟨⟨xs, v, .inl hx, v1⟩, fun x H' hy => ?_⟩
  obtain ⟨rfl, h2⟩ := (show H' = H ∧ ∀ xs, SqL K H p xs → xs[i]? = some x from hy)
  have h3 := h2 xs (.inl hx)
  rw [v1] at h3
  cases h3
  exact ⟨w', Wd.le.refl _, R, v2⟩, fun w' S H l R ok => by
  obtain ⟨xs, hx, ax⟩ := h w' S H l R ok
  exact ⟨xs, .inl hx, by rw [ax.len]; exact Nat.le_refl _⟩⟩
theorem walks_tup {K : Kw} {w : Wd} {p : Addr} {ds : List D} (h : LT K w p ds) : WalksR K (Itt K p) w ⟨ds, []⟩ := ⟨fun w' S H l R ok i d hd => by
  obtain ⟨xs, hx, ax⟩ := h w' S H l R
  obtain ⟨v, v1, v2⟩ := ax.get hd
  refine ⟨⟨xs, v, hx, v1⟩, fun x H' hy => ?_⟩
  obtain ⟨rfl, h2⟩ := (show H' = H ∧ ∀ xs, SqT K H p xs → xs[i]? = some x from hy)
  have h3 := h2 xs hx
  rw [v1] at h3
  cases h3
  exact ⟨w', Wd.le.refl _, R, v2⟩, fun w' S H l R ok => by
  obtain ⟨xs, hx, ax⟩ := h w' S H l R
  exact ⟨xs, hx, by rw [ax.len]; exact Nat.le_refl _⟩⟩
theorem lt_of {K : Kw} {w : Wd} {v : V} {ds : List D} (a : VR K w v (.tup ds)) : ∃ p, v = .ref p ∧ LT K w p ds := by
  cases a with
  | tup s as => exact ⟨_, rfl, fun w' S' H' l R' => ⟨_, ex_t R'.ex (ex_t l.f s), as.up0 l⟩⟩
def itmOf (S : Sto) (d : D) : Option Itm := match d with
  | .tup ds => some ⟨ds, []⟩
  | d => rdS S d
theorem itmOf_list {d : D} {S : Sto} (h : ¬ ∃ ds, d = .tup ds) : itmOf S d = rdS S d := by
  cases d <;> first | rfl | exact absurd ⟨_, rfl⟩ h
def iSeq (a : Env → M D) (e : Env) : M Itm := bind (a e) fun d => fun S => oM (itmOf S d) ret S
theorem ci_seq (ha : CE X C a ta ma) : CI X C tg a (fun σ H R => iList C.K ta σ H R ∨ iTup C.K ta σ H R) (iSeq ma) := ⟨ha.hK, fun y => by rw [← ha.hK]; exact piOr (pi_list (ha.pe y)) (pi_tup (ha.pe y)), fun e σ w S H R E Rl h => by
  cases q : ma e S with
  | no =>
    simp only [iSeq, bind_ap, q] at h
    exact h.elim
  | er x s =>
    simp only [iSeq, bind_ap, q] at h
    refine .inl (ha.sn e σ w S H _ E Rl ?_)
    rw [q]
    exact h
  | ok d S1 =>
    simp only [iSeq, bind_ap, q, then_ok] at h
    by_cases ht : ∃ ds, d = .tup ds
    · obtain ⟨ds, rfl⟩ := ht
      refine .inr (ha.sn e σ w S H _ E Rl ?_)
      rw [q]
      intro w1 H1 v l1 R1 r1
      obtain ⟨p, rfl, hl⟩ := lt_of r1
      obtain ⟨xs, hx, _⟩ := hl w1 S1 H1 ⟨Ex.refl _, List.prefix_rfl⟩ R1
      exact ⟨p, rfl, ⟨xs, hx⟩, h w1 H1 _ l1 R1 (walks_tup hl)⟩
    · rw [itmOf_list ht] at h
      obtain ⟨it, z, h⟩ := oM_sat h
      refine .inl (ha.sn e σ w S H _ E Rl ?_)
      rw [q]
      intro w1 H1 v l1 R1 r1
      obtain ⟨p, rfl, hl, ok⟩ := lr_of R1 r1 z
      obtain ⟨xs, hx, _⟩ := hl w1 S1 H1 ⟨Ex.refl _, List.prefix_rfl⟩ R1 ok
      exact ⟨p, rfl, ⟨xs, .inl hx⟩, h w1 H1 _ l1 R1 (walks_list hl)⟩⟩
def numD (ds : List D) : List D := (List.range ds.length).map fun i => D.tup [.int (i : Nat), ds.getD i .non]
theorem numD_get {ds : List D} {i : Nat} {x : D} (h : (numD ds)[i]? = some x) : ∃ d, ds[i]? = some d ∧ x = .tup [.int (i : Nat), d] := by
  unfold numD at h
  rw [List.getElem?_map] at h
  have hi : i < ds.length := by
    cases q : (List.range ds.length)[i]? with
    | none =>
      rw [q] at h
      cases h
    | some j =>
      have := (List.getElem?_eq_some_iff.mp q).1
      rwa [List.length_range] at this
  rw [List.getElem?_range hi] at h
  refine ⟨ds[i], List.getElem?_eq_getElem hi, ?_⟩
  have h : some (D.tup [.int (i : Nat), ds.getD i .non]) = some x := h
  cases h
  rw [List.getD_eq_getElem?_getD, List.getElem?_eq_getElem hi]
  rfl
theorem numD_len (ds : List D) : (numD ds).length = ds.length := by simp [numD]
def iNum (a : Env → M D) (e : Env) : M Itm := bind (iSeq a e) fun it => ret ⟨numD it.ds, it.src⟩
theorem walks_enum {K : Kw} {w : Wd} {p : Addr} {it : Itm} (h : LR K w p it) : WalksR K (Ite K p) w ⟨numD it.ds, it.src⟩ := ⟨fun w' S H l R ok i d hd => by
  obtain ⟨d, hd2, rfl⟩ := numD_get hd
  obtain ⟨xs, hx, ax⟩ := h w' S H l R ok
  obtain ⟨v, v1, v2⟩ := ax.get hd2
  refine ⟨⟨xs, v, .inl hx, v1⟩, fun x H' hy => ?_⟩
  obtain ⟨T, x1, rfl, nT, rfl, f1⟩ := hy
  have g1 := f1 xs (.inl hx)
  rw [v1] at g1
  cases g1
  obtain ⟨le, R2⟩ := R.plus (o := .tup [.int (i : Nat), v]) nT
  exact ⟨_, le, R2, .tup (st_of upd_same) (.cons (.int _) (.cons (v2.up le) .nil))⟩, fun w' S H l R ok => by
  obtain ⟨xs, hx, ax⟩ := h w' S H l R ok
  exact ⟨xs, .inl hx, by rw [ax.len, numD_len]; exact Nat.le_refl _⟩⟩
theorem walks_enumT {K : Kw} {w : Wd} {p : Addr} {ds : List D} (h : LT K w p ds) : WalksR K (EnT.IteT K p) w ⟨numD ds, []⟩ := ⟨fun w' S H l R ok i d hd => by
  obtain ⟨d, hd2, rfl⟩ := numD_get hd
  obtain ⟨xs, hx, ax⟩ := h w' S H l R
  obtain ⟨v, v1, v2⟩ := ax.get hd2
  refine ⟨⟨xs, v, hx, v1⟩, fun x H' hy => ?_⟩
  obtain ⟨T, x1, rfl, nT, rfl, f1⟩ := hy
  have g1 := f1 xs hx
  rw [v1] at g1
  cases g1
  obtain ⟨le, R2⟩ := R.plus (o := .tup [.int (i : Nat), v]) nT
  exact ⟨_, le, R2, .tup (st_of upd_same) (.cons (.int _) (.cons (v2.up le) .nil))⟩, fun w' S H l R ok => by
  obtain ⟨xs, hx, ax⟩ := h w' S H l R
  exact ⟨xs, hx, by rw [ax.len, numD_len]; exact Nat.le_refl _⟩⟩
theorem ci_num {elts : List Expr} {kk : Nat} {p tpos : Pos} (hg : Gl X "enumerate") (hm : X.mg "enumerate" = none) (ha : CE X C a ta ma) (hs : starEach [a] X.env = [(false, eval a X.env)] := by rfl) :
    CI X C (.Tuple elts kk tpos) (.Call (.Name "enumerate" p) [a] [] pos) (fun σ H R => iEnum C.K (tCons ta tNil) σ H R ∨ EnT.iEnumT C.K (tCons ta tNil) σ H R) (iNum ma) := ⟨ha.hK, fun y => by rw [← ha.hK]; exact piOr (pi_enum hg hm (pa_cons (ha.pe y) pa_nil hs) hs) (EnT.pi_enumT hg hm (pa_cons (ha.pe y) pa_nil hs) hs), fun e σ w S H R E Rl h => by
  cases q : ma e S with
  | no =>
    simp only [iNum, iSeq, bind_ap, q] at h
    exact h.elim
  | er x s =>
    simp only [iNum, iSeq, bind_ap, q] at h
    refine .inl (ha.sn e σ w S H _ E Rl ?_)
    rw [q]
    exact h
  | ok d S1 =>
    simp only [iNum, iSeq, bind_ap, q, then_ok] at h
    by_cases ht : ∃ ds, d = .tup ds
    · obtain ⟨ds, rfl⟩ := ht
      refine .inr (ha.sn e σ w S H _ E Rl ?_)
      rw [q]
      intro w1 H1 v l1 R1 r1
      obtain ⟨p, rfl, hl⟩ := lt_of r1
      obtain ⟨xs, hx, _⟩ := hl w1 S1 H1 ⟨Ex.refl _, List.prefix_rfl⟩ R1
      exact ⟨p, xs, rfl, hx, h w1 H1 _ l1 R1 (walks_enumT hl)⟩
    · rw [itmOf_list ht] at h
      obtain ⟨it, z, h⟩ := oM_sat (sat_then.mp h)
      refine .inl (ha.sn e σ w S H _ E Rl ?_)
      rw [q]
      intro w1 H1 v l1 R1 r1
      obtain ⟨p, rfl, hl, ok⟩ := lr_of R1 r1 z
      obtain ⟨xs, hx, _⟩ := hl w1 S1 H1 ⟨Ex.refl _, List.prefix_rfl⟩ R1 ok
      exact ⟨p, xs, rfl, .inl hx, h w1 H1 _ l1 R1 (walks_enum hl)⟩⟩
def iZip2 (a : Env → M (List D)) (e : Env) : M Itm := bind (a e) fun ds => match ds with
  | [.tup xs, .tup ys] => ret ⟨zipD xs ys, []⟩
  | [x, y] => fun S => oM (rdS S x) (fun i => oM (rdS S y) (fun j => ret ⟨zipD i.ds j.ds, i.src ++ j.src⟩)) S
  | _ => stuck
def iR1 (a : Env → M (List D)) (e : Env) : M Itm := bind (a e) fun ds => match ds with
  | [.int j] => gd (-1000000 ≤ j ∧ j ≤ 1000000) (ret ⟨rangeD 0 j, []⟩)
  | _ => stuck
def iR2 (a : Env → M (List D)) (e : Env) : M Itm := bind (a e) fun ds => match ds with
  | [.int i, .int j] => gd (-1000000 ≤ i ∧ i ≤ 1000000 ∧ -1000000 ≤ j ∧ j ≤ 1000000) (ret ⟨rangeD i j, []⟩)
  | _ => stuck
theorem walks_range {K : Kw} {w : Wd} {i j : Int} : WalksR K (Itr i (j - i).toNat) w ⟨rangeD i j, []⟩ := ⟨fun w' S H l R ok k d hd => by
  have hd : (rangeD i j)[k]? = some d := hd
  unfold rangeD at hd
  rw [List.getElem?_map] at hd
  cases q : (List.range (j - i).toNat)[k]? with
  | none =>
    rw [q] at hd
    cases hd
  | some m =>
    rw [q] at hd
    have hk := (List.getElem?_eq_some_iff.mp q).1
    rw [List.length_range] at hk
    rw [List.getElem?_range hk] at q
    cases q
    cases hd
    refine ⟨hk, fun x H' hy => ?_⟩
    obtain ⟨rfl, rfl⟩ := (show H' = H ∧ x = .int (i + k) from hy)
    exact ⟨w', Wd.le.refl _, R, .int _⟩, fun w' S H l R ok => by
  show (j - i).toNat ≤ (rangeD i j).length
  simp [rangeD]⟩
theorem ci_range1 {p : Pos} {tr : TA} {mr : Env → M (List D)} (hg : Gl X "range") (hm : X.mg "range" = none) (ha : CA X C [a] tr mr) (hs : starEach [a] X.env = [(false, eval a X.env)] := by rfl) (hK : X.kw = C.K := by rfl) : CI X C tg (.Call (.Name "range" p) [a] [] pos) (iRng1 tr) (iR1 mr) := ⟨hK, fun y => pi_range1 hg hm (ha.pa y) hs, fun e σ w S H R E Rl h => by
  have h := sat_then.mp h
  refine ha.sn e σ w S H _ E Rl (h.imp (fun ds S1 h1 w1 H1 vs l1 R1 rs => ?_) (fun x s hx => hx))
  split at h1
  · obtain ⟨cc, h1⟩ := gd_sat h1
    cases rs with
    | cons a1 rs =>
      cases rs
      cases a1
      rename_i j _
      have := walks_range (K := C.K) (w := w1) (i := 0) (j := j)
      rw [Int.sub_zero] at this
      exact ⟨j, rfl, by omega, by omega, h1 w1 H1 _ l1 R1 this⟩
  · exact h1.elim⟩
theorem ci_range2 {p : Pos} {tr : TA} {mr : Env → M (List D)} (hg : Gl X "range") (hm : X.mg "range" = none) (ha : CA X C [a, b] tr mr) (hs : starEach [a, b] X.env = [(false, eval a X.env), (false, eval b X.env)] := by rfl) (hs2 : starEach [b] X.env = [(false, eval b X.env)] := by rfl) (hK : X.kw = C.K := by rfl) : CI X C tg (.Call (.Name "range" p) [a, b] [] pos) (iRng2 tr) (iR2 mr) := ⟨hK, fun y => pi_range2 hg hm (ha.pa y) hs hs2, fun e σ w S H R E Rl h => by
  have h := sat_then.mp h
  refine ha.sn e σ w S H _ E Rl (h.imp (fun ds S1 h1 w1 H1 vs l1 R1 rs => ?_) (fun x s hx => hx))
  split at h1
  · obtain ⟨cc, h1⟩ := gd_sat h1
    cases rs with
    | cons a1 rs =>
      cases rs with
      | cons a2 rs =>
        cases rs
        cases a1
        cases a2
        rename_i i j _
        exact ⟨i, j, rfl, ⟨by omega, by omega, by omega, by omega⟩, h1 w1 H1 _ l1 R1 walks_range⟩
  · exact h1.elim⟩
end
end PM
end
section
set_option Elab.async false
set_option linter.all false
set_option maxRecDepth 100000
namespace PM
open PySem L2 Evl
def setE (i : Nat) (d : D) (e : Env) : Env := ⟨e.sl.set i (some d), match e.ex with
  | some (j, x) => if j = i then none else some (j, x)
  | none => none⟩
theorem EnvR.set {C : Ct} {w : Wd} {σ : L2.St} {e : Env} {v : V} {d : D} (E : EnvR C w σ e) (i : Nat) (a : VR C.K w v d) : EnvR C w (σ.set i (some v)) (setE i d e) := by
  refine ⟨by simp [setE, E.len], fun j d' h => ?_, fun j x h => ?_⟩
  · have h : (e.sl.set i (some d))[j]? = some (some d') := h
    by_cases q : i = j
    · subst q
      have hl : i < e.sl.length := by
        have := (List.getElem?_eq_some_iff.mp h).1
        simpa using this
      rw [List.getElem?_set_self hl] at h
      cases h
      exact ⟨v, by rw [List.getElem?_set_self (by rw [E.len]; exact hl)], a⟩
    · rw [List.getElem?_set_ne q] at h
      obtain ⟨u, h1, h2⟩ := E.sl j d' h
      exact ⟨u, by rw [List.getElem?_set_ne q]; exact h1, h2⟩
  · cases q : e.ex with
    | none =>
      simp [setE, q] at h
    | some p =>
      obtain ⟨k, y⟩ := p
      simp only [setE, q] at h
      by_cases z : k = i
      · rw [if_pos z] at h
        cases h
      · rw [if_neg z] at h
        cases h
        obtain ⟨h1, h2⟩ := E.ex _ _ q
        exact ⟨by rw [List.getElem?_set_ne (fun c => z c.symm)]; exact h1, h2⟩
def SndG (C : Ct) (g : TG) (f : D → Env → Option Env) : Prop := ∀ (e : Env) (σ : L2.St) (w : Wd) (S : Sto) (H : Hp) (v : V) (d : D) (e' : Env) (Q : L2.St → Hp → Prop), EnvR C w σ e → Rel C.K w S H → VR C.K w v d → f d e = some e' → (∀ σ', EnvR C w σ' e' → Q σ' H) → g v σ H Q
def SndGs (C : Ct) (g : TGs) (f : List D → Env → Option Env) : Prop := ∀ (e : Env) (σ : L2.St) (w : Wd) (S : Sto) (H : Hp) (v : List V) (d : List D) (e' : Env) (Q : L2.St → Hp → Prop), EnvR C w σ e → Rel C.K w S H → VRs C.K w v d → f d e = some e' → (∀ σ', EnvR C w σ' e' → Q σ' H) → g v σ H Q
/-- only the slots vs are set -/
def KeepG (g : TG) (vs : List Nat) : Prop := ∀ (v : V) (σ : L2.St) (H : Hp) (Q : L2.St → Hp → Prop), g v σ H Q → g v σ H fun σ2 H2 => wipe σ2 vs = wipe σ vs ∧ Q σ2 H2
structure CG (X : Cx) (C : Ct) (tg : Expr) (g : TG) (f : D → Env → Option Env) : Prop where
  hK : X.kw = C.K
  pg : Hyp X C → PG X tg g
  sn : SndG C g f
structure CGs (X : Cx) (C : Ct) (tg : List Expr) (g : TGs) (f : List D → Env → Option Env) : Prop where
  pg : Hyp X C → PGs X tg g
  sn : SndGs C g f
theorem wipe_get (σ : L2.St) : ∀ (vs : List Nat) (i : Nat), (wipe σ vs)[i]? = if i ∈ vs ∧ i < σ.length then some none else σ[i]?
  | [], i => by simp [wipe]
  | v :: vs, i => by
    have hl : (wipe σ vs).length = σ.length := by
      clear wipe_get
      induction vs with
      | nil => rfl
      | cons u us ih => simp [wipe, ih]
    show ((wipe σ vs).set v none)[i]? = _
    by_cases q : v = i
    · subst q
      by_cases h : v < σ.length
      · rw [List.getElem?_set_self (by rw [hl]; exact h), if_pos ⟨by simp, h⟩]
      · rw [if_neg (fun z => h z.2), List.getElem?_eq_none (by simp [hl]; omega), List.getElem?_eq_none (by omega)]
    · rw [List.getElem?_set_ne q, wipe_get σ vs i]
      by_cases h : i ∈ vs ∧ i < σ.length
      · rw [if_pos h, if_pos ⟨List.mem_cons_of_mem _ h.1, h.2⟩]
      · rw [if_neg h, if_neg (fun z => h ⟨(List.mem_cons.mp z.1).resolve_left (fun c => q c.symm), z.2⟩)]
theorem wipe_len (σ : L2.St) (vs : List Nat) : (wipe σ vs).length = σ.length := by
  induction vs with
  | nil => rfl
  | cons u us ih => simp [wipe, ih]
theorem wipe_set {σ : L2.St} {vs : List Nat} {i : Nat} {o : Option V} (h : i ∈ vs) : wipe (σ.set i o) vs = wipe σ vs := by
  refine List.ext_getElem? fun j => ?_
  rw [wipe_get, wipe_get, List.length_set]
  by_cases q : j ∈ vs ∧ j < σ.length
  · rw [if_pos q, if_pos q]
  · rw [if_neg q, if_neg q]
    by_cases z : i = j
    · subst z
      rw [List.getElem?_eq_none (by simp; exact Nat.le_of_not_lt fun c => q ⟨h, c⟩), List.getElem?_eq_none (Nat.le_of_not_lt fun c => q ⟨h, c⟩)]
    · rw [List.getElem?_set_ne z]
theorem wipe_idem (σ : L2.St) (vs : List Nat) : wipe (wipe σ vs) vs = wipe σ vs := by
  refine List.ext_getElem? fun j => ?_
  rw [wipe_get, wipe_len, wipe_get]
  by_cases q : j ∈ vs ∧ j < σ.length
  · rw [if_pos q, if_pos q]
  · rw [if_neg q, if_neg q]
def wipeD : List (Option D) → List Nat → List (Option D)
  | l, [] => l
  | l, v :: vs => (wipeD l vs).set v none
def wipeE (e : Env) (vs : List Nat) : Env := ⟨wipeD e.sl vs, none⟩
theorem wipeD_get (l : List (Option D)) : ∀ (vs : List Nat) (i : Nat), (wipeD l vs)[i]? = if i ∈ vs ∧ i < l.length then some none else l[i]?
  | [], i => by simp [wipeD]
  | v :: vs, i => by
    have hl : (wipeD l vs).length = l.length := by
      clear wipeD_get
      induction vs with
      | nil => rfl
      | cons u us ih => simp [wipeD, ih]
    show ((wipeD l vs).set v none)[i]? = _
    by_cases q : v = i
    · subst q
      by_cases h : v < l.length
      · rw [List.getElem?_set_self (by rw [hl]; exact h), if_pos ⟨by simp, h⟩]
      · rw [if_neg (fun z => h z.2), List.getElem?_eq_none (by simp [hl]; omega), List.getElem?_eq_none (by omega)]
    · rw [List.getElem?_set_ne q, wipeD_get l vs i]
      by_cases h : i ∈ vs ∧ i < l.length
      · rw [if_pos h, if_pos ⟨List.mem_cons_of_mem _ h.1, h.2⟩]
      · rw [if_neg h, if_neg (fun z => h ⟨(List.mem_cons.mp z.1).resolve_left (fun c => q c.symm), z.2⟩)]
theorem wipeD_len (l : List (Option D)) (vs : List Nat) : (wipeD l vs).length = l.length := by
  induction vs with
  | nil => rfl
  | cons u us ih => simp [wipeD, ih]
theorem EnvR.wipe {C : Ct} {w : Wd} {σ : L2.St} {e : Env} (E : EnvR C w σ e) (vs : List Nat) : EnvR C w (L2.wipe σ vs) (wipeE e vs) := by
  refine ⟨by rw [wipe_len]; show σ.length = (wipeD e.sl vs).length; rw [wipeD_len]; exact E.len, fun i d h => ?_, fun i x h => by cases h⟩
  have h : (wipeD e.sl vs)[i]? = some (some d) := h
  rw [wipeD_get] at h
  by_cases q : i ∈ vs ∧ i < e.sl.length
  · rw [if_pos q] at h
    cases h
  · rw [if_neg q] at h
    obtain ⟨v, h1, h2⟩ := E.sl i d h
    exact ⟨v, by rw [wipe_get, if_neg (by rw [E.len]; exact q)]; exact h1, h2⟩
section
variable {X : Cx} {C : Ct} {ta tb tc te : TE} {a b c tg : Expr} {ma mb mc : Env → M D} {pos : Pos}
def gN (i : Nat) (d : D) (e : Env) : Option Env := some (setE i d e)
theorem snd_gname (i : Nat) : SndG C (gName i) (gN i) := fun e σ w S H v d e' Q E R a h k => by
  cases h
  exact k _ (E.set i a)
theorem cg_name {i : Nat} {x : Str} (hN : X.N.Nodup) (hi : X.N[i]? = some x) (hx : Loc X.env.scope x) (hf : X.fn x = true ∨ X.env.scope.names.lookup x = some .local := by first | exact .inl rfl | exact .inr rfl | assumption) (hK : X.kw = C.K := by rfl) : CG X C (.Name x pos) (gName i) (gN i) :=
  ⟨hK, fun y => pg_name hN hi hx hf, snd_gname i⟩
theorem keep_gname {i : Nat} {vs : List Nat} (h : i ∈ vs) : KeepG (gName i) vs := fun v σ H Q q => ⟨wipe_set h, q⟩
def gN0 (ds : List D) (e : Env) : Option Env := match ds with
  | [] => some e
  | _ => none
def gC (f : D → Env → Option Env) (g : List D → Env → Option Env) (ds : List D) (e : Env) : Option Env := match ds with
  | d :: ds => (f d e).bind (g ds)
  | _ => none
def gT (n : Nat) (g : List D → Env → Option Env) (d : D) (e : Env) : Option Env := match d with
  | .tup ds => if ds.length = n then g ds e else none
  | _ => none
theorem cgs_nil : CGs X C [] gNil gN0 := ⟨fun y => pgs_nil, fun e σ w S H v d e' Q E R a h k => by
  cases a with
  | nil =>
    cases h
    exact ⟨rfl, k σ E⟩
  | cons _ _ => cases h⟩
theorem cgs_cons {e : Expr} {es : List Expr} {t : TG} {u : TGs} {f : D → Env → Option Env} {g : List D → Env → Option Env} (h1 : CG X C e t f) (h2 : CGs X C es u g) (hs : (assignEach (e :: es) X.env).map (·.2) = assign e X.env :: (assignEach es X.env).map (·.2) := by rfl) : CGs X C (e :: es) (gCons t u) (gC f g) := ⟨fun y => pgs_cons (h1.pg y) (h2.pg y) hs, fun e σ w S H v d e' Q E R a h k => by
  cases a with
  | nil => cases h
  | @cons v vs d ds a as =>
    cases q : f d e with
    | none =>
      simp [gC, q] at h
    | some e1 =>
      simp only [gC, q, Option.bind_some] at h
      exact ⟨v, vs, rfl, h1.sn e σ w S H v d e1 _ E R a q fun σ' E' => h2.sn e1 σ' w S H vs ds e' Q E' R as h k⟩⟩
theorem cg_tup {es : List Expr} {k : Nat} {t : TGs} {n : Nat} {f : List D → Env → Option Env} (hc : X.calm = true) (h : CGs X C es t f) (hn : (assignEach es X.env).length = n := by rfl) (hst : (assignEach es X.env).findIdx? (·.1) = none := by rfl) (hK : X.kw = C.K := by rfl) : CG X C (.Tuple es k pos) (gTup C.K n t) (gT n f) :=
  ⟨hK, fun y => by rw [← hK]; exact pg_tup hc (h.pg y) hn hst, fun e σ w S H v d e' Q E R a q kk => by
    cases a with
    | @tup p xs ds s as =>
      by_cases z : ds.length = n
      · have q : (if ds.length = n then f ds e else none) = some e' := q
        rw [if_pos z] at q
        exact ⟨p, xs, rfl, ex_t R.ex s, by rw [as.len]; exact z, h.sn e σ w S H xs ds e' Q E R as q kk⟩
      · have q : (if ds.length = n then f ds e else none) = some e' := q
        rw [if_neg z] at q
        cases q
    | _ => cases q⟩
end
end PM
end
section
set_option Elab.async false
set_option linter.all false
set_option maxRecDepth 100000
namespace PM
open PySem L2 Evl
def chk {α : Type} (src : List (Nat × List D)) (m : M α) : M α := fun S => if okSrc src S then m S else .no
theorem chk_sat {α : Type} {src : List (Nat × List D)} {m : M α} {S : Sto} {P : α → Sto → Prop} {E : Er → Sto → Prop} (h : (chk src m S).sat P E) : okSrc src S = true ∧ (m S).sat P E := by
  unfold chk at h
  by_cases q : okSrc src S = true
  · rw [if_pos q] at h
    exact ⟨q, h⟩
  · rw [if_neg q] at h
    exact h.elim
@[simp] theorem chk_nil {α : Type} (m : M α) : chk [] m = m := rfl
def lcGo (src : List (Nat × List D)) (tg : D → Env → Option Env) (t : Env → M Bool) (m : Env → M D) (e0 : Env) : List D → M (List D)
  | [] => chk src (ret [])
  | d :: ds => chk src (oM (tg d e0) fun e1 => bind (t e1) fun b => if b then bind (m e1) fun y => bind (lcGo src tg t m e0 ds) fun ys => ret (y :: ys) else lcGo src tg t m e0 ds)
def fLst (ds : List D) : M D := ret (.lst ds)
def fCell (ds : List D) : M D := fun S => .ok (.ptr S.length) (S ++ [.lst ds])
def noEM {α : Type} (m : M α) : M α := fun S => noE (m S)
def eLc (keep : Bool) (it : Env → M Itm) (vs : List Nat) (tg : D → Env → Option Env) (t : Env → M Bool) (m : Env → M D) (e : Env) : M D :=
  bind (it e) fun I => gd (I.ds.length ≤ lim) (bind (noEM (lcGo I.src tg t m (wipeE e vs) I.ds)) (if keep then fCell else fLst))
def tYesP (_ : Env) : M Bool := ret true
def C0 (C : Ct) : Ct := ⟨C.K, fun _ _ _ _ => False, C.sx⟩
theorem EnvR.c0 {C : Ct} {w : Wd} {σ : L2.St} {e : Env} (E : EnvR C w σ e) : EnvR (C0 C) w σ e := ⟨E.len, E.sl, E.ex⟩
theorem Wd.unhide_eq {w5 w2 : Wd} {p : Addr} {o : HO} (h : w5.U = upd w2.U p o) : w5 = (⟨w5.F, w5.B, w2.U⟩ : Wd).hide p o := by
  cases w5
  cases h
  rfl
section
variable {X : Cx} {C : Ct} {ta tb tc te : TE} {a b c tg : Expr} {ma mb mc : Env → M D} {pos : Pos}
theorem snd_yes : SndT C tYes tYesP := fun e σ w S H Q E R h => h w H (Wd.le.refl w) R
theorem snd_lc (keep : Bool) {wi : TI} {it : Env → M Itm} {g : TG} {f : D → Env → Option Env} {vs : List Nat} {tt : TT} {t : Env → M Bool} {m : Env → M D} (hI : SndI C wi it) (hg : SndG (C0 C) g f) (hk : KeepG g vs) (ht : SndT (C0 C) tt t) (he : SndE (C0 C) te m) : SndE C (tLc wi g tt te vs) (eLc keep it vs f t m) := fun e σ w S H Q E R h => by
  have h := sat_then.mp h
  refine hI e σ w S H _ E R (h.imp (fun I S1 h1 w1 H1 J l1 R1 wk => ?_) (fun x s hx => hx))
  obtain ⟨hlen, h1⟩ := gd_sat h1
  intro Dl hD
  have h2 := noE_sat (E' := fun _ _ => False) (sat_then.mp h1)
  have hU : w1.U Dl = none := by
    cases q : w1.U Dl with
    | none => rfl
    | some o =>
      have := (R1.hid Dl o q).1
      rw [hD] at this
      cases this
  have E1 : EnvR (C0 C) w1 (L2.wipe σ vs) (wipeE e vs) := ((E.up l1).wipe vs).c0
  refine ⟨fun i n H' => n = I.ds.length - i ∧ i ≤ I.ds.length ∧ ∃ (w2 : Wd) (S2 : Sto) (acc : List V) (ads : List D), w1.le w2 ∧ Rel C.K (w2.hide Dl (.lst acc)) S2 H' ∧ VRs C.K w2 acc ads ∧ acc.length ≤ i ∧
    (lcGo I.src f t m (wipeE e vs) (I.ds.drop i) S2).sat (fun ys S3 => ((if keep then fCell else fLst) (ads ++ ys) S3).sat (PV C.K w Q) (PX C w σ)) (fun _ _ => False), ⟨I.ds.length, by simp, Nat.zero_le _, w1, S1, [], [], Wd.le.refl _, R1.hide hD, .nil, Nat.le_refl _, h2⟩, ?_⟩
  rintro i n H2 ⟨rfl, hi, w2, S2, acc, ads, l2, R2, aa, hacc, hgo⟩
  have hU2 : w2.U Dl = none := by rw [l2.u]; exact hU
  by_cases hlt : i < I.ds.length
  · rw [List.drop_eq_getElem_cons hlt] at hgo
    obtain ⟨ok, hgo⟩ := chk_sat hgo
    obtain ⟨e1, q1, hgo⟩ := oM_sat hgo
    obtain ⟨g1, g2⟩ := wk.go (w2.hide Dl (.lst acc)) S2 H2 l2.z.hide R2 ok i _ (List.getElem?_eq_getElem hlt)
    refine .inr ⟨g1, fun H3 => ∃ (w3 : Wd) (S3 : Sto) (acc' : List V) (ads' : List D), w1.le w3 ∧ Rel C.K (w3.hide Dl (.lst acc')) S3 H3 ∧ VRs C.K w3 acc' ads' ∧ acc'.length ≤ i + 1 ∧
      (lcGo I.src f t m (wipeE e vs) (I.ds.drop (i + 1)) S3).sat (fun ys S4 => ((if keep then fCell else fLst) (ads' ++ ys) S4).sat (PV C.K w Q) (PX C w σ)) (fun _ _ => False), fun H3 q => ⟨I.ds.length - (i + 1), by omega, rfl, by omega, q⟩, fun x H3 hy => ?_⟩
    obtain ⟨w3, l3, R3, a3⟩ := g2 x H3 hy
    have hgo := sat_then.mp hgo
    have z := hk x (L2.wipe σ vs) H3 (fun σ2 H4 => tt σ2 H4 fun b H5 => if b = true then te σ2 H5 fun y H6 => ∃ acc, H6 Dl = some (.lst acc) ∧ acc.length < sizeLine ∧ (∃ (w3 : Wd) (S3 : Sto) (acc' : List V) (ads' : List D), w1.le w3 ∧ Rel C.K (w3.hide Dl (.lst acc')) S3 (upd H6 Dl (.lst (acc ++ [y]))) ∧ VRs C.K w3 acc' ads' ∧ acc'.length ≤ i + 1 ∧
      (lcGo I.src f t m (wipeE e vs) (I.ds.drop (i + 1)) S3).sat (fun ys S4 => ((if keep then fCell else fLst) (ads' ++ ys) S4).sat (PV C.K w Q) (PX C w σ)) (fun _ _ => False)) else (∃ (w3 : Wd) (S3 : Sto) (acc' : List V) (ads' : List D), w1.le w3 ∧ Rel C.K (w3.hide Dl (.lst acc')) S3 H5 ∧ VRs C.K w3 acc' ads' ∧ acc'.length ≤ i + 1 ∧
      (lcGo I.src f t m (wipeE e vs) (I.ds.drop (i + 1)) S3).sat (fun ys S4 => ((if keep then fCell else fLst) (ads' ++ ys) S4).sat (PV C.K w Q) (PX C w σ)) (fun _ _ => False)))
      (hg _ (L2.wipe σ vs) w3 S2 H3 x _ e1 _ (E1.up0 (l2.z.hide.trans l3.z)) R3 a3 q1 fun σ2 E2 => ?_)
    · rw [wipe_idem] at z
      exact z
    · refine ht e1 σ2 w3 S2 H3 _ E2 R3 (hgo.imp (fun k S4 h4 w4 H4 l4 R4 => ?_) fun _ _ z => z.elim)
      have l34 : (w2.hide Dl (.lst acc)).le w4 := l3.trans l4
      cases k with
      | false =>
        have e4 := Wd.unhide_eq (w5 := w4) (w2 := w2) l34.u
        rw [e4] at R4
        exact ⟨⟨w4.F, w4.B, w2.U⟩, S4, acc, ads, l2.trans ⟨l34.f, l34.b, rfl⟩, R4, VRs.up (w := w2) (w' := ⟨w4.F, w4.B, w2.U⟩) ⟨l34.f, l34.b, rfl⟩ aa, by omega, h4⟩
      | true =>
        have h4 := sat_then.mp (show ((m e1 S4).then _).sat _ _ from h4)
        refine he e1 σ2 w4 S4 H4 _ (E2.up l4) R4 (h4.imp (fun y S5 h5 w5 H5 v l5 R5 r5 => ?_) fun _ _ z => z.elim)
        have l35 : (w2.hide Dl (.lst acc)).le w5 := l34.trans l5
        have e5 := Wd.unhide_eq (w5 := w5) (w2 := w2) l35.u
        have k5 := (R5.hid Dl (.lst acc) (by rw [l35.u]; exact upd_same)).1
        rw [e5] at R5
        have l6 : w2.le ⟨w5.F, w5.B, w2.U⟩ := ⟨l35.f, l35.b, rfl⟩
        have hl : acc.length < sizeLine := Nat.lt_of_le_of_lt hacc (Nat.lt_of_lt_of_le hlt (Nat.le_trans hlen (by decide)))
        refine ⟨acc, k5, hl, ⟨w5.F, w5.B, w2.U⟩, S5, acc ++ [v], ads ++ [y], l2.trans l6, R5.rehide, (aa.up l6).app (.one (VR.via (w := w5) (w' := ⟨w5.F, w5.B, w2.U⟩) ⟨rfl, rfl⟩ r5)), by simp; omega, ?_⟩
        refine (sat_then.mp (show ((lcGo I.src f t m (wipeE e vs) (I.ds.drop (i + 1)) S5).then _).sat _ _ from h5)).imp (fun ys S6 h6 => ?_) fun _ _ z => z
        rw [List.append_assoc]
        exact h6
  · have ei : i = I.ds.length := by omega
    subst ei
    rw [List.drop_length] at hgo
    obtain ⟨ok, hgo⟩ := chk_sat hgo
    have hgo : ((if keep then fCell else fLst) (ads ++ []) S2).sat (PV C.K w Q) (PX C w σ) := hgo
    rw [List.append_nil] at hgo
    refine .inl ⟨wk.stop (w2.hide Dl (.lst acc)) S2 H2 l2.z.hide R2 ok, ?_⟩
    cases keep with
    | false =>
      obtain ⟨le, R3⟩ := R2.known hU2
      exact hgo _ H2 _ ((l1.trans l2).trans le) R3 (.lst upd_same (aa.up le))
    | true =>
      have R3 := R2.celled (c := .lst ads) hU2 ⟨acc, (R2.hid Dl _ upd_same).1, aa⟩
      exact hgo _ H2 _ ((l1.trans l2).trans Wd.le_cell) R3 (.ptr (cell_at Dl (R2.unhide (fun a u h z => by
        rw [z, hU2] at h
        cases h))))
theorem hyp0 {s : Shared} {H : Hp} {scope : Scope} {fp : List Addr} {env : PySem.Env} : Hyp (X.blk s H scope env fp) (C0 C) := ⟨takes0, PassesOwn.never⟩
structure CTs (X : Cx) (C : Ct) (es : List Expr) (tt : TT) (m : Env → M Bool) : Prop where
  pt : Hyp X C → PTs X es tt
  sn : SndT C tt m
theorem cts_nil : CTs X C [] tYes tYesP := ⟨fun y => pts_nil, snd_yes⟩
theorem cts_one {t : TT} {m : Env → M Bool} (h : CT X C a t m) : CTs X C [a] t m := ⟨fun y => pts_one (h.pt y), h.sn⟩
theorem ce_lc (keep : Bool) {elt iter : Expr} {ifs : List Expr} {scope : Scope} {own : List (Str × Nat)} {wi : TI} {it : Env → M Itm} {g : TG} {f : D → Env → Option Env} {tt : TT} {t : Env → M Bool} {m : Env → M D} (hc : X.calm = true) (hN : X.N.Nodup) (hi : CI X C tg iter wi it) (ok : BlkOk X.N X.env.scope scope own)
    (hg : ∀ (s : Shared) (H : Hp) (Z : Addr) (cl : List (Str × Addr)) (fp : List Addr), CG (X.blk s H scope (compEnvC scope cl Z X.env) fp) (C0 C) tg g f) (hk : KeepG g (own.map (·.2))) (ht : ∀ (s : Shared) (H : Hp) (Z : Addr) (cl : List (Str × Addr)) (fp : List Addr), CTs (X.blk s H scope (compEnvC scope cl Z X.env) fp) (C0 C) ifs tt t)
    (he : ∀ (s : Shared) (H : Hp) (Z : Addr) (cl : List (Str × Addr)) (fp : List Addr), CE (X.blk s H scope (compEnvC scope cl Z X.env) fp) (C0 C) elt te m) (hs : ∀ x, foldedSetIterable iter X.env x = pure x := by intro _; rfl) :
    CE X C (.ListComp elt [⟨tg, iter, ifs, 0⟩] scope pos) (tLc wi g tt te (own.map (·.2))) (eLc keep it (own.map (·.2)) f t m) :=
  ⟨hi.hK, fun y => pe_lc hc hN (hi.pi y) ok (fun s H Z cl fp => (hg s H Z cl fp).pg hyp0) (fun s H Z cl fp => (ht s H Z cl fp).pt hyp0) (fun s H Z cl fp => (he s H Z cl fp).pe hyp0) hs, snd_lc keep hi.sn (hg X.s_0 X.H_0 0 [] []).sn hk (ht X.s_0 X.H_0 0 [] []).sn (he X.s_0 X.H_0 0 [] []).sn⟩
def PN (C : Ct) (w : Wd) (Q : L2.St → Hp → Prop) (e : Env) (S : Sto) : Prop := ∀ (w' : Wd) (H' : Hp) (σ' : L2.St), w.le w' → Rel C.K w' S H' → EnvR C w' σ' e → Q σ' H'
def PXS (C : Ct) (w : Wd) (x : Er) (e : Env) (S : Sto) : Prop := ∀ (w' : Wd) (H' : Hp) (σ' : L2.St) (c : Value) (dd : Option Addr), w.le w' → Rel C.K w' S H' → EnvR C w' σ' e → ErR C.K w' x c dd → C.W c dd σ' H'
theorem PN.up {w w' : Wd} {Q : L2.St → Hp → Prop} {e : Env} {S : Sto} (l : w.le w') (h : PN C w Q e S) : PN C w' Q e S := fun w2 H σ l2 r e => h w2 H σ (l.trans l2) r e
theorem PXS.up {w w' : Wd} {x : Er} {e : Env} {S : Sto} (l : w.le w') (h : PXS C w x e S) : PXS C w' x e S := fun w2 H σ c d l2 r e => h w2 H σ c d (l.trans l2) r e
def SndS (C : Ct) (ts : TS) (m : Stm) : Prop := ∀ (En : Ends) (e : Env) (σ : L2.St) (w : Wd) (S : Sto) (H : Hp), EnvR C w σ e → Rel C.K w S H → (m e S).sat (PN C w En.nx) (PV C.K w En.rt) (PN C w En.bk) (PN C w En.ct) (PXS C w) → ts En σ H
structure CS (X : Cx) (C : Ct) (st : Stmt) (ts : TS) (m : Stm) : Prop where
  ps : Hyp X C → PS X st ts
  sn : SndS C ts m
structure CSs (X : Cx) (C : Ct) (st : List Stmt) (ts : TS) (m : Stm) : Prop where
  ps : Hyp X C → PSs X st ts
  sn : SndS C ts m
/-- an expression within a statement -/
def sE {α : Type} (m : Env → M α) (k : α → Stm) : Stm := fun e S => match m e S with
  | .ok a S' => k a e S'
  | .er x S' => .er x e S'
  | .no => .no
theorem sE_sat {α : Type} {m : Env → M α} {k : α → Stm} {e : Env} {S : Sto} {N : Env → Sto → Prop} {R : D → Sto → Prop} {B Ct : Env → Sto → Prop} {E : Er → Env → Sto → Prop} (h : (sE m k e S).sat N R B Ct E) : (m e S).sat (fun a S' => (k a e S').sat N R B Ct E) (fun x S' => E x e S') := by
  unfold sE at h
  cases q : m e S with
  | ok a s =>
    rw [q] at h
    exact h
  | er x s =>
    rw [q] at h
    exact h
  | no =>
    rw [q] at h
    exact h
theorem pxs_px {w : Wd} {σ : L2.St} {e : Env} {x : Er} {S : Sto} (E : EnvR C w σ e) (h : PXS C w x e S) : PX C w σ x S := fun w' H' c dd l r er => h w' H' σ c dd l r (E.up l) er
def sNext : Stm := fun e S => .nx e S
def sSeq (a b : Stm) : Stm := fun e S => match a e S with
  | .nx e' S' => b e' S'
  | o => o
theorem snd_seq {t u : TS} {a b : Stm} (h : SndS C t a) (g : SndS C u b) : SndS C (tSeq t u) (sSeq a b) := fun En e σ w S H E R q => by
  refine h { En with nx := u En } e σ w S H E R ?_
  unfold sSeq at q
  cases z : a e S with
  | nx e' S' =>
    rw [z] at q
    exact fun w' H' σ' l r E' => g En e' σ' w' S' H' E' r (SO.sat.imp q (fun _ _ z => z.up l) (fun _ _ z => z.up l) (fun _ _ z => z.up l) (fun _ _ z => z.up l) (fun _ _ _ z => z.up l))
  | rt d S' =>
    rw [z] at q
    exact q
  | bk e' S' =>
    rw [z] at q
    exact q
  | ct e' S' =>
    rw [z] at q
    exact q
  | er x e' S' =>
    rw [z] at q
    exact q
  | no =>
    rw [z] at q
    exact q
theorem css_nil : CSs X C [] tNext sNext := ⟨fun y => pss_nil, fun En e σ w S H E R q => q w H σ (Wd.le.refl w) R E⟩
theorem css_cons {st : Stmt} {rest : List Stmt} {t u : TS} {x y : Stm} (h : CS X C st t x) (g : CSs X C rest u y) : CSs X C (st :: rest) (tSeq t u) (sSeq x y) := ⟨fun y => pss_cons (h.ps y) (g.ps y), snd_seq h.sn g.sn⟩
theorem css_one {st : Stmt} {t : TS} {x : Stm} (h : CS X C st t x) : CSs X C [st] t x := ⟨fun y => pss_one (h.ps y), h.sn⟩
def sBk : Stm := fun e S => .bk e S
def sCt : Stm := fun e S => .ct e S
def sDrop (m : Env → M D) : Stm := sE m fun _ e S => .nx e S
theorem cs_expr (ha : CE X C a ta ma) (hs : swapsWith a none pos.line X.env = pure false := by rfl) : CS X C (.Expr a pos) (tDrop ta) (sDrop ma) := ⟨fun y => ps_expr (ha.pe y) hs, fun En e σ w S H E R q => ha.sn e σ w S H _ E R ((sE_sat q).imp (fun d S1 h1 w1 H1 v l1 R1 r1 => h1 w1 H1 σ l1 R1 (E.up l1)) fun x s z => pxs_px E z)⟩
def sRet (m : Env → M D) : Stm := sE m fun d _ S => .rt d S
theorem cs_ret (ha : CE X C a ta ma) : CS X C (.Return (some a) pos) (tRet ta) (sRet ma) := ⟨fun y => ps_ret (ha.pe y), fun En e σ w S H E R q => ha.sn e σ w S H _ E R ((sE_sat q).imp (fun d S1 h1 w1 H1 v l1 R1 r1 => h1 w1 H1 v l1 R1 r1) fun x s z => pxs_px E z)⟩
def sRetN : Stm := fun _ S => .rt .non S
def sIf (t : Env → M Bool) (a b : Stm) : Stm := sE t fun k => if k then a else b
theorem cs_if {c : Expr} {p q : List Stmt} {tc : TT} {t : Env → M Bool} {u v : TS} {x y : Stm} (hc : CT X C c tc t) (hp : CSs X C p u x) (hq : CSs X C q v y) : CS X C (.If c p q pos) (tIfS tc u v) (sIf t x y) := ⟨fun y => ps_if (hc.pt y) (hp.ps y) (hq.ps y), fun En e σ w S H E R q => hc.sn e σ w S H _ E R ((sE_sat q).imp (fun k S1 h1 w1 H1 l1 R1 => by
  cases k with
  | true => exact hp.sn En e σ w1 S1 H1 (E.up l1) R1 (SO.sat.imp (show (x e S1).sat _ _ _ _ _ from h1) (fun _ _ z => z.up l1) (fun _ _ z => z.up l1) (fun _ _ z => z.up l1) (fun _ _ z => z.up l1) (fun _ _ _ z => z.up l1))
  | false => exact hq.sn En e σ w1 S1 H1 (E.up l1) R1 (SO.sat.imp (show (y e S1).sat _ _ _ _ _ from h1) (fun _ _ z => z.up l1) (fun _ _ z => z.up l1) (fun _ _ z => z.up l1) (fun _ _ z => z.up l1) (fun _ _ _ z => z.up l1))) fun x s z => pxs_px E z)⟩
def sAsg (m : Env → M D) (f : D → Env → Option Env) : Stm := sE m fun d e S => match f d e with
  | some e' => .nx e' S
  | none => .no
theorem snd_asg {g : TG} {f : D → Env → Option Env} (ha : SndE C ta ma) (hg : SndG C g f) : SndS C (tAsg ta g) (sAsg ma f) := fun En e σ w S H E R q => ha e σ w S H _ E R ((sE_sat q).imp (fun d S1 h1 w1 H1 v l1 R1 r1 => by
  cases z : f d e with
  | none =>
    rw [z] at h1
    exact h1.elim
  | some e' =>
    rw [z] at h1
    exact hg e σ w1 S1 H1 v d e' _ (E.up l1) R1 r1 z fun σ' E' => h1 w1 H1 σ' l1 R1 E') fun x s z => pxs_px E z)
theorem cs_asg {g : TG} {f : D → Env → Option Env} (ha : CE X C a ta ma) (hg : CG X C tg g f) (hs : swapsWithSole [tg] a pos.line X.env = pure false := by rfl) (hw : swappedStores [tg] a X.env = pure none := by rfl) (h1 : (assignEach [tg] X.env).map (·.2) = [assign tg X.env] := by rfl) : CS X C (.Assign [tg] a pos) (tAsg ta g) (sAsg ma f) := ⟨fun y => ps_asg (ha.pe y) (hg.pg y) hs hw h1, snd_asg ha.sn hg.sn⟩
def sPar (i j : Nat) (m : Env → M (List D)) : Stm := sE m fun ds e S => match ds with
  | [x, y] => .nx (setE j y (setE i x e)) S
  | _ => .no
theorem cs_par {i j : Nat} {x y : Str} {ta : TA} {m : Env → M (List D)} {px py pt : Pos} {kt k2 pt2} (hc : X.calm = true) (hN : X.N.Nodup) (hi : X.N[i]? = some x) (hj : X.N[j]? = some y) (hij : i ≠ j) (hx : X.env.scope.names.lookup x = some .local) (hy : X.env.scope.names.lookup y = some .local) (ha : CA X C [a, b] ta m)
    (hw : swappedStores [.Tuple [.Name x px, .Name y py] kt pt] (.Tuple [a, b] k2 pt2) X.env = pure (some [x, y]))
    (hs : swapsWithSole [.Tuple [.Name x px, .Name y py] kt pt] (.Tuple [a, b] k2 pt2) pos.line X.env = pure false := by rfl) : CS X C (.Assign [.Tuple [.Name x px, .Name y py] kt pt] (.Tuple [a, b] k2 pt2) pos) (tPar i j ta) (sPar i j m) := ⟨fun y => ps_par hc hN hi hj hij hx hy (ha.pa y) hw hs, fun En e σ w S H E R q => ha.sn e σ w S H _ E R ((sE_sat q).imp (fun ds S1 h1 w1 H1 vs l1 R1 rs => by
  cases rs with
  | nil => exact h1.elim
  | cons a1 rs =>
    cases rs with
    | nil => exact h1.elim
    | cons a2 rs =>
      cases rs with
      | cons _ _ => exact h1.elim
      | nil => exact ⟨_, _, rfl, h1 w1 H1 _ l1 R1 (((E.up l1).set i a1).set j a2)⟩) fun x s z => pxs_px E z)⟩
end
end PM
end
section
set_option Elab.async false
set_option linter.all false
set_option maxRecDepth 100000
namespace PM
open PySem L2 Evl
section
variable {X : Cx} {C : Ct} {ta tb tc te : TE} {a b c tg : Expr} {ma mb mc : Env → M D} {pos : Pos}
/-- d is a cell of a list: its number, its items -/
def cellL {α : Type} (d : D) (k : Nat → List D → M α) : M α := fun S => match d with
  | .ptr n => match S[n]? with
    | some (.lst ds) => k n ds S
    | _ => .no
  | _ => .no
theorem cellL_sat {α : Type} {d : D} {k : Nat → List D → M α} {S : Sto} {P : α → Sto → Prop} {E : Er → Sto → Prop} (h : (cellL d k S).sat P E) : ∃ n ds, d = .ptr n ∧ S[n]? = some (.lst ds) ∧ (k n ds S).sat P E := by
  cases d with
  | ptr n =>
    simp only [cellL] at h
    cases q : S[n]? with
    | none =>
      rw [q] at h
      exact h.elim
    | some cc =>
      rw [q] at h
      cases cc with
      | lst ds => exact ⟨n, ds, rfl, q, h⟩
      | _ => exact h.elim
  | _ => exact h.elim
def putL (n : Nat) (ds : List D) : M D := fun S => .ok .non (S.set n (.lst ds))
/-- a list that is no script -/
def rdP (S : Sto) : D → Option (List D)
  | .lst ds => some ds
  | .ptr n => match S[n]? with
    | some (.lst ds) => some ds
    | _ => none
  | _ => none
theorem rdP_ok {K : Kw} {w : Wd} {S : Sto} {H : Hp} {v : V} {d : D} {ds : List D} (R : Rel K w S H) (a : VR K w v d) (h : rdP S d = some ds) : ∃ p xs, v = .ref p ∧ H p = some (.lst xs) ∧ VRs K w xs ds := by
  cases a with
  | lst s as =>
    cases h
    exact ⟨_, _, rfl, R.ex _ _ s, as⟩
  | @ptr p n hb =>
    cases q : S[n]? with
    | none => simp [rdP, q] at h
    | some cc =>
      cases cc with
      | lst es =>
        simp [rdP, q] at h
        subst h
        obtain ⟨_, xs, hx, ax⟩ := R.cell _ _ _ hb q rfl
        exact ⟨_, _, rfl, hx, ax⟩
      | _ => simp [rdP, q] at h
  | _ => cases h
def dExtend (x : D) (as : List D) : M D := match as with
  | [y] => fun S => oM (rdP S y) (fun zs => cellL x fun n ds => gd (ds.length + zs.length ≤ lim) (putL n (ds ++ zs))) S
  | _ => stuck
def eBM (g : D → List D → M D) (o : Env → M D) (r : Env → M (List D)) (e : Env) : M D := bind (o e) fun x => cellL x fun _ _ => bind (r e) fun as => g x as
theorem tyV_cell {K : Kw} {w : Wd} {S : Sto} {H : Hp} {v : V} {n : Nat} {ds : List D} (R : Rel K w S H) (r : VR K w v (.ptr n)) (q : S[n]? = some (.lst ds)) : ∃ p xs, v = .ref p ∧ w.B[n]? = some p ∧ H p = some (.lst xs) ∧ VRs K w xs ds ∧ tyV K "list" v H := by
  cases r with
  | ptr hb =>
    obtain ⟨_, xs, hx, as⟩ := R.cell _ _ _ hb q rfl
    exact ⟨_, xs, rfl, hb, hx, as, .inl ⟨rfl, xs, .inl (.inl hx)⟩⟩
theorem snd_bm {r : V → List V → Hp → VK → Prop} {g : D → List D → M D} {to : TE} {mo : Env → M D} {tr : TA} {mr : Env → M (List D)} (ho : SndE C to mo) (ha : SndA C tr mr)
    (hs : ∀ (w : Wd) (S : Sto) (H : Hp) (x : V) (d : D) (vs : List V) (ds : List D) (Q : VK) (E : Er → Sto → Prop), Rel C.K w S H → VR C.K w x d → VRs C.K w vs ds → (g d ds S).sat (PV C.K w Q) E → r x vs H Q) : SndE C (tBM C.K "list" r to tr) (eBM g mo mr) := fun e σ w S H Q E R h => by
  have h := sat_then.mp h
  refine ho e σ w S H _ E R (h.imp (fun d S1 h1 w1 H1 v l1 R1 r1 => ?_) (fun x s hx => hx))
  obtain ⟨n, ds, rfl, q, h1⟩ := cellL_sat h1
  obtain ⟨p, xs, rfl, hb, hx, as, ty⟩ := tyV_cell R1 r1 q
  refine ⟨ty, ?_⟩
  have h1 := sat_then.mp (show ((mr e S1).then _).sat _ _ from h1)
  refine ha e σ w1 S1 H1 _ (E.up l1) R1 (h1.imp (fun es S2 h2 w2 H2 us l2 R2 rs => ?_) (fun x s hx => hx.up l1))
  exact hs w2 S2 H2 _ _ us es Q _ R2 (r1.up l2) rs (h2.imp (fun d s z => z.up (l1.trans l2)) fun _ _ z => z)
theorem ce_extend {o e : Expr} {mo : Env → M D} {to : TE} {es : List Expr} {tr : TA} {mr : Env → M (List D)} {apos : Pos} (ho : CE X C o to mo) (ha : CA X C (e :: es) tr mr)
    (hbase : attributeBase o "extend" X.env (eval o X.env) = eval o X.env := by rfl)
    (hfew : ((backTo pos (starEach (e :: es) X.env)).all (fun x => !x.1) && (backToKw pos (keywordEach [] X.env)).all (fun x => x.1.isSome)
      && decide ((e :: es).length + ([] : List Keyword).length + (if ([] : List Keyword).isEmpty then 0 else 1) < 30)) = true := by rfl)
    (hline : (apos.endLine == pos.line) = true := by rfl) (hs : starEach (e :: es) X.env = (false, eval e X.env) :: starEach es X.env := by rfl) (hplain : (backTo pos (starEach es X.env)).any (·.1) = false := by rfl) :
    CE X C (.Call (.Attribute o "extend" apos) (e :: es) [] pos) (tBM C.K "list" rExtend to tr) (eBM dExtend mo mr) := ⟨ho.hK, fun y => by rw [← ho.hK]; exact pe_bm PySem.F.plainAttrs_list PySem.F.slot_list_extend PySem.F.type_list_extend mt_extend (ho.pe y) (ha.pa y) hbase hfew hline hs hplain, snd_bm ho.sn ha.sn fun w S H x d vs ds Q E R r rs h => by
  cases rs with
  | nil => exact h.elim
  | cons a1 rs =>
    cases rs with
    | cons _ _ => exact h.elim
    | nil =>
      obtain ⟨zs, z, h⟩ := oM_sat h
      obtain ⟨n, es, rfl, q, h⟩ := cellL_sat h
      obtain ⟨hl, h⟩ := gd_sat h
      obtain ⟨p, xs, rfl, hb, hx, as, ty⟩ := tyV_cell R r q
      obtain ⟨p2, ys, rfl, e2, e3⟩ := rdP_ok R a1 z
      exact ⟨p, p2, xs, ys, rfl, rfl, hx, e2, sz_lim (by rw [as.len, e3.len]; exact hl), h w _ _ (Wd.le.refl w) (R.put hb q rfl ⟨_, upd_same, as.app e3⟩) .non⟩⟩
/-- o[i] = v -/
def dSet (o i v : D) : M D := match i with
  | .int k => cellL o fun n ds => oM (ixN ds.length k) fun j => putL n (ds.set j v)
  | _ => stuck
theorem sets_ok {K : Kw} {w : Wd} {S : Sto} {H : Hp} {o i v : V} {d1 d2 d3 : D} {Q : Hp → Prop} {P : D → Sto → Prop} {E : Er → Sto → Prop} (R : Rel K w S H) (r1 : VR K w o d1) (r2 : VR K w i d2) (r3 : VR K w v d3) (h : (dSet d1 d2 d3 S).sat P E) (hp : ∀ d S', P d S' → ∀ (w' : Wd) (H' : Hp), w.le w' → Rel K w' S' H' → Q H') : rSetL o i v H Q := by
  cases r2 with
  | int k =>
    obtain ⟨n, ds, rfl, q, h⟩ := cellL_sat h
    obtain ⟨j, z, h⟩ := oM_sat h
    obtain ⟨p, xs, rfl, hb, hx, as, ty⟩ := tyV_cell R r1 q
    exact ⟨p, xs, k, j, rfl, rfl, hx, by rw [as.len]; exact z, hp _ _ h w _ (Wd.le.refl w) (R.put hb q rfl ⟨_, upd_same, as.set r3 j⟩)⟩
  | _ => exact h.elim
def sSet (m mo mi : Env → M D) : Stm := sE m fun d => sE mo fun o => sE mi fun i => sE (fun _ => dSet o i d) fun _ e S => .nx e S
theorem snd_set {to ti : TE} {mo mi : Env → M D} (ha : SndE C ta ma) (ho : SndE C to mo) (hi : SndE C ti mi) : SndS C (tAsg ta (gSub to ti rSetL)) (sSet ma mo mi) := fun En e σ w S H E R q => ha e σ w S H _ E R ((sE_sat q).imp (fun d S1 h1 w1 H1 v l1 R1 r1 => by
  refine ho e σ w1 S1 H1 _ (E.up l1) R1 ((sE_sat h1).imp (fun o S2 h2 w2 H2 ov l2 R2 r2 => ?_) fun x s z => pxs_px (E.up l1) (z.up l1))
  refine hi e σ w2 S2 H2 _ (E.up (l1.trans l2)) R2 ((sE_sat h2).imp (fun i S3 h3 w3 H3 iv l3 R3 r3 => ?_) fun x s z => pxs_px (E.up (l1.trans l2)) (z.up (l1.trans l2)))
  have l13 := (l1.trans l2).trans l3
  exact sets_ok R3 (r2.up l3) r3 (r1.up (l2.trans l3)) (sE_sat h3) fun _ S4 h4 w4 H4 l4 R4 => h4 w4 H4 σ (l13.trans l4) R4 (E.up (l13.trans l4))) fun x s z => pxs_px E z)
theorem cs_set {o i : Expr} {to ti : TE} {mo mi : Env → M D} {sp : Pos} (ha : CE X C a ta ma) (ho : CE X C o to mo) (hi : CE X C i ti mi) (hs : swapsWithSole [.Subscript o i sp] a pos.line X.env = pure false := by rfl) (hw : swappedStores [.Subscript o i sp] a X.env = pure none := by rfl) (h1 : (assignEach [.Subscript o i sp] X.env).map (·.2) = [assign (.Subscript o i sp) X.env] := by rfl)
    (hg : Hyp X C → PG X (.Subscript o i sp) (gSub to ti rSetL)) : CS X C (.Assign [.Subscript o i sp] a pos) (tAsg ta (gSub to ti rSetL)) (sSet ma mo mi) := ⟨fun y => ps_asg (ha.pe y) (hg y) hs hw h1, snd_set ha.sn ho.sn hi.sn⟩
/-- o[i] = p[j] = v -/
def sSet2 (m mo mi mp mj : Env → M D) : Stm := sE m fun d => sE mo fun o => sE mi fun i => sE (fun _ => dSet o i d) fun _ => sE mp fun p => sE mj fun j => sE (fun _ => dSet p j d) fun _ e S => .nx e S
theorem cs_set2 {o i p j : Expr} {to ti tp tj : TE} {mo mi mp mj : Env → M D} {sp sq : Pos} (ha : CE X C a ta ma) (ho : CE X C o to mo) (hi : CE X C i ti mi) (hp : CE X C p tp mp) (hj : CE X C j tj mj) (h1 : Hyp X C → PG X (.Subscript o i sp) (gSub to ti rSetL)) (h2 : Hyp X C → PG X (.Subscript p j sq) (gSub tp tj rSetL))
    (he : (assignEach [.Subscript o i sp, .Subscript p j sq] X.env).map (·.2) = [assign (.Subscript o i sp) X.env, assign (.Subscript p j sq) X.env] := by rfl) (hw : swappedStores [.Subscript o i sp, .Subscript p j sq] a X.env = pure none := by rfl) :
    CS X C (.Assign [.Subscript o i sp, .Subscript p j sq] a pos) (tAsg2 ta (gSub to ti rSetL) (gSub tp tj rSetL)) (sSet2 ma mo mi mp mj) := ⟨fun y => ps_asg2 (ha.pe y) (h1 y) (h2 y) he hw, fun En e σ w S H E R q => ha.sn e σ w S H _ E R ((sE_sat q).imp (fun d S1 h1 w1 H1 v l1 R1 r1 => by
  refine ho.sn e σ w1 S1 H1 _ (E.up l1) R1 ((sE_sat h1).imp (fun o S2 h2 w2 H2 ov l2 R2 r2 => ?_) fun x s z => pxs_px (E.up l1) (z.up l1))
  refine hi.sn e σ w2 S2 H2 _ (E.up (l1.trans l2)) R2 ((sE_sat h2).imp (fun i S3 h3 w3 H3 iv l3 R3 r3 => ?_) fun x s z => pxs_px (E.up (l1.trans l2)) (z.up (l1.trans l2)))
  have l13 := (l1.trans l2).trans l3
  refine sets_ok R3 (r2.up l3) r3 (r1.up (l2.trans l3)) (sE_sat h3) fun _ S4 h4 w4 H4 l4 R4 => ?_
  have l14 := l13.trans l4
  refine hp.sn e σ w4 S4 H4 _ (E.up l14) R4 ((sE_sat h4).imp (fun o S5 h5 w5 H5 ov l5 R5 r5 => ?_) fun x s z => pxs_px (E.up l14) (z.up l14))
  have l15 := l14.trans l5
  refine hj.sn e σ w5 S5 H5 _ (E.up l15) R5 ((sE_sat h5).imp (fun i S6 h6 w6 H6 iv l6 R6 r6 => ?_) fun x s z => pxs_px (E.up l15) (z.up l15))
  have l16 := l15.trans l6
  exact sets_ok R6 (r5.up l6) r6 (r1.up ((((l2.trans l3).trans l4).trans l5).trans l6)) (sE_sat h6) fun _ S7 h7 w7 H7 l7 R7 => h7 w7 H7 σ (l16.trans l7) R7 (E.up (l16.trans l7))) fun x s z => pxs_px E z)⟩
/-- o[i] += e, ints -/
def dInt1 (d : D) : M Int := match d with
  | .int i => ret i
  | _ => stuck
def dIxC (o i : D) : M Int := bind (dInt1 i) fun k => cellL o fun _ ds => oM (atI ds k) dInt1
def sAugS (mo mi m : Env → M D) : Stm := sE mo fun o => sE mi fun i => sE (fun _ => dIxC o i) fun x => sE (fun e => bind (m e) dInt1) fun y => sE (fun _ => dSet o i (.int (x + y))) fun _ e S => .nx e S
/-- x += e, ints -/
def sAug (i : Nat) (m : Env → M D) : Stm := sE (fun e => bind (eVar i e) dInt1) fun x => sE (fun e => bind (m e) dInt1) fun y e S => .nx (setE i (.int (x + y)) e) S
/-- o.f = v, o an instance that changes -/
def dPut (cs : List Str) (f : Str) (o v : D) : M D := fun S => match o with
  | .ptr n => match S[n]? with
    | some (.obj c fs) => gd (cs.contains c = true ∧ fs.length < 1000) (fun S => .ok .non (S.set n (.obj c (putD f v fs)))) S
    | _ => .no
  | _ => .no
def sFldP (cs : List Str) (f : Str) (m mo : Env → M D) : Stm := sE m fun d => sE mo fun o => sE (fun _ => dPut cs f o d) fun _ e S => .nx e S
theorem cs_fld {o v : Expr} {to tv : TE} {mo mv : Env → M D} {f : Str} {pos' : Pos} (cs : List Str) (ok : FldOk C.K f cs) (ho : CE X C o to mo) (hv : CE X C v tv mv) (hs : swapsWith v (some (.Attribute o f pos')) pos.line X.env = pure false := by rfl) : CS X C (.Assign [.Attribute o f pos'] v pos) (sFld C.K to tv f) (sFldP cs f mv mo) := ⟨fun y => by rw [← ho.hK]; exact ps_fld (ho.pe y) (hv.pe y) hs, fun En e σ w S H E R q => hv.sn e σ w S H _ E R ((sE_sat q).imp (fun d S1 h1 w1 H1 v l1 R1 r1 => by
  refine ho.sn e σ w1 S1 H1 _ (E.up l1) R1 ((sE_sat h1).imp (fun o S2 h2 w2 H2 ov l2 R2 r2 => ?_) fun x s z => pxs_px (E.up l1) (z.up l1))
  have l12 := l1.trans l2
  have h3 := sE_sat h2
  cases r2 with
  | @ptr p n hb =>
    simp only [dPut] at h3
    cases z : S2[n]? with
    | none =>
      rw [z] at h3
      exact h3.elim
    | some cc =>
      rw [z] at h3
      cases cc with
      | obj c fs =>
        obtain ⟨⟨c1, c2⟩, h3⟩ := gd_sat h3
        obtain ⟨o1, o2⟩ := ok c (List.contains_iff_mem.mp c1)
        obtain ⟨_, dx, fvs, hx, as⟩ := R2.cell _ _ _ hb z rfl
        refine ⟨p, _, dx, fvs, rfl, hx, o1, o2, by rw [as.len]; exact c2, ?_⟩
        exact h3 w2 _ σ l12 (R2.put hb z rfl ⟨dx, _, upd_same, as.put (r1.up l2)⟩) (E.up l12)
      | _ => exact h3.elim
  | _ => exact h3.elim) fun x s z => pxs_px E z)⟩
def setS (i : Nat) (d : D) (e : Env) : Env := ⟨e.sl.set i (some d), e.ex⟩
def sFrz (i : Nat) : Stm := fun e S => match e.sl[i]? with
  | some (some (.ptr n)) => match S[n]? with
    | some (.lst ds) => .nx (setS i (.lst ds) e) (S.set n .dead)
    | some (.obj c fs) => .nx (setS i (.obj c fs) e) (S.set n .dead)
    | _ => .no
  | _ => .no
theorem EnvR.frz {w : Wd} {σ : L2.St} {e : Env} {i : Nat} {d : D} {v : V} (E : EnvR C w σ e) (h : σ[i]? = some (some v)) (a : VR C.K w v d) : EnvR C w σ (setS i d e) := ⟨by simp [setS, E.len], fun j d' h' => by
  have h' : (e.sl.set i (some d))[j]? = some (some d') := h'
  by_cases q : i = j
  · subst q
    rw [List.getElem?_set_self (by
      have := (List.getElem?_eq_some_iff.mp h').1
      simpa using this)] at h'
    cases h'
    exact ⟨v, h, a⟩
  · rw [List.getElem?_set_ne q] at h'
    exact E.sl j d' h', E.ex⟩
theorem snd_frz {ts : TS} {m : Stm} (i : Nat) (h : SndS C ts m) : SndS C ts (sSeq (sFrz i) m) := fun En e σ w S H E R q => by
  unfold sSeq sFrz at q
  cases z : e.sl[i]? with
  | none =>
    rw [z] at q
    exact q.elim
  | some o =>
    rw [z] at q
    cases o with
    | none => exact q.elim
    | some d =>
      cases d with
      | ptr n =>
        obtain ⟨v, h1, h2⟩ := E.sl i _ z
        cases h2 with
        | @ptr p _ hb =>
          simp only at q
          cases y : S[n]? with
          | none =>
            rw [y] at q
            exact q.elim
          | some cc =>
            rw [y] at q
            cases cc with
            | lst ds =>
              obtain ⟨_, xs, hx, as⟩ := R.cell _ _ _ hb y rfl
              obtain ⟨le, R2⟩ := R.freeze hb y rfl hx
              exact h En _ σ _ _ H ((E.up le).frz h1 (.lst upd_same (as.up le))) R2 (SO.sat.imp (show (m _ _).sat _ _ _ _ _ from q) (fun _ _ z => z.up le) (fun _ _ z => z.up le) (fun _ _ z => z.up le) (fun _ _ z => z.up le) (fun _ _ _ z => z.up le))
            | obj c fs =>
              obtain ⟨_, dx, fvs, hx, as⟩ := R.cell _ _ _ hb y rfl
              obtain ⟨le, R2⟩ := R.freeze hb y rfl hx
              exact h En _ σ _ _ H ((E.up le).frz h1 (.obj upd_same (as.up le))) R2 (SO.sat.imp (show (m _ _).sat _ _ _ _ _ from q) (fun _ _ z => z.up le) (fun _ _ z => z.up le) (fun _ _ z => z.up le) (fun _ _ z => z.up le) (fun _ _ _ z => z.up le))
            | dead => exact q.elim
            | dic kvs => exact q.elim
            | dct ks vs => exact q.elim
      | _ => exact q.elim
theorem cs_frz {st : Stmt} {ts : TS} {m : Stm} (i : Nat) (h : CS X C st ts m) : CS X C st ts (sSeq (sFrz i) m) := ⟨fun y => (h.ps y), snd_frz i h.sn⟩
def forGo (src : List (Nat × List D)) (tg : D → Env → Option Env) (body : Stm) : List D → Stm
  | [], e, S => if okSrc src S then .nx e S else .no
  | d :: ds, e, S => if okSrc src S then match tg d e with
    | some e1 => match body e1 S with
      | .nx e2 S2 => forGo src tg body ds e2 S2
      | .ct e2 S2 => forGo src tg body ds e2 S2
      | .bk e2 S2 => .nx e2 S2
      | o => o
    | none => .no else .no
def sFor (it : Env → M Itm) (tg : D → Env → Option Env) (body : Stm) : Stm := sE it fun I => forGo I.src tg body I.ds
theorem snd_for {wi : TI} {it : Env → M Itm} {g : TG} {f : D → Env → Option Env} {tw : TS} {body : Stm} (hI : SndI C wi it) (hg : SndG C g f) (hb : SndS C tw body) : SndS C (tFor wi g tw) (sFor it f body) := fun En e σ w S H E R q => hI e σ w S H _ E R ((sE_sat q).imp (fun I S1 h1 w1 H1 J l1 R1 wk => by
  refine ⟨fun i n σ' H' => n = I.ds.length - i ∧ i ≤ I.ds.length ∧ ∃ (w2 : Wd) (e2 : Env) (S2 : Sto), w1.le w2 ∧ EnvR C w2 σ' e2 ∧ Rel C.K w2 S2 H' ∧ (forGo I.src f body (I.ds.drop i) e2 S2).sat (PN C w En.nx) (PV C.K w En.rt) (PN C w En.bk) (PN C w En.ct) (PXS C w),
    ⟨I.ds.length, by simp, Nat.zero_le _, w1, e, S1, Wd.le.refl _, E.up l1, R1, h1⟩, ?_⟩
  rintro i n σ2 H2 ⟨rfl, hi, w2, e2, S2, l2, E2, R2, hgo⟩
  have l12 := l1.trans l2
  by_cases hlt : i < I.ds.length
  · rw [List.drop_eq_getElem_cons hlt] at hgo
    unfold forGo at hgo
    by_cases ok : okSrc I.src S2 = true
    · rw [if_pos ok] at hgo
      cases z : f I.ds[i] e2 with
      | none =>
        rw [z] at hgo
        exact hgo.elim
      | some e3 =>
        rw [z] at hgo
        obtain ⟨g1, g2⟩ := wk.go w2 S2 H2 l2.z R2 ok i _ (List.getElem?_eq_getElem hlt)
        refine .inr ⟨g1, fun σ' H' => ∃ (w2 : Wd) (e2 : Env) (S2 : Sto), w1.le w2 ∧ EnvR C w2 σ' e2 ∧ Rel C.K w2 S2 H' ∧ (forGo I.src f body (I.ds.drop (i + 1)) e2 S2).sat (PN C w En.nx) (PV C.K w En.rt) (PN C w En.bk) (PN C w En.ct) (PXS C w),
          fun σ' H' q => ⟨I.ds.length - (i + 1), by omega, rfl, by omega, q⟩, fun x H3 hy => ?_⟩
        obtain ⟨w3, l3, R3, a3⟩ := g2 x H3 hy
        refine hg e2 σ2 w3 S2 H3 x _ e3 _ (E2.up l3) R3 a3 z fun σ3 E3 => ?_
        have l13 := l12.trans l3
        refine hb _ e3 σ3 w3 S2 H3 E3 R3 ?_
        simp only at hgo
        cases y : body e3 S2 with
        | nx e4 S4 =>
          rw [y] at hgo
          exact fun w4 H4 σ4 l4 R4 E4 => ⟨w4, e4, S4, (l2.trans l3).trans l4, E4, R4, hgo⟩
        | ct e4 S4 =>
          rw [y] at hgo
          exact fun w4 H4 σ4 l4 R4 E4 => ⟨w4, e4, S4, (l2.trans l3).trans l4, E4, R4, hgo⟩
        | bk e4 S4 =>
          rw [y] at hgo
          exact PN.up l13 hgo
        | rt d S4 =>
          rw [y] at hgo
          exact PV.up l13 hgo
        | er x e4 S4 =>
          rw [y] at hgo
          exact PXS.up l13 hgo
        | no =>
          rw [y] at hgo
          exact hgo
    · rw [if_neg ok] at hgo
      exact hgo.elim
  · have ei : i = I.ds.length := by omega
    subst ei
    rw [List.drop_length] at hgo
    unfold forGo at hgo
    by_cases ok : okSrc I.src S2 = true
    · rw [if_pos ok] at hgo
      exact .inl ⟨wk.stop w2 S2 H2 l2.z R2 ok, hgo w2 H2 σ2 l12 R2 E2⟩
    · rw [if_neg ok] at hgo
      exact hgo.elim) fun x s z => pxs_px E z)
theorem cs_for {iter : Expr} {body : List Stmt} {wi : TI} {it : Env → M Itm} {g : TG} {f : D → Env → Option Env} {tw : TS} {m : Stm} (hc : X.calm = true) (hi : CI X C tg iter wi it) (hg : CG X C tg g f) (hb : CSs X C body tw m) (hs : ∀ x, foldedSetIterable iter X.env x = pure x := by intro _; rfl) : CS X C (.For tg iter body [] pos) (tFor wi g tw) (sFor it f m) :=
  ⟨fun y => ps_for y.ps hc (hi.pi y) (hg.pg y) (hb.ps y) hs, snd_for hi.sn hg.sn hb.sn⟩
end
end PM
end
section
set_option Elab.async false
set_option linter.all false
set_option maxRecDepth 100000
namespace PM
open PySem L2 Evl
section
variable {X : Cx} {C : Ct} {ta tb tc te : TE} {a b c tg : Expr} {ma mb mc : Env → M D} {pos : Pos}
def sRaise0 (cls : Str) : Stm := fun e S => .er ⟨cls, none⟩ e S
def sRaise1 (cls f : Str) (m : Env → M D) : Stm := sE m fun d e S => .er ⟨cls, some (f, d)⟩ e S
theorem cs_raise0 {e : Expr} {cls : Str} (hc : X.calm = true) (hm : PMk X e (fun _ H Q => Q (.ref (He.ga C.K cls)) none H)) : CS X C (.Raise (some e) none pos) (fun _ σ H => C.W (.ref (He.ga C.K cls)) none σ H) (sRaise0 cls) :=
  ⟨fun y => ps_raise hc y.tk hm, fun En e σ w S H E R q => q w H σ _ none (Wd.le.refl w) R E ⟨rfl, trivial⟩⟩
theorem cs_raise1 {p pos2 : Pos} {k : Nat} {fI : Addr} {x cls f txt : Str} (hc : X.calm = true) (T : SupX.Sup X.prog X.K X.mg (He.ga X.K cls) fI x f txt) (hr : Room k X.A) (ha : CE X C a ta ma) (hg : Gl X x) (hd : (x == ("__debug__" : Str)) = false := by decide)
    (hst : starEach (a :: []) X.env = (false, eval a X.env) :: starEach [] X.env := by rfl) (hpl : (backTo pos (starEach [] X.env)).any (·.1) = false := by rfl) :
    CS X C (.Raise (some (.Call (.Name x p) [a] [] pos)) none pos2) (tRaiseSup (He.ga C.K cls) f C.W (tCons ta tNil)) (sRaise1 cls f ma) := ⟨fun y => by rw [← ha.hK]; exact ps_raiseSup hc T hr y.tk (pa_cons (ha.pe y) pa_nil hst) hg hd hst hpl, fun En e σ w S H E R q => ha.sn e σ w S H _ E R ((sE_sat q).imp (fun d S1 h1 w1 H1 v l1 R1 r1 => by
  refine ⟨v, rfl, fun dd hdd => ?_⟩
  obtain ⟨le, R2⟩ := R1.plus (o := .xd [(f, v)]) hdd
  exact h1 _ _ σ _ (some dd) (l1.trans le) R2 (E.up (l1.trans le)) ⟨rfl, dd, v, rfl, upd_same, r1.up le⟩) fun x s z => pxs_px E z)⟩
/-- the outcome, but for exceptions -/
def noX (e : Env) (S : Sto) (o : SO) : SO := match o with
  | .er _ _ _ => SO.nx e S
  | o => o
def Ct.wish (C : Ct) (W : WX) : Ct := ⟨C.K, W, C.sx⟩
theorem SndS.body {C : Ct} {W : WX} {ts : TS} {m : Stm} (h : SndS (C.wish W) ts m) {En : Ends} {e : Env} {σ : L2.St} {w : Wd} {S : Sto} {H : Hp} (E : EnvR C w σ e) (R : Rel C.K w S H) {o : SO} (eo : m e S = o) (hx : ∀ x e' S', o = .er x e' S' → ∀ (w' : Wd) (H' : Hp) (σ' : L2.St) (c : Value) (dd : Option Addr), w.le w' → Rel C.K w' S' H' → EnvR C w' σ' e' → ErR C.K w' x c dd → W c dd σ' H')
    (hn : (noX e S o).sat (fun e2 S2 => (∃ x e' S', o = .er x e' S') ∨ PN C w En.nx e2 S2) (PV C.K w En.rt) (PN C w En.bk) (PN C w En.ct) (PXS C w)) : ts En σ H := by
  refine h En e σ w S H ⟨E.len, E.sl, E.ex⟩ R ?_
  rw [eo]
  cases o with
  | nx e2 S2 =>
    rcases hn with ⟨x, e', S', hh⟩ | hn
    · cases hh
    · exact fun w' H' σ' l r E' => hn w' H' σ' l r ⟨E'.len, E'.sl, E'.ex⟩
  | rt d S2 => exact hn
  | bk e2 S2 => exact fun w' H' σ' l r E' => hn w' H' σ' l r ⟨E'.len, E'.sl, E'.ex⟩
  | ct e2 S2 => exact fun w' H' σ' l r E' => hn w' H' σ' l r ⟨E'.len, E'.sl, E'.ex⟩
  | er x e2 S2 => exact fun w' H' σ' c dd l r E' xr => hx x e2 S2 rfl w' H' σ' c dd l r ⟨E'.len, E'.sl, E'.ex⟩ xr
  | no => exact hn
end
def toOut (o : SO) : Out D := match o with
  | .nx _ S => .ok .non S
  | .rt d S => .ok d S
  | .er x _ S => .er x S
  | _ => .no
def startE (n m : Nat) (ds : List D) : Env := ⟨ds.map some ++ List.replicate (m - n) none, none⟩
/-- a def of n parameters and m names -/
def runFn (n m : Nat) (body : Stm) (ds : List D) : M D := fun S => if ds.length = n then toOut (body (startE n m ds) S) else .no
section
open PySem.Spec PyProof.Rows
variable {P : Program} {w : World} {K : PySem.W.Frag} {mg : Str → Option Value} {base : Heap}
theorem fn_env {C : Ct} {w : Wd} {vs : List V} {ds : List D} {N : List Str} {n : Nat} (h : VRs C.K w vs ds) (hn : ds.length = n) (hl : n ≤ N.length) : EnvR C w (L2.start N vs) (startE n N.length ds) := ⟨by simp [L2.start, startE, h.len, hn], fun i d q => by
  have q : (ds.map some ++ List.replicate (N.length - n) none)[i]? = some (some d) := q
  by_cases z : i < ds.length
  · rw [List.getElem?_append_left (by simpa using z), List.getElem?_map] at q
    cases y : ds[i]? with
    | none =>
      rw [y] at q
      cases q
    | some d' =>
      rw [y] at q
      cases q
      obtain ⟨v, v1, v2⟩ := h.get y
      refine ⟨v, ?_, v2⟩
      show (vs.map some ++ List.replicate (N.length - vs.length) none)[i]? = some (some v)
      rw [List.getElem?_append_left (by simpa [h.len] using z), List.getElem?_map, v1]
      rfl
  · rw [List.getElem?_append_right (by simpa using z)] at q
    have := List.getElem?_eq_some_iff.mp q
    simp at this, fun i x q => by cases q⟩
theorem fn_run {CX : CXT} {N : List Str} {qual : Str} {scope : Scope} {f : Addr} {cd : Value} {A : Around} {outer : List PySem.Env} {s : Shared} {H : Hp} {E : XK} {st : List Stmt} {n : Nat} {m : Stm} {ts : TS} {sx : Addr × Value × Option Addr} {vs : List V} {Q : VK} (hl : n ≤ N.length)
    (hb : CSs (cxOf CX P w K mg base N qual scope f cd A outer s H E) ⟨⟨K, w⟩, fun c d _ H => E c d H, sx⟩ st ts m) (hy : Hyp (cxOf CX P w K mg base N qual scope f cd A outer s H E) ⟨⟨K, w⟩, fun c d _ H => E c d H, sx⟩) (h : spM ⟨K, w⟩ (runFn n N.length m) vs H Q E) :
    ∃ t, PSs (cxOf CX P w K mg base N qual scope f cd A outer s H E) st t ∧ t { nx := fun _ H' => Q .non H', rt := Q } (L2.start N vs) H := by
  obtain ⟨w0, ds, S, R, rs, h⟩ := h
  unfold runFn at h
  by_cases hn : ds.length = n
  · rw [if_pos hn] at h
    refine ⟨ts, hb.ps hy, hb.sn _ _ (L2.start N vs) w0 S H (fn_env (C := ⟨⟨K, w⟩, _, sx⟩) rs hn hl) R ?_⟩
    unfold toOut at h
    cases q : m (startE n N.length ds) S with
    | nx e' S' =>
      rw [q] at h
      exact fun w' H' σ' l r E' => h w' H' .non l r .non
    | rt d S' =>
      rw [q] at h
      exact h
    | er x e' S' =>
      rw [q] at h
      exact fun w' H' σ' c dd l r E' xr => h w' H' c dd l r xr
    | bk e' S' =>
      rw [q] at h
      exact h.elim
    | ct e' S' =>
      rw [q] at h
      exact h.elim
    | no =>
      rw [q] at h
      exact h.elim
  · rw [if_neg hn] at h
    exact h.elim
theorem sp_len {n m : Nat} {b : Stm} {vs : List V} {H : Hp} {Q : VK} {E : XK} (h : spM ⟨K, w⟩ (runFn n m b) vs H Q E) : vs.length = n := by
  obtain ⟨w0, ds, S, R, rs, h⟩ := h
  unfold runFn at h
  by_cases hn : ds.length = n
  · rw [rs.len, hn]
  · rw [if_neg hn] at h
    exact h.elim
/-- a def of no defaults -/
theorem fn_pm {x qual : Str} {st : Stmt} {f : Addr} {N ps : List Str} {k : Nat} {m : Stm} (F : ∃ fd, FunD K x qual (defArgs st) (defBody st) (defScope st) [] [] f fd) (S : FnScope N ps (defScope st)) (hl : ps.length ≤ N.length)
    (hb : ∀ (kV doc pm : Value) (an : Option Addr) (cdv ct : Value) (us : List Value), us.length = ps.length → bindArgs (PySem.W.fnOf x qual (defArgs st) (defBody st) (defScope st) .none kV doc pm an cdv ct) ⟨us, []⟩ = pure (ps.zip us))
    (body : ∀ (cdv : Value) (A : Around) (outer : List PySem.Env) (s : Shared) (H : Hp) (E : XK), Room k (A.deeper (envOfC qual (defScope st) s.heap.objs.size f cdv)) → ∃ ts, CSs (cxOf (L2.CX P w) P w K mg base N qual (defScope st) f cdv A outer s H E) ⟨⟨K, w⟩, fun c d _ H => E c d H, (0, .none, none)⟩ (defBody st) ts m) :
    WD.FnG P w K mg base (k + 1) f ps (spM ⟨K, w⟩ (runFn ps.length N.length m)) := by
  refine WD.fnX F S (fun vs H Q E h => sp_len h) hb fun cdv A outer s H vs Q E hr h => ?_
  obtain ⟨ts, hc⟩ := body cdv A outer s H E hr
  exact fn_run hl hc ⟨takes_of rfl rfl rfl rfl, passes_of rfl⟩ h
end
end PM
end
section
set_option Elab.async false
set_option linter.all false
set_option maxRecDepth 100000
namespace PM
open PySem L2 Evl
section
variable {X : Cx} {C : Ct} {ta tb tc te t1 t2 : TE} {a b c tg : Expr} {ma mb mc x y : Env → M D} {pos : Pos}
theorem cs_setLc (keep : Bool) {i : Nat} {y : Str} {py spos : Pos} {elt iter : Expr} {ifs : List Expr} {scope : Scope} {own : List (Str × Nat)} {wi : TI} {it : Env → M Itm} {g : TG} {f : D → Env → Option Env} {tt : TT} {t : Env → M Bool} {m : Env → M D} (hc : X.calm = true) (hN : X.N.Nodup) (hy : X.N[i]? = some y) (hyl : X.env.scope.names.lookup y = some .local)
    (hsw : swapsWith (.ListComp elt [⟨tg, iter, ifs, 0⟩] scope pos) (some (.Name y py)) spos.line X.env = pure true) (hi : CI X C tg iter wi it) (ok : BlkOk X.N X.env.scope scope own)
    (hg : ∀ (s : Shared) (H : Hp) (Z : Addr) (cl : List (Str × Addr)) (fp : List Addr), CG (X.blk s H scope (compEnvC scope cl Z X.env) fp) (C0 C) tg g f) (hk : KeepG g (own.map (·.2))) (ht : ∀ (s : Shared) (H : Hp) (Z : Addr) (cl : List (Str × Addr)) (fp : List Addr), CTs (X.blk s H scope (compEnvC scope cl Z X.env) fp) (C0 C) ifs tt t)
    (he : ∀ (s : Shared) (H : Hp) (Z : Addr) (cl : List (Str × Addr)) (fp : List Addr), CE (X.blk s H scope (compEnvC scope cl Z X.env) fp) (C0 C) elt te m) (hs : ∀ x, foldedSetIterable iter X.env x = pure x := by intro _; rfl) :
    CS X C (.Assign [.Name y py] (.ListComp elt [⟨tg, iter, ifs, 0⟩] scope pos) spos) (tAsg (tLc wi g tt te (own.map (·.2))) (gName i)) (sAsg (eLc keep it (own.map (·.2)) f t m) (gN i)) :=
  ⟨fun y => ps_setLc hc hN hy hyl hsw (hi.pi y) ok (fun s H Z cl fp => (hg s H Z cl fp).pg hyp0) (fun s H Z cl fp => (ht s H Z cl fp).pt hyp0) (fun s H Z cl fp => (he s H Z cl fp).pe hyp0) hs, snd_asg (snd_lc keep hi.sn (hg X.s_0 X.H_0 0 [] []).sn hk (ht X.s_0 X.H_0 0 [] []).sn (he X.s_0 X.H_0 0 [] []).sn) (snd_gname i)⟩
def orM {α : Type} (x y : Env → M α) (e : Env) : M α := fun S => match x e S with
  | .no => y e S
  | o => o
theorem peOr {e : Expr} (h1 : PE X e t1) (h2 : PE X e t2) : PE X e (fun σ H Q => t1 σ H Q ∨ t2 σ H Q) := ⟨fun pins s σ H Q I h => by
  rcases h with h | h
  · exact h1.run pins s σ H Q I h
  · exact h2.run pins s σ H Q I h⟩
theorem ptOr {e : Expr} {t1 t2 : TT} (h1 : PT X e t1) (h2 : PT X e t2) : PT X e (fun σ H Q => t1 σ H Q ∨ t2 σ H Q) := ⟨fun pins s σ H Q I h => by
  rcases h with h | h
  · exact h1.run pins s σ H Q I h
  · exact h2.run pins s σ H Q I h⟩
theorem ce_or2 {e : Expr} (h1 : CE X C e t1 x) (h2 : CE X C e t2 y) : CE X C e (fun σ H Q => t1 σ H Q ∨ t2 σ H Q) (orM x y) := ⟨h1.hK, fun z => peOr (h1.pe z) (h2.pe z), fun e σ w S H Q E R h => by
  unfold orM at h
  cases q : x e S with
  | no =>
    rw [q] at h
    exact .inr (h2.sn e σ w S H Q E R h)
  | ok d s =>
    rw [q] at h
    refine .inl (h1.sn e σ w S H Q E R ?_)
    rw [q]
    exact h
  | er u s =>
    rw [q] at h
    refine .inl (h1.sn e σ w S H Q E R ?_)
    rw [q]
    exact h⟩
theorem ct_or2 {e : Expr} {t1 t2 : TT} {x y : Env → M Bool} (h1 : CT X C e t1 x) (h2 : CT X C e t2 y) : CT X C e (fun σ H Q => t1 σ H Q ∨ t2 σ H Q) (orM x y) := ⟨h1.hK, fun z => ptOr (h1.pt z) (h2.pt z), fun e σ w S H Q E R h => by
  unfold orM at h
  cases q : x e S with
  | no =>
    rw [q] at h
    exact .inr (h2.sn e σ w S H Q E R h)
  | ok d s =>
    rw [q] at h
    refine .inl (h1.sn e σ w S H Q E R ?_)
    rw [q]
    exact h
  | er u s =>
    rw [q] at h
    refine .inl (h1.sn e σ w S H Q E R ?_)
    rw [q]
    exact h⟩
@[simp] theorem orM_no {α : Type} {x y : Env → M α} {e : Env} {S : Sto} (h : x e S = .no) : orM x y e S = y e S := by
  unfold orM
  rw [h]
end
end PM
end
section
set_option Elab.async false
set_option linter.all false
set_option maxRecDepth 100000
set_option maxHeartbeats 2000000
namespace PM
open PySem PySem.Spec PyProof.Rows L2 Evl
section
variable {X : Cx} {C : Ct} {ta tb tc te t1 t2 : TE} {a b c tg : Expr} {ma mb mc x y : Env → M D} {pos : Pos}
theorem ct_cmpK {op : CmpOp} {g : D → D → M D} (rK : Kw → R2) (ho : OpR X (compareOp op) (rK X.kw)) (hs : OpS C.K (rK C.K) g) (ha : CE X C a ta ma) (hb : CE X C b tb mb) (hm : behindInMarks op b = false) : CT X C (.Compare a [op] [b] pos) (tTest (tOp (rK C.K) ta tb)) (tOf (e2 g ma mb)) := ct_cmp (by rw [← ha.hK]; exact ho) hs ha hb hm
theorem ce_opK {op : Operator} {g : D → D → M D} (rK : Kw → R2) (ho : OpR X (binaryOp op) (rK X.kw)) (hs : OpS C.K (rK C.K) g) (ha : CE X C a ta ma) (hb : CE X C b tb mb) : CE X C (.BinOp a op b pos) (tOp (rK C.K) ta tb) (e2 g ma mb) := ce_op (by rw [← ha.hK]; exact ho) hs ha hb
abbrev rInK (K : Kw) : R2 := fun x y H Q => rInD K x y H Q ∨ rInDT K x y H Q
abbrev rNiK (K : Kw) : R2 := fun x y H Q => rIn K true x y H Q ∨ rNotInD K x y H Q
theorem ct_eq (hu : X.A.units + 64 < cLine) (ha : CE X C a ta ma) (hb : CE X C b tb mb) : CT X C (.Compare a [.Eq] [b] pos) (tTest (tOp (rEqD C.K) ta tb)) (tOf (e2 (dEq false) ma mb)) := ct_cmpK (fun K : Kw => rEqD K) (op_eqD hu) (ops_eq _) ha hb (nobehind _ (by decide) (by decide))
theorem ct_ne (hu : X.A.units + 64 < cLine) (ha : CE X C a ta ma) (hb : CE X C b tb mb) : CT X C (.Compare a [.NotEq] [b] pos) (tTest (tOp (rNeD C.K) ta tb)) (tOf (e2 (dEq true) ma mb)) := ct_cmpK (fun K : Kw => rNeD K) (op_neD hu) (ops_ne _) ha hb (nobehind _ (by decide) (by decide))
theorem ct_in (hu : X.A.units + 65 < cLine) (ha : CE X C a ta ma) (hb : CE X C b tb mb) (hm : behindInMarks .In b = false) : CT X C (.Compare a [.In] [b] pos) (tTest (tOp (rInK C.K) ta tb)) (tOf (e2 (dIn false) ma mb)) := ct_cmpK (fun K : Kw => rInK K) (opOr (op_inD hu) (op_inDT (by omega))) (ops_in _) ha hb hm
theorem ct_notIn (hu : X.A.units + 65 < cLine) (ha : CE X C a ta ma) (hb : CE X C b tb mb) (hm : behindInMarks .NotIn b = false) : CT X C (.Compare a [.NotIn] [b] pos) (tTest (tOp (rNiK C.K) ta tb)) (tOf (e2 dNotInF ma mb)) := ct_cmpK (fun K : Kw => rNiK K) (opOr op_notIn_seq (op_notInD hu)) (ops_notInF _) ha hb hm
theorem ct_lt (ha : CE X C a ta ma) (hb : CE X C b tb mb) : CT X C (.Compare a [.Lt] [b] pos) (tTest (tOp (rI0 fun i j => .bl (decide (i < j))) ta tb)) (tOf (e2 dLt ma mb)) := ct_cmp op_lt (ops_lt _) ha hb (nobehind _ (by decide) (by decide))
theorem ct_gt (ha : CE X C a ta ma) (hb : CE X C b tb mb) : CT X C (.Compare a [.Gt] [b] pos) (tTest (tOp (rI0 fun i j => .bl (decide (j < i))) ta tb)) (tOf (e2 dGt ma mb)) := ct_cmp op_gt (ops_gt _) ha hb (nobehind _ (by decide) (by decide))
theorem ct_ge (ha : CE X C a ta ma) (hb : CE X C b tb mb) : CT X C (.Compare a [.GtE] [b] pos) (tTest (tOp (rI0 fun i j => .bl (decide (j ≤ i))) ta tb)) (tOf (e2 dGe ma mb)) := ct_cmp op_ge (ops_ge _) ha hb (nobehind _ (by decide) (by decide))
theorem ct_notN (ha : CE X C a ta ma) (hb : CE X C b tb mb) : CT X C (.Compare a [.IsNot] [b] pos) (tTest (tOp (fun x y H Q => y = .non ∧ Q (.bl (!decide (x = .non))) H) ta tb)) (tOf (e2 (dIsN true) ma mb)) := ct_cmp op_notN (ops_notN _) ha hb (nobehind _ (by decide) (by decide))
section
variable {k : Nat} {f : Addr} {ps : List Str} {cc : Str} {g : List D → M D}
theorem ct_neO (F : WD.FnG X.prog X.w X.K X.mg X.base k f ps (spM X.kw g)) (hm : Meth X.K (He.ga X.K cc) "__eq__" f) (hn : PySem.W.findIn X.K (.ref (He.ga X.K cc)) "__ne__" = some (some (.builtin "object.__ne__"))) (ho : PySem.W.mroIn X.K (He.ga X.K cc) (.type "object") = some true) (hr : Room (k + 1) X.A) (ha : CE X C a ta ma) (hb : CE X C b tb mb) : CT X C (.Compare a [.NotEq] [b] pos) (tTest (tOp (rNeO C.K (He.ga C.K cc) (spM C.K g) E0) ta tb)) (tOf (e2 (dEqO true cc g) ma mb)) := ct_cmpK (fun K => rNeO K (He.ga K cc) (spM K g) E0) (WD.neO_of F hm hn ho hr) ops_neO ha hb (nobehind _ (by decide) (by decide))
end
theorem ce_callBK {e : Expr} {es : List Expr} {tr : TA} {mr : Env → M (List D)} {x : Str} {p : Pos} {id : String} {g : List D → M D} (rK : Kw → List V → Hp → VK → Prop) (hc : CallR X (.builtin id) (rK X.kw)) (hs : CallS C.K (rK C.K) g) (hg : Gl X x) (hm : X.mg x = none) (hv : bootBuiltins x = some (.builtin id)) (ha : CA X C (e :: es) tr mr) (hn : x ≠ "__name__" := by decide) (hdb : (x == ("__debug__" : Str)) = false := by decide)
    (he : starEach (e :: es) X.env = (false, eval e X.env) :: starEach es X.env := by rfl) (hpl : (backTo pos (starEach es X.env)).any (·.1) = false := by rfl) (hK : X.kw = C.K := by rfl) : CE X C (.Call (.Name x p) (e :: es) [] pos) (tCB (rK C.K) tr) (eA g mr) := ce_callB (by rw [← hK]; exact hc) hs hg hm hv ha hn hdb he hpl hK
theorem ce_callTyK {e : Expr} {es : List Expr} {tr : TA} {mr : Env → M (List D)} {x : Str} {p : Pos} {T : String} {g : List D → M D} (rK : Kw → List V → Hp → VK → Prop) (hc : CallR X (.type T) (rK X.kw)) (hs : CallS C.K (rK C.K) g) (hg : Gl X x) (hm : X.mg x = none) (hv : bootBuiltins x = some (.type T)) (ha : CA X C (e :: es) tr mr) (hn : x ≠ "__name__" := by decide) (hdb : (x == ("__debug__" : Str)) = false := by decide)
    (he : starEach (e :: es) X.env = (false, eval e X.env) :: starEach es X.env := by rfl) (hpl : (backTo pos (starEach es X.env)).any (·.1) = false := by rfl) (hK : X.kw = C.K := by rfl) : CE X C (.Call (.Name x p) (e :: es) [] pos) (tCB (rK C.K) tr) (eA g mr) := ce_callTy (by rw [← hK]; exact hc) hs hg hm hv ha hn hdb he hpl hK
def eA0 (g : List D → M D) (_ : Env) : M D := fun S => noE (g [] S)
def sNo : Stm := fun _ _ => .no
theorem cs_no {st : Stmt} : CS X C st tNever sNo := ⟨fun y => ps_never, fun En e σ w S H E R q => q.elim⟩
theorem fo_nil {K : Kw} {f : Str} : FldOk K f [] := fun c hc => by cases hc
theorem fo_cons {K : Kw} {f c : Str} {cs : List Str} (h1 : Cls K (He.ga K c)) (h2 : NoAttr K (He.ga K c) f) (h : FldOk K f cs) : FldOk K f (c :: cs) := fun d hd => by
  rcases List.mem_cons.mp hd with rfl | hd
  · exact ⟨h1, h2⟩
  · exact h d hd
def dRev (x : D) : M D := wL x fun ds => ret (.lst ds.reverse)
def dLRev (x : D) : M D := wL x fun ds => ret (.lst ds.reverse)
def dBand : D → D → M D
  | .int i, .int j => ret (.int (Builtin.bitAnd i j))
  | _, _ => stuck
theorem ops_band (K : Kw) : OpS K (rI0 fun i j => .int (Builtin.bitAnd i j)) dBand := fun w S H x y d1 d2 Q E R a b h => by
  cases a with
  | int i =>
    cases b with
    | int j => exact ⟨i, j, rfl, rfl, h w H _ (Wd.le.refl w) R (.int _)⟩
    | _ => exact h.elim
  | _ => exact h.elim
theorem ce_and2 (ha : CE X C a ta ma) (hb : CE X C b tb mb) : CE X C (.BinOp a .BitAnd b pos) (tOp (rI0 fun i j => .int (Builtin.bitAnd i j)) ta tb) (e2 dBand ma mb) := ce_op op_and (ops_band _) ha hb
def dAddO (c : Str) (g : List D → M D) (x y : D) : M D := fun S => if insOf S c "" x && insOf S c "" y then (noE (g [x, y] S)).then fun r S' => match r with
    | .obj c' fs => .ok (.obj c' fs) S'
    | .ptr n => .ok (.ptr n) S'
    | _ => .no else .no
theorem ops_addO {K : Kw} {c : Str} {g : List D → M D} : OpS K (rAddO (He.ga K c) (spM K g) E0) (dAddO c g) := fun w S H x y d1 d2 Q E R a b h => by
  unfold dAddO at h
  by_cases z : (insOf S c "" d1 && insOf S c "" d2) = true
  · rw [if_pos z] at h
    obtain ⟨z1, z2⟩ := Bool.and_eq_true_iff.mp z
    obtain ⟨p, dx, fvs, rfl, hp, _⟩ := insOf_ok R a z1
    obtain ⟨p', dx', fvs', rfl, hp', _⟩ := insOf_ok R b z2
    have h := sat_then.mp h
    refine ⟨p, p', dx, dx', fvs, fvs', rfl, rfl, hp, hp', sp_of R (.cons a (.cons b .nil)) (noE_sat (E' := fun _ _ => False) h) (fun d s q w' H' v l r a => ?_) fun _ _ q => q.elim⟩
    cases a with
    | obj s as => exact ⟨_, rfl, q w' H' _ l r (.obj s as)⟩
    | ptr s => exact ⟨_, rfl, q w' H' _ l r (.ptr s)⟩
    | _ => exact q.elim
  · rw [if_neg z] at h
    exact h.elim
theorem ce_addO {k : Nat} {f : Addr} {ps : List Str} {cc : Str} {g : List D → M D} (F : WD.FnG X.prog X.w X.K X.mg X.base k f ps (spM X.kw g)) (hm : Meth X.K (He.ga X.K cc) "__add__" f) (hsf : PySem.W.selfFirst X.K (He.ga X.K cc) = true) (hr : Room k X.A) (ha : CE X C a ta ma) (hb : CE X C b tb mb) : CE X C (.BinOp a .Add b pos) (tOp (rAddO (He.ga C.K cc) (spM C.K g) E0) ta tb) (e2 (dAddO cc g) ma mb) := ce_opK (fun K => rAddO (He.ga K cc) (spM K g) E0) (addO_of F hm hsf hr) ops_addO ha hb
def rBoolO (C : Addr) (sp : Sp) (E : XK) : List V → Hp → VK → Prop := fun xs H Q => ∃ a dx fs, xs = [.ref a] ∧ H a = some (.ins C dx fs) ∧ sp [.ref a] H (fun v H' => ∃ b : Bool, v = .bl b ∧ Q (.bl b) H') E
theorem boolO_of {C0' f : Addr} {ps : List Str} {sp : Sp} {n : Nat} (Fg : WD.FnG X.prog X.w X.K X.mg X.base n f ps sp) (hm : Meth X.K C0' "__bool__" f) (hr : Room (n + 2) X.A) : CallR X (.type "bool") (rBoolO C0' sp E0) := by
  obtain ⟨⟨fd, Fo, B⟩, kp⟩ := Fg
  intro pins s σ H xs us Q I r h
  obtain ⟨a, dx, fs, rfl, ha, hsp⟩ := h
  obtain rfl := Vals.ref1 r
  obtain ⟨mA, J, _⟩ := ins_get I.hok ha
  obtain ⟨od, J, _⟩ := J.look
  obtain ⟨m, hF⟩ := I.fr
  have truth : wpAny (model X.prog X.w) X.A.in1.in1 (truthy (.ref a)) (fun b s' => EP X pins σ Q (.bool b) s') X.xe s := by
    refine PySem.W.truthy_K hF I.ok.mod.kin J hm.at_ hm.fn ?_
    refine wpAny_mono (own_call (A := X.A.in1.in1) (Sub.in1 (Sub.in1 ⟨hr, rfl⟩)) Fo B passL I (.cons (show RelV (.ref a) (.ref a) from rfl) .nil) hsp) (fun v s' z => ?_) fun _ _ x => x
    obtain ⟨w, H', I', rw', b, rfl, q⟩ := z
    cases rw'
    exact ⟨.bl b, H', I', rfl, q⟩
  refine callType_newIn F.called_bool F.newNe_bool (F.typeCall_bool_1 _) (F.newCall_bool_1 _) (fun obj => F.args_object_init_2 obj _) F.entry_bool_new (S := fun A R s1 => A = X.A.in1 ∧ s1 = s ∧ R = wants (fun obj s₁ => s₁.TypeIs obj "bool" ∧ EP X pins σ Q obj s₁) X.xe) ?_ ⟨rfl, rfl, rfl⟩
  intro A R s1 hA
  obtain ⟨rfl, rfl, rfl⟩ := hA
  have f1 := F.conv_sub_bool
  repeat (any_goals (first | assumption | (with_reducible refine wpAny_mono truth ?_ fun _ _ x => x) | wp_step))
  intro b s' hq
  exact wpAny_pure ⟨rfl, hq⟩
/-- bool(x), x an instance -/
def dBoolO (c : Str) (g : List D → M D) (ds : List D) : M D := fun S => match ds with
  | [d] => if insOf S c "" d then (noE (g [d] S)).then fun r => match r with
    | .bl b => ret (.bl b)
    | _ => stuck else .no
  | _ => .no
theorem calls_boolO {K : Kw} {c : Str} {g : List D → M D} : CallS K (rBoolO (He.ga K c) (spM K g) E0) (dBoolO c g) := fun w S H xs ds Q E R rs h => by
  cases rs with
  | nil => exact h.elim
  | cons r1 rr =>
    cases rr with
    | cons _ _ => exact h.elim
    | nil =>
      rename_i v d
      have h : (if insOf S c "" d then (noE (g [d] S)).then _ else Out.no).sat _ _ := h
      by_cases z : insOf S c "" d = true
      · rw [if_pos z] at h
        obtain ⟨p, dx, fvs, rfl, hp, _⟩ := insOf_ok R r1 z
        have h := sat_then.mp h
        refine ⟨p, dx, fvs, rfl, hp, sp_of R (.cons r1 .nil) (noE_sat (E' := fun _ _ => False) h) (fun d s q w' H' v l r a => ?_) fun _ _ q => q.elim⟩
        cases a with
        | bl i => exact ⟨i, rfl, q w' H' _ l r (.bl _)⟩
        | _ => exact q.elim
      · rw [if_neg z] at h
        exact h.elim
theorem ce_boolO {k : Nat} {f : Addr} {ps : List Str} {cc : Str} {g : List D → M D} {e : Expr} {es : List Expr} {tr : TA} {mr : Env → M (List D)} {p : Pos} (F : WD.FnG X.prog X.w X.K X.mg X.base k f ps (spM X.kw g)) (hm : Meth X.K (He.ga X.K cc) "__bool__" f) (hr : Room (k + 2) X.A) (hg : Gl X "bool") (hz : X.mg "bool" = none) (ha : CA X C (e :: es) tr mr)
    (he : starEach (e :: es) X.env = (false, eval e X.env) :: starEach es X.env := by rfl) (hpl : (backTo pos (starEach es X.env)).any (·.1) = false := by rfl) (hK : X.kw = C.K := by rfl) : CE X C (.Call (.Name "bool" p) (e :: es) [] pos) (tCB (rBoolO (He.ga C.K cc) (spM C.K g) E0) tr) (eA (dBoolO cc g) mr) := ce_callTyK (fun K => rBoolO (He.ga K cc) (spM K g) E0) (boolO_of F hm hr) calls_boolO hg hz (by decide +kernel) ha (by decide) (by decide) he hpl hK
theorem ce_lenO {k : Nat} {f : Addr} {ps : List Str} {cc : Str} {g : List D → M D} {e : Expr} {es : List Expr} {tr : TA} {mr : Env → M (List D)} {p : Pos} (F : WD.FnG X.prog X.w X.K X.mg X.base k f ps (spM X.kw g)) (hm : Meth X.K (He.ga X.K cc) "__len__" f) (hr : Room (k + 1) X.A) (hg : Gl X "len") (hz : X.mg "len" = none) (ha : CA X C (e :: es) tr mr)
    (he : starEach (e :: es) X.env = (false, eval e X.env) :: starEach es X.env := by rfl) (hpl : (backTo pos (starEach es X.env)).any (·.1) = false := by rfl) (hK : X.kw = C.K := by rfl) : CE X C (.Call (.Name "len" p) (e :: es) [] pos) (tCB (rLenO (He.ga C.K cc) (spM C.K g) E0) tr) (eA (dLenO cc g) mr) := ce_callBK (fun K => rLenO (He.ga K cc) (spM K g) E0) (WD.lenO_of F hm hr) calls_lenO hg hz PySem.boot_len ha (by decide) (by decide) he hpl hK
def dTruth (x : D) : M Bool := fun S => match x with
  | .non => .ok false S
  | .int i => .ok (i != 0) S
  | .bl b => .ok b S
  | _ => wQ x (fun ds => ret (!ds.isEmpty)) S
def tTruth (a : Env → M D) (e : Env) : M Bool := bind (a e) dTruth
end
end PM
end
section
set_option Elab.async false
set_option linter.all false
set_option maxRecDepth 100000
namespace PM
open PySem L2 Evl
theorem u65 {k : Nat} {A : Around} (r : Room k A) : A.units + 65 < cLine := by
  have := r.un
  omega
def sameC (c c' : Str) : Bool := decide (c = c')
/-- facts about own classes, from tests -/
theorem kt_by {K : PySem.W.Frag} {own : List Str} (h1 : ∀ c ∈ own, WD.OwnTy K c) (h2 : ∀ c ∈ own, ∀ n ∈ bts, PySem.W.kitOne K (.ref (He.ga K c)) (.type n) = some false) (h3 : ∀ c ∈ own, ∀ s ∈ bks, PySem.W.kitOne K (.type s) (.ref (He.ga K c)) = some false)
    (h4 : ∀ c ∈ own, ∀ c' ∈ own, PySem.W.kitOne K (.ref (He.ga K c)) (.ref (He.ga K c')) = some (sameC c c')) : KT K own sameC := ⟨h1, h2, h3, h4⟩
def ktB (K : PySem.W.Frag) (own : List Str) : Bool := own.all fun c => (bts.all fun n => decide (PySem.W.kitOne K (.ref (He.ga K c)) (.type n) = some false)) && (bks.all fun s => decide (PySem.W.kitOne K (.type s) (.ref (He.ga K c)) = some false)) && own.all fun c' => decide (PySem.W.kitOne K (.ref (He.ga K c)) (.ref (He.ga K c')) = some (sameC c c'))
theorem kt_ofB {K : PySem.W.Frag} {own : List Str} (h1 : ∀ c ∈ own, WD.OwnTy K c) (h : ktB K own = true) : KT K own sameC := by
  have h := List.all_eq_true.mp h
  refine kt_by h1 (fun c hc n hn => ?_) (fun c hc s hs => ?_) fun c hc c' hc' => ?_
  · have := (Bool.and_eq_true_iff.mp (Bool.and_eq_true_iff.mp (h c hc)).1).1
    exact of_decide_eq_true (List.all_eq_true.mp this n hn)
  · have := (Bool.and_eq_true_iff.mp (Bool.and_eq_true_iff.mp (h c hc)).1).2
    exact of_decide_eq_true (List.all_eq_true.mp this s hs)
  · exact of_decide_eq_true (List.all_eq_true.mp (Bool.and_eq_true_iff.mp (h c hc)).2 c' hc')
def lawSp (K : PySem.W.Frag) : Sp := fun vs H Q _ => ∃ (a : Addr) (ns : List Int), vs = [.ref a] ∧ ns.length ≤ 63 ∧ Rd H a (.lst (ns.map V.int)) ∧ ∀ H', Q (.bl true) H'
section
open PySem.Spec PyProof.Rows
variable {P : Program} {w : World} {K : PySem.W.Frag} {mg : Str → Option Value} {base : Heap}
theorem law_fn {x qual : Str} {st : Stmt} {f : Addr} {N ps : List Str} {k : Nat} {m : Stm} {fd : FuncData} (F : FunD K x qual (defArgs st) (defBody st) (defScope st) [] [] f fd) (S : FnScope N ps (defScope st)) (hl : ps.length ≤ N.length) (h1 : ps.length = 1)
    (body : ∀ (cdv : Value) (A : Around) (outer : List PySem.Env) (s : Shared) (H : Hp) (E : XK), Room k (A.deeper (envOfC qual (defScope st) s.heap.objs.size f cdv)) → ∃ ts, CSs (cxOf (L2.CX P w) P w K mg base N qual (defScope st) f cdv A outer s H E) ⟨⟨K, w⟩, fun c d _ H => E c d H, (0, .none, none)⟩ (defBody st) ts m)
    (law : ∀ ns : List Int, ns.length ≤ 63 → ∃ S', runFn ps.length N.length m [.scr ns] [] = .ok (.bl true) S') : FnOk P w K mg base (L2.CX P w) (k + 1) f fd ps (lawSp K) :=
  F.ok S (fun vs H Q E h => by
    obtain ⟨a, ns, rfl, _⟩ := h
    exact h1.symm) fun cdv A outer s H vs Q E hr h => by
    obtain ⟨ts, hc⟩ := body cdv A outer s H E hr
    obtain ⟨a, ns, rfl, nl, hs, q⟩ := h
    obtain ⟨S', e⟩ := law ns nl
    refine fn_run hl hc ⟨takes_of rfl rfl rfl rfl, passes_of rfl⟩ ⟨⟨H, [], fun _ => none⟩, [.scr ns], [], ⟨Ex.refl _, rfl, List.nodup_nil, fun a ha => (List.not_mem_nil ha).elim, fun n a c h1 _ _ => (by simp at h1), fun a o h => by cases h⟩, .one (.scr hs), ?_⟩
    rw [e]
    intro w' H' v _ _ r
    cases r
    exact q H'
end
end PM
end
section
set_option Elab.async false
set_option linter.all false
set_option maxRecDepth 100000
set_option maxHeartbeats 4000000
namespace PM
open PySem PySem.Spec PyProof.Rows L2 Evl
end PM
end
section
set_option Elab.async false
set_option linter.all false
set_option maxRecDepth 100000
set_option maxHeartbeats 4000000
namespace L2
open PySem PySem.Spec PyProof.Rows
end L2
namespace PM
open PySem PySem.Spec PyProof.Rows L2 Evl
end PM
namespace L2
open PySem PySem.Spec PyProof.Rows
/-- a suite, whatever it holds -/
def SuiteP (X : Cx) (su : List Stmt) (ts : Addr → Value → Option Addr → TS) : Prop := ∀ (a : Addr) (oe : Obj) (cls : Value) (d : Option Addr) (pn : List (Addr × Obj)), Zc cls d oe → (∃ vs, oe.data = .fields vs) → PSs (X.suite a ((a, oe) :: pn)) su (ts a cls d)
inductive HdsM (X : Cx) : List ExceptHandler → List (Value × Option Nat × (Addr → Value → Option Addr → TS)) → Prop
  | nil : HdsM X [] []
  | only {x : Str} {c : Value} {ts : Addr → Value → Option Addr → TS} {b₀ : Stmt} {suite : List Stmt} {np pos' : Pos} {hds : List ExceptHandler} {l : List (Value × Option Nat × (Addr → Value → Option Addr → TS))} (hc : Names X x c) (hsu : SuiteP X (b₀ :: suite) ts) (r : HdsM X hds l) :
      HdsM X (.ExceptHandler (some (.Name x np)) none (b₀ :: suite) pos' :: hds) ((c, none, ts) :: l)
  | named {x n : Str} {i : Nat} {c : Value} {ts : Addr → Value → Option Addr → TS} {b₀ : Stmt} {suite : List Stmt} {np pos' : Pos} {hds : List ExceptHandler} {l : List (Value × Option Nat × (Addr → Value → Option Addr → TS))} (hN : X.N.Nodup) (hi : X.N[i]? = some n) (hln : X.env.kindOf n = some .local) (hc : Names X x c) (hsu : SuiteP X (b₀ :: suite) ts) (r : HdsM X hds l) :
      HdsM X (.ExceptHandler (some (.Name x np)) (some n) (b₀ :: suite) pos' :: hds) ((c, some i, ts) :: l)
end L2
namespace PM
open PySem PySem.Spec PyProof.Rows L2 Evl
section
variable {X : Cx} {C : Ct} {pos : Pos}
abbrev Sus : Type := Addr → Value → Option Addr → TS
structure SuiteC (X : Cx) (C : Ct) (su : List Stmt) (ts : Sus) (m : Stm) : Prop where
  pp : ∀ (a : Addr) (oe : Obj) (cl : Value) (d : Option Addr) (pn : List (Addr × Obj)), Zc cl d oe → (∃ vs, oe.data = .fields vs) → CSs (X.suite a ((a, oe) :: pn)) ⟨C.K, fun _ _ _ _ => False, (a, cl, d)⟩ su (ts a cl d) m
inductive HdsP (X : Cx) (C : Ct) : List ExceptHandler → List (Str × Option Nat × Sus × Stm) → Prop
  | nil : HdsP X C [] []
  | only {x cls : Str} {ts : Sus} {b₀ : Stmt} {suite : List Stmt} {np pos' : Pos} {m : Stm} {hds : List ExceptHandler} {l : List (Str × Option Nat × Sus × Stm)} (hc : Names X x (.ref (He.ga C.K cls))) (hsu : SuiteC X C (b₀ :: suite) ts m)
      (r : HdsP X C hds l) : HdsP X C (.ExceptHandler (some (.Name x np)) none (b₀ :: suite) pos' :: hds) ((cls, none, ts, m) :: l)
  | named {x n cls : Str} {i : Nat} {ts : Sus} {b₀ : Stmt} {suite : List Stmt} {np pos' : Pos} {m : Stm} {hds : List ExceptHandler} {l : List (Str × Option Nat × Sus × Stm)} (hN : X.N.Nodup) (hi : X.N[i]? = some n) (hln : X.env.kindOf n = some .local) (hc : Names X x (.ref (He.ga C.K cls))) (hsu : SuiteC X C (b₀ :: suite) ts m)
      (r : HdsP X C hds l) : HdsP X C (.ExceptHandler (some (.Name x np)) (some n) (b₀ :: suite) pos' :: hds) ((cls, some i, ts, m) :: l)
abbrev lMany (K : Kw) (l : List (Str × Option Nat × Sus × Stm)) : List (Value × Option Nat × Sus) := l.map fun z => (.ref (He.ga K z.1), z.2.1, z.2.2.1)
theorem SuiteC.p {su : List Stmt} {ts : Sus} {m : Stm} (h : SuiteC X C su ts m) : SuiteP X su ts := fun a oe cls d pn hz hd => (h.pp a oe cls d pn hz hd).ps ⟨takes0, PassesOwn.never⟩
theorem HdsP.ok {hds : List ExceptHandler} {l : List (Str × Option Nat × Sus × Stm)} (h : HdsP X C hds l) : HdsM X hds (lMany C.K l) := by
  induction h with
  | nil => exact .nil
  | only hc hsu r ih => exact .only hc hsu.p ih
  | named hN hi hln hc hsu r ih => exact .named hN hi hln hc hsu.p ih
end
end PM
end
section
set_option Elab.async false
set_option linter.all false
set_option maxRecDepth 100000
set_option maxHeartbeats 4000000
namespace PM
open PySem PySem.Spec PyProof.Rows L2 Evl
end PM
end
section
set_option Elab.async false
set_option linter.all false
set_option maxRecDepth 100000
set_option maxHeartbeats 4000000
namespace ZM
open PySem PySem.Spec PyProof.Rows L2
/-- an iterator of a tuple or of a list -/
def KI (k : Bool) (h : Heap) (it l : Addr) (i : Nat) : Prop := match k with
  | true => h.IsTupleIter it l i
  | false => h.IsListIter it l i
def KS (k : Bool) (h : Heap) (l : Addr) (xs : Array Value) : Prop := match k with
  | true => h.IsTuple l xs
  | false => h.IsList l xs
theorem KI.at {k : Bool} {h h' : Heap} {it l : Addr} {i : Nat} (a : KI k h it l i) (e : ∀ o, h.get? it = some o → h'.get? it = some o) : KI k h' it l i := by
  cases k
  · exact Heap.IsListIter.at a e
  · exact Heap.IsTupleIter.at a e
theorem KS.at {k : Bool} {h h' : Heap} {l : Addr} {xs : Array Value} (a : KS k h l xs) (e : ∀ o, h.get? l = some o → h'.get? l = some o) : KS k h' l xs := by
  cases k
  · exact Heap.IsList.at a e
  · exact Heap.IsTuple.at a e
theorem KI.ext {k : Bool} {h h' : Heap} {it l b : Addr} {i : Nat} (a : KI k h it l i) (e : Heap.ExtBut b h h') (n : it ≠ b) : KI k h' it l i := by
  cases k
  · exact Heap.IsListIter.extBut a e n
  · exact Heap.IsTupleIter.extBut a e n
theorem KS.ext {k : Bool} {h h' : Heap} {l b : Addr} {xs : Array Value} (a : KS k h l xs) (e : Heap.ExtBut b h h') (n : l ≠ b) : KS k h' l xs := by
  cases k
  · exact Heap.IsList.extBut a e n
  · exact Heap.IsTuple.extBut a e n
theorem KI.obj {k : Bool} {h : Heap} {it l : Addr} {i : Nat} (a : KI k h it l i) : ∃ o, h.get? it = some o ∧ ∀ v, o.data ≠ .cell v := by
  cases k
  · obtain ⟨o, e, _, d⟩ := a
    exact ⟨o, e, fun v q => by rw [d] at q; cases q⟩
  · obtain ⟨o, e, _, d⟩ := a
    exact ⟨o, e, fun v q => by rw [d] at q; cases q⟩
/-- values of a kind -/
def SqK (K : PySem.W.Frag) (k : Bool) (H : Hp) (a : Addr) (xs : List V) : Prop := match k with
  | true => SqT K H a xs
  | false => SqL K H a xs
theorem SqK.inj {X : Cx} {pins : List (Addr × Obj)} {σ : L2.St} {H : Hp} {s : Shared} {k : Bool} {a : Addr} {xs ys : List V} (I : Inv X pins σ H s) (h : SqK X.K k H a xs) (g : SqK X.K k H a ys) : xs = ys := by
  cases k
  · exact I.list_inj h g
  · exact I.tuple_inj h g
end ZM
namespace PM
open PySem PySem.Spec PyProof.Rows L2 Evl
/-- zip of any two -/
def iZipA (a : Env → M (List D)) (e : Env) : M Itm := bind (a e) fun ds => match ds with
  | [x, y] => fun S => oM (itmOf S x) (fun i => oM (itmOf S y) (fun j => ret ⟨zipD i.ds j.ds, i.src ++ j.src⟩)) S
  | _ => stuck
end PM
end
section
set_option Elab.async false
set_option linter.all false
set_option maxRecDepth 100000
set_option maxHeartbeats 4000000
namespace HT
open PySem PySem.Spec PyProof.Rows
section
variable {prog : Program} {w : World} {A : Around} {E : Value → Shared → Prop} {s : Shared}
theorem adjust_back (n : Nat) : Builtin.Slice.sliceAdjust none none (-1) (n : Int) = ((n : Int) - 1, -1) := by
  unfold Builtin.Slice.sliceAdjust
  rfl
theorem places_back (n : Nat) : Builtin.Slice.slicePlaces ((n : Int) - 1) (-1) (-1) = n := by
  unfold Builtin.Slice.slicePlaces
  have h1 : ¬ (-1 : Int) > 0 := by omega
  simp only [h1, if_false]
  split
  · rw [show (- -1 : Int) = 1 by decide, Int.ediv_one]
    omega
  · omega
theorem fm_congr {α β : Type} {f g : α → Option β} : ∀ {l : List α}, (∀ x ∈ l, f x = g x) → l.filterMap f = l.filterMap g
  | [], _ => rfl
  | a :: l, h => by
    rw [List.filterMap_cons, List.filterMap_cons, h a (List.mem_cons_self ..), fm_congr fun x hx => h x (List.mem_cons_of_mem _ hx)]
theorem pick_back (xs : Array Value) : ((List.range xs.size).filterMap fun (k : Nat) => xs[((xs.size : Int) - 1 + (k : Int) * (-1)).toNat]?).toArray = xs.toList.reverse.toArray := by
  have h := PySem.W.krv_all xs
  rw [← h, ← List.filterMap_reverse, ← PySem.W.krv_range, List.filterMap_map]
  refine congrArg List.toArray (fm_congr fun k hk => ?_)
  have := List.mem_range.mp hk
  show xs[((xs.size : Int) - 1 + (k : Int) * (-1)).toNat]? = xs[xs.size - 1 - k]?
  congr 1
  omega
theorem sliceApplied_back {sl : Addr} {vs : Value} {n : Nat} {Q : Int × Int × Nat → Shared → Prop} (hs : s.heap.IsSliceOf sl .none .none vs) (ps : IsPart vs (some (-1)))
    (h : Q ((n : Int) - 1, -1, n) s) : wpAny (model prog w) A (Builtin.Slice.sliceApplied (.ref sl) (pure (n : Int))) Q E s := by
  obtain ⟨os, hos, hcs, hds⟩ := id hs
  unfold Builtin.Slice.sliceApplied Builtin.Slice.sliceFields
  refine wpAny_bind (wpAny_bind (wpAny_field hos hds (x := .none) rfl (wpAny_bind (wpAny_field hos hds (x := .none) rfl (wpAny_bind (wpAny_field hos hds (x := vs) rfl (wpAny_pure ?_)))))))
  refine wpAny_bind (slicePart_ ps ?_)
  show wpAny _ _ (if ((-1 : Int) == 0) = true then _ else _) _ _ s
  rw [if_neg (by decide)]
  refine wpAny_bind (slicePart_none (wpAny_bind (slicePart_none (wpAny_bind (wpAny_pure ?_)))))
  show wpAny _ _ (match Builtin.Slice.sliceAdjust none none (-1) (n : Int) with | (lo, hi) => pure (lo, (-1 : Int), Builtin.Slice.slicePlaces lo hi (-1))) _ _ s
  rw [adjust_back n]
  show wpAny _ _ (pure ((n : Int) - 1, (-1 : Int), Builtin.Slice.slicePlaces ((n : Int) - 1) (-1) (-1))) _ _ s
  rw [places_back]
  exact wpAny_pure h
theorem getItem_tuple_back {t sl : Addr} {items : Array Value} {vs : Value} {Q : Value → Shared → Prop} (ht : IsTup s.heap t items) (hs : s.heap.IsSliceOf sl .none .none vs) (ps : IsPart vs (some (-1)))
    (h : Q (.ref s.heap.objs.size) { s with heap := s.heap.push { cls := .type "tuple", data := .seq items.toList.reverse.toArray } })
    (hsz : items.size ≤ sizeLine) : wpAny (model prog w) A (getItem (.ref t) (.ref sl)) Q E s := by
  have htake : sizeOk (.seq items.toList.reverse.toArray) := by
    show items.toList.reverse.toArray.size ≤ sizeLine
    rw [List.size_toArray, List.length_reverse, Array.length_toList]
    exact hsz
  obtain ⟨os, hos, hcs, hds⟩ := id hs
  have hTs : s.TypeIs (.ref sl) "slice" := ⟨os, hos, hcs⟩
  unfold getItem
  try with_reducible refine wpAny_holding ?_
  first | refine wpAny_bind (wpAny_pure ?_) | skip
  refine wpAny_bind (wpAny_sequenceKey ht.typeIs (by decide) ?_)
  refine wpAny_bind (wpAny_callSpecial?_slot (name := Str.ofString "__getitem__") ht.typeIs PyProof.Rows.slot_tuple_getitem
    (wpAny_call_entry PyProof.Rows.slot_tuple_getitem ht.typeIs entry_tuple_getitem ?_ (args_tuple_getitem _ _)))
  show wpAny _ _ (Builtin.Tuple.tupleItemsOf (.ref t) >>= _) _ _ s
  refine wpAny_bind (tupleItemsOf_ ht ?_)
  refine wpAny_bind (wpAny_typeOf hTs ?_)
  rw [if_pos (by decide)]
  refine wpAny_bind (sliceApplied_back hs ps ?_)
  have hno : ¬ (((items.size : Int) - 1 == 0 && (-1 : Int) == 1 && items.size == items.size) = true) := by
    intro q
    rw [Bool.and_eq_true, Bool.and_eq_true] at q
    have := eq_of_beq q.1.2
    omega
  show wpAny _ _ (if ((items.size : Int) - 1 == 0 && (-1 : Int) == 1 && items.size == items.size) = true then _ else _) _ _ s
  rw [if_neg hno, pick_back]
  first
    | exact wpAny_bind (m := Builtin.Tuple.tupleExact _) (wpAny_newObj_type (wpAny_pure ⟨_, rfl, wpAny_pure h⟩) htake)
    | exact wpAny_bind (m := Builtin.Tuple.tupleExact _) (wpAny_newObj_type (wpAny_bind (wpAny_pure (wpAny_pure ⟨_, rfl, wpAny_pure h⟩))) htake)
    | exact wpAny_bind (wpAny_bind (m := Builtin.Tuple.tupleExact _) (wpAny_newObj_type (wpAny_pure (wpAny_pure ⟨_, rfl, wpAny_pure h⟩)) htake))
    | exact wpAny_bind (wpAny_bind (m := Builtin.Tuple.tupleExact _) (wpAny_newObj_type (wpAny_pure ⟨_, rfl, wpAny_pure h⟩) htake))
end
end HT
namespace L2
open PySem PySem.Spec PyProof.Rows
section
variable {X : Cx}
def tRevT (K : PySem.W.Frag) (te : TE) : TE := fun σ H Q => te σ H fun x H1 => ∃ a xs, x = .ref a ∧ SqT K H1 a xs ∧ ∀ p, H1 p = none → Q (.ref p) (upd H1 p (.tup xs.reverse))
theorem pe_revT {e : Expr} {te : TE} {k : Nat} {p1 p2 p3 pos : Pos} (he : PE X e te) : PE X (.Subscript e (.Slice none none (some (.UnaryOp .USub (.Constant (.int 1) k p1) p2)) p3) pos) (tRevT X.K te) := by
  refine ⟨fun pins s σ H Q I h => ?_⟩
  refine Subscript_ (thn (he.run pins s σ H _ I h) fun v s1 ⟨x, H1, I1, r1, q1⟩ => ?_)
  obtain ⟨a, xs, ex, hx, q⟩ := q1
  subst ex
  cases r1
  have hst : PO X (some (.UnaryOp .USub (.Constant (.int 1) k p1) p2)) (tPart (tUn (rU fun i => .int (-i)) (tC (.int 1)))) := po_some (pe_un un_neg pe_int)
  refine wpAny_Slice (thn (po_none.run pins s1 σ H1 (fun o H2 => o = none ∧ H2 = H1) I1 ⟨rfl, rfl⟩) fun vl s2 ⟨l, H2, I2, pl, el, e2⟩ => ?_)
  subst el e2
  refine thn (po_none.run pins s2 σ H2 (fun o H3 => o = none ∧ H3 = H2) I2 ⟨rfl, rfl⟩) fun vu s3 ⟨u, H3, I3, pu, eu, e3⟩ => ?_
  subst eu e3
  refine thn (hst.run pins s3 σ H3 (fun o H4 => o = some (-1) ∧ H4 = H3) I3 ⟨1, rfl, -1, rfl, rfl, rfl⟩) fun vs s4 ⟨o, H4, I4, ps, eo, e4⟩ => ?_
  subst eo e4
  have I5 : Inv X pins σ H4 { s4 with heap := s4.heap.push { cls := .type "slice", data := .fields #[vl, vu, vs] } } := I4.kept (t' := s4.toks) fun b ob q => Heap.get?_push_of_some _ q
  cases pl
  cases pu
  obtain ⟨its, r, ht, hz⟩ := I5.tuple hx
  have hlen := r.length
  refine tail_any (ops := [.ref a, .ref s4.heap.objs.size]) ht.typeIs (PyProof.Rows.slot_tuple_getitem.lookup) ?_ (by with_unfolding_all rfl)
  refine HT.getItem_tuple_back ht (Heap.IsSliceOf.new _ .none .none vs) ps ?_ (by rw [List.size_toArray]; omega)
  refine ⟨.ref _, _, I5.laid (t' := s4.toks) (o := .tup xs.reverse) (fun b ob q => Heap.get?_push_of_some _ q) (Nat.le_refl _) ?_, rfl, q _ (I5.hok.fresh (Nat.le_refl _))⟩
  exact ⟨by rw [List.length_reverse]; exact hz, _, r.reverse, IsTup.new _ _⟩
end
end L2
end
section
set_option Elab.async false
set_option linter.all false
set_option maxRecDepth 100000
set_option maxHeartbeats 4000000
namespace L2
open PySem PySem.Spec PyProof.Rows
section
variable {X : Cx}
/-- d[key], a dict of the text, a key that is there -/
def rIxKd (K : PySem.W.Frag) (d : Addr) : R2 := fun x y H Q => ∃ (z : Str) (u0 : Value) (v0 : V), x = .ref d ∧ y = .str z ∧ PySem.W.nsIn K d z = some (some u0) ∧ RelV v0 u0 ∧ Q v0 H
theorem ix_kd {d : Addr} {es : Array DictEntry} {n : Nat} (D : KDict X.K X.w d es n) : IxR X (rIxKd X.K d) := by
  intro value slice pins s σ H x y v u Q I rx ry h hs
  obtain ⟨z, u0, v0, rfl, rfl, e, r, q⟩ := h
  have hT := kd_type D I (d := d)
  cases rx
  obtain ⟨t, rfl⟩ := ry
  exact subscriptTail_builtinR (x := u0) hT slot_dict_getitem.lookup (wpAny_getItem_of (PySem.strKind_is X.prog X.w z t) (PySem.W.mapOf_K (prog := X.prog) I.kIn D.at_ D.lit) (PySem.W.find_K D.at_ e) ⟨rfl, v0, H, I.tok _, r, q⟩) hs
end
end L2
namespace PM
open PySem PySem.Spec PyProof.Rows L2 Evl
section
variable {X : Cx} {C : Ct} {ta tb tc te : TE} {a b c tg : Expr} {ma mb mc : Env → M D} {pos : Pos}
/-- what the table has at the keys that are asked -/
def tabB (K : PySem.W.Frag) (d : Addr) (l : List (Str × Option Str)) : Bool := l.all fun q => match PySem.W.nsIn K d q.1, q.2 with
  | some (some (.str x _)), some y => decide (x = y)
  | some none, none => true
  | _, _ => false
def tabAt (l : List (Str × Option Str)) (z : Str) : Option (Option Str) := match l with
  | [] => none
  | q :: l => if q.1 = z then some q.2 else tabAt l z
theorem tab_ok {K : Kw} {d : Addr} {z : Str} {o : Option Str} : ∀ {l : List (Str × Option Str)}, tabB K d l = true → tabAt l z = some o → (o = none ∧ PySem.W.nsIn K d z = some none) ∨ ∃ y t, o = some y ∧ PySem.W.nsIn K d z = some (some (.str y t))
  | [], _, h => by cases h
  | q :: l, hb, h => by
    have hb := List.all_cons.symm.trans hb
    obtain ⟨h1, h2⟩ := Bool.and_eq_true_iff.mp hb
    unfold tabAt at h
    by_cases e : q.1 = z
    · rw [if_pos e] at h
      have h := Option.some.inj h
      subst e
      subst h
      split at h1
      · rename_i x t y e1 e2
        have e3 := of_decide_eq_true h1
        subst e3
        exact .inr ⟨_, _, e2, e1⟩
      · rename_i e1 e2
        exact .inl ⟨e2, e1⟩
      · cases h1
    · rw [if_neg e] at h
      exact tab_ok h2 h
def dTabIn (neg : Bool) (l : List (Str × Option Str)) : D → M D
  | .str z => match tabAt l z with
    | some o => ret (.bl (xor neg o.isSome))
    | none => stuck
  | _ => stuck
def dTabIx (l : List (Str × Option Str)) : D → M D
  | .str z => match tabAt l z with
    | some (some y) => ret (.str y)
    | _ => stuck
  | _ => stuck
def rTabIn (K : Kw) (d : Addr) : R2 := fun x y H Q => ∃ (z : Str) (r : Option Value), x = .str z ∧ y = .ref d ∧ PySem.W.nsIn K d z = some r ∧ Q (.bl r.isSome) H
theorem snd_tabIn {l : List (Str × Option Str)} {d : Addr} (hb : tabB C.K d l = true) (ha : SndE C ta ma) : SndE C (tOp (rTabIn C.K d) ta (tC (.ref d))) (e1 (dTabIn false l) ma) := fun e σ w S H Q E R h => by
  have h := sat_then.mp h
  refine ha e σ w S H _ E R (h.imp (fun d1 S1 h1 w1 H1 v1 l1 R1 r1 => ?_) (fun x s hx => hx))
  cases r1 with
  | str z =>
    have h1 : (match tabAt l z with
      | some o => ret (.bl (xor false o.isSome))
      | none => stuck : M D) S1 |>.sat _ _ := h1
    cases q : tabAt l z with
    | none =>
      rw [q] at h1
      exact h1.elim
    | some o =>
      rw [q] at h1
      rcases tab_ok hb q with ⟨rfl, e⟩ | ⟨y, t, rfl, e⟩
      · exact ⟨z, none, rfl, rfl, e, h1 w1 H1 _ l1 R1 (.bl _)⟩
      · exact ⟨z, _, rfl, rfl, e, h1 w1 H1 _ l1 R1 (.bl _)⟩
  | _ => exact h1.elim
theorem ct_tabIn {x : Str} {p : Pos} {d : Addr} {l : List (Str × Option Str)} (D : ∃ es n, KDict X.K X.w d es n) (hb : tabB X.kw d l = true) (hg : Gl X x) (hm : X.mg x = some (.ref d)) (ha : CE X C a ta ma) (hd : (x == ("__debug__" : Str)) = false := by decide) (hi : behindInMarks .In (.Name x p) = false := by rfl) :
    CT X C (.Compare a [.In] [.Name x p] pos) (tTest (tOp (rTabIn C.K d) ta (tC (.ref d)))) (tOf (e1 (dTabIn false l) ma)) := by
  obtain ⟨es, n, D⟩ := D
  exact ⟨ha.hK, fun y => by rw [← ha.hK]; exact pt_cmpR (op_in_kd D) (ha.pe y) (WD.pe_clsN hg hm hd) hi, snd_test (snd_tabIn (ha.hK ▸ hb) ha.sn)⟩
theorem ce_tabIx {x : Str} {p : Pos} {d : Addr} {l : List (Str × Option Str)} (Dk : ∃ es n, KDict X.K X.w d es n) (hb : tabB X.kw d l = true) (hg : Gl X x) (hm : X.mg x = some (.ref d)) (ha : CE X C a ta ma) (hd : (x == ("__debug__" : Str)) = false := by decide) (hs : PlainIx a := by exact fun _ _ => rfl) :
    CE X C (.Subscript (.Name x p) a pos) (tOp (rIxKd C.K d) (tC (.ref d)) ta) (e1 (dTabIx l) ma) := by
  obtain ⟨es, n, Dk⟩ := Dk
  refine ⟨ha.hK, fun y => by rw [← ha.hK]; exact pe_ix (ix_kd Dk) (WD.pe_clsN hg hm hd) (ha.pe y) hs, fun e σ w S H Q E R h => ?_⟩
  have h := sat_then.mp h
  refine ha.sn e σ w S H _ E R (h.imp (fun d1 S1 h1 w1 H1 v1 l1 R1 r1 => ?_) (fun x s hx => hx))
  cases r1 with
  | str z =>
    have h1 : (match tabAt l z with
      | some (some y) => ret (.str y)
      | _ => stuck : M D) S1 |>.sat _ _ := h1
    cases q : tabAt l z with
    | none =>
      rw [q] at h1
      exact h1.elim
    | some o =>
      rw [q] at h1
      rcases tab_ok (ha.hK ▸ hb) q with ⟨rfl, e⟩ | ⟨y, t, rfl, e⟩
      · exact h1.elim
      · exact ⟨z, _, .str y, rfl, rfl, e, ⟨t, rfl⟩, h1 w1 H1 _ l1 R1 (.str _)⟩
  | _ => exact h1.elim
def dRevT : D → M D
  | .tup ds => ret (.tup ds.reverse)
  | _ => stuck
theorem ce_revT {k : Nat} {p1 p2 p3 : Pos} (ha : CE X C a ta ma) : CE X C (.Subscript a (.Slice none none (some (.UnaryOp .USub (.Constant (.int 1) k p1) p2)) p3) pos) (tRevT C.K ta) (e1 dRevT ma) := ⟨ha.hK, fun y => by rw [← ha.hK]; exact pe_revT (ha.pe y), fun e σ w S H Q E R h => by
  have h := sat_then.mp h
  refine ha.sn e σ w S H _ E R (h.imp (fun d S1 h1 w1 H1 v l1 R1 r1 => ?_) (fun x s hx => hx))
  cases r1 with
  | @tup p xs _ s as =>
    refine ⟨p, xs, rfl, ex_t R1.ex s, fun q hq => ?_⟩
    obtain ⟨le, R2⟩ := R1.plus (o := .tup xs.reverse) hq
    exact h1 _ _ _ (l1.trans le) R2 (.tup (st_of upd_same) (as.rev.up le))
  | _ => exact h1.elim⟩
instance (i j c : Int) (n : Nat) : Decidable (RgC i j c n) := by
  unfold RgC
  infer_instance
def stepD (i c : Int) (n : Nat) : List D := (List.range n).map fun (k : Nat) => D.int (i + k * c)
theorem walks_step {K : Kw} {w : Wd} {i c : Int} {n : Nat} : WalksR K (Itc i c n) w ⟨stepD i c n, []⟩ := ⟨fun w' S H l R ok k d hd => by
  have hd : (stepD i c n)[k]? = some d := hd
  unfold stepD at hd
  rw [List.getElem?_map] at hd
  cases q : (List.range n)[k]? with
  | none =>
    rw [q] at hd
    cases hd
  | some m =>
    rw [q] at hd
    have hk := (List.getElem?_eq_some_iff.mp q).1
    rw [List.length_range] at hk
    rw [List.getElem?_range hk] at q
    cases q
    cases hd
    refine ⟨hk, fun x H' hy => ?_⟩
    obtain ⟨rfl, rfl⟩ := (show H' = H ∧ x = .int (i + (k : Nat) * c) from hy)
    exact ⟨w', Wd.le.refl _, R, .int _⟩, fun w' S H l R ok => by
  show n ≤ (stepD i c n).length
  simp [stepD]⟩
def stepN (i j c : Int) : Nat := (Builtin.Range.rangeSize i j c).toNat
def iR3 (a : Env → M (List D)) (e : Env) : M Itm := bind (a e) fun ds => match ds with
  | [.int i, .int j, .int c] => gd (RgC i j c (stepN i j c)) (ret ⟨stepD i c (stepN i j c), []⟩)
  | _ => stuck
theorem ci_range3 {p : Pos} {tr : TA} {mr : Env → M (List D)} (hg : Gl X "range") (hm : X.mg "range" = none) (ha : CA X C [a, b, c] tr mr) (hs : starEach [a, b, c] X.env = (false, eval a X.env) :: starEach [b, c] X.env := by rfl) (hpl : (backTo pos (starEach [b, c] X.env)).any (·.1) = false := by rfl) (hK : X.kw = C.K := by rfl) :
    CI X C tg (.Call (.Name "range" p) [a, b, c] [] pos) (iRng3 tr) (iR3 mr) := ⟨hK, fun y => pi_range3 hg hm (ha.pa y) hs hpl, fun e σ w S H R E Rl h => by
  have h := sat_then.mp h
  refine ha.sn e σ w S H _ E Rl (h.imp (fun ds S1 h1 w1 H1 vs l1 R1 rs => ?_) (fun x s hx => hx))
  split at h1
  · obtain ⟨cc, h1⟩ := gd_sat h1
    cases rs with
    | cons a1 rs =>
      cases rs with
      | cons a2 rs =>
        cases rs with
        | cons a3 rs =>
          cases rs
          cases a1
          cases a2
          cases a3
          exact ⟨_, _, _, _, rfl, cc, h1 w1 H1 _ l1 R1 walks_step⟩
  · exact h1.elim⟩
/-- reversed(range(n)) -/
def iRv1 (a : Env → M D) (e : Env) : M Itm := bind (a e) fun d => match d with
  | .int n => gd (-1000000 ≤ n ∧ n ≤ 1000000) (ret ⟨stepD (n.toNat - 1) (-1) n.toNat, []⟩)
  | _ => stuck
theorem ci_rv1 {p p2 pos2 : Pos} (hg : Gl X "reversed") (hm : X.mg "reversed" = none) (hg2 : Gl X "range") (hm2 : X.mg "range" = none) (ha : CE X C a ta ma) (na : starEach [a] X.env = (false, eval a X.env) :: starEach [] X.env := by rfl)
    (hs : starEach [.Call (.Name "range" p2) [a] [] pos2] X.env = (false, eval (.Call (.Name "range" p2) [a] [] pos2) X.env) :: starEach [] X.env := by rfl) :
    CI X C tg (.Call (.Name "reversed" p) [.Call (.Name "range" p2) [a] [] pos2] [] pos) (iRevR (tRg1 ta)) (iRv1 ma) := ⟨ha.hK, fun y => pi_revR hg hm (prg_1 hg2 hm2 (ha.pe y) na) hs, fun e σ w S H R E Rl h => by
  have h := sat_then.mp h
  refine ha.sn e σ w S H _ E Rl (h.imp (fun d S1 h1 w1 H1 v l1 R1 r1 => ?_) (fun x s hx => hx))
  cases r1 with
  | int n =>
    obtain ⟨cc, h1⟩ := gd_sat h1
    refine ⟨n, rfl, by omega, by omega, by omega, by omega, ?_⟩
    have := h1 w1 H1 _ l1 R1 walks_step
    rw [Int.sub_zero, Int.zero_add]
    exact this
  | _ => exact h1.elim⟩
end
end PM
namespace SupX
open PySem PySem.W PySem.Calls PyProof.Rows PySem.HandSPX L2
abbrev AlX : Type := AlS × List (Option (List (Option (Str × Int))))
def obsX (fa : List He.Fa) (fn : List He.DefD) (xs : List XcD) (file : Str) (ex : Frag → Bool) (ts : List He.Tab) (K : Frag) : AlX := (obsS fa fn xs file ex K, ts.map fun t => He.dicW K (t.1 K))
def valX (fn : List He.DefD) (xs : List XcD) (ts : List He.Tab) (w : World) : AlX := (valS fn xs, ts.map fun t => some (He.keysIn w.params t.2))
def SaysX (fa : List He.Fa) (fn : List He.DefD) (xs : List XcD) (file : Str) (ex : Frag → Bool) (ts : List He.Tab) (w : World) (K : Frag) : Prop := obsX fa fn xs file ex ts K = valX fn xs ts w
section
variable {fa : List He.Fa} {fn : List He.DefD} {xs : List XcD} {file : Str} {ex : Frag → Bool} {ts : List He.Tab} {w : World} {K : Frag}
theorem SaysX.s (c : SaysX fa fn xs file ex ts w K) : SaysS fa fn xs file ex K := congrArg (fun z : AlX => z.1) c
theorem SaysX.tab (c : SaysX fa fn xs file ex ts w K) (i : Nat) {t : He.Tab} (h : ts[i]? = some t := by rfl) : ∃ es n, KDict K w (t.1 K) es n := by
  have e : ts.map (fun t => He.dicW K (t.1 K)) = ts.map fun t => some (He.keysIn w.params t.2) := congrArg (fun z : AlX => z.2) c
  have e2 : (ts.map fun t => He.dicW K (t.1 K))[i]? = (ts.map fun t => some (He.keysIn w.params t.2))[i]? := by rw [e]
  rw [List.getElem?_map, List.getElem?_map, h] at e2
  exact He.dicW_ok (Option.some.inj e2)
end
/-- a world whose answer to one question is a given one -/
def wF (w : World) (b : Bool) : World := { w with params := { w.params with followText := fun x => cond (x == "special-get-raises") b (w.params.followText x) } }
theorem wF_eq (w : World) : wF w (w.params.followText "special-get-raises") = w := by
  obtain ⟨dr, P⟩ := w
  obtain ⟨a1, a2, a3, a4, a5, f, b1, b2, b3, b4, b5, b6, b7, b8, b9, c1, c2, c3, c4, c5, c6, c7, c8, c9, d1⟩ := P
  have e : (fun x => cond (x == "special-get-raises") (f "special-get-raises") (f x)) = f := by
    funext x
    cases q : x == "special-get-raises" with
    | false => rfl
    | true =>
      have : x = "special-get-raises" := eq_of_beq q
      rw [this]
      rfl
  show (⟨dr, _⟩ : World) = _
  dsimp only [wF]
  rw [e]
/-- the head's run, for a text with a table at its top -/
theorem run_split {P : World → Prop} (h : ∀ w b, P (wF w b)) (w : World) : P w := by
  have := h w (w.params.followText "special-get-raises")
  rwa [wF_eq] at this
end SupX
end
section
set_option Elab.async false
set_option linter.all false
set_option maxRecDepth 100000
namespace SupX
open PySem PySem.W PySem.Calls PyProof.Rows PySem.HandSPX L2
def refsOf (g : Addr → Option Obj) (a : Addr) : List Addr := match g a with
  | some o => He.refsD o
  | none => []
def asF (g : Addr → Option Obj) : Nat → List Addr → List Addr
  | 0, l => l
  | n + 1, l => l ++ asF g n (l.flatMap (refsOf g))
def frF (g : Addr → Option Obj) (n : Nat) : Frag := He.frG g (asF g n [mainGlobals] ++ [cStatics])
def obsFG (n : Nat) (fa : List He.Fa) (fn : List He.DefD) (xs : List XcD) (file : Str) (ex : Frag → Bool) (ts : List He.Tab) (g : Addr → Option Obj) : AlX := obsX fa fn xs file ex ts (frF g n)
def hookF (n : Nat) (fa : List He.Fa) (fn : List He.DefD) (xs : List XcD) (file : Str) (ex : Frag → Bool) (ts : List He.Tab) : Hook where
  α := AlX
  obs := fun s => obsFG n fa fn xs file ex ts s.heap.get?
  val := fun w => valX fn xs ts w
  says := fun w h => ∃ K : Frag, K.In h ∧ SaysX fa fn xs file ex ts w K
  of := fun _ _ e => ⟨_, He.frG_in, e⟩
  keeps := fun _ _ _ ⟨K, hK, c⟩ k => ⟨K, Frag.In.keeps hK k, c⟩
theorem obsFG_eq {n : Nat} {fa : List He.Fa} {fn : List He.DefD} {xs : List XcD} {file : Str} {ex : Frag → Bool} {ts : List He.Tab} {g : Addr → Option Obj} {s : Shared} (h : ∀ a, g a = s.heap.get? a) : obsFG n fa fn xs file ex ts g = (hookF n fa fn xs file ex ts).obs s := by
  have e : g = s.heap.get? := funext h
  rw [e] <;> rfl
open HandSHeadRun (wholeF stepQ denQ tabQ fenceQ looksF seenQ getT)
theorem omap_two {α β γ : Type} {o : Option α} {f : α → β} {g : α → γ} {a : β} {b : γ} (h : o.map f = some a) (k : o.map g = some b) : ∃ x, o = some x ∧ f x = a ∧ g x = b := by
  cases o with
  | none => cases h
  | some x => exact ⟨x, rfl, Option.some.inj h, Option.some.inj k⟩
section
variable {P : Program} {M n : Nat} {fa : List He.Fa} {fn fn' : List He.DefD} {xs : List XcD} {file : Str} {ex : Frag → Bool} {ts : List He.Tab} {w : World}
/-- what is asked of every head -/
def LookEq (r : OpenRow) (q : Program) (M : Nat) (loose : List Str) (w : World) : Prop :=
  (wholeF (fun p => stepQ (denQ tabQ) p w) fenceQ M r.prog).map (fun x => (looksF r.prog x.1.heap x.2.abs, seenQ q loose (importedModules r.prog.main.body) (fun s => xlAt q [] s && recOk r.toRowW.records s) x.2.abs)) = some (true, openGood q loose)
abbrev AlP : Type := Bool × List FnC × List (Option (List (Option (Str × Int))))
/-- the facts, at a world -/
def FactEq (P : Program) (M n : Nat) (fa : List He.Fa) (xs : List XcD) (file : Str) (ex : Frag → Bool) (ts : List He.Tab) (w : World) : Prop :=
  (wholeF (fun p => stepQ (denQ tabQ) p w) fenceQ M P).map (fun x => (((fa.all fun f => f.ok (frF (getT x.2) n)) && (ex (frF (getT x.2) n) && xs.all (fun d => d.ok (frF (getT x.2) n) file)), xs.map (fun d => fnC (frF (getT x.2) n) (d.i (frF (getT x.2) n))), ts.map fun t => He.dicW (frF (getT x.2) n) (t.1 (frF (getT x.2) n))) : AlP)) = some (true, xs.map XcD.val, ts.map fun t => some (He.keysIn w.params t.2))
/-- the defs -/
def DefEq (P : Program) (M n : Nat) (fn : List He.DefD) (w : World) : Prop :=
  (wholeF (fun p => stepQ (denQ tabQ) p w) fenceQ M P).map (fun x => ((fn.all fun d => d.ok (frF (getT x.2) n), fn.map fun d => He.fnW (frF (getT x.2) n) d.at_) : He.AlD)) = some (true, fn.map He.DefD.val)
theorem DefEq.app (h1 : DefEq P M n fn w) (h2 : DefEq P M n fn' w) : DefEq P M n (fn ++ fn') w := by
  unfold DefEq at h1 h2 ⊢
  obtain ⟨x, e, q1, q2⟩ := omap_two h1 h2
  rw [e]
  obtain ⟨a1, a2⟩ := Prod.mk.inj q1
  obtain ⟨b1, b2⟩ := Prod.mk.inj q2
  refine congrArg some (Prod.ext ?_ ?_)
  · show ((fn ++ fn').all fun d => d.ok (frF (getT x.2) n)) = true
    rw [List.all_append, a1, b1]
    rfl
  · show ((fn ++ fn').map fun d => He.fnW (frF (getT x.2) n) d.at_) = (fn ++ fn').map He.DefD.val
    rw [List.map_append, List.map_append, a2, b2]
theorem run_parts {r : OpenRow} {q : Program} {loose : List Str} (h0 : LookEq r q M loose w) (h1 : FactEq r.prog M n fa xs file ex ts w) (h2 : DefEq r.prog M n fn w) : HandSHeadRun.RunEqI r q (hookF n fa fn xs file ex ts) (fun s => obsFG n fa fn xs file ex ts (getT s)) M loose w := by
  unfold LookEq at h0
  unfold FactEq at h1
  unfold DefEq at h2
  unfold HandSHeadRun.RunEqI
  obtain ⟨x, e, q1, q2⟩ := omap_two h0 h1
  obtain ⟨x', e', q3, _⟩ := omap_two h2 h0
  rw [e] at e'
  cases e'
  rw [e]
  obtain ⟨l1, l2⟩ := Prod.mk.inj q1
  obtain ⟨a1, a23⟩ := Prod.mk.inj q2
  obtain ⟨a2, a3⟩ := Prod.mk.inj a23
  obtain ⟨b1, b2⟩ := Prod.mk.inj q3
  rw [Bool.and_eq_true, Bool.and_eq_true] at a1
  refine congrArg some (Prod.ext l1 (Prod.ext l2 ?_))
  show (((((fa.all fun f => f.ok (frF (getT x.2) n)) && fn.all fun d => d.ok (frF (getT x.2) n)), fn.map fun d => He.fnW (frF (getT x.2) n) d.at_), (ex (frF (getT x.2) n) && xs.all (fun d => d.ok (frF (getT x.2) n) file)), xs.map fun d => fnC (frF (getT x.2) n) (d.i (frF (getT x.2) n))), ts.map fun t => He.dicW (frF (getT x.2) n) (t.1 (frF (getT x.2) n))) = (((true, fn.map He.DefD.val), true, xs.map XcD.val), ts.map fun t => some (He.keysIn w.params t.2))
  rw [a1.1, a1.2.1, a1.2.2, b1, a2, a3]
  exact congrArg (fun z => (((true, z), true, xs.map XcD.val), ts.map fun t => some (He.keysIn w.params t.2))) b2
end
end SupX
end
section
set_option Elab.async false
set_option linter.all false
set_option maxRecDepth 100000
namespace Lk14
open PySem PySem.Spec PyProof.Rows L2 Evl
def topS (i : Nat) : Stmt := PySem.Challenge.pw_weirlines_k14_whole_program_relations.main.body.getD i (.Pass ⟨0, 0, 0, 0⟩)
abbrev c_BadProgram : Stmt := topS 5
abbrev s_BadProgram___init__ : Stmt := inClass c_BadProgram 0
abbrev s_is_integer : Stmt := topS 9
abbrev s_is_fraction : Stmt := topS 10
abbrev s_reduced : Stmt := topS 11
abbrev s_exact : Stmt := topS 12
abbrev s_common_bottom : Stmt := topS 13
abbrev c_Program : Stmt := topS 18
abbrev s_Program___init__ : Stmt := inClass c_Program 0
abbrev s_Program___len__ : Stmt := inClass c_Program 1
abbrev s_Program___eq__ : Stmt := inClass c_Program 2
abbrev s_Program___add__ : Stmt := inClass c_Program 3
abbrev s_Program_order : Stmt := inClass c_Program 4
abbrev s_Program_done : Stmt := inClass c_Program 5
abbrev s_is_round : Stmt := topS 19
abbrev s_check_rounds : Stmt := topS 20
abbrev s_check_program : Stmt := topS 21
abbrev s_check_many : Stmt := topS 22
abbrev s_check_told : Stmt := topS 23
abbrev s_openings : Stmt := topS 24
abbrev s_halvings : Stmt := topS 25
abbrev s_evened : Stmt := topS 26
abbrev s_first_unlike : Stmt := topS 27
abbrev s_first_apart : Stmt := topS 28
abbrev s_figures : Stmt := topS 29
abbrev c_SameAlways : Stmt := topS 31
abbrev s_SameAlways___init__ : Stmt := inClass c_SameAlways 0
abbrev s_SameAlways___eq__ : Stmt := inClass c_SameAlways 1
abbrev s_SameAlways___bool__ : Stmt := inClass c_SameAlways 2
abbrev c_FirstUnlike : Stmt := topS 32
abbrev s_FirstUnlike___init__ : Stmt := inClass c_FirstUnlike 0
abbrev s_FirstUnlike___eq__ : Stmt := inClass c_FirstUnlike 1
abbrev s_FirstUnlike___bool__ : Stmt := inClass c_FirstUnlike 2
abbrev c_Later : Stmt := topS 33
abbrev s_Later___init__ : Stmt := inClass c_Later 0
abbrev s_Later___eq__ : Stmt := inClass c_Later 1
abbrev s_Later___bool__ : Stmt := inClass c_Later 2
abbrev s_check_pair : Stmt := topS 34
abbrev s_check_unmixed : Stmt := topS 35
abbrev s_are_mixed : Stmt := topS 36
abbrev s_common_step : Stmt := topS 37
abbrev s_enough : Stmt := topS 38
abbrev s_judge_programs : Stmt := topS 39
abbrev s_tidy_program : Stmt := topS 40
abbrev s_judge_later : Stmt := topS 41
abbrev c_FewRounds : Stmt := topS 45
abbrev s_FewRounds___init__ : Stmt := inClass c_FewRounds 0
abbrev s_FewRounds___eq__ : Stmt := inClass c_FewRounds 1
abbrev s_FewRounds___bool__ : Stmt := inClass c_FewRounds 2
abbrev s_check_kinds : Stmt := topS 46
abbrev s_tuples_of : Stmt := topS 47
abbrev s_few_rounds : Stmt := topS 48
abbrev s_turned_back : Stmt := topS 51
abbrev s_turned_round : Stmt := topS 52
abbrev s__law_draw : Stmt := topS 54
abbrev s__law_rounds : Stmt := topS 55
abbrev s_law : Stmt := topS 56
def d_is_integer : He.DefD := ⟨("is_integer", none), "is_integer", "is_integer", defArgs s_is_integer, defBody s_is_integer, defScope s_is_integer, [], []⟩
def d_is_fraction : He.DefD := ⟨("is_fraction", none), "is_fraction", "is_fraction", defArgs s_is_fraction, defBody s_is_fraction, defScope s_is_fraction, [], []⟩
def d_reduced : He.DefD := ⟨("reduced", none), "reduced", "reduced", defArgs s_reduced, defBody s_reduced, defScope s_reduced, [], []⟩
def d_exact : He.DefD := ⟨("exact", none), "exact", "exact", defArgs s_exact, defBody s_exact, defScope s_exact, [], []⟩
def d_common_bottom : He.DefD := ⟨("common_bottom", none), "common_bottom", "common_bottom", defArgs s_common_bottom, defBody s_common_bottom, defScope s_common_bottom, [], []⟩
def d_Program___init__ : He.DefD := ⟨("Program", some "__init__"), "__init__", "Program.__init__", defArgs s_Program___init__, defBody s_Program___init__, defScope s_Program___init__, [], []⟩
def d_Program___len__ : He.DefD := ⟨("Program", some "__len__"), "__len__", "Program.__len__", defArgs s_Program___len__, defBody s_Program___len__, defScope s_Program___len__, [], []⟩
def d_Program___eq__ : He.DefD := ⟨("Program", some "__eq__"), "__eq__", "Program.__eq__", defArgs s_Program___eq__, defBody s_Program___eq__, defScope s_Program___eq__, [], []⟩
def d_Program___add__ : He.DefD := ⟨("Program", some "__add__"), "__add__", "Program.__add__", defArgs s_Program___add__, defBody s_Program___add__, defScope s_Program___add__, [], []⟩
def d_Program_order : He.DefD := ⟨("Program", some "order"), "order", "Program.order", defArgs s_Program_order, defBody s_Program_order, defScope s_Program_order, [], []⟩
def d_Program_done : He.DefD := ⟨("Program", some "done"), "done", "Program.done", defArgs s_Program_done, defBody s_Program_done, defScope s_Program_done, [], []⟩
def d_is_round : He.DefD := ⟨("is_round", none), "is_round", "is_round", defArgs s_is_round, defBody s_is_round, defScope s_is_round, [], []⟩
def d_check_rounds : He.DefD := ⟨("check_rounds", none), "check_rounds", "check_rounds", defArgs s_check_rounds, defBody s_check_rounds, defScope s_check_rounds, [], []⟩
def d_check_program : He.DefD := ⟨("check_program", none), "check_program", "check_program", defArgs s_check_program, defBody s_check_program, defScope s_check_program, [], []⟩
def d_check_many : He.DefD := ⟨("check_many", none), "check_many", "check_many", defArgs s_check_many, defBody s_check_many, defScope s_check_many, [], []⟩
def d_check_told : He.DefD := ⟨("check_told", none), "check_told", "check_told", defArgs s_check_told, defBody s_check_told, defScope s_check_told, [], []⟩
def d_openings : He.DefD := ⟨("openings", none), "openings", "openings", defArgs s_openings, defBody s_openings, defScope s_openings, [], []⟩
def d_halvings : He.DefD := ⟨("halvings", none), "halvings", "halvings", defArgs s_halvings, defBody s_halvings, defScope s_halvings, [], []⟩
def d_evened : He.DefD := ⟨("evened", none), "evened", "evened", defArgs s_evened, defBody s_evened, defScope s_evened, [], []⟩
def d_first_unlike : He.DefD := ⟨("first_unlike", none), "first_unlike", "first_unlike", defArgs s_first_unlike, defBody s_first_unlike, defScope s_first_unlike, [], []⟩
def d_first_apart : He.DefD := ⟨("first_apart", none), "first_apart", "first_apart", defArgs s_first_apart, defBody s_first_apart, defScope s_first_apart, [], []⟩
def d_figures : He.DefD := ⟨("figures", none), "figures", "figures", defArgs s_figures, defBody s_figures, defScope s_figures, [], []⟩
def d_SameAlways___init__ : He.DefD := ⟨("SameAlways", some "__init__"), "__init__", "SameAlways.__init__", defArgs s_SameAlways___init__, defBody s_SameAlways___init__, defScope s_SameAlways___init__, [], []⟩
def d_SameAlways___eq__ : He.DefD := ⟨("SameAlways", some "__eq__"), "__eq__", "SameAlways.__eq__", defArgs s_SameAlways___eq__, defBody s_SameAlways___eq__, defScope s_SameAlways___eq__, [], []⟩
def d_SameAlways___bool__ : He.DefD := ⟨("SameAlways", some "__bool__"), "__bool__", "SameAlways.__bool__", defArgs s_SameAlways___bool__, defBody s_SameAlways___bool__, defScope s_SameAlways___bool__, [], []⟩
def d_FirstUnlike___init__ : He.DefD := ⟨("FirstUnlike", some "__init__"), "__init__", "FirstUnlike.__init__", defArgs s_FirstUnlike___init__, defBody s_FirstUnlike___init__, defScope s_FirstUnlike___init__, [], []⟩
def d_FirstUnlike___eq__ : He.DefD := ⟨("FirstUnlike", some "__eq__"), "__eq__", "FirstUnlike.__eq__", defArgs s_FirstUnlike___eq__, defBody s_FirstUnlike___eq__, defScope s_FirstUnlike___eq__, [], []⟩
def d_FirstUnlike___bool__ : He.DefD := ⟨("FirstUnlike", some "__bool__"), "__bool__", "FirstUnlike.__bool__", defArgs s_FirstUnlike___bool__, defBody s_FirstUnlike___bool__, defScope s_FirstUnlike___bool__, [], []⟩
def d_Later___init__ : He.DefD := ⟨("Later", some "__init__"), "__init__", "Later.__init__", defArgs s_Later___init__, defBody s_Later___init__, defScope s_Later___init__, [], []⟩
def d_Later___eq__ : He.DefD := ⟨("Later", some "__eq__"), "__eq__", "Later.__eq__", defArgs s_Later___eq__, defBody s_Later___eq__, defScope s_Later___eq__, [], []⟩
def d_Later___bool__ : He.DefD := ⟨("Later", some "__bool__"), "__bool__", "Later.__bool__", defArgs s_Later___bool__, defBody s_Later___bool__, defScope s_Later___bool__, [], []⟩
def d_check_pair : He.DefD := ⟨("check_pair", none), "check_pair", "check_pair", defArgs s_check_pair, defBody s_check_pair, defScope s_check_pair, [], []⟩
def d_check_unmixed : He.DefD := ⟨("check_unmixed", none), "check_unmixed", "check_unmixed", defArgs s_check_unmixed, defBody s_check_unmixed, defScope s_check_unmixed, [], []⟩
def d_are_mixed : He.DefD := ⟨("are_mixed", none), "are_mixed", "are_mixed", defArgs s_are_mixed, defBody s_are_mixed, defScope s_are_mixed, [], []⟩
def d_common_step : He.DefD := ⟨("common_step", none), "common_step", "common_step", defArgs s_common_step, defBody s_common_step, defScope s_common_step, [], []⟩
def d_enough : He.DefD := ⟨("enough", none), "enough", "enough", defArgs s_enough, defBody s_enough, defScope s_enough, [], []⟩
def d_judge_programs : He.DefD := ⟨("judge_programs", none), "judge_programs", "judge_programs", defArgs s_judge_programs, defBody s_judge_programs, defScope s_judge_programs, [], []⟩
def d_tidy_program : He.DefD := ⟨("tidy_program", none), "tidy_program", "tidy_program", defArgs s_tidy_program, defBody s_tidy_program, defScope s_tidy_program, [], []⟩
def d_judge_later : He.DefD := ⟨("judge_later", none), "judge_later", "judge_later", defArgs s_judge_later, defBody s_judge_later, defScope s_judge_later, [], []⟩
def d_FewRounds___init__ : He.DefD := ⟨("FewRounds", some "__init__"), "__init__", "FewRounds.__init__", defArgs s_FewRounds___init__, defBody s_FewRounds___init__, defScope s_FewRounds___init__, [], []⟩
def d_FewRounds___eq__ : He.DefD := ⟨("FewRounds", some "__eq__"), "__eq__", "FewRounds.__eq__", defArgs s_FewRounds___eq__, defBody s_FewRounds___eq__, defScope s_FewRounds___eq__, [], []⟩
def d_FewRounds___bool__ : He.DefD := ⟨("FewRounds", some "__bool__"), "__bool__", "FewRounds.__bool__", defArgs s_FewRounds___bool__, defBody s_FewRounds___bool__, defScope s_FewRounds___bool__, [], []⟩
def d_check_kinds : He.DefD := ⟨("check_kinds", none), "check_kinds", "check_kinds", defArgs s_check_kinds, defBody s_check_kinds, defScope s_check_kinds, [], []⟩
def d_tuples_of : He.DefD := ⟨("tuples_of", none), "tuples_of", "tuples_of", defArgs s_tuples_of, defBody s_tuples_of, defScope s_tuples_of, [], []⟩
def d_few_rounds : He.DefD := ⟨("few_rounds", none), "few_rounds", "few_rounds", defArgs s_few_rounds, defBody s_few_rounds, defScope s_few_rounds, [], []⟩
def d_turned_back : He.DefD := ⟨("turned_back", none), "turned_back", "turned_back", defArgs s_turned_back, defBody s_turned_back, defScope s_turned_back, [], []⟩
def d_turned_round : He.DefD := ⟨("turned_round", none), "turned_round", "turned_round", defArgs s_turned_round, defBody s_turned_round, defScope s_turned_round, [], []⟩
def d__law_draw : He.DefD := ⟨("_law_draw", none), "_law_draw", "_law_draw", defArgs s__law_draw, defBody s__law_draw, defScope s__law_draw, [], []⟩
def d__law_rounds : He.DefD := ⟨("_law_rounds", none), "_law_rounds", "_law_rounds", defArgs s__law_rounds, defBody s__law_rounds, defScope s__law_rounds, [], []⟩
def d_law : He.DefD := ⟨("law", none), "law", "law", defArgs s_law, defBody s_law, defScope s_law, [], []⟩
def fn0 : List He.DefD := [d_is_integer, d_is_fraction, d_reduced, d_exact, d_common_bottom, d_Program___init__, d_Program___len__, d_Program___eq__, d_Program___add__, d_Program_order, d_Program_done, d_is_round, d_check_rounds, d_check_program, d_check_many, d_check_told, d_openings, d_halvings, d_evened, d_first_unlike]
def fn1 : List He.DefD := [d_first_apart, d_figures, d_SameAlways___init__, d_SameAlways___eq__, d_SameAlways___bool__, d_FirstUnlike___init__, d_FirstUnlike___eq__, d_FirstUnlike___bool__, d_Later___init__, d_Later___eq__, d_Later___bool__, d_check_pair, d_check_unmixed, d_are_mixed, d_common_step, d_enough, d_judge_programs, d_tidy_program, d_judge_later, d_FewRounds___init__]
def fn2 : List He.DefD := [d_FewRounds___eq__, d_FewRounds___bool__, d_check_kinds, d_tuples_of, d_few_rounds, d_turned_back, d_turned_round, d__law_draw, d__law_rounds, d_law]
def fnA : List He.DefD := fn0 ++ fn1
def fnB : List He.DefD := fn2
def fn : List He.DefD := fnA ++ fnB
def fa0 : List He.Fa := [.glo "WeirError", .glo "BadProgram", .glo "BadStart", .glo "Mixed", .glo "is_integer", .glo "is_fraction", .glo "reduced", .glo "exact", .glo "common_bottom", .int "MOST_ROUNDS" 12, .int "MOST_MANY" 400, .int "TOGETHER" 16, .glo "Program", .cls "Program", .mkr "Program", .meth "Program" "__len__", .meth "Program" "__eq__", .meth "Program" "__add__", .meth "Program" "order", .meth "Program" "done"]
def fa1 : List He.Fa := [.noat "Program" "rounds", .glo "is_round", .glo "check_rounds", .glo "check_program", .glo "check_many", .glo "check_told", .glo "openings", .glo "halvings", .glo "evened", .glo "first_unlike", .glo "first_apart", .glo "figures", .glo "SameAlways", .cls "SameAlways", .mkr "SameAlways", .meth "SameAlways" "__eq__", .meth "SameAlways" "__bool__", .noat "SameAlways" "most", .glo "FirstUnlike", .cls "FirstUnlike"]
def fa2 : List He.Fa := [.mkr "FirstUnlike", .meth "FirstUnlike" "__eq__", .meth "FirstUnlike" "__bool__", .noat "FirstUnlike" "basin", .noat "FirstUnlike" "many", .noat "FirstUnlike" "place", .glo "Later", .cls "Later", .mkr "Later", .meth "Later" "__eq__", .meth "Later" "__bool__", .noat "Later" "rests", .noat "Later" "step", .glo "check_pair", .glo "check_unmixed", .glo "are_mixed", .glo "common_step", .glo "enough", .glo "judge_programs", .glo "tidy_program"]
def fa3 : List He.Fa := [.glo "judge_later", .int "MOST_KINDS" 5, .int "MOST_FEW_ROUNDS" 3, .glo "FewRounds", .cls "FewRounds", .mkr "FewRounds", .meth "FewRounds" "__eq__", .meth "FewRounds" "__bool__", .noat "FewRounds" "against", .noat "FewRounds" "rounds", .glo "check_kinds", .glo "tuples_of", .glo "few_rounds", .glo "TURNED", .glo "turned_back", .glo "turned_round", .glo "_law_draw", .glo "_law_rounds", .glo "law", .free "ValueError"]
def fa4 : List He.Fa := [.free "bool", .free "enumerate", .free "int", .free "isinstance", .free "len", .free "list", .free "max", .free "min", .free "range", .free "reversed", .free "sum", .free "super", .free "tuple"]
def fa : List He.Fa := fa0 ++ fa1 ++ fa2 ++ fa3 ++ fa4
def loose0 : List PySem.Str := ["_wall", "WeirError", "BadProgram", "BadStart", "Mixed", "is_integer", "is_fraction", "reduced", "exact", "common_bottom", "MOST_ROUNDS", "MOST_MANY", "TOGETHER", "Program", "is_round", "check_rounds", "check_program", "check_many", "check_told", "openings"]
def loose1 : List PySem.Str := ["halvings", "evened", "first_unlike", "first_apart", "figures", "SameAlways", "FirstUnlike", "Later", "check_pair", "check_unmixed", "are_mixed", "common_step", "enough", "judge_programs", "tidy_program", "judge_later", "MOST_KINDS", "MOST_FEW_ROUNDS", "FewRounds", "check_kinds"]
def loose2 : List PySem.Str := ["tuples_of", "few_rounds", "TURNED", "turned_back", "turned_round", "_law_draw", "_law_rounds"]
def loose : List PySem.Str := loose0 ++ loose1 ++ loose2
def x_BadProgram : SupX.XcD := ⟨"BadProgram", "place", "no program of rounds", "BadProgram.__init__", s_BadProgram___init__⟩
def xs : List SupX.XcD := [x_BadProgram]
def fileS : Str := PySem.Challenge.pw_weirlines_k14_whole_program_relations.main.file
def tabs : List He.Tab := [((fun K => He.ga K "TURNED"), ["right", "left"])]
open He in
def exL0 (K : PySem.W.Frag) : List Bool := [eqO (PySem.W.nsIn K mainGlobals "gcd") (some (some (.builtin "math.gcd"))),
  eqO (PySem.W.nsIn K mainGlobals "lcm") (some (some (.builtin "math.lcm"))),
  eqO (PySem.W.findIn K (.ref (He.ga K "Program")) "__ne__") (some (some (.builtin "object.__ne__"))),
  eqO (PySem.W.findIn K (.ref (He.ga K "Program")) "__class__") (some (some (.builtin "object.__class__"))),
  decide (PySem.W.mroIn K (He.ga K "Program") (.type "object") = some true),
  eqO (PySem.W.findIn K (.ref (He.ga K "SameAlways")) "__ne__") (some (some (.builtin "object.__ne__"))),
  eqO (PySem.W.findIn K (.ref (He.ga K "SameAlways")) "__class__") (some (some (.builtin "object.__class__"))),
  decide (PySem.W.mroIn K (He.ga K "SameAlways") (.type "object") = some true),
  eqO (PySem.W.findIn K (.ref (He.ga K "FirstUnlike")) "__ne__") (some (some (.builtin "object.__ne__"))),
  eqO (PySem.W.findIn K (.ref (He.ga K "FirstUnlike")) "__class__") (some (some (.builtin "object.__class__"))),
  decide (PySem.W.mroIn K (He.ga K "FirstUnlike") (.type "object") = some true),
  eqO (PySem.W.findIn K (.ref (He.ga K "Later")) "__ne__") (some (some (.builtin "object.__ne__")))]
open He in
def exL1 (K : PySem.W.Frag) : List Bool := [eqO (PySem.W.findIn K (.ref (He.ga K "Later")) "__class__") (some (some (.builtin "object.__class__"))),
  decide (PySem.W.mroIn K (He.ga K "Later") (.type "object") = some true),
  eqO (PySem.W.findIn K (.ref (He.ga K "FewRounds")) "__ne__") (some (some (.builtin "object.__ne__"))),
  eqO (PySem.W.findIn K (.ref (He.ga K "FewRounds")) "__class__") (some (some (.builtin "object.__class__"))),
  decide (PySem.W.mroIn K (He.ga K "FewRounds") (.type "object") = some true),
  eqO (PySem.W.specialIn K (.builtin "object.__class__") "__get__") (some (some (.builtin "getset_descriptor.__get__"))),
  decide (PySem.W.takesIn K (.builtin "object.__class__") = some true),
  PySem.W.excIn K (He.ga K "BadStart") [.type "ValueError", .type "Exception", .type "BaseException", .type "object"] "ValueError.__new__",
  PySem.W.keepIn K (.ref (He.ga K "BadStart")),
  decide (PySem.W.subIn K (.ref (He.ga K "BadStart")) (.type "BaseException") = some true),
  decide (PySem.W.typeIn K (.ref (He.ga K "BadStart")) = some (.type "type")),
  PySem.W.excIn K (He.ga K "Mixed") [.type "ValueError", .type "Exception", .type "BaseException", .type "object"] "ValueError.__new__"]
open He in
def exL2 (K : PySem.W.Frag) : List Bool := [PySem.W.keepIn K (.ref (He.ga K "Mixed")),
  decide (PySem.W.subIn K (.ref (He.ga K "Mixed")) (.type "BaseException") = some true),
  decide (PySem.W.typeIn K (.ref (He.ga K "Mixed")) = some (.type "type")),
  PySem.W.selfFirst K (He.ga K "Program"),
  PM.ktB K [],
  PM.ktB K ["FewRounds"],
  PM.ktB K ["Later"],
  PM.ktB K ["Program"],
  PM.ktB K ["SameAlways", "FirstUnlike"],
  PM.tabB K (He.ga K "TURNED") [("right", some "left"), ("left", some "right"), ("every", none)],
  WD.noLst K]
def exL (K : PySem.W.Frag) : List Bool := exL0 K ++ exL1 K ++ exL2 K
def exB (K : PySem.W.Frag) : Bool := (exL K).all id
structure Txt (K : PySem.W.Frag) (mg : Str → Option Value) : Prop where
  h : ∃ hp : Heap, K.In hp ∧ hp.Ns mainGlobals mg
  s : SupX.SaysS fa fn xs fileS exB K
theorem Txt.c {K : PySem.W.Frag} {mg : Str → Option Value} (T : Txt K mg) : He.SaysD fa fn K := T.s.d
theorem Txt.e {K : PySem.W.Frag} {mg : Str → Option Value} (T : Txt K mg) : exB K = true := T.s.exq
section
variable {K : PySem.W.Frag} {mg : Str → Option Value}
theorem Txt.ex (T : Txt K mg) (i : Nat) {b : Bool} (h : (exL K)[i]? = some b := by rfl) : b = true := List.all_eq_true.mp T.e b (List.mem_of_getElem? h)
theorem Txt.glo (T : Txt K mg) {x : Str} (c : (He.Fa.glo x).ok K = true) : mg x = some (.ref (He.ga K x)) := by
  obtain ⟨hp, kx, gx⟩ := T.h
  exact He.glo_ok kx gx c
theorem Txt.free (T : Txt K mg) {x : Str} (c : (He.Fa.free x).ok K = true) : mg x = none := by
  obtain ⟨hp, kx, gx⟩ := T.h
  exact He.free_ok kx gx c
theorem Txt.int (T : Txt K mg) {x : Str} {i : Int} (c : (He.Fa.int x i).ok K = true) : ∃ t, mg x = some (.int i t) := by
  obtain ⟨hp, kx, gx⟩ := T.h
  exact He.int_ok kx gx c
theorem Txt.blt (T : Txt K mg) {x : Str} {v : Value} (c : He.eqO (PySem.W.nsIn K mainGlobals x) (some (some v)) = true) : mg x = some v := by
  obtain ⟨hp, kx, gx⟩ := T.h
  exact PySem.W.mg_of kx gx (He.eqO_ok c)
theorem Txt.m_Mixed (T : Txt K mg) : mg "Mixed" = some (.ref (He.ga K "Mixed")) := T.glo (T.c.fact 3 (f := .glo "Mixed"))
theorem Txt.m_is_integer (T : Txt K mg) : mg "is_integer" = some (.ref (He.ga K "is_integer")) := T.glo (T.c.fact 4 (f := .glo "is_integer"))
theorem Txt.i_MOST_ROUNDS (T : Txt K mg) : ∃ t, mg "MOST_ROUNDS" = some (.int 12 t) := T.int (T.c.fact 9 (f := .int "MOST_ROUNDS" 12))
theorem Txt.i_TOGETHER (T : Txt K mg) : ∃ t, mg "TOGETHER" = some (.int 16 t) := T.int (T.c.fact 11 (f := .int "TOGETHER" 16))
theorem Txt.m_Program (T : Txt K mg) : mg "Program" = some (.ref (He.ga K "Program")) := T.glo (T.c.fact 12 (f := .glo "Program"))
theorem Txt.c_Program (T : Txt K mg) : Cls K (He.ga K "Program") := He.cls_ok (T.c.fact 13 (f := .cls "Program"))
theorem Txt.k_Program (T : Txt K mg) : Mk K (He.ga K "Program") (He.ma K (He.ga K "Program") "__init__") := He.mkr_ok (T.c.fact 14 (f := .mkr "Program"))
theorem Txt.x_Program___len__ (T : Txt K mg) : Meth K (He.ga K "Program") "__len__" (He.ma K (He.ga K "Program") "__len__") := He.meth_ok (T.c.fact 15 (f := .meth "Program" "__len__"))
theorem Txt.x_Program___eq__ (T : Txt K mg) : Meth K (He.ga K "Program") "__eq__" (He.ma K (He.ga K "Program") "__eq__") := He.meth_ok (T.c.fact 16 (f := .meth "Program" "__eq__"))
theorem Txt.x_Program___add__ (T : Txt K mg) : Meth K (He.ga K "Program") "__add__" (He.ma K (He.ga K "Program") "__add__") := He.meth_ok (T.c.fact 17 (f := .meth "Program" "__add__"))
theorem Txt.n_Program_rounds (T : Txt K mg) : NoAttr K (He.ga K "Program") "rounds" := He.noat_ok (T.c.fact 20 (f := .noat "Program" "rounds"))
theorem Txt.m_is_round (T : Txt K mg) : mg "is_round" = some (.ref (He.ga K "is_round")) := T.glo (T.c.fact 21 (f := .glo "is_round"))
theorem Txt.m_check_rounds (T : Txt K mg) : mg "check_rounds" = some (.ref (He.ga K "check_rounds")) := T.glo (T.c.fact 22 (f := .glo "check_rounds"))
theorem Txt.m_check_program (T : Txt K mg) : mg "check_program" = some (.ref (He.ga K "check_program")) := T.glo (T.c.fact 23 (f := .glo "check_program"))
theorem Txt.m_openings (T : Txt K mg) : mg "openings" = some (.ref (He.ga K "openings")) := T.glo (T.c.fact 26 (f := .glo "openings"))
theorem Txt.m_halvings (T : Txt K mg) : mg "halvings" = some (.ref (He.ga K "halvings")) := T.glo (T.c.fact 27 (f := .glo "halvings"))
theorem Txt.m_evened (T : Txt K mg) : mg "evened" = some (.ref (He.ga K "evened")) := T.glo (T.c.fact 28 (f := .glo "evened"))
theorem Txt.m_first_unlike (T : Txt K mg) : mg "first_unlike" = some (.ref (He.ga K "first_unlike")) := T.glo (T.c.fact 29 (f := .glo "first_unlike"))
theorem Txt.m_first_apart (T : Txt K mg) : mg "first_apart" = some (.ref (He.ga K "first_apart")) := T.glo (T.c.fact 30 (f := .glo "first_apart"))
theorem Txt.m_figures (T : Txt K mg) : mg "figures" = some (.ref (He.ga K "figures")) := T.glo (T.c.fact 31 (f := .glo "figures"))
theorem Txt.m_SameAlways (T : Txt K mg) : mg "SameAlways" = some (.ref (He.ga K "SameAlways")) := T.glo (T.c.fact 32 (f := .glo "SameAlways"))
theorem Txt.c_SameAlways (T : Txt K mg) : Cls K (He.ga K "SameAlways") := He.cls_ok (T.c.fact 33 (f := .cls "SameAlways"))
theorem Txt.k_SameAlways (T : Txt K mg) : Mk K (He.ga K "SameAlways") (He.ma K (He.ga K "SameAlways") "__init__") := He.mkr_ok (T.c.fact 34 (f := .mkr "SameAlways"))
theorem Txt.x_SameAlways___eq__ (T : Txt K mg) : Meth K (He.ga K "SameAlways") "__eq__" (He.ma K (He.ga K "SameAlways") "__eq__") := He.meth_ok (T.c.fact 35 (f := .meth "SameAlways" "__eq__"))
theorem Txt.x_SameAlways___bool__ (T : Txt K mg) : Meth K (He.ga K "SameAlways") "__bool__" (He.ma K (He.ga K "SameAlways") "__bool__") := He.meth_ok (T.c.fact 36 (f := .meth "SameAlways" "__bool__"))
theorem Txt.n_SameAlways_most (T : Txt K mg) : NoAttr K (He.ga K "SameAlways") "most" := He.noat_ok (T.c.fact 37 (f := .noat "SameAlways" "most"))
theorem Txt.m_FirstUnlike (T : Txt K mg) : mg "FirstUnlike" = some (.ref (He.ga K "FirstUnlike")) := T.glo (T.c.fact 38 (f := .glo "FirstUnlike"))
theorem Txt.c_FirstUnlike (T : Txt K mg) : Cls K (He.ga K "FirstUnlike") := He.cls_ok (T.c.fact 39 (f := .cls "FirstUnlike"))
theorem Txt.k_FirstUnlike (T : Txt K mg) : Mk K (He.ga K "FirstUnlike") (He.ma K (He.ga K "FirstUnlike") "__init__") := He.mkr_ok (T.c.fact 40 (f := .mkr "FirstUnlike"))
theorem Txt.x_FirstUnlike___eq__ (T : Txt K mg) : Meth K (He.ga K "FirstUnlike") "__eq__" (He.ma K (He.ga K "FirstUnlike") "__eq__") := He.meth_ok (T.c.fact 41 (f := .meth "FirstUnlike" "__eq__"))
theorem Txt.x_FirstUnlike___bool__ (T : Txt K mg) : Meth K (He.ga K "FirstUnlike") "__bool__" (He.ma K (He.ga K "FirstUnlike") "__bool__") := He.meth_ok (T.c.fact 42 (f := .meth "FirstUnlike" "__bool__"))
theorem Txt.n_FirstUnlike_basin (T : Txt K mg) : NoAttr K (He.ga K "FirstUnlike") "basin" := He.noat_ok (T.c.fact 43 (f := .noat "FirstUnlike" "basin"))
theorem Txt.n_FirstUnlike_many (T : Txt K mg) : NoAttr K (He.ga K "FirstUnlike") "many" := He.noat_ok (T.c.fact 44 (f := .noat "FirstUnlike" "many"))
theorem Txt.n_FirstUnlike_place (T : Txt K mg) : NoAttr K (He.ga K "FirstUnlike") "place" := He.noat_ok (T.c.fact 45 (f := .noat "FirstUnlike" "place"))
theorem Txt.m_Later (T : Txt K mg) : mg "Later" = some (.ref (He.ga K "Later")) := T.glo (T.c.fact 46 (f := .glo "Later"))
theorem Txt.c_Later (T : Txt K mg) : Cls K (He.ga K "Later") := He.cls_ok (T.c.fact 47 (f := .cls "Later"))
theorem Txt.k_Later (T : Txt K mg) : Mk K (He.ga K "Later") (He.ma K (He.ga K "Later") "__init__") := He.mkr_ok (T.c.fact 48 (f := .mkr "Later"))
theorem Txt.x_Later___bool__ (T : Txt K mg) : Meth K (He.ga K "Later") "__bool__" (He.ma K (He.ga K "Later") "__bool__") := He.meth_ok (T.c.fact 50 (f := .meth "Later" "__bool__"))
theorem Txt.n_Later_rests (T : Txt K mg) : NoAttr K (He.ga K "Later") "rests" := He.noat_ok (T.c.fact 51 (f := .noat "Later" "rests"))
theorem Txt.n_Later_step (T : Txt K mg) : NoAttr K (He.ga K "Later") "step" := He.noat_ok (T.c.fact 52 (f := .noat "Later" "step"))
theorem Txt.m_check_pair (T : Txt K mg) : mg "check_pair" = some (.ref (He.ga K "check_pair")) := T.glo (T.c.fact 53 (f := .glo "check_pair"))
theorem Txt.m_check_unmixed (T : Txt K mg) : mg "check_unmixed" = some (.ref (He.ga K "check_unmixed")) := T.glo (T.c.fact 54 (f := .glo "check_unmixed"))
theorem Txt.m_are_mixed (T : Txt K mg) : mg "are_mixed" = some (.ref (He.ga K "are_mixed")) := T.glo (T.c.fact 55 (f := .glo "are_mixed"))
theorem Txt.m_common_step (T : Txt K mg) : mg "common_step" = some (.ref (He.ga K "common_step")) := T.glo (T.c.fact 56 (f := .glo "common_step"))
theorem Txt.m_enough (T : Txt K mg) : mg "enough" = some (.ref (He.ga K "enough")) := T.glo (T.c.fact 57 (f := .glo "enough"))
theorem Txt.m_judge_programs (T : Txt K mg) : mg "judge_programs" = some (.ref (He.ga K "judge_programs")) := T.glo (T.c.fact 58 (f := .glo "judge_programs"))
theorem Txt.m_tidy_program (T : Txt K mg) : mg "tidy_program" = some (.ref (He.ga K "tidy_program")) := T.glo (T.c.fact 59 (f := .glo "tidy_program"))
theorem Txt.m_judge_later (T : Txt K mg) : mg "judge_later" = some (.ref (He.ga K "judge_later")) := T.glo (T.c.fact 60 (f := .glo "judge_later"))
theorem Txt.i_MOST_KINDS (T : Txt K mg) : ∃ t, mg "MOST_KINDS" = some (.int 5 t) := T.int (T.c.fact 61 (f := .int "MOST_KINDS" 5))
theorem Txt.i_MOST_FEW_ROUNDS (T : Txt K mg) : ∃ t, mg "MOST_FEW_ROUNDS" = some (.int 3 t) := T.int (T.c.fact 62 (f := .int "MOST_FEW_ROUNDS" 3))
theorem Txt.m_FewRounds (T : Txt K mg) : mg "FewRounds" = some (.ref (He.ga K "FewRounds")) := T.glo (T.c.fact 63 (f := .glo "FewRounds"))
theorem Txt.c_FewRounds (T : Txt K mg) : Cls K (He.ga K "FewRounds") := He.cls_ok (T.c.fact 64 (f := .cls "FewRounds"))
theorem Txt.k_FewRounds (T : Txt K mg) : Mk K (He.ga K "FewRounds") (He.ma K (He.ga K "FewRounds") "__init__") := He.mkr_ok (T.c.fact 65 (f := .mkr "FewRounds"))
theorem Txt.n_FewRounds_against (T : Txt K mg) : NoAttr K (He.ga K "FewRounds") "against" := He.noat_ok (T.c.fact 68 (f := .noat "FewRounds" "against"))
theorem Txt.n_FewRounds_rounds (T : Txt K mg) : NoAttr K (He.ga K "FewRounds") "rounds" := He.noat_ok (T.c.fact 69 (f := .noat "FewRounds" "rounds"))
theorem Txt.m_check_kinds (T : Txt K mg) : mg "check_kinds" = some (.ref (He.ga K "check_kinds")) := T.glo (T.c.fact 70 (f := .glo "check_kinds"))
theorem Txt.m_tuples_of (T : Txt K mg) : mg "tuples_of" = some (.ref (He.ga K "tuples_of")) := T.glo (T.c.fact 71 (f := .glo "tuples_of"))
theorem Txt.m_few_rounds (T : Txt K mg) : mg "few_rounds" = some (.ref (He.ga K "few_rounds")) := T.glo (T.c.fact 72 (f := .glo "few_rounds"))
theorem Txt.m_TURNED (T : Txt K mg) : mg "TURNED" = some (.ref (He.ga K "TURNED")) := T.glo (T.c.fact 73 (f := .glo "TURNED"))
theorem Txt.m_turned_back (T : Txt K mg) : mg "turned_back" = some (.ref (He.ga K "turned_back")) := T.glo (T.c.fact 74 (f := .glo "turned_back"))
theorem Txt.m_turned_round (T : Txt K mg) : mg "turned_round" = some (.ref (He.ga K "turned_round")) := T.glo (T.c.fact 75 (f := .glo "turned_round"))
theorem Txt.m__law_draw (T : Txt K mg) : mg "_law_draw" = some (.ref (He.ga K "_law_draw")) := T.glo (T.c.fact 76 (f := .glo "_law_draw"))
theorem Txt.m__law_rounds (T : Txt K mg) : mg "_law_rounds" = some (.ref (He.ga K "_law_rounds")) := T.glo (T.c.fact 77 (f := .glo "_law_rounds"))
theorem Txt.m_law (T : Txt K mg) : mg "law" = some (.ref (He.ga K "law")) := T.glo (T.c.fact 78 (f := .glo "law"))
theorem Txt.z_bool (T : Txt K mg) : mg "bool" = none := T.free (T.c.fact 80 (f := .free "bool"))
theorem Txt.z_enumerate (T : Txt K mg) : mg "enumerate" = none := T.free (T.c.fact 81 (f := .free "enumerate"))
theorem Txt.z_int (T : Txt K mg) : mg "int" = none := T.free (T.c.fact 82 (f := .free "int"))
theorem Txt.z_isinstance (T : Txt K mg) : mg "isinstance" = none := T.free (T.c.fact 83 (f := .free "isinstance"))
theorem Txt.z_len (T : Txt K mg) : mg "len" = none := T.free (T.c.fact 84 (f := .free "len"))
theorem Txt.z_list (T : Txt K mg) : mg "list" = none := T.free (T.c.fact 85 (f := .free "list"))
theorem Txt.z_max (T : Txt K mg) : mg "max" = none := T.free (T.c.fact 86 (f := .free "max"))
theorem Txt.z_min (T : Txt K mg) : mg "min" = none := T.free (T.c.fact 87 (f := .free "min"))
theorem Txt.z_range (T : Txt K mg) : mg "range" = none := T.free (T.c.fact 88 (f := .free "range"))
theorem Txt.z_reversed (T : Txt K mg) : mg "reversed" = none := T.free (T.c.fact 89 (f := .free "reversed"))
theorem Txt.z_sum (T : Txt K mg) : mg "sum" = none := T.free (T.c.fact 90 (f := .free "sum"))
theorem Txt.z_tuple (T : Txt K mg) : mg "tuple" = none := T.free (T.c.fact 92 (f := .free "tuple"))
theorem Txt.b_lcm (T : Txt K mg) : mg "lcm" = some (.builtin "math.lcm") := T.blt (T.ex 1)
theorem Txt.ne_Program (T : Txt K mg) : PySem.W.findIn K (.ref (He.ga K "Program")) "__ne__" = some (some (.builtin "object.__ne__")) := He.eqO_ok (T.ex 2)
theorem Txt.cl_Program (T : Txt K mg) : PySem.W.findIn K (.ref (He.ga K "Program")) "__class__" = some (some (.builtin "object.__class__")) := He.eqO_ok (T.ex 3)
theorem Txt.ob_Program (T : Txt K mg) : PySem.W.mroIn K (He.ga K "Program") (.type "object") = some true := of_decide_eq_true (T.ex 4)
theorem Txt.ne_SameAlways (T : Txt K mg) : PySem.W.findIn K (.ref (He.ga K "SameAlways")) "__ne__" = some (some (.builtin "object.__ne__")) := He.eqO_ok (T.ex 5)
theorem Txt.cl_SameAlways (T : Txt K mg) : PySem.W.findIn K (.ref (He.ga K "SameAlways")) "__class__" = some (some (.builtin "object.__class__")) := He.eqO_ok (T.ex 6)
theorem Txt.ob_SameAlways (T : Txt K mg) : PySem.W.mroIn K (He.ga K "SameAlways") (.type "object") = some true := of_decide_eq_true (T.ex 7)
theorem Txt.ne_FirstUnlike (T : Txt K mg) : PySem.W.findIn K (.ref (He.ga K "FirstUnlike")) "__ne__" = some (some (.builtin "object.__ne__")) := He.eqO_ok (T.ex 8)
theorem Txt.cl_FirstUnlike (T : Txt K mg) : PySem.W.findIn K (.ref (He.ga K "FirstUnlike")) "__class__" = some (some (.builtin "object.__class__")) := He.eqO_ok (T.ex 9)
theorem Txt.ob_FirstUnlike (T : Txt K mg) : PySem.W.mroIn K (He.ga K "FirstUnlike") (.type "object") = some true := of_decide_eq_true (T.ex 10)
theorem Txt.sp (T : Txt K mg) : PySem.W.specialIn K (.builtin "object.__class__") "__get__" = some (some (.builtin "getset_descriptor.__get__")) := He.eqO_ok (T.ex 17)
theorem Txt.tk (T : Txt K mg) : PySem.W.takesIn K (.builtin "object.__class__") = some true := of_decide_eq_true (T.ex 18)
theorem Txt.q_Mixed (T : Txt K mg) : PySem.W.excIn K (He.ga K "Mixed") [.type "ValueError", .type "Exception", .type "BaseException", .type "object"] "ValueError.__new__" = true := T.ex 23
theorem Txt.p_Mixed (T : Txt K mg) : PySem.W.keepIn K (.ref (He.ga K "Mixed")) = true := T.ex 24
theorem Txt.u_Mixed (T : Txt K mg) : PySem.W.subIn K (.ref (He.ga K "Mixed")) (.type "BaseException") = some true := of_decide_eq_true (T.ex 25)
theorem Txt.v_Mixed (T : Txt K mg) : PySem.W.typeIn K (.ref (He.ga K "Mixed")) = some (.type "type") := of_decide_eq_true (T.ex 26)
theorem Txt.sf_Program (T : Txt K mg) : PySem.W.selfFirst K (He.ga K "Program") = true := T.ex 27
theorem Txt.kt_none (T : Txt K mg) : PM.KT K [] PM.sameC := PM.kt_ofB (fun c hc => (List.not_mem_nil hc).elim) (T.ex 28)
theorem Txt.kt_Program (T : Txt K mg) : PM.KT K ["Program"] PM.sameC := PM.kt_ofB (fun c hc => (List.mem_cons.mp hc).elim (fun e => e ▸ ⟨T.c_Program, T.cl_Program, T.sp, T.tk, T.ob_Program⟩) (fun hc => (List.not_mem_nil hc).elim)) (T.ex 31)
theorem Txt.kt_SameAlways_FirstUnlike (T : Txt K mg) : PM.KT K ["SameAlways", "FirstUnlike"] PM.sameC := PM.kt_ofB (fun c hc => (List.mem_cons.mp hc).elim (fun e => e ▸ ⟨T.c_SameAlways, T.cl_SameAlways, T.sp, T.tk, T.ob_SameAlways⟩) (fun hc => (List.mem_cons.mp hc).elim (fun e => e ▸ ⟨T.c_FirstUnlike, T.cl_FirstUnlike, T.sp, T.tk, T.ob_FirstUnlike⟩) (fun hc => (List.not_mem_nil hc).elim))) (T.ex 32)
theorem Txt.tb_TURNED (T : Txt K mg) : PM.tabB K (He.ga K "TURNED") [("right", some "left"), ("left", some "right"), ("every", none)] = true := T.ex 33
theorem Txt.noL (T : Txt K mg) : WD.noLst K = true := T.ex 34
theorem Txt.f_is_integer (T : Txt K mg) : ∃ fd, FunD K "is_integer" "is_integer" (defArgs s_is_integer) (defBody s_is_integer) (defScope s_is_integer) [] [] (He.fAd K (("is_integer", none))) fd := T.c.def_ 0 (d := d_is_integer)
theorem Txt.f_Program___init__ (T : Txt K mg) : ∃ fd, FunD K "__init__" "Program.__init__" (defArgs s_Program___init__) (defBody s_Program___init__) (defScope s_Program___init__) [] [] (He.fAd K (("Program", some "__init__"))) fd := T.c.def_ 5 (d := d_Program___init__)
theorem Txt.f_Program___len__ (T : Txt K mg) : ∃ fd, FunD K "__len__" "Program.__len__" (defArgs s_Program___len__) (defBody s_Program___len__) (defScope s_Program___len__) [] [] (He.fAd K (("Program", some "__len__"))) fd := T.c.def_ 6 (d := d_Program___len__)
theorem Txt.f_Program___eq__ (T : Txt K mg) : ∃ fd, FunD K "__eq__" "Program.__eq__" (defArgs s_Program___eq__) (defBody s_Program___eq__) (defScope s_Program___eq__) [] [] (He.fAd K (("Program", some "__eq__"))) fd := T.c.def_ 7 (d := d_Program___eq__)
theorem Txt.f_Program___add__ (T : Txt K mg) : ∃ fd, FunD K "__add__" "Program.__add__" (defArgs s_Program___add__) (defBody s_Program___add__) (defScope s_Program___add__) [] [] (He.fAd K (("Program", some "__add__"))) fd := T.c.def_ 8 (d := d_Program___add__)
theorem Txt.f_is_round (T : Txt K mg) : ∃ fd, FunD K "is_round" "is_round" (defArgs s_is_round) (defBody s_is_round) (defScope s_is_round) [] [] (He.fAd K (("is_round", none))) fd := T.c.def_ 11 (d := d_is_round)
theorem Txt.f_check_rounds (T : Txt K mg) : ∃ fd, FunD K "check_rounds" "check_rounds" (defArgs s_check_rounds) (defBody s_check_rounds) (defScope s_check_rounds) [] [] (He.fAd K (("check_rounds", none))) fd := T.c.def_ 12 (d := d_check_rounds)
theorem Txt.f_check_program (T : Txt K mg) : ∃ fd, FunD K "check_program" "check_program" (defArgs s_check_program) (defBody s_check_program) (defScope s_check_program) [] [] (He.fAd K (("check_program", none))) fd := T.c.def_ 13 (d := d_check_program)
theorem Txt.f_openings (T : Txt K mg) : ∃ fd, FunD K "openings" "openings" (defArgs s_openings) (defBody s_openings) (defScope s_openings) [] [] (He.fAd K (("openings", none))) fd := T.c.def_ 16 (d := d_openings)
theorem Txt.f_halvings (T : Txt K mg) : ∃ fd, FunD K "halvings" "halvings" (defArgs s_halvings) (defBody s_halvings) (defScope s_halvings) [] [] (He.fAd K (("halvings", none))) fd := T.c.def_ 17 (d := d_halvings)
theorem Txt.f_evened (T : Txt K mg) : ∃ fd, FunD K "evened" "evened" (defArgs s_evened) (defBody s_evened) (defScope s_evened) [] [] (He.fAd K (("evened", none))) fd := T.c.def_ 18 (d := d_evened)
theorem Txt.f_first_unlike (T : Txt K mg) : ∃ fd, FunD K "first_unlike" "first_unlike" (defArgs s_first_unlike) (defBody s_first_unlike) (defScope s_first_unlike) [] [] (He.fAd K (("first_unlike", none))) fd := T.c.def_ 19 (d := d_first_unlike)
theorem Txt.f_first_apart (T : Txt K mg) : ∃ fd, FunD K "first_apart" "first_apart" (defArgs s_first_apart) (defBody s_first_apart) (defScope s_first_apart) [] [] (He.fAd K (("first_apart", none))) fd := T.c.def_ 20 (d := d_first_apart)
theorem Txt.f_figures (T : Txt K mg) : ∃ fd, FunD K "figures" "figures" (defArgs s_figures) (defBody s_figures) (defScope s_figures) [] [] (He.fAd K (("figures", none))) fd := T.c.def_ 21 (d := d_figures)
theorem Txt.f_SameAlways___init__ (T : Txt K mg) : ∃ fd, FunD K "__init__" "SameAlways.__init__" (defArgs s_SameAlways___init__) (defBody s_SameAlways___init__) (defScope s_SameAlways___init__) [] [] (He.fAd K (("SameAlways", some "__init__"))) fd := T.c.def_ 22 (d := d_SameAlways___init__)
theorem Txt.f_SameAlways___eq__ (T : Txt K mg) : ∃ fd, FunD K "__eq__" "SameAlways.__eq__" (defArgs s_SameAlways___eq__) (defBody s_SameAlways___eq__) (defScope s_SameAlways___eq__) [] [] (He.fAd K (("SameAlways", some "__eq__"))) fd := T.c.def_ 23 (d := d_SameAlways___eq__)
theorem Txt.f_SameAlways___bool__ (T : Txt K mg) : ∃ fd, FunD K "__bool__" "SameAlways.__bool__" (defArgs s_SameAlways___bool__) (defBody s_SameAlways___bool__) (defScope s_SameAlways___bool__) [] [] (He.fAd K (("SameAlways", some "__bool__"))) fd := T.c.def_ 24 (d := d_SameAlways___bool__)
theorem Txt.f_FirstUnlike___init__ (T : Txt K mg) : ∃ fd, FunD K "__init__" "FirstUnlike.__init__" (defArgs s_FirstUnlike___init__) (defBody s_FirstUnlike___init__) (defScope s_FirstUnlike___init__) [] [] (He.fAd K (("FirstUnlike", some "__init__"))) fd := T.c.def_ 25 (d := d_FirstUnlike___init__)
theorem Txt.f_FirstUnlike___eq__ (T : Txt K mg) : ∃ fd, FunD K "__eq__" "FirstUnlike.__eq__" (defArgs s_FirstUnlike___eq__) (defBody s_FirstUnlike___eq__) (defScope s_FirstUnlike___eq__) [] [] (He.fAd K (("FirstUnlike", some "__eq__"))) fd := T.c.def_ 26 (d := d_FirstUnlike___eq__)
theorem Txt.f_FirstUnlike___bool__ (T : Txt K mg) : ∃ fd, FunD K "__bool__" "FirstUnlike.__bool__" (defArgs s_FirstUnlike___bool__) (defBody s_FirstUnlike___bool__) (defScope s_FirstUnlike___bool__) [] [] (He.fAd K (("FirstUnlike", some "__bool__"))) fd := T.c.def_ 27 (d := d_FirstUnlike___bool__)
theorem Txt.f_Later___init__ (T : Txt K mg) : ∃ fd, FunD K "__init__" "Later.__init__" (defArgs s_Later___init__) (defBody s_Later___init__) (defScope s_Later___init__) [] [] (He.fAd K (("Later", some "__init__"))) fd := T.c.def_ 28 (d := d_Later___init__)
theorem Txt.f_Later___bool__ (T : Txt K mg) : ∃ fd, FunD K "__bool__" "Later.__bool__" (defArgs s_Later___bool__) (defBody s_Later___bool__) (defScope s_Later___bool__) [] [] (He.fAd K (("Later", some "__bool__"))) fd := T.c.def_ 30 (d := d_Later___bool__)
theorem Txt.f_check_pair (T : Txt K mg) : ∃ fd, FunD K "check_pair" "check_pair" (defArgs s_check_pair) (defBody s_check_pair) (defScope s_check_pair) [] [] (He.fAd K (("check_pair", none))) fd := T.c.def_ 31 (d := d_check_pair)
theorem Txt.f_check_unmixed (T : Txt K mg) : ∃ fd, FunD K "check_unmixed" "check_unmixed" (defArgs s_check_unmixed) (defBody s_check_unmixed) (defScope s_check_unmixed) [] [] (He.fAd K (("check_unmixed", none))) fd := T.c.def_ 32 (d := d_check_unmixed)
theorem Txt.f_are_mixed (T : Txt K mg) : ∃ fd, FunD K "are_mixed" "are_mixed" (defArgs s_are_mixed) (defBody s_are_mixed) (defScope s_are_mixed) [] [] (He.fAd K (("are_mixed", none))) fd := T.c.def_ 33 (d := d_are_mixed)
theorem Txt.f_common_step (T : Txt K mg) : ∃ fd, FunD K "common_step" "common_step" (defArgs s_common_step) (defBody s_common_step) (defScope s_common_step) [] [] (He.fAd K (("common_step", none))) fd := T.c.def_ 34 (d := d_common_step)
theorem Txt.f_enough (T : Txt K mg) : ∃ fd, FunD K "enough" "enough" (defArgs s_enough) (defBody s_enough) (defScope s_enough) [] [] (He.fAd K (("enough", none))) fd := T.c.def_ 35 (d := d_enough)
theorem Txt.f_judge_programs (T : Txt K mg) : ∃ fd, FunD K "judge_programs" "judge_programs" (defArgs s_judge_programs) (defBody s_judge_programs) (defScope s_judge_programs) [] [] (He.fAd K (("judge_programs", none))) fd := T.c.def_ 36 (d := d_judge_programs)
theorem Txt.f_tidy_program (T : Txt K mg) : ∃ fd, FunD K "tidy_program" "tidy_program" (defArgs s_tidy_program) (defBody s_tidy_program) (defScope s_tidy_program) [] [] (He.fAd K (("tidy_program", none))) fd := T.c.def_ 37 (d := d_tidy_program)
theorem Txt.f_judge_later (T : Txt K mg) : ∃ fd, FunD K "judge_later" "judge_later" (defArgs s_judge_later) (defBody s_judge_later) (defScope s_judge_later) [] [] (He.fAd K (("judge_later", none))) fd := T.c.def_ 38 (d := d_judge_later)
theorem Txt.f_FewRounds___init__ (T : Txt K mg) : ∃ fd, FunD K "__init__" "FewRounds.__init__" (defArgs s_FewRounds___init__) (defBody s_FewRounds___init__) (defScope s_FewRounds___init__) [] [] (He.fAd K (("FewRounds", some "__init__"))) fd := T.c.def_ 39 (d := d_FewRounds___init__)
theorem Txt.f_check_kinds (T : Txt K mg) : ∃ fd, FunD K "check_kinds" "check_kinds" (defArgs s_check_kinds) (defBody s_check_kinds) (defScope s_check_kinds) [] [] (He.fAd K (("check_kinds", none))) fd := T.c.def_ 42 (d := d_check_kinds)
theorem Txt.f_tuples_of (T : Txt K mg) : ∃ fd, FunD K "tuples_of" "tuples_of" (defArgs s_tuples_of) (defBody s_tuples_of) (defScope s_tuples_of) [] [] (He.fAd K (("tuples_of", none))) fd := T.c.def_ 43 (d := d_tuples_of)
theorem Txt.f_few_rounds (T : Txt K mg) : ∃ fd, FunD K "few_rounds" "few_rounds" (defArgs s_few_rounds) (defBody s_few_rounds) (defScope s_few_rounds) [] [] (He.fAd K (("few_rounds", none))) fd := T.c.def_ 44 (d := d_few_rounds)
theorem Txt.f_turned_back (T : Txt K mg) : ∃ fd, FunD K "turned_back" "turned_back" (defArgs s_turned_back) (defBody s_turned_back) (defScope s_turned_back) [] [] (He.fAd K (("turned_back", none))) fd := T.c.def_ 45 (d := d_turned_back)
theorem Txt.f_turned_round (T : Txt K mg) : ∃ fd, FunD K "turned_round" "turned_round" (defArgs s_turned_round) (defBody s_turned_round) (defScope s_turned_round) [] [] (He.fAd K (("turned_round", none))) fd := T.c.def_ 46 (d := d_turned_round)
theorem Txt.f__law_draw (T : Txt K mg) : ∃ fd, FunD K "_law_draw" "_law_draw" (defArgs s__law_draw) (defBody s__law_draw) (defScope s__law_draw) [] [] (He.fAd K (("_law_draw", none))) fd := T.c.def_ 47 (d := d__law_draw)
theorem Txt.f__law_rounds (T : Txt K mg) : ∃ fd, FunD K "_law_rounds" "_law_rounds" (defArgs s__law_rounds) (defBody s__law_rounds) (defScope s__law_rounds) [] [] (He.fAd K (("_law_rounds", none))) fd := T.c.def_ 48 (d := d__law_rounds)
theorem Txt.f_law (T : Txt K mg) : ∃ fd, FunD K "law" "law" (defArgs s_law) (defBody s_law) (defScope s_law) [] [] (He.fAd K (("law", none))) fd := T.c.def_ 49 (d := d_law)
theorem to_BadProgram : SupX.TextOk x_BadProgram := ⟨"place", "self", _, _, _, _, _, _, _, _, _, _, _, _, rfl, fun _ _ _ _ _ _ _ _ _ => rfl, rfl, rfl, by decide, by decide, by decide, by decide +kernel, rfl, rfl, rfl, rfl, rfl, rfl, rfl, fun _ _ _ _ => ⟨⟨_, rfl⟩, rfl, rfl, rfl, rfl, rfl⟩⟩
theorem Txt.s_BadProgram {P : Program} (T : Txt K mg) (hp : P.main.file = fileS) (ht : (P.main.scope.names.lookup ("super" : Str)).isSome = false) : SupX.Sup P K mg (He.ga K "BadProgram") (He.ma K (He.ga K "BadProgram") "__init__") "BadProgram" "place" "no program of rounds" := by
  obtain ⟨h, X, G⟩ := T.h
  exact SupX.sup_of X G to_BadProgram (T.s.xfn 0) (T.s.xok 0) hp ht
end
theorem sc_is_integer : FnScope ["thing"] ["thing"] (defScope s_is_integer) := ⟨rfl, rfl, rfl, by decide +kernel, rfl, by decide +kernel, by decide +kernel⟩
theorem sc_Program___init__ : FnScope ["self", "rounds"] ["self", "rounds"] (defScope s_Program___init__) := ⟨rfl, rfl, rfl, by decide +kernel, rfl, by decide +kernel, by decide +kernel⟩
theorem sc_Program___len__ : FnScope ["self"] ["self"] (defScope s_Program___len__) := ⟨rfl, rfl, rfl, by decide +kernel, rfl, by decide +kernel, by decide +kernel⟩
theorem sc_Program___eq__ : FnScope ["self", "other"] ["self", "other"] (defScope s_Program___eq__) := ⟨rfl, rfl, rfl, by decide +kernel, rfl, by decide +kernel, by decide +kernel⟩
theorem sc_Program___add__ : FnScope ["self", "other"] ["self", "other"] (defScope s_Program___add__) := ⟨rfl, rfl, rfl, by decide +kernel, rfl, by decide +kernel, by decide +kernel⟩
theorem sc_is_round : FnScope ["thing", "step", "rest"] ["thing"] (defScope s_is_round) := ⟨rfl, rfl, rfl, by decide +kernel, rfl, by decide +kernel, by decide +kernel⟩
theorem sc_check_rounds : FnScope ["rounds", "place", "told"] ["rounds"] (defScope s_check_rounds) := ⟨rfl, rfl, rfl, by decide +kernel, rfl, by decide +kernel, by decide +kernel⟩
theorem sc_check_program : FnScope ["program"] ["program"] (defScope s_check_program) := ⟨rfl, rfl, rfl, by decide +kernel, rfl, by decide +kernel, by decide +kernel⟩
theorem sc_openings : FnScope ["rounds", "many", "found", "told", "weir"] ["rounds", "many"] (defScope s_openings) := ⟨rfl, rfl, rfl, by decide +kernel, rfl, by decide +kernel, by decide +kernel⟩
theorem sc_halvings : FnScope ["rounds", "many", "told"] ["rounds", "many"] (defScope s_halvings) := ⟨rfl, rfl, rfl, by decide +kernel, rfl, by decide +kernel, by decide +kernel⟩
theorem sc_evened : FnScope ["rounds", "tops", "late", "weir"] ["rounds", "tops"] (defScope s_evened) := ⟨rfl, rfl, rfl, by decide +kernel, rfl, by decide +kernel, by decide +kernel⟩
theorem sc_first_unlike : FnScope ["one", "other", "many", "often", "size", "first", "tops", "at", "here", "there", "_"] ["one", "other", "many"] (defScope s_first_unlike) := ⟨rfl, rfl, rfl, by decide +kernel, rfl, by decide +kernel, by decide +kernel⟩
theorem sc_first_apart : FnScope ["here", "there", "first", "size", "at", "place"] ["here", "there", "first", "size"] (defScope s_first_apart) := ⟨rfl, rfl, rfl, by decide +kernel, rfl, by decide +kernel, by decide +kernel⟩
theorem sc_figures : FnScope ["number", "at", "size"] ["number", "at", "size"] (defScope s_figures) := ⟨rfl, rfl, rfl, by decide +kernel, rfl, by decide +kernel, by decide +kernel⟩
theorem sc_SameAlways___init__ : FnScope ["self", "most"] ["self", "most"] (defScope s_SameAlways___init__) := ⟨rfl, rfl, rfl, by decide +kernel, rfl, by decide +kernel, by decide +kernel⟩
theorem sc_SameAlways___eq__ : FnScope ["self", "other"] ["self", "other"] (defScope s_SameAlways___eq__) := ⟨rfl, rfl, rfl, by decide +kernel, rfl, by decide +kernel, by decide +kernel⟩
theorem sc_SameAlways___bool__ : FnScope ["self"] ["self"] (defScope s_SameAlways___bool__) := ⟨rfl, rfl, rfl, by decide +kernel, rfl, by decide +kernel, by decide +kernel⟩
theorem sc_FirstUnlike___init__ : FnScope ["self", "many", "basin", "place"] ["self", "many", "basin", "place"] (defScope s_FirstUnlike___init__) := ⟨rfl, rfl, rfl, by decide +kernel, rfl, by decide +kernel, by decide +kernel⟩
theorem sc_FirstUnlike___eq__ : FnScope ["self", "other"] ["self", "other"] (defScope s_FirstUnlike___eq__) := ⟨rfl, rfl, rfl, by decide +kernel, rfl, by decide +kernel, by decide +kernel⟩
theorem sc_FirstUnlike___bool__ : FnScope ["self"] ["self"] (defScope s_FirstUnlike___bool__) := ⟨rfl, rfl, rfl, by decide +kernel, rfl, by decide +kernel, by decide +kernel⟩
theorem sc_Later___init__ : FnScope ["self", "step", "rests"] ["self", "step", "rests"] (defScope s_Later___init__) := ⟨rfl, rfl, rfl, by decide +kernel, rfl, by decide +kernel, by decide +kernel⟩
theorem sc_Later___bool__ : FnScope ["self"] ["self"] (defScope s_Later___bool__) := ⟨rfl, rfl, rfl, by decide +kernel, rfl, by decide +kernel, by decide +kernel⟩
theorem sc_check_pair : FnScope ["one", "other"] ["one", "other"] (defScope s_check_pair) := ⟨rfl, rfl, rfl, by decide +kernel, rfl, by decide +kernel, by decide +kernel⟩
theorem sc_check_unmixed : FnScope ["rounds"] ["rounds"] (defScope s_check_unmixed) := ⟨rfl, rfl, rfl, by decide +kernel, rfl, by decide +kernel, by decide +kernel⟩
theorem sc_are_mixed : FnScope ["rounds"] ["rounds"] (defScope s_are_mixed) := ⟨rfl, rfl, rfl, by decide +kernel, rfl, by decide +kernel, by decide +kernel⟩
theorem sc_common_step : FnScope ["one", "other", "step", "told"] ["one", "other"] (defScope s_common_step) := ⟨rfl, rfl, rfl, by decide +kernel, rfl, by decide +kernel, by decide +kernel⟩
theorem sc_enough : FnScope ["one", "other", "longer"] ["one", "other"] (defScope s_enough) := ⟨rfl, rfl, rfl, by decide +kernel, rfl, by decide +kernel, by decide +kernel⟩
theorem sc_judge_programs : FnScope ["one", "other", "most", "many", "found"] ["one", "other"] (defScope s_judge_programs) := ⟨rfl, rfl, rfl, by decide +kernel, rfl, by decide +kernel, by decide +kernel⟩
theorem sc_tidy_program : FnScope ["program", "left", "place", "fewer"] ["program"] (defScope s_tidy_program) := ⟨rfl, rfl, rfl, by decide +kernel, rfl, by decide +kernel, by decide +kernel⟩
theorem sc_judge_later : FnScope ["one", "other", "step", "first", "more", "unlike", "many", "rest"] ["one", "other"] (defScope s_judge_later) := ⟨rfl, rfl, rfl, by decide +kernel, rfl, by decide +kernel, by decide +kernel⟩
theorem sc_FewRounds___init__ : FnScope ["self", "rounds", "against", "fewer"] ["self", "rounds", "against"] (defScope s_FewRounds___init__) := ⟨rfl, rfl, rfl, by decide +kernel, rfl, by decide +kernel, by decide +kernel⟩
theorem sc_check_kinds : FnScope ["kinds", "place", "told"] ["kinds"] (defScope s_check_kinds) := ⟨rfl, rfl, rfl, by decide +kernel, rfl, by decide +kernel, by decide +kernel⟩
theorem sc_tuples_of : FnScope ["kinds", "longest", "found", "latest", "_", "told", "kind"] ["kinds", "longest"] (defScope s_tuples_of) := ⟨rfl, rfl, rfl, by decide +kernel, rfl, by decide +kernel, by decide +kernel⟩
theorem sc_few_rounds : FnScope ["program", "kinds", "unlike", "rounds", "found", "fewer"] ["program", "kinds"] (defScope s_few_rounds) := ⟨rfl, rfl, rfl, by decide +kernel, rfl, by decide +kernel, by decide +kernel⟩
theorem sc_turned_back : FnScope ["program", "told"] ["program"] (defScope s_turned_back) := ⟨rfl, rfl, rfl, by decide +kernel, rfl, by decide +kernel, by decide +kernel⟩
theorem sc_turned_round : FnScope ["told"] ["told"] (defScope s_turned_round) := ⟨rfl, rfl, rfl, by decide +kernel, rfl, by decide +kernel, by decide +kernel⟩
theorem sc__law_draw : FnScope ["script", "at", "many", "row", "cell", "turn", "step", "mixed"] ["script", "at", "many"] (defScope s__law_draw) := ⟨rfl, rfl, rfl, by decide +kernel, rfl, by decide +kernel, by decide +kernel⟩
theorem sc__law_rounds : FnScope ["script", "at", "most", "rows", "turn"] ["script", "at", "most"] (defScope s__law_rounds) := ⟨rfl, rfl, rfl, by decide +kernel, rfl, by decide +kernel, by decide +kernel⟩
theorem sc_law : FnScope ["script", "one", "other", "more", "twice", "told", "same", "kind", "found", "first", "back", "second", "third", "less", "kinds", "few"] ["script"] (defScope s_law) := ⟨rfl, rfl, rfl, by decide +kernel, rfl, by decide +kernel, by decide +kernel⟩
end Lk14
end
section
set_option Elab.async false
set_option linter.all false
set_option maxRecDepth 100000
set_option maxHeartbeats 0
namespace Lk14
open PySem PySem.Spec PyProof.Rows L2
abbrev R0t : PySem.W.OpenRow := PySem.W.OpenLaw.row PySem.Challenge.rw_weirlines_k14_whole_program_relations
theorem run0t (w : World) : SupX.LookEq R0t (PySem.W.view R0t.prog [0, 56]) 12000 loose (SupX.wF w true) := by
  unfold SupX.LookEq
  kernel_rfl
end Lk14
end
section
set_option Elab.async false
set_option linter.all false
set_option maxRecDepth 100000
set_option maxHeartbeats 0
namespace Lk14
open PySem PySem.Spec PyProof.Rows L2
abbrev RAt : PySem.W.OpenRow := PySem.W.OpenLaw.row PySem.Challenge.rw_weirlines_k14_whole_program_relations
theorem runAt (w : World) : SupX.FactEq RAt.prog 12000 4 fa xs fileS exB tabs (SupX.wF w true) := by
  unfold SupX.FactEq
  kernel_rfl
end Lk14
end
section
set_option Elab.async false
set_option linter.all false
set_option maxRecDepth 100000
set_option maxHeartbeats 0
namespace Lk14
open PySem PySem.Spec PyProof.Rows L2
abbrev RBt : PySem.W.OpenRow := PySem.W.OpenLaw.row PySem.Challenge.rw_weirlines_k14_whole_program_relations
theorem runBt (w : World) : SupX.DefEq RBt.prog 12000 4 fnA (SupX.wF w true) := by
  unfold SupX.DefEq
  kernel_rfl
end Lk14
end
section
set_option Elab.async false
set_option linter.all false
set_option maxRecDepth 100000
set_option maxHeartbeats 0
namespace Lk14
open PySem PySem.Spec PyProof.Rows L2
abbrev RCt : PySem.W.OpenRow := PySem.W.OpenLaw.row PySem.Challenge.rw_weirlines_k14_whole_program_relations
theorem runCt (w : World) : SupX.DefEq RCt.prog 12000 4 fnB (SupX.wF w true) := by
  unfold SupX.DefEq
  kernel_rfl
end Lk14
end
section
set_option Elab.async false
set_option linter.all false
set_option maxRecDepth 100000
set_option maxHeartbeats 0
namespace Lk14
open PySem PySem.Spec PyProof.Rows L2
abbrev R0f : PySem.W.OpenRow := PySem.W.OpenLaw.row PySem.Challenge.rw_weirlines_k14_whole_program_relations
theorem run0f (w : World) : SupX.LookEq R0f (PySem.W.view R0f.prog [0, 56]) 12000 loose (SupX.wF w false) := by
  unfold SupX.LookEq
  kernel_rfl
end Lk14
end
section
set_option Elab.async false
set_option linter.all false
set_option maxRecDepth 100000
set_option maxHeartbeats 0
namespace Lk14
open PySem PySem.Spec PyProof.Rows L2
abbrev RAf : PySem.W.OpenRow := PySem.W.OpenLaw.row PySem.Challenge.rw_weirlines_k14_whole_program_relations
theorem runAf (w : World) : SupX.FactEq RAf.prog 12000 4 fa xs fileS exB tabs (SupX.wF w false) := by
  unfold SupX.FactEq
  kernel_rfl
end Lk14
end
section
set_option Elab.async false
set_option linter.all false
set_option maxRecDepth 100000
set_option maxHeartbeats 0
namespace Lk14
open PySem PySem.Spec PyProof.Rows L2
abbrev RBf : PySem.W.OpenRow := PySem.W.OpenLaw.row PySem.Challenge.rw_weirlines_k14_whole_program_relations
theorem runBf (w : World) : SupX.DefEq RBf.prog 12000 4 fnA (SupX.wF w false) := by
  unfold SupX.DefEq
  kernel_rfl
end Lk14
end
section
set_option Elab.async false
set_option linter.all false
set_option maxRecDepth 100000
set_option maxHeartbeats 0
namespace Lk14
open PySem PySem.Spec PyProof.Rows L2
abbrev RCf : PySem.W.OpenRow := PySem.W.OpenLaw.row PySem.Challenge.rw_weirlines_k14_whole_program_relations
theorem runCf (w : World) : SupX.DefEq RCf.prog 12000 4 fnB (SupX.wF w false) := by
  unfold SupX.DefEq
  kernel_rfl
end Lk14
end
section
set_option Elab.async false
set_option linter.all false
set_option maxRecDepth 100000
set_option maxHeartbeats 0
namespace Lk14
open PySem PySem.Spec PyProof.Rows L2
abbrev R : PySem.W.OpenRow := PySem.W.OpenLaw.row PySem.Challenge.rw_weirlines_k14_whole_program_relations
abbrev hk : PySem.W.Hook := SupX.hookF 4 fa fn xs fileS exB tabs
def ob (s : PySem.W.SharedT) : SupX.AlX := SupX.obsFG 4 fa fn xs fileS exB tabs (HandSHeadRun.getT s)
theorem ob_eq (s : PySem.W.SharedT) : ob s = hk.obs s.abs := SupX.obsFG_eq (HandSHeadRun.getT_eq s)
theorem run (w : World) : HandSHeadRun.RunEqI R (PySem.W.view R.prog [0, 56]) hk ob 12000 loose w := SupX.run_split (P := fun w => HandSHeadRun.RunEqI R (PySem.W.view R.prog [0, 56]) hk ob 12000 loose w) (fun w b => by
  cases b
  · exact SupX.run_parts (r := R) (run0f w) (runAf w) (SupX.DefEq.app (runBf w) (runCf w))
  · exact SupX.run_parts (r := R) (run0t w) (runAt w) (SupX.DefEq.app (runBt w) (runCt w))) w
end Lk14
end
section
set_option Elab.async false
set_option linter.all false
set_option maxRecDepth 100000
set_option maxHeartbeats 2000000
namespace PM
open PySem L2
theorem str_inj (a b : String) : (Str.ofString a = Str.ofString b) = (a = b) := by
  refine propext ⟨fun h => ?_, fun h => by rw [h]⟩
  rw [Str.ofString_eq_toList, Str.ofString_eq_toList] at h
  injection h with h
  have h := congrArg Array.toList h
  simp only [] at h
  have inj : ∀ l m : List Char, l.map Char.toNat = m.map Char.toNat → l = m := by
    intro l
    induction l with
    | nil => intro m h; cases m <;> simp_all
    | cons c l ih =>
      intro m h
      cases m with
      | nil => simp at h
      | cons d m =>
        simp only [List.map_cons, List.cons.injEq] at h
        rw [ih m h.2]
        have : c = d := Char.ext (UInt32.toNat_inj.mp h.1)
        rw [this]
  exact String.toList_inj.mp (inj _ _ h)
@[simp] theorem str_inj' (a b : String) : (Str.ofString a = Str.ofString b) ↔ (a = b) := by rw [str_inj]
@[simp] theorem str_ok (a : String) : PyData.strOk (Str.ofString a) = true := by
  unfold PyData.strOk
  rw [Str.ofString_eq_toList]
  simp only [Array.all_eq_true_iff_forall_mem, decide_eq_true_eq]
  intro n hn
  simp only [List.mem_toArray, List.mem_map] at hn
  obtain ⟨c, _, rfl⟩ := hn
  have := c.valid
  have h2 : c.toNat < 0x110000 := by
    rcases this with h | h
    · have : c.val.toNat < 0xd800 := h
      show c.val.toNat < _
      omega
    · exact h.2
  exact h2
def SO.andThen (o : SO) (k : Stm) : SO := match o with
  | .nx e S => k e S
  | o => o
@[simp] theorem andThen_nx (e : Env) (S : Sto) (k : Stm) : (SO.nx e S).andThen k = k e S := rfl
@[simp] theorem andThen_rt (d : D) (S : Sto) (k : Stm) : (SO.rt d S).andThen k = .rt d S := rfl
@[simp] theorem andThen_er (x : Er) (e : Env) (S : Sto) (k : Stm) : (SO.er x e S).andThen k = .er x e S := rfl
@[simp] theorem andThen_bk (e : Env) (S : Sto) (k : Stm) : (SO.bk e S).andThen k = .bk e S := rfl
@[simp] theorem andThen_ct (e : Env) (S : Sto) (k : Stm) : (SO.ct e S).andThen k = .ct e S := rfl
def Out.stm {α : Type} (o : Out α) (e : Env) (k : α → Stm) : SO := match o with
  | .ok a S' => k a e S'
  | .er x S' => .er x e S'
  | .no => .no
@[simp] theorem stm_ok {α : Type} (a : α) (S : Sto) (e : Env) (k : α → Stm) : (Out.ok a S).stm e k = k a e S := rfl
@[simp] theorem stm_er {α : Type} (x : Er) (S : Sto) (e : Env) (k : α → Stm) : (Out.er x S : Out α).stm e k = .er x e S := rfl
@[simp] theorem startE_ap (n m : Nat) (ds : List D) : startE n m ds = ⟨ds.map some ++ List.replicate (m - n) none, none⟩ := rfl
@[simp] theorem runFn_ap (n m : Nat) (b : Stm) (ds : List D) (S : Sto) : runFn n m b ds S = if ds.length = n then toOut (b (startE n m ds) S) else .no := rfl
@[simp] theorem toOut_nx (e : Env) (S : Sto) : toOut (.nx e S) = .ok .non S := rfl
@[simp] theorem toOut_rt (d : D) (S : Sto) : toOut (.rt d S) = .ok d S := rfl
@[simp] theorem toOut_er (x : Er) (e : Env) (S : Sto) : toOut (.er x e S) = .er x S := rfl
@[simp] theorem sSeq_ap (a b : Stm) (e : Env) (S : Sto) : sSeq a b e S = (a e S).andThen b := rfl
@[simp] theorem sE_ap {α : Type} (m : Env → M α) (k : α → Stm) (e : Env) (S : Sto) : sE m k e S = (m e S).stm e k := rfl
@[simp] theorem sNext_ap (e : Env) (S : Sto) : sNext e S = .nx e S := rfl
@[simp] theorem sBk_ap (e : Env) (S : Sto) : sBk e S = .bk e S := rfl
@[simp] theorem sCt_ap (e : Env) (S : Sto) : sCt e S = .ct e S := rfl
@[simp] theorem sRetN_ap (e : Env) (S : Sto) : sRetN e S = .rt .non S := rfl
@[simp] theorem sDrop_ap (m : Env → M D) (e : Env) (S : Sto) : sDrop m e S = (m e S).stm e fun _ e S => .nx e S := rfl
@[simp] theorem sRet_ap (m : Env → M D) (e : Env) (S : Sto) : sRet m e S = (m e S).stm e fun d _ S => .rt d S := rfl
@[simp] theorem sIf_ap (t : Env → M Bool) (a b : Stm) (e : Env) (S : Sto) : sIf t a b e S = (t e S).stm e fun k => if k then a else b := rfl
def oNx (o : Option Env) (S : Sto) : SO := match o with
  | some e' => .nx e' S
  | none => .no
@[simp] theorem oNx_some (e : Env) (S : Sto) : oNx (some e) S = .nx e S := rfl
@[simp] theorem sAsg_ap (m : Env → M D) (f : D → Env → Option Env) (e : Env) (S : Sto) : sAsg m f e S = (m e S).stm e fun d e S => oNx (f d e) S := rfl
@[simp] theorem sPar_ap (i j : Nat) (m : Env → M (List D)) (e : Env) (S : Sto) : sPar i j m e S = (m e S).stm e fun ds e S => match ds with
  | [x, y] => .nx (setE j y (setE i x e)) S
  | _ => .no := rfl
@[simp] theorem sRaise0_ap (c : Str) (e : Env) (S : Sto) : sRaise0 c e S = .er ⟨c, none⟩ e S := rfl
@[simp] theorem sRaise1_ap (c f : Str) (m : Env → M D) (e : Env) (S : Sto) : sRaise1 c f m e S = (m e S).stm e fun d e S => .er ⟨c, some (f, d)⟩ e S := rfl
@[simp] theorem sAug_ap (i : Nat) (m : Env → M D) (e : Env) (S : Sto) : sAug i m e S = ((eVar i e S).then fun d => dInt1 d).stm e fun x => sE (fun e => bind (m e) dInt1) fun y e S => .nx (setE i (.int (x + y)) e) S := rfl
@[simp] theorem dInt1_int (i : Int) : dInt1 (.int i) = ret i := rfl
@[simp] theorem sSet_ap (m mo mi : Env → M D) (e : Env) (S : Sto) : sSet m mo mi e S = (m e S).stm e fun d => sE mo fun o => sE mi fun i => sE (fun _ => dSet o i d) fun _ e S => .nx e S := rfl
@[simp] theorem sSet2_ap (m mo mi mp mj : Env → M D) (e : Env) (S : Sto) : sSet2 m mo mi mp mj e S = (m e S).stm e fun d => sE mo fun o => sE mi fun i => sE (fun _ => dSet o i d) fun _ => sE mp fun p => sE mj fun j => sE (fun _ => dSet p j d) fun _ e S => .nx e S := rfl
@[simp] theorem sAugS_ap (mo mi m : Env → M D) (e : Env) (S : Sto) : sAugS mo mi m e S = (mo e S).stm e fun o => sE mi fun i => sE (fun _ => dIxC o i) fun x => sE (fun e => bind (m e) dInt1) fun y => sE (fun _ => dSet o i (.int (x + y))) fun _ e S => .nx e S := rfl
@[simp] theorem sFldP_ap (cs : List Str) (f : Str) (m mo : Env → M D) (e : Env) (S : Sto) : sFldP cs f m mo e S = (m e S).stm e fun d => sE mo fun o => sE (fun _ => dPut cs f o d) fun _ e S => .nx e S := rfl
@[simp] theorem gN_ap (i : Nat) (d : D) (e : Env) : gN i d e = some (setE i d e) := rfl
@[simp] theorem setE_ap (i : Nat) (d : D) (l : List (Option D)) : setE i d ⟨l, none⟩ = ⟨l.set i (some d), none⟩ := rfl
@[simp] theorem gT_ap (n : Nat) (g : List D → Env → Option Env) (ds : List D) (e : Env) : gT n g (.tup ds) e = if ds.length = n then g ds e else none := rfl
@[simp] theorem gC_ap (f : D → Env → Option Env) (g : List D → Env → Option Env) (d : D) (ds : List D) (e : Env) : gC f g (d :: ds) e = (f d e).bind (g ds) := rfl
@[simp] theorem gN0_ap (e : Env) : gN0 [] e = some e := rfl
@[simp] theorem eVar_ap (i : Nat) (l : List (Option D)) (x : Option (Nat × Er)) : eVar i ⟨l, x⟩ = match l[i]? with
  | some (some d) => ret d
  | _ => stuck := rfl
@[simp] theorem eC_ap (d : D) (e : Env) : eC d e = ret d := rfl
@[simp] theorem e2_ap (g : D → D → M D) (a b : Env → M D) (e : Env) : e2 g a b e = bind (a e) fun x => bind (b e) fun y => g x y := rfl
@[simp] theorem e1_ap (g : D → M D) (a : Env → M D) (e : Env) : e1 g a e = bind (a e) g := rfl
@[simp] theorem aNil_ap (e : Env) : aNil e = ret [] := rfl
@[simp] theorem aCons_ap (a : Env → M D) (r : Env → M (List D)) (e : Env) : aCons a r e = bind (a e) fun d => bind (r e) fun ds => ret (d :: ds) := rfl
@[simp] theorem aStar_ap (a : Env → M D) (r : Env → M (List D)) (e : Env) : aStar a r e = bind (a e) fun d => fun S => match rdQ S d with
  | some xs => (bind (r e) fun ds => ret (xs ++ ds)) S
  | none => .no := rfl
@[simp] theorem eA_ap (g : List D → M D) (a : Env → M (List D)) (e : Env) : eA g a e = bind (a e) g := rfl
@[simp] theorem eA0_ap (g : List D → M D) (e : Env) (S : Sto) : eA0 g e S = noE (g [] S) := rfl
@[simp] theorem tOf_ap (a : Env → M D) (e : Env) : tOf a e = bind (a e) dBool := rfl
@[simp] theorem tTruth_ap (a : Env → M D) (e : Env) : tTruth a e = bind (a e) dTruth := rfl
@[simp] theorem dTruth_lst (ds : List D) (S : Sto) : dTruth (.lst ds) S = .ok (!ds.isEmpty) S := rfl
@[simp] theorem dTruth_tup (ds : List D) (S : Sto) : dTruth (.tup ds) S = .ok (!ds.isEmpty) S := rfl
@[simp] theorem dTruth_int (i : Int) (S : Sto) : dTruth (.int i) S = .ok (i != 0) S := rfl
@[simp] theorem dTruth_bl (i : Bool) (S : Sto) : dTruth (.bl i) S = .ok i S := rfl
@[simp] theorem dTruth_non (S : Sto) : dTruth .non S = .ok false S := rfl
@[simp] theorem dBool_bl (b : Bool) : dBool (.bl b) = ret b := rfl
@[simp] theorem tNotP_ap (a : Env → M Bool) (e : Env) : tNotP a e = bind (a e) fun b => ret (!b) := rfl
@[simp] theorem tAndP_ap (a b : Env → M Bool) (e : Env) : tAndP a b e = bind (a e) fun x => if x then b e else ret false := rfl
@[simp] theorem tOrP_ap (a b : Env → M Bool) (e : Env) : tOrP a b e = bind (a e) fun x => if x then ret true else b e := rfl
@[simp] theorem eIf_ap (t : Env → M Bool) (a b : Env → M D) (e : Env) : eIf t a b e = bind (t e) fun x => if x then a e else b e := rfl
@[simp] theorem eAnd_ap (a b : Env → M D) (e : Env) : eAnd a b e = bind (a e) fun x => bind (dBool x) fun c => if c then b e else ret (.bl false) := rfl
@[simp] theorem eOr_ap (a b : Env → M D) (e : Env) : eOr a b e = bind (a e) fun x => bind (dBool x) fun c => if c then ret (.bl true) else b e := rfl
@[simp] theorem eNot_ap (a : Env → M D) (e : Env) : eNot a e = bind (a e) fun x => bind (dBool x) fun c => ret (.bl (!c)) := rfl
@[simp] theorem eChain_ap (g g' : D → D → M D) (a b c : Env → M D) (e : Env) : eChain g g' a b c e = bind (a e) fun x => bind (b e) fun y => bind (g x y) fun z => bind (dBool z) fun k => if k then bind (c e) fun u => g' y u else ret (.bl false) := rfl
@[simp] theorem oNone_ap (e : Env) : oNone e = ret none := rfl
@[simp] theorem oSome_ap (a : Env → M D) (e : Env) : oSome a e = bind (a e) fun d => match d with
  | .int i => ret (some i)
  | _ => stuck := rfl
@[simp] theorem eSl_ap (a : Env → M D) (lo hi : Env → M (Option Int)) (e : Env) : eSl a lo hi e = bind (a e) fun x => bind (lo e) fun l => bind (hi e) fun h => dSl x l h := rfl
@[simp] theorem if_ap {α : Type} (c : Prop) [Decidable c] (m n : M α) (S : Sto) : (if c then m else n) S = if c then m S else n S := by split <;> rfl
@[simp] theorem ifS_ap (c : Prop) [Decidable c] (m n : Stm) (e : Env) (S : Sto) : (if c then m else n) e S = if c then m e S else n e S := by split <;> rfl
@[simp] theorem gd_ap {α : Type} (c : Prop) [Decidable c] (m : M α) (S : Sto) : gd c m S = if c then m S else .no := by unfold gd; split <;> rfl
@[simp] theorem orM_ap {α : Type} (x y : Env → M α) (e : Env) (S : Sto) : orM x y e S = match x e S with
  | .no => y e S
  | o => o := rfl
@[simp] theorem dAdd_ii (i j : Int) : dAdd (.int i) (.int j) = ret (.int (i + j)) := rfl
@[simp] theorem dAdd_tt (a b : List D) : dAdd (.tup a) (.tup b) = gd (a.length + b.length ≤ lim) (ret (.tup (a ++ b))) := rfl
@[simp] theorem dAdd_ll (a b : List D) : dAdd (.lst a) (.lst b) = gd (a.length + b.length ≤ lim) (ret (.lst (a ++ b))) := rfl
@[simp] theorem dSub_ii (i j : Int) : dSub (.int i) (.int j) = ret (.int (i - j)) := rfl
@[simp] theorem dMul_ii (i j : Int) : dMul (.int i) (.int j) = gd (i.natAbs.log2 + j.natAbs.log2 < 1000000) (ret (.int (i * j))) := rfl
@[simp] theorem dMul_li (a : List D) (k : Int) : dMul (.lst a) (.int k) = gd (-1000 ≤ k ∧ k ≤ 1000 ∧ a.length * k.toNat ≤ lim) (ret (.lst (List.replicate k.toNat a).flatten)) := rfl
@[simp] theorem dMul_ti (a : List D) (k : Int) : dMul (.tup a) (.int k) = gd (a.length ≠ 0 ∧ 1 ≤ k ∧ k ≤ 1000 ∧ a.length ≤ 1000) (ret (.tup (List.replicate k.toNat a).flatten)) := rfl
@[simp] theorem dDiv_ii (i j : Int) : dDiv (.int i) (.int j) = gd (0 < j ∧ j.natAbs.log2 < 9000) (ret (.int (i / j))) := rfl
@[simp] theorem dMod_ii (i j : Int) : dMod (.int i) (.int j) = gd (0 < j) (ret (.int (i % j))) := rfl
@[simp] theorem dPow_ii (i j : Int) : dPow (.int i) (.int j) = gd (0 ≤ j ∧ j ≤ 1000000 ∧ i.natAbs < 2 ^ 64) (ret (.int (i ^ j.toNat))) := rfl
@[simp] theorem dShl_ii (i j : Int) : dShl (.int i) (.int j) = gd (0 ≤ j ∧ (Builtin.Int.intBits i : Int) + j ≤ 2 ^ 27) (ret (.int (i * 2 ^ j.toNat))) := rfl
@[simp] theorem dShr_ii (i j : Int) : dShr (.int i) (.int j) = gd (0 ≤ j) (ret (.int (i / 2 ^ j.toNat))) := rfl
@[simp] theorem dNeg_i (i : Int) : dNeg (.int i) = ret (.int (-i)) := rfl
@[simp] theorem dLt_ii (i j : Int) : dLt (.int i) (.int j) = ret (.bl (decide (i < j))) := rfl
@[simp] theorem dLe_ii (i j : Int) : dLe (.int i) (.int j) = ret (.bl (decide (i ≤ j))) := rfl
@[simp] theorem dGt_ii (i j : Int) : dGt (.int i) (.int j) = ret (.bl (decide (j < i))) := rfl
@[simp] theorem dGe_ii (i j : Int) : dGe (.int i) (.int j) = ret (.bl (decide (j ≤ i))) := rfl
@[simp] theorem dIsN_ap (neg : Bool) (d : D) : dIsN neg d .non = ret (.bl (neg != d.isNon)) := by cases d <;> rfl
@[simp] theorem isNon_non : D.isNon .non = true := rfl
@[simp] theorem isNon_int (i : Int) : D.isNon (.int i) = false := rfl
@[simp] theorem isNon_tup (i : List D) : D.isNon (.tup i) = false := rfl
@[simp] theorem isNon_lst (i : List D) : D.isNon (.lst i) = false := rfl
@[simp] theorem isNon_obj (c : Str) (i : List (Str × D)) : D.isNon (.obj c i) = false := rfl
@[simp] theorem dTup_ap (ds : List D) : dTup ds = gd (ds.length ≤ lim) (ret (.tup ds)) := rfl
@[simp] theorem dLst_ap (ds : List D) : dLst ds = gd (ds.length ≤ lim) (ret (.lst ds)) := rfl
@[simp] theorem dNew_ap (ds : List D) (S : Sto) : dNew ds S = if ds.length ≤ lim then .ok (.ptr S.length) (S ++ [.lst ds]) else .no := rfl
@[simp] theorem rdQ_tup (S : Sto) (ds : List D) : rdQ S (.tup ds) = some ds := rfl
@[simp] theorem rdQ_lst (S : Sto) (ds : List D) : rdQ S (.lst ds) = some ds := rfl
@[simp] theorem rdQ_scr (S : Sto) (ns : List Int) : rdQ S (.scr ns) = some (ns.map .int) := rfl
@[simp] theorem rdQ_ptr (S : Sto) (n : Nat) : rdQ S (.ptr n) = match S[n]? with
  | some (.lst ds) => some ds
  | _ => none := rfl
@[simp] theorem rdL_lst (S : Sto) (ds : List D) : rdL S (.lst ds) = some ds := rfl
@[simp] theorem rdL_scr (S : Sto) (ns : List Int) : rdL S (.scr ns) = some (ns.map .int) := rfl
@[simp] theorem rdL_ptr (S : Sto) (n : Nat) : rdL S (.ptr n) = match S[n]? with
  | some (.lst ds) => some ds
  | _ => none := rfl
@[simp] theorem wQ_ap {α : Type} (x : D) (g : List D → M α) (S : Sto) : wQ x g S = match rdQ S x with
  | some ds => g ds S
  | none => .no := rfl
@[simp] theorem wL_ap {α : Type} (x : D) (g : List D → M α) (S : Sto) : wL x g S = match rdL S x with
  | some ds => g ds S
  | none => .no := rfl
@[simp] theorem dIx_ap (x : D) (i : Int) (S : Sto) : dIx x (.int i) S = match rdQ S x with
    | some ds => match atI ds i with
      | some d => .ok d S
      | none => .no
    | none => .no := rfl
theorem atI_get {α : Type} {xs : List α} {i : Nat} {a : α} (h : xs[i]? = some a) : atI xs (i : Int) = some a := by
  have hl := (List.getElem?_eq_some_iff.mp h).1
  unfold atI ixN
  rw [if_pos (by omega), if_pos (by omega)]
  simpa using h
theorem atI_pos {α : Type} {xs : List α} {i : Int} {a : α} (h0 : 0 ≤ i) (h : xs[i.toNat]? = some a) : atI xs i = some a := by
  have := atI_get h
  rwa [Int.toNat_of_nonneg h0] at this
@[simp] theorem atI_zero {α : Type} (x : α) (xs : List α) : atI (x :: xs) 0 = some x := by
  have := atI_get (xs := x :: xs) (i := 0) (a := x) rfl
  simpa using this
@[simp] theorem atI_one {α : Type} (x y : α) (xs : List α) : atI (x :: y :: xs) 1 = some y := by
  have := atI_get (xs := x :: y :: xs) (i := 1) (a := y) rfl
  simpa using this
@[simp] theorem atI_two {α : Type} (x y z : α) (xs : List α) : atI (x :: y :: z :: xs) 2 = some z := by
  have := atI_get (xs := x :: y :: z :: xs) (i := 2) (a := z) rfl
  simpa using this
@[simp] theorem atI_three {α : Type} (x y z u : α) (xs : List α) : atI (x :: y :: z :: u :: xs) 3 = some u := by
  have := atI_get (xs := x :: y :: z :: u :: xs) (i := 3) (a := u) rfl
  simpa using this
theorem log2_lt64 {n : Nat} (h : n < 18446744073709551616) : n.log2 < 64 := by
  by_cases z : n = 0
  · subst z
    decide
  · exact (Nat.log2_lt z).mpr h
@[simp] theorem log2_9000 {n : Nat} (h : n < 18446744073709551616) : (n.log2 < 9000) = True := eq_true (Nat.lt_trans (log2_lt64 h) (by decide))
@[simp] theorem log2_5999 {n : Nat} (h : n < 18446744073709551616) : (n.log2 < 5999) = True := eq_true (Nat.lt_trans (log2_lt64 h) (by decide))
@[simp] theorem log2_sum {a b : Nat} (ha : a < 18446744073709551616) (hb : b < 18446744073709551616) : (a.log2 + b.log2 < 1000000) = True := eq_true (by
  have h1 := log2_lt64 ha
  have h2 := log2_lt64 hb
  omega)
@[simp] theorem d1_ap (g : D → M D) (d : D) : d1 g [d] = g d := rfl
@[simp] theorem d2_ap (g : D → D → M D) (d e : D) : d2 g [d, e] = g d e := rfl
@[simp] theorem dLen_ap (x : D) : dLen x = wQ x fun ds => ret (.int ds.length) := rfl
@[simp] theorem dInt_int (i : Int) : dInt (.int i) = ret (.int i) := rfl
@[simp] theorem dInt_bl (b : Bool) : dInt (.bl b) = ret (.int (if b then 1 else 0)) := rfl
@[simp] theorem dAbs_int (i : Int) : dAbs (.int i) = ret (.int (if i < 0 then -i else i)) := rfl
@[simp] theorem dMin2_int (i j : Int) : dMin2 (.int i) (.int j) = ret (.int (if j < i then j else i)) := rfl
@[simp] theorem dMax2_int (i j : Int) : dMax2 (.int i) (.int j) = ret (.int (if j > i then j else i)) := rfl
@[simp] theorem dGcd_int (i j : Int) : dGcd (.int i) (.int j) = ret (.int ((Nat.gcd i.natAbs j.natAbs : Nat) : Int)) := rfl
@[simp] theorem dLcm_int (i j : Int) : dLcm (.int i) (.int j) = gd (0 ≤ i ∧ 0 ≤ j ∧ i.toNat.log2 < 5999 ∧ j.toNat.log2 < 5999) (ret (.int ((Nat.lcm i.toNat j.toNat : Nat) : Int))) := rfl
@[simp] theorem dTuple_tup (ds : List D) (S : Sto) : dTuple (.tup ds) S = .ok (.tup ds) S := rfl
@[simp] theorem dTuple_lst (ds : List D) (S : Sto) : dTuple (.lst ds) S = .ok (.tup ds) S := rfl
@[simp] theorem dTuple_ptr (n : Nat) (S : Sto) : dTuple (.ptr n) S = wL (.ptr n) (fun ds => ret (.tup ds)) S := rfl
@[simp] theorem dList_ap (x : D) : dList x = wQ x fun ds => ret (.lst ds) := rfl
@[simp] theorem dListC_ap (x : D) : dListC x = wQ x dNew := rfl
@[simp] theorem dRange_ap (i j : Int) : dRange (.int i) (.int j) = gd (-1000000 ≤ i ∧ i ≤ 1000000 ∧ -1000000 ≤ j ∧ j ≤ 1000000) (ret (.lst (rangeD i j))) := rfl
@[simp] theorem dLRev_ap (x : D) : dLRev x = wL x fun ds => ret (.lst ds.reverse) := rfl
@[simp] theorem dRev_ap (x : D) : dRev x = wL x fun ds => ret (.lst ds.reverse) := rfl
@[simp] theorem eMeth_ap (c m : Str) (g : List D → M D) (o : Env → M D) (r : Env → M (List D)) (e : Env) : eMeth c m g o r e = bind (o e) fun d => fun S => if insOf S c m d then (bind (r e) fun ds => g (d :: ds)) S else .no := rfl
@[simp] theorem eMeth0_ap (c m : Str) (g : List D → M D) (o : Env → M D) (e : Env) : eMeth0 c m g o e = bind (o e) fun d => fun S => if insOf S c m d then noE (g [d] S) else .no := rfl
@[simp] theorem eMethH_ap (c m : Str) (g : List D → M D) (dd : List D) (o : Env → M D) (r : Env → M (List D)) (e : Env) : eMethH c m g dd o r e = bind (o e) fun d => fun S => if insOf S c m d then (bind (r e) fun ds => fun S2 => noE (g (d :: (ds ++ dd)) S2)) S else .no := rfl
@[simp] theorem insOf_obj (S : Sto) (c m c' : Str) (fs : List (Str × D)) : insOf S c m (.obj c' fs) = (decide (c' = c) && (fs.lookup m).isNone) := rfl
@[simp] theorem insOf_ptr (S : Sto) (c m : Str) (n : Nat) : insOf S c m (.ptr n) = match S[n]? with
    | some (.obj c' fs) => decide (c' = c) && (fs.lookup m).isNone
    | _ => false := rfl
@[simp] theorem look_cons {f g : String} {d : D} {r : List (Str × D)} : (((Str.ofString g, d) :: r : List (Str × D)).lookup (Str.ofString f)) = if f = g then some d else r.lookup (Str.ofString f) := by
  rw [List.lookup_cons]
  by_cases h : f = g
  · subst h
    simp
  · rw [if_neg h]
    have : (Str.ofString f == Str.ofString g) = false := by
      simp [h]
    rw [this]
@[simp] theorem look_nil {f : Str} : (([] : List (Str × D)).lookup f) = none := rfl
@[simp] theorem dFldC_obj (cs : List Str) (f c : Str) (fs : List (Str × D)) (S : Sto) : dFldC cs f (.obj c fs) S = if cs.contains c then match fs.lookup f with
    | some d => .ok d S
    | none => .no else .no := rfl
@[simp] theorem dFldC_ptr (cs : List Str) (f : Str) (n : Nat) (S : Sto) : dFldC cs f (.ptr n) S = match S[n]? with
    | some (.obj c fs) => if cs.contains c then match fs.lookup f with
      | some d => .ok d S
      | none => .no else .no
    | _ => .no := rfl
@[simp] theorem dPut_ap (cs : List Str) (f : Str) (n : Nat) (v : D) (S : Sto) : dPut cs f (.ptr n) v S = match S[n]? with
    | some (.obj c fs) => gd (cs.contains c = true ∧ fs.length < 1000) (fun S => .ok .non (S.set n (.obj c (putD f v fs)))) S
    | _ => .no := rfl
@[simp] theorem putD_cons {f g : String} {v x : D} {r : List (Str × D)} : putD (Str.ofString f) v ((Str.ofString g, x) :: r) = if g = f then (Str.ofString g, v) :: r else (Str.ofString g, x) :: putD (Str.ofString f) v r := by
  show (if Str.ofString g = Str.ofString f then _ else _) = _
  simp only [str_inj]
@[simp] theorem putD_nil {f : Str} {v : D} : putD f v [] = [(f, v)] := rfl
theorem mkObj_ap (keep : Bool) (c : Str) (g : List D → M D) (ds : List D) (S : Sto) : mkObj keep c g ds S = match g (.ptr S.length :: ds) (S ++ [.obj c []]) with
  | .ok .non S' => match S'[S.length]? with
    | some (.obj c' fs) => if keep then .ok (.ptr S.length) S' else .ok (.obj c' fs) (S'.set S.length .dead)
    | _ => .no
  | .er x S' => .er x S'
  | _ => .no := rfl
@[simp] theorem asBools_comp {α : Type} (f : α → Bool) (xs : List α) : asBools (xs.map (D.bl ∘ f)) = some (xs.map f) := by
  rw [← List.map_map]
  exact bools_map _
@[simp] theorem asBools_fun {α : Type} (f : α → Bool) (xs : List α) : asBools (xs.map fun a => D.bl (f a)) = some (xs.map f) := asBools_comp f xs
@[simp] theorem asInts_comp {α : Type} (f : α → Int) (xs : List α) : asInts (xs.map (D.int ∘ f)) = some (xs.map f) := by
  rw [← List.map_map]
  exact asInts_map _
@[simp] theorem asInts_fun {α : Type} (f : α → Int) (xs : List α) : asInts (xs.map fun a => D.int (f a)) = some (xs.map f) := asInts_comp f xs
@[simp] theorem asBools_rep (n : Nat) (b : Bool) : asBools (List.replicate n (D.bl b)) = some (List.replicate n b) := by
  rw [← List.map_replicate, bools_map]
@[simp] theorem asInts_rep (n : Nat) (b : Int) : asInts (List.replicate n (D.int b)) = some (List.replicate n b) := by
  rw [← List.map_replicate, asInts_map]
theorem dIs_ap (own : List Str) (ts : List Ty) (x : D) (S : Sto) {k : Ty} (h : kindOf S x = some k) (hk : okK own k = true) : dIs own sameC ts x S = .ok (.bl (ts.any (isK sameC k))) S := by
  unfold dIs
  rw [h]
  simp [hk]
@[simp] theorem dEq_ii (neg : Bool) (i j : Int) (S : Sto) : dEq neg (.int i) (.int j) S = .ok (.bl (neg != decide (i = j))) S := by
  unfold dEq
  simp [rdD, D.okD, D.py, PyData.eqv]
  by_cases h : i = j <;> simp [h]
@[simp] theorem dEq_ss (neg : Bool) (a b : String) (S : Sto) : dEq neg (.str a) (.str b) S = .ok (.bl (neg != decide (a = b))) S := by
  unfold dEq
  simp [rdD, D.okD, D.py, PyData.eqv]
  by_cases h : a = b <;> simp [h]
@[simp] theorem dEq_bb (neg : Bool) (i j : Bool) (S : Sto) : dEq neg (.bl i) (.bl j) S = .ok (.bl (neg != decide (i = j))) S := by
  unfold dEq
  simp [rdD, D.okD, D.py, PyData.eqv]
  cases i <;> cases j <;> rfl
instance : DecidableEq D := fun a b => if h : D.same a b = true then .isTrue (same_eq h) else .isFalse fun e => h (e ▸ same_refl a)
mutual
/-- numbers, texts, None, and groups of these -/
def D.pl : D → Bool
  | .non => true
  | .int _ => true
  | .str _ => true
  | .tup ds => D.pls ds
  | .lst ds => D.pls ds
  | _ => false
def D.pls : List D → Bool
  | [] => true
  | d :: ds => D.pl d && D.pls ds
end
theorem pls_all : ∀ ds : List D, D.pls ds = ds.all D.pl
  | [] => rfl
  | d :: ds => by
    show (D.pl d && D.pls ds) = _
    rw [pls_all ds]
    rfl
mutual
theorem eqv_pl : ∀ a b : D, a.pl = true → b.pl = true → PyData.eqv a.py b.py = decide (a = b)
  | .non, b, _, h => by cases b <;> simp_all [D.pl, D.py, PyData.eqv]
  | .int i, b, _, h => by
    cases b with
    | int j =>
      simp only [D.py, PyData.eqv, D.int.injEq]
      by_cases e : i = j <;> simp [e]
    | _ => simp_all [D.pl, D.py, PyData.eqv]
  | .str i, b, _, h => by
    cases b with
    | str j =>
      simp only [D.py, PyData.eqv, D.str.injEq]
      by_cases e : i = j <;> simp [e]
    | _ => simp_all [D.pl, D.py, PyData.eqv]
  | .tup xs, b, h1, h => by
    cases b with
    | tup ys =>
      simp only [D.py, PyData.eqv, D.tup.injEq]
      exact eqvs_pl xs ys h1 h
    | _ => simp_all [D.pl, D.py, PyData.eqv]
  | .lst xs, b, h1, h => by
    cases b with
    | lst ys =>
      simp only [D.py, PyData.eqv, D.lst.injEq]
      exact eqvs_pl xs ys h1 h
    | _ => simp_all [D.pl, D.py, PyData.eqv]
  | .bl _, _, h, _ => by cases h
  | .obj _ _, _, h, _ => by cases h
  | .ptr _, _, h, _ => by cases h
  | .scr _, _, h, _ => by cases h
theorem eqvs_pl : ∀ xs ys : List D, D.pls xs = true → D.pls ys = true → PyData.eqvAll (D.pys xs) (D.pys ys) = decide (xs = ys)
  | [], [], _, _ => rfl
  | [], y :: ys, _, _ => rfl
  | x :: xs, [], _, _ => rfl
  | x :: xs, y :: ys, h1, h2 => by
    obtain ⟨a1, a2⟩ := Bool.and_eq_true_iff.mp h1
    obtain ⟨b1, b2⟩ := Bool.and_eq_true_iff.mp h2
    show (PyData.eqv x.py y.py && PyData.eqvAll (D.pys xs) (D.pys ys)) = _
    rw [eqv_pl x y a1 b1, eqvs_pl xs ys a2 b2]
    simp [Bool.decide_and]
end
/-- plain and not deep -/
def D.fit (n : Nat) (d : D) : Bool := d.pl && d.okD n
@[simp] theorem fit_int (n : Nat) (i : Int) : D.fit n (.int i) = true := by cases n <;> rfl
@[simp] theorem fit_non (n : Nat) : D.fit n .non = true := by cases n <;> rfl
@[simp] theorem fit_str (n : Nat) (a : String) : D.fit n (.str a) = true := by
  unfold D.fit
  cases n <;> simp [D.pl, D.okD]
@[simp] theorem fit_tup (n : Nat) (ds : List D) : D.fit (n + 1) (.tup ds) = ds.all (D.fit n) := by
  unfold D.fit
  show (D.pls ds && ds.all (D.okD n)) = _
  rw [pls_all]
  induction ds with
  | nil => rfl
  | cons d ds ih =>
    simp only [List.all_cons]
    rw [← ih]
    cases d.pl <;> cases d.okD n <;> simp
@[simp] theorem fit_lst (n : Nat) (ds : List D) : D.fit (n + 1) (.lst ds) = ds.all (D.fit n) := by
  rw [← fit_tup]
  rfl
theorem fit_ok {d : D} (h : d.fit 12 = true) : d.pl = true ∧ d.okD 12 = true := Bool.and_eq_true_iff.mp h
theorem rdD_pl {d : D} (h : d.pl = true) (S : Sto) : rdD S d = d := by cases d <;> first | rfl | cases h
theorem dEq_fit (neg : Bool) {a b : D} (S : Sto) (ha : a.fit 12 = true) (hb : b.fit 12 = true) : dEq neg a b S = .ok (.bl (neg != decide (a = b))) S := by
  obtain ⟨a1, a2⟩ := fit_ok ha
  obtain ⟨b1, b2⟩ := fit_ok hb
  unfold dEq
  rw [rdD_pl a1, rdD_pl b1, eqv_pl _ _ a1 b1]
  simp [a2, b2]
theorem dIn_tup (neg : Bool) {a : D} {ds : List D} (S : Sto) (hn : neg = false) (ha : a.fit 12 = true) (hb : (D.tup ds).fit 12 = true) : dIn neg a (.tup ds) S = .ok (.bl (decide (a ∈ ds))) S := by
  obtain ⟨a1, a2⟩ := fit_ok ha
  obtain ⟨b1, b2⟩ := fit_ok hb
  unfold dIn
  show gd _ _ S = _
  rw [rdD_pl a1]
  simp only [gd_ap]
  rw [if_pos ⟨hn, a2, b2⟩]
  show Out.ok _ S = _
  congr 2
  have b1 : D.pls ds = true := b1
  rw [pls_all] at b1
  rw [pys_map, List.any_map]
  rw [Bool.eq_iff_iff, decide_eq_true_iff, List.any_eq_true]
  constructor
  · rintro ⟨z, hz, h⟩
    have h : PyData.eqv z.py a.py = true := h
    rw [eqv_pl z a (List.all_eq_true.mp b1 z hz) a1] at h
    rw [← of_decide_eq_true h]
    exact hz
  · intro h
    refine ⟨a, h, ?_⟩
    show PyData.eqv a.py a.py = true
    rw [eqv_pl a a a1 a1]
    exact decide_eq_true rfl
theorem dIn_lst (neg : Bool) {a : D} {ds : List D} (S : Sto) (ha : a.fit 12 = true) (hb : (D.lst ds).fit 12 = true) : dIn neg a (.lst ds) S = .ok (.bl (neg != decide (a ∈ ds))) S := by
  obtain ⟨a1, a2⟩ := fit_ok ha
  obtain ⟨b1, b2⟩ := fit_ok hb
  unfold dIn
  show gd _ _ S = _
  rw [rdD_pl a1]
  simp only [gd_ap]
  rw [if_pos ⟨a2, b2⟩]
  show Out.ok _ S = _
  congr 3
  have b1 : D.pls ds = true := b1
  rw [pls_all] at b1
  rw [pys_map, List.any_map]
  rw [Bool.eq_iff_iff, decide_eq_true_iff, List.any_eq_true]
  constructor
  · rintro ⟨z, hz, h⟩
    have h : PyData.eqv z.py a.py = true := h
    rw [eqv_pl z a (List.all_eq_true.mp b1 z hz) a1] at h
    rw [← of_decide_eq_true h]
    exact hz
  · intro h
    refine ⟨a, h, ?_⟩
    show PyData.eqv a.py a.py = true
    rw [eqv_pl a a a1 a1]
    exact decide_eq_true rfl
theorem dNotInF_lst {a : D} {ds : List D} (S : Sto) (ha : a.fit 12 = true) (hb : (D.lst ds).fit 12 = true) : dNotInF a (.lst ds) S = .ok (.bl (!decide (a ∈ ds))) S := by
  show dIn true a (.lst ds) S = _
  rw [dIn_lst true S ha hb]
  cases decide (a ∈ ds) <;> rfl
@[simp] theorem iSeq_ap (a : Env → M D) (e : Env) : iSeq a e = bind (a e) fun d => fun S => oM (itmOf S d) ret S := rfl
@[simp] theorem itmOf_tup (S : Sto) (ds : List D) : itmOf S (.tup ds) = some ⟨ds, []⟩ := rfl
@[simp] theorem itmOf_lst (S : Sto) (ds : List D) : itmOf S (.lst ds) = some ⟨ds, []⟩ := rfl
@[simp] theorem itmOf_scr (S : Sto) (ds : List Int) : itmOf S (.scr ds) = some ⟨ds.map .int, []⟩ := rfl
@[simp] theorem iNum_ap (a : Env → M D) (e : Env) : iNum a e = bind (iSeq a e) fun it => ret ⟨numD it.ds, it.src⟩ := rfl
@[simp] theorem iZip2_ap (a : Env → M (List D)) (e : Env) : iZip2 a e = bind (a e) fun ds => match ds with
  | [.tup xs, .tup ys] => ret ⟨zipD xs ys, []⟩
  | [x, y] => fun S => oM (rdS S x) (fun i => oM (rdS S y) (fun j => ret ⟨zipD i.ds j.ds, i.src ++ j.src⟩)) S
  | _ => stuck := rfl
@[simp] theorem iR1_ap (a : Env → M (List D)) (e : Env) : iR1 a e = bind (a e) fun ds => match ds with
  | [.int j] => gd (-1000000 ≤ j ∧ j ≤ 1000000) (ret ⟨rangeD 0 j, []⟩)
  | _ => stuck := rfl
@[simp] theorem iR2_ap (a : Env → M (List D)) (e : Env) : iR2 a e = bind (a e) fun ds => match ds with
  | [.int i, .int j] => gd (-1000000 ≤ i ∧ i ≤ 1000000 ∧ -1000000 ≤ j ∧ j ≤ 1000000) (ret ⟨rangeD i j, []⟩)
  | _ => stuck := rfl
/-- what a turn leaves: the invariant, or what is wished behind the loop -/
def Turn (I : Env → Sto → Prop) (G : SO → Prop) (o : SO) : Prop := match o with
  | .nx e2 S2 => I e2 S2
  | .ct e2 S2 => I e2 S2
  | .bk e2 S2 => G (.nx e2 S2)
  | .rt r S2 => G (.rt r S2)
  | .er x e2 S2 => G (.er x e2 S2)
  | .no => False
@[simp] theorem turn_nx (I : Env → Sto → Prop) (G : SO → Prop) (e : Env) (S : Sto) : Turn I G (.nx e S) = I e S := rfl
@[simp] theorem turn_ct (I : Env → Sto → Prop) (G : SO → Prop) (e : Env) (S : Sto) : Turn I G (.ct e S) = I e S := rfl
@[simp] theorem turn_bk (I : Env → Sto → Prop) (G : SO → Prop) (e : Env) (S : Sto) : Turn I G (.bk e S) = G (.nx e S) := rfl
@[simp] theorem turn_rt (I : Env → Sto → Prop) (G : SO → Prop) (d : D) (S : Sto) : Turn I G (.rt d S) = G (.rt d S) := rfl
@[simp] theorem turn_er (I : Env → Sto → Prop) (G : SO → Prop) (x : Er) (e : Env) (S : Sto) : Turn I G (.er x e S) = G (.er x e S) := rfl
@[simp] theorem turn_no (I : Env → Sto → Prop) (G : SO → Prop) : Turn I G .no = False := rfl
/-- a loop: what stays true, what is wished behind it -/
theorem forGo_rule {src : List (Nat × List D)} {tg : D → Env → Option Env} {body : Stm} {ds : List D} {G : SO → Prop} {e : Env} {S : Sto} (I : Nat → Env → Sto → Prop) (h0 : I 0 e S)
    (hs : ∀ (i : Nat) (d : D) (e : Env) (S : Sto), ds[i]? = some d → I i e S → okSrc src S = true ∧ ∃ e1, tg d e = some e1 ∧ Turn (I (i + 1)) G (body e1 S))
    (hd : ∀ (e : Env) (S : Sto), I ds.length e S → okSrc src S = true ∧ G (.nx e S)) : G (forGo src tg body ds e S) := by
  induction ds generalizing e S I with
  | nil =>
    obtain ⟨a, b⟩ := hd e S h0
    unfold forGo
    rw [if_pos a]
    exact b
  | cons d ds ih =>
    obtain ⟨ok, e1, h1, h2⟩ := hs 0 d e S rfl h0
    unfold forGo
    rw [if_pos ok, h1]
    simp only
    cases q : body e1 S with
    | nx e2 S2 =>
      rw [q] at h2
      exact ih (I := fun i => I (i + 1)) h2 (fun i d e S hi hI => hs (i + 1) d e S (by simpa using hi) hI) fun e S h => hd e S (by simpa using h)
    | ct e2 S2 =>
      rw [q] at h2
      exact ih (I := fun i => I (i + 1)) h2 (fun i d e S hi hI => hs (i + 1) d e S (by simpa using hi) hI) fun e S h => hd e S (by simpa using h)
    | bk e2 S2 =>
      rw [q] at h2
      exact h2
    | rt r S2 =>
      rw [q] at h2
      exact h2
    | er x e2 S2 =>
      rw [q] at h2
      exact h2
    | no =>
      rw [q] at h2
      exact h2.elim
@[simp] theorem sFor_ap (it : Env → M Itm) (tg : D → Env → Option Env) (body : Stm) (e : Env) (S : Sto) : sFor it tg body e S = (it e S).stm e fun I => forGo I.src tg body I.ds := rfl
@[simp] theorem eLc_ap (keep : Bool) (it : Env → M Itm) (vs : List Nat) (tg : D → Env → Option Env) (t : Env → M Bool) (m : Env → M D) (e : Env) (S : Sto) : eLc keep it vs tg t m e S = ((it e S).then fun I => gd (I.ds.length ≤ lim) (bind (noEM (lcGo I.src tg t m (wipeE e vs) I.ds)) (if keep then fCell else fLst))) := rfl
@[simp] theorem fLst_ap (ds : List D) (S : Sto) : fLst ds S = .ok (.lst ds) S := rfl
@[simp] theorem fCell_ap (ds : List D) (S : Sto) : fCell ds S = .ok (.ptr S.length) (S ++ [.lst ds]) := rfl
@[simp] theorem noEM_ap {α : Type} (m : M α) (S : Sto) : noEM m S = noE (m S) := rfl
@[simp] theorem tYes_ap (e : Env) : tYesP e = ret true := rfl
/-- a comprehension that only looks -/
theorem lcGo_map {α : Type} {tg : D → Env → Option Env} {t : Env → M Bool} {m : Env → M D} {e0 : Env} {S : Sto} (enc : α → D) (b : α → Bool) (f : α → D) : ∀ (xs : List α), (∀ x ∈ xs, ∃ e1, tg (enc x) e0 = some e1 ∧ t e1 S = .ok (b x) S ∧ (b x = true → m e1 S = .ok (f x) S)) → lcGo [] tg t m e0 (xs.map enc) S = .ok ((xs.filter b).map f) S
  | [], _ => rfl
  | x :: xs, h => by
    obtain ⟨e1, h1, h2, h3⟩ := h x (by simp)
    have ih := lcGo_map enc b f xs fun y hy => h y (List.mem_cons_of_mem _ hy)
    rw [List.map_cons]
    show (oM (tg (enc x) e0) _ : M _) S = _
    rw [h1]
    show ((t e1 S).then _) = _
    rw [h2]
    show (if b x = true then _ else _ : M _) S = _
    cases hb : b x with
    | true =>
      simp only [if_true]
      show ((m e1 S).then _) = _
      rw [h3 hb]
      show ((lcGo [] tg t m e0 (xs.map enc) S).then _) = _
      rw [ih, List.filter_cons_of_pos hb]
      rfl
    | false =>
      rw [List.filter_cons_of_neg (by rw [hb]; decide)]
      simpa using ih
theorem lcGo_all {α : Type} {tg : D → Env → Option Env} {m : Env → M D} {e0 : Env} {S : Sto} (enc : α → D) (f : α → D) (xs : List α) (h : ∀ x ∈ xs, ∃ e1, tg (enc x) e0 = some e1 ∧ m e1 S = .ok (f x) S) : lcGo [] tg tYesP m e0 (xs.map enc) S = .ok (xs.map f) S := by
  have := lcGo_map (t := tYesP) enc (fun _ => true) f xs fun x hx => by
    obtain ⟨e1, h1, h2⟩ := h x hx
    exact ⟨e1, h1, rfl, fun _ => h2⟩
  rw [this, List.filter_eq_self.mpr (fun _ _ => rfl)]
theorem rangeD_map (i j : Int) : rangeD i j = ((List.range (j - i).toNat).map fun (k : Nat) => (i + k : Int)).map D.int := by
  unfold rangeD
  rw [List.map_map]
  rfl
/-- the whole numbers from i to below j -/
def rng (i j : Int) : List Int := (List.range (j - i).toNat).map fun (k : Nat) => (i + k : Int)
theorem rangeD_rng (i j : Int) : rangeD i j = (rng i j).map D.int := rangeD_map i j
@[simp] theorem rng_length (i j : Int) : (rng i j).length = (j - i).toNat := by simp [rng]
theorem mem_rng {i j k : Int} : k ∈ rng i j ↔ i ≤ k ∧ k < j := by
  unfold rng
  simp only [List.mem_map, List.mem_range]
  constructor
  · rintro ⟨a, h, rfl⟩
    omega
  · intro h
    exact ⟨(k - i).toNat, by omega, by omega⟩
end PM
end
section
set_option Elab.async false
set_option linter.all false
set_option maxRecDepth 100000
set_option maxHeartbeats 4000000
namespace PM
open PySem PySem.Spec PyProof.Rows L2 Evl
section
variable {X : Cx} {C : Ct} {a b c : Expr} {pos : Pos}
def sPar3 (i j l : Nat) (m : Env → M (List D)) : Stm := sE m fun ds e S => match ds with
  | [x, y, z] => .nx (setE l z (setE j y (setE i x e))) S
  | _ => .no
theorem cs_par3 {i j l : Nat} {x y z : Str} {ta : TA} {m : Env → M (List D)} {px py pz pt : Pos} {kt k2 pt2} (hc : X.calm = true) (hN : X.N.Nodup) (hi : X.N[i]? = some x) (hj : X.N[j]? = some y) (hl : X.N[l]? = some z) (hij : i ≠ j) (hil : i ≠ l) (hjl : j ≠ l) (hx : X.env.scope.names.lookup x = some .local) (hy : X.env.scope.names.lookup y = some .local) (hz : X.env.scope.names.lookup z = some .local) (ha : CA X C [a, b, c] ta m)
    (hw : swappedStores [.Tuple [.Name x px, .Name y py, .Name z pz] kt pt] (.Tuple [a, b, c] k2 pt2) X.env = pure (some [x, y, z]))
    (hs : swapsWithSole [.Tuple [.Name x px, .Name y py, .Name z pz] kt pt] (.Tuple [a, b, c] k2 pt2) pos.line X.env = pure false := by rfl) : CS X C (.Assign [.Tuple [.Name x px, .Name y py, .Name z pz] kt pt] (.Tuple [a, b, c] k2 pt2) pos) (tPar3 i j l ta) (sPar3 i j l m) := ⟨fun y => ps_par3 hc hN hi hj hl hij hil hjl hx hy hz (ha.pa y) hw hs, fun En e σ w S H E R q => ha.sn e σ w S H _ E R ((sE_sat q).imp (fun ds S1 h1 w1 H1 vs l1 R1 rs => by
  cases rs with
  | nil => exact h1.elim
  | cons a1 rs =>
    cases rs with
    | nil => exact h1.elim
    | cons a2 rs =>
      cases rs with
      | nil => exact h1.elim
      | cons a3 rs =>
        cases rs with
        | cons _ _ => exact h1.elim
        | nil => exact ⟨_, _, _, rfl, h1 w1 H1 _ l1 R1 ((((E.up l1).set i a1).set j a2).set l a3)⟩) fun x s z => pxs_px E z)⟩
end
end PM
end
section
set_option Elab.async false
set_option linter.all false
set_option maxRecDepth 100000
set_option maxHeartbeats 4000000
namespace PM
open PySem PySem.Spec PyProof.Rows L2 Evl
end PM
end
section
set_option Elab.async false
set_option linter.all false
set_option maxRecDepth 100000
set_option maxHeartbeats 4000000
namespace PM
open PySem PySem.Spec PyProof.Rows L2 Evl
end PM
end
section
set_option Elab.async false
set_option linter.all false
set_option maxRecDepth 100000
set_option maxHeartbeats 4000000
namespace PM
open PySem PySem.Spec PyProof.Rows L2 Evl
section
variable {X : Cx} {C : Ct} {ta tb tc te : TE} {a b c tg : Expr} {ma mb mc : Env → M D} {pos : Pos}
def iRevS (a : Env → M D) (e : Env) : M Itm := bind (a e) fun d => fun S => oM (itmOf S d) (fun it => ret ⟨it.ds.reverse, it.src⟩) S
end
def valD (kvs : List (Key × D)) (k : Key) : Option D := (kvs.find? fun kv => decide (kv.1 = k)).map (·.2)
/-- x is True -/
def dIsB (neg : Bool) : D → D → M D
  | .bl a, .bl b => ret (.bl (neg != decide (a = b)))
  | _, _ => stuck
@[simp] theorem dIsB_bb (neg a b : Bool) : dIsB neg (.bl a) (.bl b) = ret (.bl (neg != decide (a = b))) := rfl
@[simp] theorem iRevS_ap (a : Env → M D) (e : Env) : iRevS a e = bind (a e) fun d => fun S => oM (itmOf S d) (fun it => ret ⟨it.ds.reverse, it.src⟩) S := rfl
end PM
end
section
set_option Elab.async false
set_option linter.all false
set_option maxRecDepth 100000
set_option maxHeartbeats 2000000
namespace PM
open PySem PySem.Spec PyProof.Rows L2 Evl
section
variable {X : Cx} {C : Ct} {pos : Pos}
def rBoolB : List V → Hp → VK → Prop := fun xs H Q => (∃ i, xs = [.int i] ∧ Q (.bl (i != 0)) H) ∨ ∃ k, xs = [.bl k] ∧ Q (.bl k) H
theorem boolB_of : CallR X (.type "bool") rBoolB := call_bool1
def dBoolB : D → M D
  | .int i => ret (.bl (i != 0))
  | .bl b => ret (.bl b)
  | _ => stuck
theorem calls_boolB {K : Kw} : CallS K rBoolB (d1 dBoolB) := calls1 fun w S H x d Q E R a h => by
  cases a with
  | int i => exact .inl ⟨i, rfl, h w H _ (Wd.le.refl w) R (.bl _)⟩
  | bl b => exact .inr ⟨b, rfl, h w H _ (Wd.le.refl w) R (.bl _)⟩
  | _ => exact h.elim
end
end PM
end
section
set_option Elab.async false
set_option linter.all false
set_option maxRecDepth 100000
namespace PM
open PySem L2
noncomputable def b_is_integer : Stm := (sRet (eAnd (e1 (dIs [] sameC [(.inl "int")]) (eVar 0)) (eNot (e1 (dIs [] sameC [(.inl "bool")]) (eVar 0)))))
noncomputable def m_is_integer : List D → M D := runFn 1 1 b_is_integer
end PM
end
section
set_option Elab.async false
set_option linter.all false
set_option maxRecDepth 100000
namespace PM
open PySem L2
noncomputable def b_Program___eq__ : Stm := (sRet (eAnd (e1 (dIs ["Program"] sameC [(.inr "Program")]) (eVar 1)) (e2 (dEq false) (e1 (dFldC ["Program"] "rounds") (eVar 0)) (e1 (dFldC ["Program"] "rounds") (eVar 1)))))
noncomputable def m_Program___eq__ : List D → M D := runFn 2 2 b_Program___eq__
noncomputable def b_openings : Stm := (sSeq (sAsg (eA dNew aNil) (gN 2)) (sSeq (sFor (iSeq (eVar 0)) (gN 3) (sIf (tOf (e2 (dEq false) (e2 dIx (eVar 3) (eC (.int 0))) (eC (.str "right")))) (sDrop (eBM dExtend (eVar 2) (aCons (e2 dRange (eC (.int 1)) (eVar 1)) aNil))) (sIf (tOf (e2 (dEq false) (e2 dIx (eVar 3) (eC (.int 0))) (eC (.str "left")))) (sDrop (eBM dExtend (eVar 2) (aCons (eA dRangeB (aCons (e2 dSub (eVar 1) (eC (.int 1))) (aCons (eC (.int 0)) (aCons (e1 dNeg (eC (.int 1))) aNil)))) aNil))) (sDrop (eBM dExtend (eVar 2) (aCons (eLc false (iR2 (aCons (eC (.int 1)) (aCons (eVar 1) aNil))) [4] (gN 4) (tOf (e2 (dEq false) (e2 dMod (eVar 4) (e2 dIx (eVar 3) (eC (.int 1)))) (e2 dIx (eVar 3) (eC (.int 2))))) (eVar 4)) aNil)))))) (sSeq (sFrz 2) (sRet (eVar 2)))))
noncomputable def m_openings : List D → M D := runFn 2 5 b_openings
noncomputable def b_is_round : Stm := (sSeq (sIf (tOf (e2 (dIn false) (eVar 0) (eA dTup (aCons (eA dTup (aCons (eC (.str "right")) aNil)) (aCons (eA dTup (aCons (eC (.str "left")) aNil)) aNil))))) (sRet (eC (.bl true))) sNext) (sSeq (sIf (tOrP (tNotP (tOf (e1 (dIs [] sameC [(.inl "tuple")]) (eVar 0)))) (tOrP (tOf (e2 (dEq true) (eA (d1 dLen) (aCons (eVar 0) aNil)) (eC (.int 3)))) (tOf (e2 (dEq true) (e2 dIx (eVar 0) (eC (.int 0))) (eC (.str "every")))))) (sRet (eC (.bl false))) sNext) (sSeq (sAsg (eSl (eVar 0) (oSome (eC (.int 1))) oNone) (gT 2 (gC (gN 1) (gC (gN 2) gN0)))) (sRet (eAnd (eA m_is_integer (aCons (eVar 1) aNil)) (eAnd (eA m_is_integer (aCons (eVar 2) aNil)) (eAnd (eChain dLe dLe (eC (.int 2)) (eVar 1) (eC (.int 4))) (eChain dLe dLt (eC (.int 0)) (eVar 2) (eVar 1)))))))))
noncomputable def m_is_round : List D → M D := runFn 1 3 b_is_round
noncomputable def b_check_rounds : Stm := (sSeq (sIf (tOrP (tNotP (tOf (e1 (dIs [] sameC [(.inl "list"), (.inl "tuple")]) (eVar 0)))) (tOf (e2 dGt (eA (d1 dLen) (aCons (eVar 0) aNil)) (eC (.int 12))))) (sRaise1 "BadProgram" "place" (eC .non)) sNext) (sFor (iNum (eVar 0)) (gT 2 (gC (gN 1) (gC (gN 2) gN0))) (sIf (tNotP (tOf (eA m_is_round (aCons (eVar 2) aNil)))) (sRaise1 "BadProgram" "place" (eVar 1)) sNext)))
noncomputable def m_check_rounds : List D → M D := runFn 1 3 b_check_rounds
noncomputable def b_Program___init__ : Stm := (sSeq (sDrop (eA m_check_rounds (aCons (eVar 1) aNil))) (sFldP ["Program"] "rounds" (eA (d1 dTuple) (aCons (eVar 1) aNil)) (eVar 0)))
noncomputable def m_Program___init__ : List D → M D := runFn 2 2 b_Program___init__
noncomputable def b_Program___len__ : Stm := (sRet (eA (d1 dLen) (aCons (e1 (dFldC ["Program"] "rounds") (eVar 0)) aNil)))
noncomputable def m_Program___len__ : List D → M D := runFn 1 1 b_Program___len__
noncomputable def b_Program___add__ : Stm := (sSeq (sIf (tNotP (tOf (e1 (dIs ["Program"] sameC [(.inr "Program")]) (eVar 1)))) sNo sNext) (sRet (eA (mkObj false "Program" m_Program___init__) (aCons (e2 dAdd (e1 (dFldC ["Program"] "rounds") (eVar 0)) (e1 (dFldC ["Program"] "rounds") (eVar 1))) aNil))))
noncomputable def m_Program___add__ : List D → M D := runFn 2 2 b_Program___add__
noncomputable def b_evened : Stm := (sSeq (sAsg (eA (d1 dListC) (aCons (eVar 1) aNil)) (gN 2)) (sSeq (sFor (iSeq (eA m_openings (aCons (eVar 0) (aCons (eA (d1 dLen) (aCons (eVar 2) aNil)) aNil)))) (gN 3) (sSet2 (e2 dShr (e2 dAdd (e2 dIx (eVar 2) (e2 dSub (eVar 3) (eC (.int 1)))) (e2 dIx (eVar 2) (eVar 3))) (eC (.int 1))) (eVar 2) (e2 dSub (eVar 3) (eC (.int 1))) (eVar 2) (eVar 3))) (sSeq (sFrz 2) (sRet (eVar 2)))))
noncomputable def m_evened : List D → M D := runFn 2 4 b_evened
noncomputable def b_halvings : Stm := (sRet (eA (d1 dSum) (aCons (eLc false (iSeq (eVar 0)) [2] (gN 2) tYesP (eIf (tOf (e2 (dIn false) (e2 dIx (eVar 2) (eC (.int 0))) (eA dTup (aCons (eC (.str "right")) (aCons (eC (.str "left")) aNil))))) (e2 dSub (eVar 1) (eC (.int 1))) (eC (.int 1)))) aNil)))
noncomputable def m_halvings : List D → M D := runFn 2 3 b_halvings
noncomputable def b_check_program : Stm := (sIf (tNotP (tOf (e1 (dIs ["Program"] sameC [(.inr "Program")]) (eVar 0)))) (sRaise1 "BadProgram" "place" (eC .non)) sNext)
noncomputable def m_check_program : List D → M D := runFn 1 1 b_check_program
noncomputable def b_figures : Stm := (sRet (e2 dBand (e2 dShr (eVar 0) (e2 dMul (eVar 1) (eVar 2))) (e2 dSub (e2 dShl (eC (.int 1)) (eVar 2)) (eC (.int 1)))))
noncomputable def m_figures : List D → M D := runFn 3 3 b_figures
noncomputable def b_first_apart : Stm := (sSeq (sFor (iR1 (aCons (eC (.int 16)) aNil)) (gN 4) (sFor (iR1 (aCons (eA (d1 dLen) (aCons (eVar 0) aNil)) aNil)) (gN 5) (sIf (tOf (e2 (dEq true) (eA m_figures (aCons (e2 dIx (eVar 0) (eVar 5)) (aCons (eVar 4) (aCons (eVar 3) aNil)))) (eA m_figures (aCons (e2 dIx (eVar 1) (eVar 5)) (aCons (eVar 4) (aCons (eVar 3) aNil)))))) (sRet (eA dTup (aCons (e2 dAdd (eVar 2) (eVar 4)) (aCons (eVar 5) aNil)))) sNext))) (sRet (eC .non)))
noncomputable def m_first_apart : List D → M D := runFn 4 6 b_first_apart
noncomputable def b_first_unlike : Stm := (sSeq (sAsg (eA (d2 dMax2) (aCons (eA m_halvings (aCons (e1 (dFldC ["Program"] "rounds") (eVar 0)) (aCons (eVar 2) aNil))) (aCons (eA m_halvings (aCons (e1 (dFldC ["Program"] "rounds") (eVar 1)) (aCons (eVar 2) aNil))) aNil))) (gN 3)) (sSeq (sAsg (e2 dAdd (eVar 3) (eC (.int 1))) (gN 4)) (sSeq (sFor (iR3 (aCons (eC (.int 0)) (aCons (eVar 2) (aCons (eC (.int 16)) aNil)))) (gN 5) (sSeq (sAsg (eLc true (iR1 (aCons (eVar 2) aNil)) [10] (gN 10) tYesP (eC (.int 0))) (gN 6)) (sSeq (sFor (iR1 (aCons (eA (d2 dMin2) (aCons (eC (.int 16)) (aCons (e2 dSub (eVar 2) (eVar 5)) aNil))) aNil)) (gN 7) (sSet (e2 dShl (eC (.int 1)) (e2 dAdd (eVar 3) (e2 dMul (eVar 7) (eVar 4)))) (eVar 6) (e2 dAdd (eVar 5) (eVar 7)))) (sSeq (sPar 8 9 (aCons (eA m_evened (aCons (e1 (dFldC ["Program"] "rounds") (eVar 0)) (aCons (eVar 6) aNil))) (aCons (eA m_evened (aCons (e1 (dFldC ["Program"] "rounds") (eVar 1)) (aCons (eVar 6) aNil))) aNil))) (sIf (tOf (e2 (dEq true) (eVar 8) (eVar 9))) (sRet (eA m_first_apart (aCons (eVar 8) (aCons (eVar 9) (aCons (eVar 5) (aCons (eVar 4) aNil)))))) sNext))))) (sRet (eC .non)))))
noncomputable def m_first_unlike : List D → M D := runFn 3 11 b_first_unlike
end PM
end
section
set_option Elab.async false
set_option linter.all false
set_option maxRecDepth 100000
namespace PM
open PySem L2
noncomputable def b_FirstUnlike___eq__ : Stm := (sRet (eAnd (e1 (dIs ["SameAlways", "FirstUnlike"] sameC [(.inr "FirstUnlike")]) (eVar 1)) (eAnd (e2 (dEq false) (e1 (dFldC ["FirstUnlike"] "many") (eVar 0)) (e1 (dFldC ["FirstUnlike"] "many") (eVar 1))) (eAnd (e2 (dEq false) (e1 (dFldC ["FirstUnlike"] "basin") (eVar 0)) (e1 (dFldC ["FirstUnlike"] "basin") (eVar 1))) (e2 (dEq false) (e1 (dFldC ["FirstUnlike"] "place") (eVar 0)) (e1 (dFldC ["FirstUnlike"] "place") (eVar 1)))))))
noncomputable def m_FirstUnlike___eq__ : List D → M D := runFn 2 2 b_FirstUnlike___eq__
noncomputable def b_SameAlways___eq__ : Stm := (sRet (eAnd (e1 (dIs ["SameAlways", "FirstUnlike"] sameC [(.inr "SameAlways")]) (eVar 1)) (e2 (dEq false) (e1 (dFldC ["SameAlways"] "most") (eVar 0)) (e1 (dFldC ["SameAlways"] "most") (eVar 1)))))
noncomputable def m_SameAlways___eq__ : List D → M D := runFn 2 2 b_SameAlways___eq__
noncomputable def b_SameAlways___init__ : Stm := (sFldP ["SameAlways"] "most" (eVar 1) (eVar 0))
noncomputable def m_SameAlways___init__ : List D → M D := runFn 2 2 b_SameAlways___init__
noncomputable def b_SameAlways___bool__ : Stm := (sRet (eC (.bl true)))
noncomputable def m_SameAlways___bool__ : List D → M D := runFn 1 1 b_SameAlways___bool__
noncomputable def b_FirstUnlike___init__ : Stm := (sSeq (sFldP ["FirstUnlike"] "many" (eVar 1) (eVar 0)) (sSeq (sFldP ["FirstUnlike"] "basin" (eVar 2) (eVar 0)) (sFldP ["FirstUnlike"] "place" (eVar 3) (eVar 0))))
noncomputable def m_FirstUnlike___init__ : List D → M D := runFn 4 4 b_FirstUnlike___init__
noncomputable def b_are_mixed : Stm := (sRet (eAnd (e2 (dIn false) (eA dTup (aCons (eC (.str "right")) aNil)) (eVar 0)) (e2 (dIn false) (eA dTup (aCons (eC (.str "left")) aNil)) (eVar 0))))
noncomputable def m_are_mixed : List D → M D := runFn 1 1 b_are_mixed
noncomputable def b_check_unmixed : Stm := (sIf (tOf (eA m_are_mixed (aCons (eVar 0) aNil))) (sRaise0 "Mixed") sNext)
noncomputable def m_check_unmixed : List D → M D := runFn 1 1 b_check_unmixed
noncomputable def b_check_pair : Stm := (sSeq (sDrop (eA m_check_program (aCons (eVar 0) aNil))) (sSeq (sDrop (eA m_check_program (aCons (eVar 1) aNil))) (sDrop (eA m_check_unmixed (aCons (e2 dAdd (e1 (dFldC ["Program"] "rounds") (eVar 0)) (e1 (dFldC ["Program"] "rounds") (eVar 1))) aNil)))))
noncomputable def m_check_pair : List D → M D := runFn 2 2 b_check_pair
noncomputable def b_common_step : Stm := (sSeq (sAsg (eC (.int 1)) (gN 2)) (sSeq (sFor (iSeq (e2 dAdd (e1 (dFldC ["Program"] "rounds") (eVar 0)) (e1 (dFldC ["Program"] "rounds") (eVar 1)))) (gN 3) (sIf (tOf (e2 (dEq false) (e2 dIx (eVar 3) (eC (.int 0))) (eC (.str "every")))) (sAsg (eA (d2 dLcm) (aCons (eVar 2) (aCons (e2 dIx (eVar 3) (eC (.int 1))) aNil))) (gN 2)) sNext)) (sRet (eVar 2))))
noncomputable def m_common_step : List D → M D := runFn 2 4 b_common_step
noncomputable def b_enough : Stm := (sSeq (sAsg (eA (d2 dMax2) (aCons (eA (dLenO "Program" m_Program___len__) (aCons (eVar 0) aNil)) (aCons (eA (dLenO "Program" m_Program___len__) (aCons (eVar 1) aNil)) aNil))) (gN 2)) (sRet (e2 dAdd (e2 dAdd (e2 dMul (eA m_common_step (aCons (eVar 0) (aCons (eVar 1) aNil))) (e2 dAdd (e2 dAdd (e2 dAdd (eA (dLenO "Program" m_Program___len__) (aCons (eVar 0) aNil)) (eA (dLenO "Program" m_Program___len__) (aCons (eVar 1) aNil))) (eVar 2)) (eC (.int 1)))) (eVar 2)) (eC (.int 1)))))
noncomputable def m_enough : List D → M D := runFn 2 3 b_enough
noncomputable def b_judge_programs : Stm := (sSeq (sDrop (eA m_check_pair (aCons (eVar 0) (aCons (eVar 1) aNil)))) (sSeq (sAsg (eA m_enough (aCons (eVar 0) (aCons (eVar 1) aNil))) (gN 2)) (sSeq (sFor (iR2 (aCons (eC (.int 1)) (aCons (e2 dAdd (eVar 2) (eC (.int 1))) aNil))) (gN 3) (sSeq (sAsg (eA m_first_unlike (aCons (eVar 0) (aCons (eVar 1) (aCons (eVar 3) aNil)))) (gN 4)) (sIf (tOf (e2 (dIsN true) (eVar 4) (eC .non))) (sRet (eA (mkObj false "FirstUnlike" m_FirstUnlike___init__) (aCons (eVar 3) (aCons (e2 dIx (eVar 4) (eC (.int 0))) (aCons (e2 dIx (eVar 4) (eC (.int 1))) aNil))))) sNext))) (sRet (eA (mkObj false "SameAlways" m_SameAlways___init__) (aCons (eVar 2) aNil))))))
noncomputable def m_judge_programs : List D → M D := runFn 2 5 b_judge_programs
noncomputable def b_FirstUnlike___bool__ : Stm := (sRet (eC (.bl false)))
noncomputable def m_FirstUnlike___bool__ : List D → M D := runFn 1 1 b_FirstUnlike___bool__
noncomputable def b_Later___init__ : Stm := (sSeq (sFldP ["Later"] "step" (eVar 1) (eVar 0)) (sFldP ["Later"] "rests" (eA (d1 dList) (aCons (eVar 2) aNil)) (eVar 0)))
noncomputable def m_Later___init__ : List D → M D := runFn 3 3 b_Later___init__
noncomputable def b_Later___bool__ : Stm := (sRet (eA (d1 dBoolB) (aCons (e2 (dEq false) (eA (d1 dLen) (aCons (e1 (dFldC ["Later"] "rests") (eVar 0)) aNil)) (e1 (dFldC ["Later"] "step") (eVar 0))) aNil)))
noncomputable def m_Later___bool__ : List D → M D := runFn 1 1 b_Later___bool__
noncomputable def b_judge_later : Stm := (sSeq (sDrop (eA m_check_pair (aCons (eVar 0) (aCons (eVar 1) aNil)))) (sSeq (sAsg (eA m_common_step (aCons (eVar 0) (aCons (eVar 1) aNil))) (gN 2)) (sSeq (sAsg (eA m_enough (aCons (eVar 0) (aCons (eVar 1) aNil))) (gN 3)) (sSeq (sAsg (e2 dMul (eVar 2) (e2 dAdd (e2 dAdd (eA (dLenO "Program" m_Program___len__) (aCons (eVar 0) aNil)) (eA (dLenO "Program" m_Program___len__) (aCons (eVar 1) aNil))) (eA (d2 dMax2) (aCons (eA (dLenO "Program" m_Program___len__) (aCons (eVar 0) aNil)) (aCons (eA (dLenO "Program" m_Program___len__) (aCons (eVar 1) aNil)) aNil))))) (gN 4)) (sSeq (sAsg (eLc false (iR2 (aCons (eVar 3) (aCons (e2 dAdd (e2 dAdd (eVar 3) (eVar 4)) (eC (.int 1))) aNil))) [6] (gN 6) (tOf (e2 (dIsN true) (eA m_first_unlike (aCons (eVar 0) (aCons (eVar 1) (aCons (eVar 6) aNil)))) (eC .non))) (e2 dMod (eVar 6) (eVar 2))) (gN 5)) (sRet (eA (mkObj false "Later" m_Later___init__) (aCons (eVar 2) (aCons (eLc false (iR1 (aCons (eVar 2) aNil)) [7] (gN 7) (tOf (e2 dNotInF (eVar 7) (eVar 5))) (eVar 7)) aNil)))))))))
noncomputable def m_judge_later : List D → M D := runFn 2 8 b_judge_later
noncomputable def b_tidy_program : Stm := (sSeq (sDrop (eA m_check_pair (aCons (eVar 0) (aCons (eVar 0) aNil)))) (sSeq (sAsg (eVar 0) (gN 1)) (sSeq (sFor (iRv1 (eA (dLenO "Program" m_Program___len__) (aCons (eVar 0) aNil))) (gN 2) (sSeq (sAsg (eA (mkObj false "Program" m_Program___init__) (aCons (e2 dAdd (eSl (e1 (dFldC ["Program"] "rounds") (eVar 1)) oNone (oSome (eVar 2))) (eSl (e1 (dFldC ["Program"] "rounds") (eVar 1)) (oSome (e2 dAdd (eVar 2) (eC (.int 1)))) oNone)) aNil)) (gN 3)) (sIf (orM (tTru "SameAlways" m_SameAlways___bool__ (eA m_judge_programs (aCons (eVar 1) (aCons (eVar 3) aNil)))) (tTru "FirstUnlike" m_FirstUnlike___bool__ (eA m_judge_programs (aCons (eVar 1) (aCons (eVar 3) aNil))))) (sAsg (eVar 3) (gN 1)) sNext))) (sRet (eVar 1)))))
noncomputable def m_tidy_program : List D → M D := runFn 1 4 b_tidy_program
end PM
end
section
set_option Elab.async false
set_option linter.all false
set_option maxRecDepth 100000
set_option maxHeartbeats 2000000
namespace PM
open PySem PySem.Spec PyProof.Rows L2 Evl
end PM
end
section
set_option Elab.async false
set_option linter.all false
set_option maxRecDepth 100000
namespace PM
open PySem L2 Evl PySem.Spec PySem.Calls PyProof.Rows PyProof.V
def dSumT : D → M D
  | .tup ds => oM (asInts ds) fun ns => ret (.int ns.sum)
  | _ => stuck
@[simp] theorem dSumT_tup (ds : List D) (S : Sto) : dSumT (.tup ds) S = oM (asInts ds) (fun ns => ret (.int ns.sum)) S := rfl
end PM
end
section
set_option Elab.async false
set_option linter.all false
set_option maxRecDepth 100000
namespace PM
open PySem L2 Evl PySem.Spec PySem.Calls PyProof.Rows PyProof.V
section
variable {X : Cx} {C : Ct} {pos : Pos} {a : Expr} {ta : TE} {ma : Env → M D}
def dAddT : D → D → M D
  | .tup a, .tup b => gd (a.length + b.length ≤ lim) (ret (.tup (a ++ b)))
  | _, _ => stuck
/-- x += e, tuples -/
def sAugT (i : Nat) (m : Env → M D) : Stm := sE (eVar i) fun x => sE m fun y => sE (fun _ => dAddT x y) fun z e S => .nx (setE i z e) S
@[simp] theorem sAugT_ap (i : Nat) (m : Env → M D) (e : Env) (S : Sto) : sAugT i m e S = (eVar i e S).stm e fun x => sE m fun y => sE (fun _ => dAddT x y) fun z e S => .nx (setE i z e) S := rfl
@[simp] theorem dAddT_tt (a b : List D) : dAddT (.tup a) (.tup b) = gd (a.length + b.length ≤ lim) (ret (.tup (a ++ b))) := rfl
end
end PM
end
section
set_option Elab.async false
set_option linter.all false
set_option maxRecDepth 100000
namespace PM
open PySem L2 Evl
section
variable {X : Cx} {C : Ct} {pos apos : Pos}
def dPop (x : D) : M D := cellL x fun n ds => match ds[ds.length - 1]? with
  | some y => fun S => .ok y (S.set n (.lst ds.dropLast))
  | none => stuck
def ePop (o : Env → M D) (e : Env) : M D := bind (o e) dPop
theorem VRs.dropLast {K : Kw} {w : Wd} {vs : List V} {ds : List D} (h : VRs K w vs ds) : VRs K w vs.dropLast ds.dropLast := by
  rw [List.dropLast_eq_take, List.dropLast_eq_take, h.len]
  exact h.take _
def dIndexI (x : D) (as : List D) : M D := match as with
  | [.int k] => wL x fun ds => oM (asInts ds) fun ns => oM (ns.findIdx? fun m => decide (m = k)) fun j => ret (.int (j : Nat))
  | _ => stuck
def eIndexI (o : Env → M D) (r : Env → M (List D)) (e : Env) : M D := bind (o e) fun x => fun S => if (rdL S x).isSome then (bind (r e) fun as => dIndexI x as) S else .no
end
@[simp] theorem ePop_ap (o : Env → M D) (e : Env) : ePop o e = bind (o e) dPop := rfl
@[simp] theorem eIndexI_ap (o : Env → M D) (r : Env → M (List D)) (e : Env) : eIndexI o r e = bind (o e) fun x => fun S => if (rdL S x).isSome then (bind (r e) fun as => dIndexI x as) S else .no := rfl
end PM
end
section
set_option Elab.async false
set_option linter.all false
set_option maxRecDepth 100000
namespace PM
open PySem L2 Evl
end PM
end
section
set_option Elab.async false
set_option linter.all false
set_option maxRecDepth 100000
namespace PM
open PySem L2 Evl
end PM
end
section
set_option Elab.async false
set_option linter.all false
set_option maxRecDepth 100000
set_option maxHeartbeats 4000000
namespace PM
open PySem PySem.Spec PyProof.Rows L2 Evl
mutual
/-- the value is the key, as far as the tracked heap tells -/
inductive Nk (K : PySem.W.Frag) (H : Hp) : V → NestedKey → Prop
  | non : Nk K H .non .none
  | num (i : Int) : Nk K H (.int i) (.num i)
  | text (x : Str) : Nk K H (.str x) (.text x)
  | tup {a : Addr} {xs : List V} {ks : List NestedKey} : SqT K H a xs → NkAll K H xs ks → Nk K H (.ref a) (.tup ks)
inductive NkAll (K : PySem.W.Frag) (H : Hp) : List V → List NestedKey → Prop
  | nil : NkAll K H [] []
  | cons {v : V} {vs : List V} {k : NestedKey} {ks : List NestedKey} : Nk K H v k → NkAll K H vs ks → NkAll K H (v :: vs) (k :: ks)
end
section
variable {X : L2.Cx} {pins : List (Addr × Obj)} {σ : L2.St} {H : Hp} {s : Shared}
mutual
theorem Nk.is (I : Inv X pins σ H s) : ∀ (k : NestedKey) (v : V) (u : Value), Nk X.K H v k → RelV v u → NestedIs s.heap k u
  | .none, _, _, h, r => by
    cases h
    cases r
    exact .none
  | .num i, _, _, h, r => by
    cases h
    obtain ⟨t, rfl⟩ := r
    exact .int i t
  | .text x, _, _, h, r => by
    cases h
    obtain ⟨t, rfl⟩ := r
    exact .text x t
  | .tup ks, _, _, h, r => by
    cases h with
    | tup hs ha =>
      cases r
      obtain ⟨its, rv, ⟨o, ho, hc, n, hd⟩, _⟩ := I.tuple hs
      exact .tup ho hc hd (by simpa using NkAll.are I ks _ its ha rv)
theorem NkAll.are (I : Inv X pins σ H s) : ∀ (ks : List NestedKey) (vs : List V) (us : List Value), NkAll X.K H vs ks → Vals vs us → NestedAll s.heap ks us
  | [], _, _, h, r => by
    cases h
    cases r
    exact .nil
  | k :: ks, _, _, h, r => by
    cases h with
    | cons h1 h2 =>
      cases r with
      | cons r1 r2 => exact .cons (Nk.is I k _ _ h1 r1) (NkAll.are I ks _ _ h2 r2)
end
end
mutual
theorem nk_of {K : Kw} {w : Wd} {H : Hp} (e : Ex w.F H) : ∀ (d : D) (v : V), VR K w v d → D.nok d = true → Nk K H v (D.nk d)
  | .non, _, a, _ => by
    cases a
    exact .non
  | .int i, _, a, _ => by
    cases a
    exact .num i
  | .str x, _, a, _ => by
    cases a
    exact .text x
  | .tup ds, _, a, h => by
    cases a with
    | tup s as => exact .tup (ex_t e s) (nks_of e ds _ as h)
  | .bl _, _, _, h => by cases h
  | .lst _, _, _, h => by cases h
  | .obj _ _, _, _, h => by cases h
  | .ptr _, _, _, h => by cases h
  | .scr _, _, _, h => by cases h
  | .dic _ _, _, _, h => by cases h
theorem nks_of {K : Kw} {w : Wd} {H : Hp} (e : Ex w.F H) : ∀ (ds : List D) (vs : List V), VRs K w vs ds → D.noks ds = true → NkAll K H vs (D.nks ds)
  | [], _, a, _ => by
    cases a
    exact .nil
  | d :: ds, _, a, h => by
    cases a with
    | cons a1 a2 =>
      obtain ⟨h1, h2⟩ := Bool.and_eq_true_iff.mp (show (D.nok d && D.noks ds) = true from h)
      exact .cons (nk_of e d _ a1 h1) (nks_of e ds _ a2 h2)
end
/-- two keys of the same kind are the same data -/
theorem nk_inj : ∀ (a b : D), D.nok a = true → D.nok b = true → D.nk a = D.nk b → a = b := by
  have key : ∀ n : Nat, (∀ a b : D, sizeOf a < n → D.nok a = true → D.nok b = true → D.nk a = D.nk b → a = b) := by
    intro n
    induction n with
    | zero => intro a b h; exact absurd h (Nat.not_lt_zero _)
    | succ n ih =>
      have seq : ∀ (xs ys : List D), sizeOf xs < n → D.noks xs = true → D.noks ys = true → D.nks xs = D.nks ys → xs = ys := by
        intro xs
        induction xs with
        | nil =>
          intro ys _ _ _ h
          cases ys with
          | nil => rfl
          | cons y ys => cases h
        | cons x xs ihx =>
          intro ys hs hx hy h
          cases ys with
          | nil => cases h
          | cons y ys =>
            obtain ⟨x1, x2⟩ := Bool.and_eq_true_iff.mp (show (D.nok x && D.noks xs) = true from hx)
            obtain ⟨y1, y2⟩ := Bool.and_eq_true_iff.mp (show (D.nok y && D.noks ys) = true from hy)
            injection (show D.nk x :: D.nks xs = D.nk y :: D.nks ys from h) with h1 h2
            simp only [List.cons.sizeOf_spec] at hs
            rw [ih x y (by omega) x1 y1 h1, ihx ys (by omega) x2 y2 h2]
      intro a b hs ha hb h
      cases a with
      | non =>
        cases b with
        | non => rfl
        | _ => first | (simp [D.nk] at h; done) | (simp [D.nok] at hb; done)
      | int i =>
        cases b with
        | int j => injection (show NestedKey.num i = NestedKey.num j from h) with h; rw [h]
        | _ => first | (simp [D.nk] at h; done) | (simp [D.nok] at hb; done)
      | str i =>
        cases b with
        | str j => injection (show NestedKey.text i = NestedKey.text j from h) with h; rw [h]
        | _ => first | (simp [D.nk] at h; done) | (simp [D.nok] at hb; done)
      | tup xs =>
        cases b with
        | tup ys =>
          injection (show NestedKey.tup (D.nks xs) = NestedKey.tup (D.nks ys) from h) with h
          simp only [D.tup.sizeOf_spec] at hs
          rw [seq xs ys (by omega) ha hb h]
        | _ => first | (simp [D.nk] at h; done) | (simp [D.nok] at hb; done)
      | _ => cases ha
  exact fun a b => key (sizeOf a + 1) a b (Nat.lt_succ_self _)
theorem tok_nok {d : D} (h : D.tok d = true) : D.nok d = true ∧ (D.nk d).depth ≤ 8 ∧ ∃ ds, d = .tup ds := by
  cases d with
  | tup ds =>
    obtain ⟨h1, h2⟩ := Bool.and_eq_true_iff.mp (show (D.noks ds && decide (NestedKey.depth (D.nk (.tup ds)) ≤ 8)) = true from h)
    exact ⟨h1, of_decide_eq_true h2, ds, rfl⟩
  | _ => cases h
def NKs (K : PySem.W.Frag) (H : Hp) (xs : List (NestedKey × Addr × Value)) : Prop := ∀ x ∈ xs, Nk K H (.ref x.2.1) x.1 ∧ x.1.depth ≤ 8
/-- a dict with such keys stands there (an empty one is any) -/
def NDict (K : Kw) (H : Hp) (a : Addr) (xs : List (NestedKey × Addr × Value)) : Prop := (Rd H a (DNo K.w a xs) ∨ xs = [] ∧ Rd H a (.dK [])) ∧ NKs K.K H xs
theorem dK_nil {P : Program} {w : World} {h : Heap} {a : Addr} {vs : List (Key × Value)} (r : KV ([] : List (Key × V)) vs) (d : h.DictOf (mixKind P w) a vs) : h.DictOfH (nestedKind P w) a [] := by
  cases r
  obtain ⟨o, es, ep, h1, h2, h3, _, h4, _⟩ := d
  refine ⟨o, es, ep, h1, h2, h3, ?_, fun x hx => (nomatch hx), List.nodup_nil⟩
  generalize es.toList = l at h4
  cases h4
  rfl
section
variable {X : L2.Cx} {pins : List (Addr × Obj)} {σ : L2.St} {H : Hp} {s : Shared} {a : Addr} {y : V} {u : Value} {A : Around} {E : Value → Shared → Prop} {xs : List (NestedKey × Addr × Value)} {k : NestedKey}
theorem NDict.of (I : Inv X pins σ H s) (h : NDict X.kw H a xs) : xs.length ≤ sizeLine ∧ (a == sysModules) = false ∧ s.heap.DictOfH (nestedKind X.prog X.w) a xs := by
  obtain ⟨h, hk⟩ := h
  rcases h with h | ⟨rfl, h⟩
  · obtain ⟨⟨h1, h2, h3, o, es, ep, h4, h5, h6, h7⟩, _⟩ := (show ObjOk X.prog X.w H s.heap a (DNo X.w a xs) from rd_of I.hok h)
    exact ⟨h1, h2, o, es, ep, h4, h5, h6, h7, fun x hx => ⟨Nk.is I _ _ _ (hk x hx).1 rfl, (hk x hx).2⟩, h3⟩
  · obtain ⟨z, hd, vs, rel, dd⟩ := dk_rd I.hok h
    exact ⟨Nat.zero_le _, hd, dK_nil rel dd⟩
/-- what such a dict holds at a key -/
def DHas (K : Kw) (H : Hp) (a : Addr) (y : V) (r : Option V) : Prop := DGet H a y r ∨
  ∃ (xs : List (NestedKey × Addr × Value)) (ys : List V) (b : Addr) (k : NestedKey), NDict K H a xs ∧ Vals ys (xs.map (·.2.2)) ∧ y = .ref b ∧ Nk K.K H y k ∧ k.depth ≤ 8 ∧ r = valV ((xs.map (·.1)).zip ys) k
theorem nval (k : NestedKey) : ∀ {xs : List (NestedKey × Addr × Value)} {ys : List V}, Vals ys (xs.map (·.2.2)) → RelO (valV ((xs.map (·.1)).zip ys) k) ((atKey xs k).map (·.2))
  | [], _, r => by
    cases r
    exact True.intro
  | x :: xs, _, r => by
    cases r with
    | @cons v _ vs _ r1 r2 =>
      show RelO (valV ((x.1, v) :: (xs.map (·.1)).zip vs) k) _
      by_cases e : x.1 = k
      · have b : atKey (x :: xs) k = some x.2 := by simp [atKey, List.find?_cons, e]
        rw [valV_pos (p := (x.1, v)) e, b]
        exact r1
      · have b : atKey (x :: xs) k = atKey xs k := by simp [atKey, List.find?_cons, e]
        rw [valV_neg (p := (x.1, v)) e, b]
        exact nval k r2
theorem h_getItem {v : V} {Q : Value → Shared → Prop} (hu : A.units + 9 < cLine) (I : Inv X pins σ H s) (g : DHas X.kw H a y (some v)) (ry : RelV y u) (h : ∀ w' s', Inv X pins σ H s' → RelV v w' → Q w' s') :
    wpAny (model X.prog X.w) A (getItem (.ref a) u) Q E s := by
  rcases g with g | ⟨xs, ys, b, k, nd, vl, ey, hk, hd8, l⟩
  · exact d_getItem (by omega) I g ry h
  · subst ey
    cases (show u = Value.ref b from ry)
    obtain ⟨z, hd, dd⟩ := nd.of I
    obtain ⟨w', hw, rw'⟩ := RelO.some_of (v := v) (o := (atKey xs k).map (·.2)) (by rw [l]; exact nval k vl)
    obtain ⟨p, hp, hp2⟩ := Option.map_eq_some_iff.mp hw
    refine wpAny_getItem_heap (knd := nestedKind X.prog X.w) (by show A.units + 1 + 8 < cLine; omega) ⟨Nk.is I k _ _ hk rfl, hd8⟩ dd hp ?_
    rw [hp2]
    exact h w' _ (I.tok _) rw'
/-- a[y] = v at such a dict -/
def DPutN (K : Kw) (H : Hp) (a : Addr) (y v : V) (Q : Hp → Prop) : Prop :=
  ∃ (xs : List (NestedKey × Addr × Value)) (b : Addr) (k : NestedKey), (H a = some (DNo K.w a xs) ∨ xs = [] ∧ H a = some (.dK [])) ∧ NKs K.K H xs ∧ y = .ref b ∧ Nk K.K H y k ∧ k.depth ≤ 8 ∧ xs.length < sizeLine ∧
    ∀ u, RelV v u → Q (upd H a (DNo K.w a (storedH xs k b u)))
theorem storedH_length (xs : List (NestedKey × Addr × Value)) (k : NestedKey) (b : Addr) (u : Value) : (storedH xs k b u).length ≤ xs.length + 1 := by
  unfold storedH
  split
  · rw [List.length_map]; omega
  · rw [List.length_append, List.length_cons, List.length_nil]; omega
theorem h_setItem {v : V} {r : Value} {QH : Hp → Prop} {Q : Unit → Shared → Prop} (hu : A.units + 9 < cLine) (I : Inv X pins σ H s) (g : DPutN X.kw H a y v QH) (ry : RelV y u) (rv : RelV v r)
    (h : ∀ H' s', QH H' → Inv X pins σ H' s' → Q () s') : wpAny (model X.prog X.w) A (setItem (.ref a) u r) Q E s := by
  obtain ⟨xs, b, k, e, nk, ey, hk, hd8, hl, hq⟩ := g
  subst ey
  cases (show u = Value.ref b from ry)
  have nd : NDict X.kw H a xs := ⟨by
    rcases e with e | ⟨e1, e2⟩
    · exact .inl (.inl e)
    · exact .inr ⟨e1, .inl e2⟩, nk⟩
  obtain ⟨z, hd, dd⟩ := nd.of I
  refine wpAny_setItem_heap (knd := nestedKind X.prog X.w) (hsz := z) (by show A.units + 1 + 8 < cLine; omega) ⟨Nk.is I k _ _ hk rfl, hd8⟩ dd fun h' dd' hs => h _ _ (hq r rv) ?_
  obtain ⟨q, es, ep, hq1, h2, h3, h4, _, h5⟩ := dd'
  refine d_write I ?_ hs ⟨q, hq1⟩ ⟨⟨?_, hd, h5, q, es, ep, hq1, h2, h3, h4⟩, ⟨q, hq1⟩, fun g1 g2 ⟨i1, i2, i3, o, es, ep, i4, i5, i6, i7⟩ kp => ⟨i1, i2, i3, o, es, ep, kp o i4, i5, i6, i7⟩⟩
  · rcases e with e | ⟨_, e⟩ <;> rw [e] <;> exact True.intro
  · exact Nat.le_trans (storedH_length xs k b r) hl
end
end PM
end
section
set_option Elab.async false
set_option linter.all false
set_option maxRecDepth 100000
set_option maxHeartbeats 4000000
namespace PM
open PySem PySem.Spec PyProof.Rows L2 Evl
def D.kK : D → Bool
  | .int _ => true
  | .str _ => true
  | _ => false
def dfind (k : D) : List D → List D → Option D
  | x :: ks, v :: vs => if D.same x k then some v else dfind k ks vs
  | _, _ => none
def dset (k v : D) : List D → List D → List D
  | x :: ks, u :: vs => (if D.same x k then v else u) :: dset k v ks vs
  | _, _ => []
/-- such a key among such keys -/
def alike (ks : List D) (y : D) : Bool := (D.kK y && ks.all D.kK) || (D.tok y && ks.all D.tok)
def dkv (S : Sto) : D → Option (List D × List D)
  | .dic ks vs => some (ks, vs)
  | .ptr n => match S[n]? with
    | some (.dct ks vs) => some (ks, vs)
    | some (.dic kvs) => some (kvs.map fun p => kD p.1, kvs.map (·.2))
    | _ => none
  | _ => none
theorem same_iff {a b : D} : D.same a b = true ↔ a = b := ⟨same_eq, fun h => h ▸ same_refl a⟩
/-- what is found stands for what is told -/
def FR (K : Kw) (w : Wd) : Option V → Option D → Prop
  | some v, some d => VR K w v d
  | none, none => True
  | _, _ => False
theorem fr_some {K : Kw} {w : Wd} {r : Option V} {d : D} (h : FR K w r (some d)) : ∃ v, r = some v ∧ VR K w v d := by
  cases r with
  | none => exact False.elim h
  | some v => exact ⟨v, rfl, h⟩
theorem fr_is {K : Kw} {w : Wd} {r : Option V} {o : Option D} (h : FR K w r o) : r.isSome = o.isSome := by
  cases r <;> cases o <;> first | rfl | exact False.elim h
theorem gfind {κ : Type} [DecidableEq κ] {K : Kw} {w : Wd} (k : κ) (d : D) : ∀ {ns : List κ} {ks : List D} {ys : List V} {vs : List D}, Paired (fun n x => n = k ↔ x = d) ns ks → ns.length = ys.length → VRs K w ys vs → FR K w (valV (ns.zip ys) k) (dfind d ks vs)
  | [], _, [], _, .nil, _, .nil => True.intro
  | [], _, _ :: _, _, _, l, _ => nomatch l
  | _ :: _, _, [], _, _, l, _ => nomatch l
  | n :: ns, _, y :: ys, _, .cons (b := x) (l₂ := ks) h t, l, .cons (d := v) (ds := vs) a b => by
    show FR K w (valV ((n, y) :: ns.zip ys) k) (if D.same x d = true then some v else dfind d ks vs)
    by_cases e : n = k
    · rw [valV_pos (p := (n, y)) e, if_pos (same_iff.mpr (h.mp e))]
      exact a
    · rw [valV_neg (p := (n, y)) e, if_neg (fun z => e (h.mpr (same_iff.mp z)))]
      exact gfind k d t (by simpa using l) b
theorem zip_un {α β : Type} : ∀ l : List (α × β), (l.map (·.1)).zip (l.map (·.2)) = l
  | [] => rfl
  | p :: r => by rw [List.map_cons, List.map_cons, List.zip_cons_cons, zip_un r]
theorem kD_inj {a b : Key} : kD a = kD b → a = b := by
  cases a <;> cases b <;> intro h <;> first | (injection h with h; rw [h]) | cases h
theorem pair_map {α β : Type} {R : α → β → Prop} {f : α → β} (h : ∀ a, R a (f a)) : ∀ l : List α, Paired R l (l.map f)
  | [] => .nil
  | a :: l => .cons (h a) (pair_map h l)
theorem kfind {K : Kw} {w : Wd} {kvs : List (Key × V)} {vs : List D} (k : Key) (h : VRs K w (kvs.map (·.2)) vs) : FR K w (valV kvs k) (dfind (kD k) (kvs.map fun p => kD p.1) vs) := by
  have q := gfind (ns := kvs.map (·.1)) (ks := kvs.map fun p => kD p.1) k (kD k) (by
    have z : (kvs.map fun p => kD p.1) = (kvs.map (·.1)).map kD := by rw [List.map_map]; rfl
    rw [z]
    exact pair_map (fun a => ⟨fun e => e ▸ rfl, kD_inj⟩) _) (by rw [List.length_map, List.length_map]) h
  rwa [zip_un] at q
theorem npair {d : D} (hd : D.nok d = true) : ∀ {ks : List D}, ks.all D.tok = true → Paired (fun n x => n = D.nk d ↔ x = d) (ks.map D.nk) ks
  | [], _ => .nil
  | k :: ks, h => by
    obtain ⟨h1, h2⟩ := Bool.and_eq_true_iff.mp (show (D.tok k && ks.all D.tok) = true from h)
    exact .cons ⟨nk_inj k d (tok_nok h1).1 hd, fun e => e ▸ rfl⟩ (npair hd h2)
/-- the dict that a thing is -/
theorem dkv_ok {K : Kw} {w : Wd} {S : Sto} {H : Hp} {v : V} {d : D} {ks vs : List D} (R : Rel K w S H) (r : VR K w v d) (h : dkv S d = some (ks, vs)) : ∃ a u, v = .ref a ∧ Rd H a u ∧ VRd K w a u ks vs := by
  cases r with
  | @dic a od u ks' vs' q z =>
    cases h
    exact ⟨a, u, rfl, .inr ⟨od, R.ex _ _ q⟩, z⟩
  | @ptr a n hb =>
    cases q : S[n]? with
    | none => simp [dkv, q] at h
    | some cc =>
      cases cc with
      | dct ks' vs' =>
        simp only [dkv, q, Option.some.injEq, Prod.mk.injEq] at h
        obtain ⟨rfl, rfl⟩ := h
        obtain ⟨_, u, hu, z⟩ := R.cell _ _ _ hb q rfl
        exact ⟨a, u, rfl, .inl hu, z⟩
      | dic kvs =>
        simp only [dkv, q, Option.some.injEq, Prod.mk.injEq] at h
        obtain ⟨rfl, rfl⟩ := h
        obtain ⟨_, us, hu, e, z⟩ := R.cell _ _ _ hb q rfl
        refine ⟨a, _, rfl, .inl hu, ?_⟩
        have e2 : (kvs.map fun p => kD p.1) = us.map fun p => kD p.1 := by
          have := congrArg (List.map kD) e
          rw [List.map_map, List.map_map] at this
          exact this.symm
        rw [e2]
        exact .k z
      | _ => simp [dkv, q] at h
  | _ => cases h
theorem keys_nks {K : Kw} {w : Wd} {H : Hp} (e : Ex w.F H) : ∀ {xs : List (NestedKey × Addr × Value)} {ks : List D}, VRs K w (xs.map fun x => V.ref x.2.1) ks → ks.all D.tok = true → xs.map (·.1) = ks.map D.nk → NKs K H xs
  | [], _, _, _, _ => fun x hx => nomatch hx
  | x :: xs, _, a, h, z => by
    cases a with
    | @cons _ _ d ds a1 a2 =>
      obtain ⟨h1, h2⟩ := Bool.and_eq_true_iff.mp (show (D.tok d && ds.all D.tok) = true from h)
      injection (show x.1 :: xs.map (·.1) = D.nk d :: ds.map D.nk from z) with z1 z2
      obtain ⟨t1, t2, _⟩ := tok_nok h1
      intro y hy
      rcases List.mem_cons.mp hy with rfl | hy
      · rw [z1]
        exact ⟨nk_of e d _ a1 t1, t2⟩
      · exact keys_nks e a2 h2 z2 y hy
theorem tok_ref {K : Kw} {w : Wd} {y : V} {d : D} (r : VR K w y d) (h : D.tok d = true) : ∃ b, y = .ref b := by
  cases r with
  | tup s a => exact ⟨_, rfl⟩
  | _ => cases h
theorem dhas_of {K : Kw} {w : Wd} {S : Sto} {H : Hp} {a : Addr} {u : HO} {y : V} {d : D} {ks vs : List D} (R : Rel K w S H) (hr : Rd H a u) (z : VRd K w a u ks vs) (ry : VR K w y d) (al : alike ks d = true) :
    ∃ r, DHas K H a y r ∧ FR K w r (dfind d ks vs) := by
  rcases Bool.or_eq_true_iff.mp al with al | al
  · obtain ⟨k1, k2⟩ := Bool.and_eq_true_iff.mp al
    cases z with
    | @k _ kvs _ h =>
      cases ry with
      | int i => exact ⟨_, .inl (.inl ⟨kvs, .inl i, hr, rfl, rfl⟩), kfind (.inl i) h⟩
      | str x => exact ⟨_, .inl (.inl ⟨kvs, .inr x, hr, rfl, rfl⟩), kfind (.inr x) h⟩
      | _ => cases k1
    | @n _ xs ys _ _ h0 h1 h2 h3 h4 h5 =>
      cases ks with
      | nil => exact absurd (List.map_eq_nil_iff.mp h3) h0
      | cons k ks =>
        obtain ⟨q1, _⟩ := Bool.and_eq_true_iff.mp (show (D.kK k && ks.all D.kK) = true from k2)
        obtain ⟨q2, _⟩ := Bool.and_eq_true_iff.mp (show (D.tok k && ks.all D.tok) = true from h2)
        obtain ⟨_, _, _, rfl⟩ := tok_nok q2
        cases q1
  · obtain ⟨k1, k2⟩ := Bool.and_eq_true_iff.mp al
    obtain ⟨t1, t2, _⟩ := tok_nok k1
    obtain ⟨b, rfl⟩ := tok_ref ry k1
    have hk := nk_of R.ex d _ ry t1
    cases z with
    | @k _ kvs _ h =>
      cases kvs with
      | nil => exact ⟨none, .inr ⟨[], [], b, D.nk d, ⟨.inr ⟨rfl, hr⟩, fun x hx => nomatch hx⟩, .nil, rfl, hk, t2, rfl⟩, True.intro⟩
      | cons p kvs =>
        obtain ⟨q2, _⟩ := Bool.and_eq_true_iff.mp (show (D.tok (kD p.1) && _) = true from k2)
        rcases p with ⟨k | k, _⟩ <;> cases q2
    | @n _ xs ys _ _ h0 h1 h2 h3 h4 h5 =>
      refine ⟨_, .inr ⟨xs, ys, b, D.nk d, ⟨.inl hr, keys_nks R.ex h1 h2 h3⟩, h5, rfl, hk, t2, rfl⟩, ?_⟩
      rw [h3]
      refine gfind (D.nk d) d (npair t1 h2) ?_ h4
      rw [← h3, List.length_map]
      have := Vals.length h5
      rw [List.length_map] at this
      exact this.symm
def rDGet (K : Kw) : R2 := fun x y H Q => ∃ a v, x = .ref a ∧ DHas K H a y (some v) ∧ Q v H
def dDGet (x y : D) : M D := fun S => oM (dkv S x) (fun p => gd (alike p.1 y = true) (oM (dfind y p.1 p.2) ret)) S
theorem ops_dget (K : Kw) : OpS K (rDGet K) dDGet := fun w S H x y d1 d2 Q E R a b h => by
  obtain ⟨⟨ks, vs⟩, z, h⟩ := oM_sat h
  obtain ⟨al, h⟩ := gd_sat h
  obtain ⟨e, q, h⟩ := oM_sat h
  obtain ⟨p, u, rfl, hr, zd⟩ := dkv_ok R a z
  obtain ⟨r, dh, fr⟩ := dhas_of R hr zd b al
  rw [q] at fr
  obtain ⟨v, rfl, rv⟩ := fr_some fr
  exact ⟨p, v, rfl, dh, h w H _ (Wd.le.refl w) R rv⟩
section
variable {X : L2.Cx}
theorem dhas_type {pins : List (Addr × Obj)} {σ : L2.St} {H : Hp} {s : Shared} {a : Addr} {y : V} {o : Option V} (I : Inv X pins σ H s) (g : DHas X.kw H a y o) : s.TypeIs (.ref a) "dict" := by
  rcases g with g | ⟨xs, ys, b, k, nd, _⟩
  · exact dict_typeIs I g
  · obtain ⟨_, _, dd⟩ := nd.of I
    exact dd.typeIs
theorem pe_dgetA {o i : Expr} {td ty : TE} {pos : Pos} (hu : X.A.units + 9 < cLine) (ho : PE X o td) (hi : PE X i ty) (hs : NoSl i) : PE X (.Subscript o i pos) (tOp (rDGet X.kw) td ty) := by
  refine ⟨fun pins s σ H Q I h => ?_⟩
  refine subD_of PySem.F.slot_dict_getitem.lookup hs (thn (ho.run pins s σ H _ I h) fun u s1 ⟨x, H1, I1, rx, q1⟩ => thn (hi.run pins s1 σ H1 _ I1 q1) fun iv s2 ⟨y, H2, I2, ry, a, v, ex, g, q2⟩ => ?_)
  subst ex
  obtain rfl : u = Value.ref a := rx
  exact ⟨dhas_type I2 g, h_getItem hu I2 g ry fun w' s3 I3 rw' => ⟨v, H2, I3, rw', q2⟩⟩
end
section
variable {X : L2.Cx} {C : Ct} {ta tb : TE} {a b : Expr} {ma mb : Env → M D} {pos : Pos}
theorem ce_dget (hu : X.A.units + 9 < cLine) (ha : CE X C a ta ma) (hb : CE X C b tb mb) (hs : NoSl b := by exact fun _ _ => rfl) : CE X C (.Subscript a b pos) (tOp (rDGet C.K) ta tb) (e2 dDGet ma mb) :=
  ⟨ha.hK, fun y => by rw [← ha.hK]; exact pe_dgetA hu (ha.pe y) (hb.pe y) hs, snd_op ha.sn hb.sn (ops_dget _)⟩
end
end PM
end
section
set_option Elab.async false
set_option linter.all false
set_option maxRecDepth 100000
set_option maxHeartbeats 4000000
namespace PM
open PySem PySem.Spec PyProof.Rows L2 Evl
def dput (k v : D) (ks vs : List D) : List D × List D := if (dfind k ks vs).isSome = true then (ks, dset k v ks vs) else (ks ++ [k], vs ++ [v])
def dDPut (x k v : D) : M D := fun S => match x with
  | .ptr n => match S[n]? with
    | some (.dct ks vs) => if alike ks k = true ∧ ks.length ≤ lim then .ok .non (S.set n (.dct (dput k v ks vs).1 (dput k v ks vs).2)) else .no
    | _ => .no
  | _ => .no
theorem VRs.app1 {K : Kw} {w : Wd} {vs : List V} {ds : List D} {v : V} {d : D} (h : VRs K w vs ds) (a : VR K w v d) : VRs K w (vs ++ [v]) (ds ++ [d]) := h.app (.one a)
theorem kset {K : Kw} {w : Wd} (k : Key) {v : V} {e : D} (r : VR K w v e) : ∀ {kvs : List (Key × V)} {vs : List D}, VRs K w (kvs.map (·.2)) vs →
    ((kvs.map fun kv => if kv.1 = k then (kv.1, v) else kv).map fun p => kD p.1) = (kvs.map fun p => kD p.1) ∧ VRs K w ((kvs.map fun kv => if kv.1 = k then (kv.1, v) else kv).map (·.2)) (dset (kD k) e (kvs.map fun p => kD p.1) vs)
  | [], _, .nil => ⟨rfl, .nil⟩
  | p :: kvs, _, .cons (d := d) (ds := vs) a b => by
    obtain ⟨h1, h2⟩ := kset k r b
    simp only [List.map_cons]
    by_cases z : p.1 = k
    · rw [if_pos z, h1]
      refine ⟨rfl, ?_⟩
      show VRs K w _ ((if D.same (kD p.1) (kD k) = true then e else d) :: dset (kD k) e (kvs.map fun p => kD p.1) vs)
      rw [if_pos (same_iff.mpr (by rw [z]))]
      exact .cons r h2
    · rw [if_neg z, h1]
      refine ⟨rfl, ?_⟩
      show VRs K w _ ((if D.same (kD p.1) (kD k) = true then e else d) :: dset (kD k) e (kvs.map fun p => kD p.1) vs)
      rw [if_neg (fun q => z (kD_inj (same_iff.mp q)))]
      exact .cons a h2
theorem kput {K : Kw} {w : Wd} {a : Addr} (k : Key) {v : V} {e : D} (r : VR K w v e) {kvs : List (Key × V)} {vs : List D} (h : VRs K w (kvs.map (·.2)) vs) :
    VRd K w a (.dK (putK kvs k v)) (dput (kD k) e (kvs.map fun p => kD p.1) vs).1 (dput (kD k) e (kvs.map fun p => kD p.1) vs).2 := by
  have q := fr_is (kfind k h)
  unfold dput putK
  rw [valV_any, q]
  by_cases z : (dfind (kD k) (kvs.map fun p => kD p.1) vs).isSome = true
  · rw [if_pos z, if_pos z]
    obtain ⟨h1, h2⟩ := kset k r h
    have := VRd.k (a := a) h2
    rw [h1] at this
    exact this
  · rw [if_neg z, if_neg z]
    have := VRd.k (K := K) (w := w) (a := a) (kvs := kvs ++ [(k, v)]) (vs := vs ++ [e]) (by
      rw [List.map_append]
      exact VRs.app1 h r)
    rw [List.map_append] at this
    exact this
theorem nset {K : Kw} {w : Wd} {d : D} (hd : D.nok d = true) {v : V} {u : Value} {e : D} (ru : RelV v u) (r : VR K w v e) : ∀ {xs : List (NestedKey × Addr × Value)} {ks : List D} {ys : List V} {vs : List D}, ks.all D.tok = true → xs.map (·.1) = ks.map D.nk → Vals ys (xs.map (·.2.2)) → VRs K w ys vs →
    ∃ ys', Vals ys' ((xs.map (putAt (D.nk d) u)).map (·.2.2)) ∧ VRs K w ys' (dset d e ks vs) ∧ (xs.map (putAt (D.nk d) u)).map (·.1) = xs.map (·.1) ∧ ((xs.map (putAt (D.nk d) u)).map fun x => V.ref x.2.1) = xs.map fun x => V.ref x.2.1
  | [], ks, _, _, _, z, .nil, .nil => by
    cases ks with
    | nil => exact ⟨[], .nil, .nil, rfl, rfl⟩
    | cons _ _ => cases z
  | x :: xs, [], _, _, _, z, _, _ => by cases z
  | x :: xs, k :: ks, _, _, hk, z, .cons (l₁ := ys) a1 a2, .cons (d := f) (ds := vs) b1 b2 => by
    obtain ⟨h1, h2⟩ := Bool.and_eq_true_iff.mp (show (D.tok k && ks.all D.tok) = true from hk)
    injection (show x.1 :: xs.map (·.1) = D.nk k :: ks.map D.nk from z) with z1 z2
    obtain ⟨ys', c1, c2, c3, c4⟩ := nset hd ru r h2 z2 a2 b2
    simp only [List.map_cons]
    rw [c3, c4]
    by_cases q : x.1 = D.nk d
    · have hp : putAt (D.nk d) u x = (x.1, x.2.1, u) := by
        unfold putAt
        rw [if_pos q]
      rw [hp]
      refine ⟨v :: ys', .cons ru c1, ?_, rfl, rfl⟩
      show VRs K w _ ((if D.same k d = true then e else f) :: dset d e ks vs)
      rw [if_pos (same_iff.mpr (nk_inj k d (tok_nok h1).1 hd (z1 ▸ q)))]
      exact .cons r c2
    · have hp : putAt (D.nk d) u x = x := by
        unfold putAt
        rw [if_neg q]
      rw [hp]
      refine ⟨_ :: ys', .cons a1 c1, ?_, rfl, rfl⟩
      show VRs K w _ ((if D.same k d = true then e else f) :: dset d e ks vs)
      rw [if_neg (fun m => q (by rw [z1, same_iff.mp m]))]
      exact .cons b1 c2
theorem nput {K : Kw} {w : Wd} {H : Hp} {a b : Addr} {d : D} (hd : D.tok d = true) (rb : VR K w (.ref b) d) {v : V} {u : Value} {e : D} (ru : RelV v u) (r : VR K w v e) {xs : List (NestedKey × Addr × Value)} {ks : List D} {ys : List V} {vs : List D}
    (h1 : VRs K w (xs.map fun x => V.ref x.2.1) ks) (h2 : ks.all D.tok = true) (h3 : xs.map (·.1) = ks.map D.nk) (h4 : VRs K w ys vs) (h5 : Vals ys (xs.map (·.2.2))) :
    VRd K w a (DNo K.w a (storedH xs (D.nk d) b u)) (dput d e ks vs).1 (dput d e ks vs).2 := by
  obtain ⟨t1, t2, _⟩ := tok_nok hd
  have ln : (xs.map (·.1)).length = ys.length := by
    have := Vals.length h5
    rw [List.length_map] at this ⊢
    exact this.symm
  have fr := fr_is (gfind (K := K) (w := w) (D.nk d) d (npair t1 h2) (by rw [← h3]; exact ln) h4)
  rw [← h3] at fr
  have q := (nval (D.nk d) h5).isSome_eq
  rw [Option.isSome_map, fr] at q
  unfold dput storedH
  rw [← q]
  by_cases z : (dfind d ks vs).isSome = true
  · rw [if_pos z, if_pos z]
    obtain ⟨ys', c1, c2, c3, c4⟩ := nset t1 ru r h2 h3 h5 h4
    refine .n (fun n => ?_) (by rw [c4]; exact h1) h2 (by rw [c3]; exact h3) c2 c1
    rw [List.map_eq_nil_iff] at n
    subst n
    cases ks with
    | nil => cases z
    | cons _ _ => cases h3
  · rw [if_neg z, if_neg z]
    refine .n (fun n => ?_) ?_ ?_ ?_ (VRs.app1 h4 r) ?_
    · exact nomatch (List.append_eq_nil_iff.mp n).2
    · rw [List.map_append]
      exact VRs.app1 h1 rb
    · rw [List.all_append, h2]
      show (true && (D.tok d && true)) = true
      rw [hd]
      rfl
    · rw [List.map_append, List.map_append, h3]
      rfl
    · rw [List.map_append]
      exact Paired.snoc h5 ru
/-- a[y] = v at a dict of either kind -/
def DPutA (K : Kw) (H : Hp) (a : Addr) (y v : V) (Q : Hp → Prop) : Prop := (∃ kvs k, H a = some (.dK kvs) ∧ y = kV k ∧ kvs.length < sizeLine ∧ Q (upd H a (.dK (putK kvs k v)))) ∨ DPutN K H a y v Q
/-- d[y] = v, as data -/
theorem dput_of {K : Kw} {w : Wd} {S : Sto} {H : Hp} {a : Addr} {u : HO} {y v : V} {d e : D} {ks vs : List D} (R : Rel K w S H) (hr : H a = some u) (z : VRd K w a u ks vs) (ry : VR K w y d) (rv : VR K w v e) (al : alike ks d = true) (hl : ks.length ≤ lim) {Q : Hp → Prop}
    (hq : ∀ u', VRd K w a u' (dput d e ks vs).1 (dput d e ks vs).2 → Q (upd H a u')) : DPutA K H a y v Q := by
  rcases Bool.or_eq_true_iff.mp al with al | al
  · obtain ⟨k1, k2⟩ := Bool.and_eq_true_iff.mp al
    cases z with
    | @k _ kvs _ h =>
      have hl : kvs.length < sizeLine := by
        rw [List.length_map] at hl
        exact Nat.lt_of_le_of_lt hl (by decide)
      cases ry with
      | int i => exact .inl ⟨kvs, .inl i, hr, rfl, hl, hq _ (kput (.inl i) rv h)⟩
      | str x => exact .inl ⟨kvs, .inr x, hr, rfl, hl, hq _ (kput (.inr x) rv h)⟩
      | _ => cases k1
    | @n _ xs ys _ _ h0 h1 h2 h3 h4 h5 =>
      cases ks with
      | nil => exact absurd (List.map_eq_nil_iff.mp h3) h0
      | cons k ks =>
        obtain ⟨q1, _⟩ := Bool.and_eq_true_iff.mp (show (D.kK k && ks.all D.kK) = true from k2)
        obtain ⟨q2, _⟩ := Bool.and_eq_true_iff.mp (show (D.tok k && ks.all D.tok) = true from h2)
        obtain ⟨_, _, _, rfl⟩ := tok_nok q2
        cases q1
  · obtain ⟨k1, k2⟩ := Bool.and_eq_true_iff.mp al
    obtain ⟨t1, t2, _⟩ := tok_nok k1
    obtain ⟨b, rfl⟩ := tok_ref ry k1
    have hk := nk_of R.ex d _ ry t1
    cases z with
    | @k _ kvs _ h =>
      cases kvs with
      | nil =>
        cases h
        exact .inr ⟨[], b, D.nk d, .inr ⟨rfl, hr⟩, fun x hx => (nomatch hx), rfl, hk, t2, by show 0 < sizeLine; decide, fun u ru => hq _ (nput (xs := []) (ks := []) (ys := []) (vs := []) (H := H) k1 ry ru rv .nil rfl rfl .nil .nil)⟩
      | cons p kvs =>
        obtain ⟨q2, _⟩ := Bool.and_eq_true_iff.mp (show (D.tok (kD p.1) && _) = true from k2)
        rcases p with ⟨k | k, _⟩ <;> cases q2
    | @n _ xs ys _ _ h0 h1 h2 h3 h4 h5 =>
      refine .inr ⟨xs, b, D.nk d, .inl hr, keys_nks R.ex h1 h2 h3, rfl, hk, t2, ?_, fun u ru => hq _ (nput (H := H) k1 ry ru rv h1 h2 h3 h4 h5)⟩
      have := congrArg List.length h3
      rw [List.length_map, List.length_map] at this
      rw [this]
      exact Nat.lt_of_le_of_lt hl (by decide)
def sDPutA (K : Kw) (td ty tv : TE) : TS := fun D σ H => tv σ H fun v H1 => td σ H1 fun x H2 => ty σ H2 fun y H3 => ∃ a, x = .ref a ∧ DPutA K H3 a y v fun H4 => D.nx σ H4
def tSeal (ts : TS) : TS := fun En σ H => ∃ a u, H a = some u ∧ Mut (some u) ∧ ∀ od, ts En σ (upd H a (.frz od u))
section
variable {X : L2.Cx}
theorem ps_dputA {o i value : Expr} {td ty tv : TE} {pos pos' : Pos} (hu : X.A.units + 9 < cLine) (ho : PE X o td) (hi : PE X i ty) (hv : PE X value tv) (hs : swapsWith value (some (.Subscript o i pos')) pos.line X.env = pure false) :
    PS X (.Assign [.Subscript o i pos'] value pos) (sDPutA X.kw td ty tv) := by
  refine ⟨fun pins s σ H D I h => ?_⟩
  refine wpAny_Assign_Subscript (thn (hv.run pins s σ H _ I h) fun r s1 ⟨v, H1, I1, rv, q1⟩ => thn (ho.run pins s1 σ H1 _ I1 q1) fun u s2 ⟨x, H2, I2, rx, q2⟩ => thn (hi.run pins s2 σ H2 _ I2 q2) fun iv s3 ⟨y, H3, I3, ry, a, ex, q3⟩ => ?_) hs
  subst ex
  obtain rfl : u = Value.ref a := rx
  rcases q3 with ⟨kvs, k, g1, g2, g3, q3⟩ | g
  · exact d_setItem (by omega) I3 (.inl ⟨kvs, k, g1, g2, g3, rfl⟩) ry rv fun s4 I4 => ⟨σ, _, I4, q3⟩
  · exact h_setItem hu I3 g ry rv fun H4 s4 q4 I4 => ⟨σ, H4, I4, q4⟩
theorem ps_seal {st : Stmt} {ts : TS} (h : PS X st ts) : PS X st (tSeal ts) := by
  refine ⟨fun pins s σ H D I hw => ?_⟩
  obtain ⟨d, u, hd, mu, hw⟩ := hw
  obtain ⟨od, I1⟩ := I.lock hd mu
  exact h.run pins s σ _ _ I1 (hw od)
end
theorem Rel.sealed {K : Kw} {w : Wd} {S : Sto} {H : Hp} (r : Rel K w S H) {n : Nat} {a : Addr} {c : Cell} {o : HO} (h1 : w.B[n]? = some a) (h2 : S[n]? = some c) (h3 : c.live = true) : w.le (w.plus a o) ∧ Rel K (w.plus a o) (S.set n .dead) (upd H a o) := by
  obtain ⟨f0, _⟩ := r.cell n a c h1 h2 h3
  have le : w.le (w.plus a o) := Wd.le_plus f0
  have R1 : Rel K w (S.set n .dead) (upd H a o) := r.put h1 h2 h3 trivial
  refine ⟨le, fun b u e => ?_, R1.len, R1.nd, R1.used, fun m b c' g1 g2 g3 => ?_, fun b u hu => by
    obtain ⟨k1, k2, k3⟩ := R1.hid b u hu
    have ne : b ≠ a := fun z => k3 (z ▸ List.mem_of_getElem? h1)
    exact ⟨k1, show upd w.F a o b = none by rw [upd_ne ne]; exact k2, k3⟩⟩
  · have e' : upd w.F a o b = some u := e
    by_cases q : b = a
    · subst q
      rw [upd_same] at e' ⊢
      exact e'
    · rw [upd_ne q] at e'
      exact R1.ex b u e'
  · by_cases q : m = n
    · subst q
      rw [List.getElem?_set_self (List.getElem?_eq_some_iff.mp h2).1] at g2
      cases g2
      cases g3
    · obtain ⟨k1, k2⟩ := R1.cell m b c' g1 g2 g3
      have ne : b ≠ a := fun z => by
        subst z
        exact q (nd_ix r.nd g1 h1)
      exact ⟨show upd w.F a o b = none by rw [upd_ne ne]; exact k1, k2.up le rfl⟩
/-- from now on the dict is known -/
def sFrzD (i : Nat) : Stm := fun e S => match e.sl[i]? with
  | some (some (.ptr n)) => match S[n]? with
    | some (.dct ks vs) => .nx (setS i (.dic ks vs) e) (S.set n .dead)
    | _ => .no
  | _ => .no
def sDSet (m mo mi : Env → M D) : Stm := sE m fun d => sE mo fun o => sE mi fun i => sE (fun _ => dDPut o i d) fun _ e S => .nx e S
def eDNew (_ : Env) : M D := fun S => .ok (.ptr S.length) (S ++ [.dct [] []])
theorem vrd_mut {K : Kw} {w : Wd} {a : Addr} {u : HO} {ks vs : List D} (z : VRd K w a u ks vs) : Mut (some u) := by
  cases z <;> exact True.intro
section
variable {X : L2.Cx} {C : Ct} {ta to ti : TE} {a o i : Expr} {ma mo mi : Env → M D} {pos : Pos}
theorem ce_dnew (hK : X.kw = C.K := by rfl) : CE X C (.Dict [] [] pos) tDNewK eDNew := ⟨hK, fun y => pe_dnewK, fun e σ w S H Q E R h => by
  intro p hp
  have R' := R.newcell (o := .dK []) (c := .dct [] []) hp ⟨_, upd_same, .k (kvs := []) .nil⟩
  exact h _ _ _ Wd.le_cell R' (.ptr (cell_at p R))⟩
theorem dputs_ok {K : Kw} {w : Wd} {S : Sto} {H : Hp} {x i v : V} {d1 d2 d3 : D} {Q : Hp → Prop} {P : D → Sto → Prop} {E : Er → Sto → Prop} (R : Rel K w S H) (r1 : VR K w x d1) (r2 : VR K w i d2) (r3 : VR K w v d3) (h : (dDPut d1 d2 d3 S).sat P E)
    (hp : ∀ d S', P d S' → ∀ (w' : Wd) (H' : Hp), w.le w' → Rel K w' S' H' → Q H') : ∃ a, x = .ref a ∧ DPutA K H a i v Q := by
  unfold dDPut at h
  cases r1 with
  | @ptr p n hb =>
    simp only at h
    cases q : S[n]? with
    | none =>
      rw [q] at h
      exact h.elim
    | some cc =>
      rw [q] at h
      cases cc with
      | dct ks vs =>
        simp only at h
        by_cases g : alike ks d2 = true ∧ ks.length ≤ lim
        · rw [if_pos g] at h
          obtain ⟨_, u, hu, z⟩ := R.cell _ _ _ hb q rfl
          exact ⟨p, rfl, dput_of R hu z r2 r3 g.1 g.2 fun u' z' => hp _ _ h w _ (Wd.le.refl w) (R.put hb q rfl ⟨u', upd_same, z'⟩)⟩
        · rw [if_neg g] at h
          exact h.elim
      | _ => exact h.elim
  | _ => exact h.elim
theorem snd_dset (ha : SndE C ta ma) (ho : SndE C to mo) (hi : SndE C ti mi) : SndS C (sDPutA C.K to ti ta) (sDSet ma mo mi) := fun En e σ w S H E R q => ha e σ w S H _ E R ((sE_sat q).imp (fun d S1 h1 w1 H1 v l1 R1 r1 => by
  refine ho e σ w1 S1 H1 _ (E.up l1) R1 ((sE_sat h1).imp (fun o S2 h2 w2 H2 ov l2 R2 r2 => ?_) fun x s z => pxs_px (E.up l1) (z.up l1))
  refine hi e σ w2 S2 H2 _ (E.up (l1.trans l2)) R2 ((sE_sat h2).imp (fun i S3 h3 w3 H3 iv l3 R3 r3 => ?_) fun x s z => pxs_px (E.up (l1.trans l2)) (z.up (l1.trans l2)))
  have l13 := (l1.trans l2).trans l3
  exact dputs_ok R3 (r2.up l3) r3 (r1.up (l2.trans l3)) (sE_sat h3) fun _ S4 h4 w4 H4 l4 R4 => h4 w4 H4 σ (l13.trans l4) R4 (E.up (l13.trans l4))) fun x s z => pxs_px E z)
theorem cs_dset {sp : Pos} (hu : X.A.units + 9 < cLine) (ha : CE X C a ta ma) (ho : CE X C o to mo) (hi : CE X C i ti mi) (hs : swapsWith a (some (.Subscript o i sp)) pos.line X.env = pure false := by rfl) :
    CS X C (.Assign [.Subscript o i sp] a pos) (sDPutA C.K to ti ta) (sDSet ma mo mi) := ⟨fun y => by rw [← ha.hK]; exact ps_dputA hu (ho.pe y) (hi.pe y) (ha.pe y) hs, snd_dset ha.sn ho.sn hi.sn⟩
theorem snd_frzD {ts : TS} {m : Stm} (i : Nat) (h : SndS C ts m) : SndS C (tSeal ts) (sSeq (sFrzD i) m) := fun En e σ w S H E R q => by
  unfold sSeq sFrzD at q
  cases z : e.sl[i]? with
  | none =>
    rw [z] at q
    exact q.elim
  | some o =>
    rw [z] at q
    cases o with
    | none => exact q.elim
    | some d =>
      cases d with
      | ptr n =>
        obtain ⟨v, h1, h2⟩ := E.sl i _ z
        cases h2 with
        | @ptr p _ hb =>
          simp only at q
          cases y : S[n]? with
          | none =>
            rw [y] at q
            exact q.elim
          | some cc =>
            rw [y] at q
            cases cc with
            | dct ks vs =>
              obtain ⟨_, u, hu, zd⟩ := R.cell _ _ _ hb y rfl
              refine ⟨p, u, hu, vrd_mut zd, fun od => ?_⟩
              obtain ⟨le, R2⟩ := R.sealed (o := .frz od u) hb y rfl
              exact h En _ σ _ _ _ ((E.up le).frz h1 (.dic upd_same (zd.up le))) R2 (SO.sat.imp (show (m _ _).sat _ _ _ _ _ from q) (fun _ _ z => z.up le) (fun _ _ z => z.up le) (fun _ _ z => z.up le) (fun _ _ z => z.up le) (fun _ _ _ z => z.up le))
            | _ => exact q.elim
      | _ => exact q.elim
theorem cs_frzD {st : Stmt} {ts : TS} {m : Stm} (i : Nat) (h : CS X C st ts m) : CS X C st (tSeal ts) (sSeq (sFrzD i) m) := ⟨fun y => ps_seal (h.ps y), snd_frzD i h.sn⟩
end
end PM
end
section
set_option Elab.async false
set_option linter.all false
set_option maxRecDepth 100000
set_option maxHeartbeats 4000000
namespace PM
open PySem PySem.W PySem.Spec PyProof.Rows L2 Evl
/-- what a dict's object holds, whatever its keys are -/
def IsU (w : World) (d : Addr) (u : HO) (kk vv : List V) : Prop :=
  (∃ kvs : List (Key × V), u = .dK kvs ∧ kk = kvs.map (fun p => kV p.1) ∧ vv = kvs.map (·.2)) ∨
  ∃ xs : List (NestedKey × Addr × Value), u = DNo w d xs ∧ kk = xs.map (fun x => V.ref x.2.1) ∧ Vals vv (xs.map (·.2.2))
theorem keys_vr {K : Kw} {w : Wd} : ∀ kvs : List (Key × V), VRs K w (kvs.map fun p => kV p.1) (kvs.map fun p => kD p.1)
  | [] => .nil
  | (.inl i, _) :: r => .cons (.int i) (keys_vr r)
  | (.inr x, _) :: r => .cons (.str x) (keys_vr r)
theorem isU_of {K : Kw} {w : Wd} {a : Addr} {u : HO} {ks vs : List D} (z : VRd K w a u ks vs) : ∃ kk vv, IsU K.w a u kk vv ∧ VRs K w kk ks ∧ VRs K w vv vs := by
  cases z with
  | @k _ kvs _ h => exact ⟨_, _, .inl ⟨kvs, rfl, rfl, rfl⟩, keys_vr kvs, h⟩
  | @n _ xs ys _ _ h0 h1 h2 h3 h4 h5 => exact ⟨_, ys, .inr ⟨xs, rfl, rfl, h5⟩, h1, h4⟩
structure Ents (es : Array DictEntry) (kk vv : List V) : Prop where
  sk : es.size = kk.length
  sv : es.size = vv.length
  at' : ∀ (i : Nat) (en : DictEntry), es[i]? = some en → (∃ k, kk[i]? = some k ∧ RelV k en.key) ∧ ∃ v, vv[i]? = some v ∧ RelV v en.val
theorem pairs_get {P : Program} {w : World} : ∀ {l : List DictEntry} {kvs : List (Key × V)} {vs : List (Key × Value)}, KV kvs vs → Pairs (mixKind P w) l vs → l.length = kvs.length ∧ ∀ (i : Nat) (en : DictEntry), l[i]? = some en → ∃ k v, kvs[i]? = some (k, v) ∧ RelV (kV k) en.key ∧ RelV v en.val
  | [], _, _, r, .nil => by
    cases r
    exact ⟨rfl, fun i en h => by simp at h⟩
  | e :: l, _, _, r, .cons h1 h2 h3 => by
    cases r with
    | @cons p q ps qs g t =>
      obtain ⟨h4, h5⟩ := pairs_get t h3
      refine ⟨by rw [List.length_cons, List.length_cons, h4], fun i en h => ?_⟩
      cases i with
      | zero =>
        simp only [List.getElem?_cons_zero, Option.some.injEq] at h
        subst h
        refine ⟨p.1, p.2, rfl, ?_, ?_⟩
        · rw [g.1]
          exact relV_key h1
        · rw [h2]
          exact g.2
      | succ i => exact h5 i en h
section
variable {X : L2.Cx} {pins : List (Addr × Obj)} {σ : L2.St} {H : Hp} {s : Shared} {d : Addr} {o : Obj} {u : HO} {kk vv : List V}
theorem fz_of (I : Inv X pins σ H s) (h : H d = some (.frz o u)) (z : IsU X.w d u kk vv) : (d == sysModules) = false ∧ s.heap.get? d = some o ∧ o.ExactDict ∧ ∃ (es : Array DictEntry) (ep : Nat), o.data = .dict es ep ∧ Ents es kk vv := by
  rcases z with ⟨kvs, rfl, rfl, rfl⟩ | ⟨xs, rfl, rfl, hv⟩
  · obtain ⟨hd, z, hs, vs, kv, o', es, ep, ho, hx, hdt, _, hp, _⟩ := I.hok d _ h
    rw [hd] at ho
    cases ho
    obtain ⟨h1, h2⟩ := pairs_get kv hp
    rw [Array.length_toList] at h1
    refine ⟨hs, hd, hx, es, ep, hdt, by rw [List.length_map]; exact h1, by rw [List.length_map]; exact h1, fun i en he => ?_⟩
    obtain ⟨k, v, g1, g2, g3⟩ := h2 i en (by rw [Array.getElem?_toList]; exact he)
    exact ⟨⟨kV k, by rw [List.getElem?_map, g1]; rfl, g2⟩, v, by rw [List.getElem?_map, g1]; rfl, g3⟩
  · obtain ⟨hd, ⟨z, hs, nd, o', es, ep, ho, hx, hdt, he⟩, _⟩ := I.hok d _ h
    rw [hd] at ho
    cases ho
    have hl : es.size = xs.length := by rw [← Array.length_toList, he, List.length_map]
    refine ⟨hs, hd, hx, es, ep, hdt, by rw [List.length_map]; exact hl, by rw [Vals.length hv, List.length_map]; exact hl, fun i en hi => ?_⟩
    have q : (xs.map (entN X.w))[i]? = some en := by rw [← he, Array.getElem?_toList]; exact hi
    rw [List.getElem?_map] at q
    obtain ⟨x, q1, q2⟩ := Option.map_eq_some_iff.mp q
    subst q2
    have hiv : i < vv.length := by
      rw [Vals.length hv, List.length_map]
      exact (List.getElem?_eq_some_iff.mp q1).1
    obtain ⟨w', g1, g2⟩ := Vals.get hv (List.getElem?_eq_getElem hiv)
    rw [List.getElem?_map, q1] at g1
    cases g1
    exact ⟨⟨V.ref x.2.1, by rw [List.getElem?_map, q1]; rfl, (show RelV (V.ref x.2.1) (Value.ref x.2.1) from rfl)⟩, _, List.getElem?_eq_getElem hiv, g2⟩
end
/-- the things of the list l, while the dict at d is known -/
def ItS (d : Addr) (o : Obj) (u : HO) (l : List V) : It :=
  ⟨fun i H => H d = some (.frz o u) ∧ i < l.length, fun i H x H' => H' = H ∧ l[i]? = some x, fun i H => H d = some (.frz o u) ∧ l.length ≤ i⟩
section
variable {P : Program} {w : World} {K : PySem.W.Frag} {tg : Expr} {d : Addr} {o : Obj} {u : HO} {kk vv : List V} {es : Array DictEntry} {ep : Nat}
theorem turnK (it : Addr) (z : IsU w d u kk vv) (hod : o.data = .dict es ep) (hl : es.size = kk.length) : L2.Turn P w K tg (ItS d o u kk) [it] it (fun i h => h.IsKeyIter it d i es.size ep) where
  mem := List.mem_singleton.mpr rfl
  obj := fun i h st b hb => by
    rw [List.mem_singleton.mp hb]
    obtain ⟨oi, e, c, dd⟩ := st
    exact ⟨oi, e, fun v q => by rw [dd] at q; cases q⟩
  keep := fun i h h' st k => st.at fun oi e => k it (List.mem_singleton.mpr rfl) oi e
  item := by
    intro X hP hw hK hc i pins s σ H E I hf st ⟨hd, hi⟩
    subst hP hw hK
    obtain ⟨f0, f1, f2, f3, f4, f5⟩ := hf it (List.mem_singleton.mpr rfl)
    obtain ⟨_, hgd, _, es', ep', hdt, en⟩ := fz_of I hd z
    obtain ⟨rfl, rfl⟩ := dict_ep hod hdt
    have hie : i < es'.size := by rw [hl]; exact hi
    obtain ⟨⟨k, k1, k2⟩, _⟩ := en.at' i _ (Array.getElem?_eq_getElem hie)
    refine next_key_item st hgd hdt rfl (Array.getElem?_eq_getElem hie) fun h' st' sb => ?_
    have I1 : Inv X pins σ H { s with heap := h' } := I.turned (t' := s.toks) (fun b ob hb e => (sb.2 b hb).trans e) f0 f1 f3 f4 f5
    obtain ⟨oi, e, c, dd⟩ := id st'
    exact ⟨_, rfl, go_of (s := { s with heap := h' }) e c dd (by decide) ⟨k, H, I1, k2, ⟨rfl, k1⟩, st', fun b hb => (hf b hb).1⟩⟩
  done := by
    intro X hP hw hK hc i pins s σ H E I hf st ⟨hd, hi⟩
    subst hP hw hK
    obtain ⟨f0, f1, f2, f3, f4, f5⟩ := hf it (List.mem_singleton.mpr rfl)
    obtain ⟨_, hgd, _, es', ep', hdt, en⟩ := fz_of I hd z
    obtain ⟨rfl, rfl⟩ := dict_ep hod hdt
    exact next_key_end (I.ok.hd hc) st hgd hdt rfl (by rw [hl]; exact hi) fun h' eb => ⟨rfl, I.turned (t' := s.toks) (fun b ob hb e => eb b ob hb e) f0 f1 f3 f4 f5⟩
  self := fun A i s Q E st h => wpAny_pyIter_keyiter st h
end
def iKeysA (W : World) (td : TE) : TI := fun σ H R => td σ H fun x H1 => ∃ d o u kk vv, x = .ref d ∧ IsU W d u kk vv ∧ H1 d = some (.frz o u) ∧ R (ItS d o u kk) H1
section
variable {X : L2.Cx} {tg e : Expr} {td : TE} {apos cpos : Pos}
theorem pi_keysA (he : PE X e td) : PI X tg e (iKeysA X.w td) := by
  refine ⟨fun pins s σ H R I h => ?_⟩
  refine thn (he.run pins s σ H _ I h) fun v s1 ⟨x, H1, I1, rx, d, o, u, kk, vv, ex, z, hd, q⟩ => ?_
  subst ex
  obtain rfl : v = Value.ref d := rx
  obtain ⟨hs, hgd, hx, es, ep, hdt, en⟩ := fz_of I1 hd z
  exact iter_keys hs hgd hx hdt (pi_one (tk := s1.toks) I1 _ (turnK _ z hdt en.sk) ⟨_, Heap.get?_push_size _ rfl, rfl, rfl⟩ q)
end
theorem walks_S {K : Kw} {w : Wd} {d : Addr} {o : Obj} {u : HO} {l : List V} {ds : List D} (h : w.F d = some (.frz o u)) (r : VRs K w l ds) : WalksR K (ItS d o u l) w ⟨ds, []⟩ := ⟨fun w' S H l0 R _ i e he => by
  obtain ⟨v, v1, v2⟩ := r.get he
  refine ⟨⟨R.ex _ _ (l0.f _ _ h), (List.getElem?_eq_some_iff.mp v1).1⟩, fun x H' ⟨rfl, hy⟩ => ⟨w', Wd.le.refl _, R, ?_⟩⟩
  rw [v1] at hy
  cases hy
  exact v2.up0 l0, fun w' S H l0 R _ => ⟨R.ex _ _ (l0.f _ _ h), by rw [r.len]; exact Nat.le_refl _⟩⟩
def iKeysD (m : Env → M D) (e : Env) : M Itm := bind (m e) fun d => match d with
  | .dic ks _ => ret ⟨ks, []⟩
  | _ => stuck
section
variable {X : L2.Cx} {C : Ct} {tg a : Expr} {ta : TE} {ma : Env → M D} {apos cpos : Pos}
theorem ci_keysD (ha : CE X C a ta ma) : CI X C tg a (iKeysA C.K.w ta) (iKeysD ma) := ⟨ha.hK, fun y => by rw [← ha.hK]; exact pi_keysA (ha.pe y), fun e σ w S H R E Rl h => by
  have h := sat_then.mp h
  refine ha.sn e σ w S H _ E Rl (h.imp (fun d S1 h1 w1 H1 v l1 R1 r1 => ?_) (fun x s hx => hx))
  cases r1 with
  | @dic p od u ks vs q z =>
    obtain ⟨kk, vv, z1, z2, z3⟩ := isU_of z
    exact ⟨p, od, u, kk, vv, rfl, z1, R1.ex _ _ q, h1 w1 H1 _ l1 R1 (walks_S q z2)⟩
  | _ => exact h1.elim⟩
end
end PM
end
section
set_option Elab.async false
set_option linter.all false
set_option maxRecDepth 100000
set_option maxHeartbeats 4000000
namespace PM
open PySem L2 Evl
def lcGo2 (src : List (Nat × List D)) (tg : D → Env → Option Env) (t : Env → M Bool) (mi : Env → M (List D)) (e0 : Env) : List D → M (List D)
  | [] => chk src (ret [])
  | d :: ds => chk src (oM (tg d e0) fun e1 => bind (t e1) fun b => if b then bind (mi e1) fun ys => bind (lcGo2 src tg t mi e0 ds) fun zs => ret (ys ++ zs) else lcGo2 src tg t mi e0 ds)
def lcIn (it : Env → M Itm) (vs : List Nat) (tg : D → Env → Option Env) (t : Env → M Bool) (m : Env → M D) (e : Env) : M (List D) := bind (it e) fun I => gd (I.ds.length ≤ 4000) (lcGo I.src tg t m (wipeE e vs) I.ds)
def eLc2 (keep : Bool) (it : Env → M Itm) (vs : List Nat) (tg : D → Env → Option Env) (t : Env → M Bool) (it1 : Env → M Itm) (vs1 : List Nat) (tg1 : D → Env → Option Env) (t1 : Env → M Bool) (m : Env → M D) (e : Env) : M D :=
  bind (it e) fun I => gd (I.ds.length ≤ 4000) (bind (noEM (lcGo2 I.src tg t (lcIn it1 vs1 tg1 t1 m) (wipeE e vs) I.ds)) (if keep then fCell else fLst))
/-- the list grows at Dl, hidden -/
def Gw (K : Kw) (Dl : Addr) (w : Wd) (n : Nat) (G : List D → Sto → Prop) (H : Hp) : Prop := ∃ (w2 : Wd) (S2 : Sto) (acc : List V) (ads : List D), w.le w2 ∧ Rel K (w2.hide Dl (.lst acc)) S2 H ∧ VRs K w2 acc ads ∧ acc.length ≤ n ∧ G ads S2
theorem Gw.base {K : Kw} {Dl : Addr} {w w' : Wd} {n n' : Nat} {G : List D → Sto → Prop} {H : Hp} (l : w.le w') (hn : n ≤ n') (h : Gw K Dl w' n G H) : Gw K Dl w n' G H := by
  obtain ⟨w2, S2, acc, ads, a, b, c, d, e⟩ := h
  exact ⟨w2, S2, acc, ads, l.trans a, b, c, Nat.le_trans d hn, e⟩
section
variable {X : L2.Cx} {C : Ct} {ta tb tc te : TE} {a b c tg tg1 : Expr} {ma mb mc : Env → M D} {pos : Pos}
theorem snd_lc2 (keep : Bool) {wi wi1 : TI} {it it1 : Env → M Itm} {g g1 : TG} {f f1 : D → Env → Option Env} {vs vs1 : List Nat} {tt tt1 : TT} {t t1 : Env → M Bool} {m : Env → M D} (hI : SndI C wi it) (hg : SndG (C0 C) g f) (hk : KeepG g vs) (ht : SndT (C0 C) tt t)
    (hI1 : SndI (C0 C) wi1 it1) (hg1 : SndG (C0 C) g1 f1) (hk1 : KeepG g1 vs1) (ht1 : SndT (C0 C) tt1 t1) (he : SndE (C0 C) te m) : SndE C (tLc2 wi g tt wi1 g1 tt1 te vs vs1) (eLc2 keep it vs f t it1 vs1 f1 t1 m) := fun e σ w S H Q E R h => by
  have h := sat_then.mp h
  refine hI e σ w S H _ E R (h.imp (fun I S1 h1 w1 H1 J l1 R1 wk => ?_) (fun x s hx => hx))
  obtain ⟨hlen, h1⟩ := gd_sat h1
  intro Dl hD
  have h2 := noE_sat (E' := fun _ _ => False) (sat_then.mp h1)
  have hU : w1.U Dl = none := by
    cases q : w1.U Dl with
    | none => rfl
    | some o =>
      have := (R1.hid Dl o q).1
      rw [hD] at this
      cases this
  have E1 : EnvR (C0 C) w1 (L2.wipe σ vs) (wipeE e vs) := ((E.up l1).wipe vs).c0
  let fin : List D → Sto → Prop := fun ys S3 => ((if keep then fCell else fLst) ys S3).sat (PV C.K w Q) (PX C w σ)
  let G : Nat → List D → Sto → Prop := fun i ads S2 => (lcGo2 I.src f t (lcIn it1 vs1 f1 t1 m) (wipeE e vs) (I.ds.drop i) S2).sat (fun ys S3 => fin (ads ++ ys) S3) (fun _ _ => False)
  refine ⟨fun i n H' => n = I.ds.length - i ∧ i ≤ I.ds.length ∧ Gw C.K Dl w1 (4000 * i) (G i) H', ⟨I.ds.length, by simp, Nat.zero_le _, w1, S1, [], [], Wd.le.refl _, R1.hide hD, .nil, Nat.zero_le _, h2⟩, ?_⟩
  rintro i n H2 ⟨rfl, hi, w2, S2, acc, ads, l2, R2, aa, hacc, hgo⟩
  have hU2 : w2.U Dl = none := by rw [l2.u]; exact hU
  by_cases hlt : i < I.ds.length
  · have hgo : (lcGo2 I.src f t (lcIn it1 vs1 f1 t1 m) (wipeE e vs) (I.ds.drop i) S2).sat (fun ys S3 => fin (ads ++ ys) S3) (fun _ _ => False) := hgo
    rw [List.drop_eq_getElem_cons hlt] at hgo
    obtain ⟨ok, hgo⟩ := chk_sat hgo
    obtain ⟨e1, q1, hgo⟩ := oM_sat hgo
    obtain ⟨g1', g2⟩ := wk.go (w2.hide Dl (.lst acc)) S2 H2 l2.z.hide R2 ok i _ (List.getElem?_eq_getElem hlt)
    let Nx : Hp → Prop := Gw C.K Dl w1 (4000 * (i + 1)) (G (i + 1))
    refine .inr ⟨g1', Nx, fun H3 q => ⟨I.ds.length - (i + 1), by omega, rfl, by omega, q⟩, fun x H3 hy => ?_⟩
    obtain ⟨w3, l3, R3, a3⟩ := g2 x H3 hy
    have hgo := sat_then.mp hgo
    have z := hk x (L2.wipe σ vs) H3 (fun σ2 H4 => tt σ2 H4 fun b H5 => if b = true then wi1 σ2 H5 fun J1 H6 => ∃ W1 : Nat → Nat → Hp → Prop, (∃ m, W1 0 m H6) ∧ ∀ j k H, W1 j k H →
        (J1.stop j H ∧ Nx H) ∨ (J1.go j H ∧ ∃ Nx1 : Hp → Prop, (∀ H', Nx1 H' → ∃ k', k' < k ∧ W1 (j + 1) k' H') ∧ ∀ x H', J1.yld j H x H' → g1 x (L2.wipe σ2 vs1) H' fun σ3 H7 => L2.wipe σ3 vs1 = L2.wipe σ2 vs1 ∧ tt1 σ3 H7 fun b H8 =>
          if b = true then te σ3 H8 fun y H9 => ∃ acc, H9 Dl = some (.lst acc) ∧ acc.length < sizeLine ∧ Nx1 (upd H9 Dl (.lst (acc ++ [y]))) else Nx1 H8) else Nx H5)
      (hg _ (L2.wipe σ vs) w3 S2 H3 x _ e1 _ (E1.up0 (l2.z.hide.trans l3.z)) R3 a3 q1 fun σ2 E2 => ?_)
    · rw [wipe_idem] at z
      exact z
    · refine ht e1 σ2 w3 S2 H3 _ E2 R3 (hgo.imp (fun k S4 h4 w4 H4 l4 R4 => ?_) fun _ _ z => z.elim)
      have l34 : (w2.hide Dl (.lst acc)).le w4 := l3.trans l4
      cases k with
      | false =>
        have e4 := Wd.unhide_eq (w5 := w4) (w2 := w2) l34.u
        rw [e4] at R4
        exact ⟨⟨w4.F, w4.B, w2.U⟩, S4, acc, ads, l2.trans ⟨l34.f, l34.b, rfl⟩, R4, VRs.up (w := w2) (w' := ⟨w4.F, w4.B, w2.U⟩) ⟨l34.f, l34.b, rfl⟩ aa, by omega, h4⟩
      | true =>
        have h4 := sat_then.mp (show ((lcIn it1 vs1 f1 t1 m e1 S4).then _).sat _ _ from h4)
        have h4 := sat_then.mp (show ((it1 e1 S4).then _).sat _ _ from h4)
        refine hI1 e1 σ2 w4 S4 H4 _ (E2.up l4) R4 (h4.imp (fun I1 S5 h5 w5 H5 J1 l5 R5 wk1 => ?_) fun _ _ z => z.elim)
        obtain ⟨hlen1, h5⟩ := gd_sat h5
        have l35 : (w2.hide Dl (.lst acc)).le w5 := l34.trans l5
        have e5 := Wd.unhide_eq (w5 := w5) (w2 := w2) l35.u
        have R5' := R5
        rw [e5] at R5'
        let w6 : Wd := ⟨w5.F, w5.B, w2.U⟩
        have l6 : w2.le w6 := ⟨l35.f, l35.b, rfl⟩
        have hU6 : w6.U Dl = none := hU2
        have E5 : EnvR (C0 C) w5 (L2.wipe σ2 vs1) (wipeE e1 vs1) := ((E2.up l4).up l5).wipe vs1
        have l56 : w5.le0 w6 := ⟨Ex.refl _, List.prefix_rfl⟩
        refine ⟨fun j k H' => k = I1.ds.length - j ∧ j ≤ I1.ds.length ∧ Gw C.K Dl w6 (4000 * i + j) (fun ads' S' => (lcGo I1.src f1 t1 m (wipeE e1 vs1) (I1.ds.drop j) S').sat (fun ys S6 => ((bind (lcGo2 I.src f t (lcIn it1 vs1 f1 t1 m) (wipeE e vs) (I.ds.drop (i + 1))) fun zs => ret (ys ++ zs)) S6).sat (fun us S7 => fin (ads' ++ us) S7) (fun _ _ => False)) (fun _ _ => False)) H',
          ⟨I1.ds.length, by simp, Nat.zero_le _, w6, S5, acc, ads, Wd.le.refl _, R5', VRs.up l6 aa, hacc, ?_⟩, ?_⟩
        · exact h5
        rintro j k H6 ⟨rfl, hj, w7, S7, acc', ads', l7, R7, aa', hacc', hgo1⟩
        have l57 : w5.le0 (w7.hide Dl (.lst acc')) := l56.trans l7.z.hide
        by_cases hlt1 : j < I1.ds.length
        · rw [List.drop_eq_getElem_cons hlt1] at hgo1
          obtain ⟨ok1, hgo1⟩ := chk_sat hgo1
          obtain ⟨e3, q3, hgo1⟩ := oM_sat hgo1
          obtain ⟨k1, k2⟩ := wk1.go (w7.hide Dl (.lst acc')) S7 H6 l57 R7 ok1 j _ (List.getElem?_eq_getElem hlt1)
          let Nx1 : Hp → Prop := Gw C.K Dl w6 (4000 * i + (j + 1)) (fun ads' S' => (lcGo I1.src f1 t1 m (wipeE e1 vs1) (I1.ds.drop (j + 1)) S').sat (fun ys S6 => ((bind (lcGo2 I.src f t (lcIn it1 vs1 f1 t1 m) (wipeE e vs) (I.ds.drop (i + 1))) fun zs => ret (ys ++ zs)) S6).sat (fun us S7 => fin (ads' ++ us) S7) (fun _ _ => False)) (fun _ _ => False))
          refine .inr ⟨k1, Nx1, fun H7 q => ⟨I1.ds.length - (j + 1), by omega, rfl, by omega, q⟩, fun x1 H7 hy1 => ?_⟩
          obtain ⟨w8, l8, R8, a8⟩ := k2 x1 H7 hy1
          have hgo1 := sat_then.mp hgo1
          have z1 := hk1 x1 (L2.wipe σ2 vs1) H7 (fun σ3 H8 => tt1 σ3 H8 fun b H9 => if b = true then te σ3 H9 fun y H10 => ∃ acc, H10 Dl = some (.lst acc) ∧ acc.length < sizeLine ∧ Nx1 (upd H10 Dl (.lst (acc ++ [y]))) else Nx1 H9)
            (hg1 _ (L2.wipe σ2 vs1) w8 S7 H7 x1 _ e3 _ (E5.up0 (l57.trans l8.z)) R8 a8 q3 fun σ3 E3 => ?_)
          · rw [wipe_idem] at z1
            exact z1
          · refine ht1 e3 σ3 w8 S7 H7 _ E3 R8 (hgo1.imp (fun k S9 h9 w9 H9 l9 R9 => ?_) fun _ _ z => z.elim)
            have l89 : (w7.hide Dl (.lst acc')).le w9 := l8.trans l9
            cases k with
            | false =>
              have e9 := Wd.unhide_eq (w5 := w9) (w2 := w7) l89.u
              rw [e9] at R9
              exact ⟨⟨w9.F, w9.B, w7.U⟩, S9, acc', ads', l7.trans ⟨l89.f, l89.b, rfl⟩, R9, VRs.up (w := w7) (w' := ⟨w9.F, w9.B, w7.U⟩) ⟨l89.f, l89.b, rfl⟩ aa', by omega, h9⟩
            | true =>
              have h9 := sat_then.mp (show ((m e3 S9).then _).sat _ _ from h9)
              refine he e3 σ3 w9 S9 H9 _ (E3.up l9) R9 (h9.imp (fun y S10 h10 w10 H10 v l10 R10 r10 => ?_) fun _ _ z => z.elim)
              have l810 : (w7.hide Dl (.lst acc')).le w10 := l89.trans l10
              have e10 := Wd.unhide_eq (w5 := w10) (w2 := w7) l810.u
              have k10 := (R10.hid Dl (.lst acc') (by rw [l810.u]; exact upd_same)).1
              rw [e10] at R10
              have l11 : w7.le ⟨w10.F, w10.B, w7.U⟩ := ⟨l810.f, l810.b, rfl⟩
              have hl : acc'.length < sizeLine := by
                have : acc'.length < 16400000 := by omega
                exact Nat.lt_of_lt_of_le this (by decide)
              refine ⟨acc', k10, hl, ⟨w10.F, w10.B, w7.U⟩, S10, acc' ++ [v], ads' ++ [y], l7.trans l11, R10.rehide, (aa'.up l11).app (.one (VR.via (w := w10) (w' := ⟨w10.F, w10.B, w7.U⟩) ⟨rfl, rfl⟩ r10)), by simp; omega, ?_⟩
              refine (sat_then.mp (show ((lcGo I1.src f1 t1 m (wipeE e1 vs1) (I1.ds.drop (j + 1)) S10).then _).sat _ _ from h10)).imp (fun ys S11 h11 => ?_) fun _ _ z => z
              have h11 := sat_then.mp (show ((lcGo2 I.src f t (lcIn it1 vs1 f1 t1 m) (wipeE e vs) (I.ds.drop (i + 1)) S11).then _).sat _ _ from h11)
              refine sat_then.mpr (h11.imp (fun zs S12 h12 => ?_) fun _ _ z => z)
              show fin ((ads' ++ [y]) ++ (ys ++ zs)) S12
              rw [List.append_assoc]
              exact h12
        · have ej : j = I1.ds.length := by omega
          subst ej
          rw [List.drop_length] at hgo1
          obtain ⟨ok1, hgo1⟩ := chk_sat hgo1
          refine .inl ⟨wk1.stop (w7.hide Dl (.lst acc')) S7 H6 l57 R7 ok1, w7, S7, acc', ads', l2.trans (l6.trans l7), R7, aa', by omega, ?_⟩
          have h12 := sat_then.mp (show ((lcGo2 I.src f t (lcIn it1 vs1 f1 t1 m) (wipeE e vs) (I.ds.drop (i + 1)) S7).then _).sat _ _ from hgo1)
          exact h12.imp (fun zs S12 h12 => h12) fun _ _ z => z
  · have ei : i = I.ds.length := by omega
    subst ei
    have hgo : (lcGo2 I.src f t (lcIn it1 vs1 f1 t1 m) (wipeE e vs) (I.ds.drop I.ds.length) S2).sat (fun ys S3 => fin (ads ++ ys) S3) (fun _ _ => False) := hgo
    rw [List.drop_length] at hgo
    obtain ⟨ok, hgo⟩ := chk_sat hgo
    have hgo : ((if keep then fCell else fLst) (ads ++ []) S2).sat (PV C.K w Q) (PX C w σ) := hgo
    rw [List.append_nil] at hgo
    refine .inl ⟨wk.stop (w2.hide Dl (.lst acc)) S2 H2 l2.z.hide R2 ok, ?_⟩
    cases keep with
    | false =>
      obtain ⟨le, R3⟩ := R2.known hU2
      exact hgo _ H2 _ ((l1.trans l2).trans le) R3 (.lst upd_same (aa.up le))
    | true =>
      have R3 := R2.celled (c := .lst ads) hU2 ⟨acc, (R2.hid Dl _ upd_same).1, aa⟩
      exact hgo _ H2 _ ((l1.trans l2).trans Wd.le_cell) R3 (.ptr (cell_at Dl (R2.unhide (fun a u h z => by
        rw [z, hU2] at h
        cases h))))
theorem cs_setLc2 (keep : Bool) {i : Nat} {y : Str} {py spos : Pos} {elt iter iter1 : Expr} {ifs ifs1 : List Expr} {scope : Scope} {own : List (Str × Nat)} {vs1 : List Nat} {wi wi1 : TI} {it it1 : Env → M Itm} {g g1 : TG} {f f1 : D → Env → Option Env} {tt tt1 : TT} {t t1 : Env → M Bool} {m : Env → M D} (hc : X.calm = true) (hN : X.N.Nodup) (hy : X.N[i]? = some y) (hyl : X.env.scope.names.lookup y = some .local)
    (hsw : swapsWith (.ListComp elt [⟨tg, iter, ifs, 0⟩, ⟨tg1, iter1, ifs1, 0⟩] scope pos) (some (.Name y py)) spos.line X.env = pure true) (hi : CI X C tg iter wi it) (ok : BlkOk X.N X.env.scope scope own) (hv : ∀ i ∈ vs1, i ∈ own.map (·.2))
    (hg : ∀ (s : Shared) (H : Hp) (Z : Addr) (cl : List (Str × Addr)) (fp : List Addr), CG (X.blk s H scope (compEnvC scope cl Z X.env) fp) (C0 C) tg g f) (hk : KeepG g (own.map (·.2))) (ht : ∀ (s : Shared) (H : Hp) (Z : Addr) (cl : List (Str × Addr)) (fp : List Addr), CTs (X.blk s H scope (compEnvC scope cl Z X.env) fp) (C0 C) ifs tt t)
    (hi1 : ∀ (s : Shared) (H : Hp) (Z : Addr) (cl : List (Str × Addr)) (fp : List Addr), CI (X.blk s H scope (compEnvC scope cl Z X.env) fp) (C0 C) tg1 iter1 wi1 it1)
    (hg1 : ∀ (s : Shared) (H : Hp) (Z : Addr) (cl : List (Str × Addr)) (fp : List Addr), CG (X.blk s H scope (compEnvC scope cl Z X.env) fp) (C0 C) tg1 g1 f1) (hk1 : KeepG g1 vs1) (ht1 : ∀ (s : Shared) (H : Hp) (Z : Addr) (cl : List (Str × Addr)) (fp : List Addr), CTs (X.blk s H scope (compEnvC scope cl Z X.env) fp) (C0 C) ifs1 tt1 t1)
    (he : ∀ (s : Shared) (H : Hp) (Z : Addr) (cl : List (Str × Addr)) (fp : List Addr), CE (X.blk s H scope (compEnvC scope cl Z X.env) fp) (C0 C) elt te m) (hs : ∀ x, foldedSetIterable iter X.env x = pure x := by intro _; rfl) (hs1 : ∀ env x, foldedSetIterable iter1 env x = pure x := by intro _ _; rfl) :
    CS X C (.Assign [.Name y py] (.ListComp elt [⟨tg, iter, ifs, 0⟩, ⟨tg1, iter1, ifs1, 0⟩] scope pos) spos) (tAsg (tLc2 wi g tt wi1 g1 tt1 te (own.map (·.2)) vs1) (gName i)) (sAsg (eLc2 keep it (own.map (·.2)) f t it1 vs1 f1 t1 m) (gN i)) :=
  ⟨fun y => ps_setLc2 hc hN hy hyl hsw (hi.pi y) ok hv (fun s H Z cl fp => (hg s H Z cl fp).pg hyp0) (fun s H Z cl fp => (ht s H Z cl fp).pt hyp0) (fun s H Z cl fp => (hi1 s H Z cl fp).pi hyp0) (fun s H Z cl fp => (hg1 s H Z cl fp).pg hyp0) (fun s H Z cl fp => (ht1 s H Z cl fp).pt hyp0) (fun s H Z cl fp => (he s H Z cl fp).pe hyp0) hs hs1,
    snd_asg (snd_lc2 keep hi.sn (hg X.s_0 X.H_0 0 [] []).sn hk (ht X.s_0 X.H_0 0 [] []).sn (hi1 X.s_0 X.H_0 0 [] []).sn (hg1 X.s_0 X.H_0 0 [] []).sn hk1 (ht1 X.s_0 X.H_0 0 [] []).sn (he X.s_0 X.H_0 0 [] []).sn) (snd_gname i)⟩
end
end PM
end
section
set_option Elab.async false
set_option linter.all false
set_option maxRecDepth 100000
set_option maxHeartbeats 4000000
namespace PM
open PySem PySem.Spec PyProof.Rows L2 Evl
section
variable {X : L2.Cx} {pins : List (Addr × Obj)} {σ : L2.St} {H : Hp} {s : Shared} {E : Value → Shared → Prop} {D : Addr} {y v : V} {u r : Value}
theorem h_dictSet {QH : Hp → Prop} {Q : Unit → Shared → Prop} (hu : X.A.units + 9 < cLine) (I : Inv X pins σ H s) (g : DPutA X.kw H D y v QH) (ry : RelV y u) (rv : RelV v r) (h : ∀ H' s', QH H' → Inv X pins σ H' s' → Q () s') :
    wpAny (model X.prog X.w) X.A (dictSet D u r) Q E s := by
  rcases g with ⟨kvs, k, g1, rfl, g3, q⟩ | ⟨xs, b, k, e, nk, rfl, hk, hd8, hl, hq⟩
  · exact d_dictSet I g1 g3 ry rv fun s' I' => h _ _ q I'
  · cases (show u = Value.ref b from ry)
    have nd : NDict X.kw H D xs := ⟨by
      rcases e with e | ⟨e1, e2⟩
      · exact .inl (.inl e)
      · exact .inr ⟨e1, .inl e2⟩, nk⟩
    obtain ⟨z, hd, dd⟩ := nd.of I
    refine wpAny_dictSet_heap (knd := nestedKind X.prog X.w) (hsz := z) (by show X.A.units + 8 < cLine; omega) ⟨Nk.is I k _ _ hk rfl, hd8⟩ dd fun h' dd' hs => h _ _ (hq r rv) ?_
    obtain ⟨q, es, ep, hq1, h2, h3, h4, _, h5⟩ := dd'
    refine d_write I ?_ hs ⟨q, hq1⟩ ⟨⟨?_, hd, h5, q, es, ep, hq1, h2, h3, h4⟩, ⟨q, hq1⟩, fun g1 g2 ⟨i1, i2, i3, o, es, ep, i4, i5, i6, i7⟩ kp => ⟨i1, i2, i3, o, es, ep, kp o i4, i5, i6, i7⟩⟩
    · rcases e with e | ⟨_, e⟩ <;> rw [e] <;> exact True.intro
    · exact Nat.le_trans (storedH_length xs k b r) hl
end
/-- the dict's block: D the new dict -/
def tDcA (K : Kw) (wi : TI) (g : TG) (tt : TT) (tk tv : TE) (vs : List Nat) : TE := fun σ H Q => wi σ H fun J H1 => ∀ D, H1 D = none → ∃ W : Nat → Nat → Hp → Prop, (∃ m, W 0 m (upd H1 D (.dK []))) ∧ ∀ i m H, W i m H →
  (J.stop i H ∧ Q (.ref D) H) ∨ (J.go i H ∧ ∃ Nx : Hp → Prop, (∀ H', Nx H' → ∃ m', m' < m ∧ W (i + 1) m' H') ∧ ∀ x H', J.yld i H x H' → g x (L2.wipe σ vs) H' fun σ2 H2 => L2.wipe σ2 vs = L2.wipe σ vs ∧ tt σ2 H2 fun b H3 =>
    if b = true then tk σ2 H3 fun y H4 => tv σ2 H4 fun z H5 => DPutA K H5 D y z Nx else Nx H3)
section
variable {X : L2.Cx}
theorem dcA_core {pins : List (Addr × Obj)} {s : Shared} {σ : L2.St} {H : Hp} {Q : VK} {kx vx tg iter : Expr} {ifs : List Expr} {scope : Scope} {own : List (Str × Nat)} {pos pos' : Pos} {wi : TI} {g : TG} {tt : TT} {tk tv : TE} {use : Option (Value → Sem Unit)} {Qf : Value → Shared → Prop}
    (hu : X.A.units + 9 < cLine) (hc : X.calm = true) (hN : X.N.Nodup) (I : Inv X pins σ H s) (hi : PI X tg iter wi) (ok : BlkOk X.N X.env.scope scope own)
    (hg : ∀ (s : Shared) (H : Hp) (C : Addr) (cl : List (Str × Addr)) (fp : List Addr), PG (X.blk s H scope (compEnvC scope cl C X.env) fp) tg g) (ht : ∀ (s : Shared) (H : Hp) (C : Addr) (cl : List (Str × Addr)) (fp : List Addr), PTs (X.blk s H scope (compEnvC scope cl C X.env) fp) ifs tt)
    (hk : ∀ (s : Shared) (H : Hp) (C : Addr) (cl : List (Str × Addr)) (fp : List Addr), PE (X.blk s H scope (compEnvC scope cl C X.env) fp) kx tk)
    (he : ∀ (s : Shared) (H : Hp) (C : Addr) (cl : List (Str × Addr)) (fp : List Addr), PE (X.blk s H scope (compEnvC scope cl C X.env) fp) vx tv) (hs : ∀ x, foldedSetIterable iter X.env x = pure x)
    (h : tDcA X.kw wi g tt tk tv (own.map (·.2)) σ H Q)
    (hend : ∀ D C s' m H', Inv X pins σ H' s' → Q (.ref D) H' → s'.heap.Ns C m → FpOk X pins H' C → compPost (model X.prog X.w) X.A X.xe use Qf (.ref D) C (.ok .next) s') :
    wpAny (model X.prog X.w) X.A (comprehension (.DictComp kx vx [⟨tg, iter, ifs, 0⟩] scope pos) scope X.env pos' newDict false (eval iter X.env) use) Qf X.xe s := by
  have free : ∀ y ∈ scope.names, y.2 = .free → ∃ c, X.env.cells.lookup y.1 = some c := fun y hy e => (ok.free y hy e).elim (fun k => I.ok.has _ (.inl k)) fun k => I.ok.has _ (.inr k)
  refine wpAny_comprehension_free (use := use) rfl hs (closure_ok free) ok.kind (fun y hy e => by rw [ok.uniq y hy, e])
    (thn (hi.run pins s σ H _ I h) fun _ s1 hx => thn hx fun _ s2 ⟨it, fp, tn, J, H2, e, I2, T, st2, f2, q⟩ => ?_)
  subst e
  refine wpAny_newObj_type (newEnv_comp ?_)
  have hDn : H2 s2.heap.objs.size = none := I2.hok.fresh (Nat.le_refl _)
  obtain ⟨W, ⟨m0, w0⟩, turn⟩ := q _ hDn
  generalize hD : s2.heap.objs.size = D at hDn w0 turn ⊢
  generalize hs3 : ({ s2 with heap := s2.heap.push { cls := .type "dict", data := .dict #[] } } : Shared) = s3
  have h3 : s3.heap = s2.heap.push { cls := .type "dict", data := .dict #[] } := hs3 ▸ rfl
  have I3 : Inv X pins σ (upd H2 D (.dK [])) s3 := by
    subst hs3 hD
    exact I2.laid (t' := s2.toks) (fun b o e => Heap.get?_push_of_some _ e) (Nat.le_refl _) (dk_empty s2.heap I2.big)
  have f3 : ∀ b ∈ fp, FpOk X pins (upd H2 D (.dK [])) b ∧ b < s3.heap.objs.size := fun b hb => by
    obtain ⟨o, eo, _⟩ := T.obj _ _ st2 b hb
    have hlt := Heap.lt_size eo
    exact ⟨⟨by rw [upd_ne (by rw [← hD]; exact Nat.ne_of_lt hlt)]; exact (f2 b hb).1, (f2 b hb).2⟩, by rw [h3, Heap.size_push]; exact Nat.lt_succ_of_lt hlt⟩
  have st3 : tn 0 s3.heap := T.keep _ _ _ st2 fun b _ o e => by rw [h3]; exact Heap.get?_push_of_some _ e
  have I4 := block_start I3 ok hN f3
  show codeAny _ _ (.compStart (.DictComp kx vx [⟨tg, iter, ifs, 0⟩] scope pos) 0 (.ref it) (.ref D) (compEnvC scope (cellsFrom (s3.heap.objs.size + 1) scope.names (cloFrom X.env.cells scope.names [])) s3.heap.objs.size X.env)) (compPost (model X.prog X.w) X.A X.xe use Qf (.ref D) s3.heap.objs.size) { s3 with heap := pushCells (s3.heap.push { cls := .type "dict", data := .dict #[] }) scope.names }
  have pg := hg s3 (upd H2 D (.dK [])) s3.heap.objs.size (cellsFrom (s3.heap.objs.size + 1) scope.names (cloFrom X.env.cells scope.names [])) fp
  have pt := ht s3 (upd H2 D (.dK [])) s3.heap.objs.size (cellsFrom (s3.heap.objs.size + 1) scope.names (cloFrom X.env.cells scope.names [])) fp
  have pk := hk s3 (upd H2 D (.dK [])) s3.heap.objs.size (cellsFrom (s3.heap.objs.size + 1) scope.names (cloFrom X.env.cells scope.names [])) fp
  have pv := he s3 (upd H2 D (.dK [])) s3.heap.objs.size (cellsFrom (s3.heap.objs.size + 1) scope.names (cloFrom X.env.cells scope.names [])) fp
  generalize hce : compEnvC scope (cellsFrom (s3.heap.objs.size + 1) scope.names (cloFrom X.env.cells scope.names [])) s3.heap.objs.size X.env = ce at I4 pg pt pk pv ⊢
  have cL : ce.locals = s3.heap.objs.size := by subst hce; rfl
  generalize hH3 : upd H2 D (.dK []) = H3 at I3 I4 pg pt pk pv w0 f3
  generalize hs4 : ({ s3 with heap := pushCells (s3.heap.push { cls := .type "dict", data := .dict #[] }) scope.names } : Shared) = s4 at I4 ⊢
  have st4 : tn 0 s4.heap := T.keep _ _ _ st3 fun b _ o e => by rw [← hs4]; exact pushCells_keeps _ _ _ _ (Heap.get?_push_of_some _ e)
  have stat : ∀ {σ' : L2.St} {H' : Hp} {s' : Shared}, Inv (X.blk s3 H3 scope ce fp) [] σ' H' s' → (∀ b ∈ fp, H' b = none) → ∀ b ∈ fp, FpOk (X.blk s3 H3 scope ce fp) [] H' b := fun {σ' H' s'} I' hn b hb =>
    ⟨hn b hb, (I'.ok.exf b hb).1, I'.ok.exfs b hb, .inl hb, fun x c e => (I'.ok.exf b hb).2 x c e, fun p hp => absurd (show p ∈ ([] : List (Addr × Obj)) ++ [] from hp) (by simp)⟩
  have loop : codeAny (model X.prog X.w) X.A (.compLoop (.DictComp kx vx [⟨tg, iter, ifs, 0⟩] scope pos) 0 (.ref it) (.ref D) ce) (compPost (model X.prog X.w) X.A X.xe use Qf (.ref D) s3.heap.objs.size) s4 := by
    refine compLoop_anyD (fun n s' => ∃ i H', Inv (X.blk s3 H3 scope ce fp) [] (L2.wipe σ (own.map (·.2))) H' s' ∧ tn i s'.heap ∧ (∀ b ∈ fp, H' b = none) ∧ W i n H') ?_ m0 ⟨0, H3, I4, st4, fun b hb => (f3 b hb).1.1, w0⟩
    rintro n s5 ⟨i, H5, I5, st5, n5, w5⟩
    rcases turn i n H5 w5 with ⟨stop, qq⟩ | ⟨go, Nx, hNx, step⟩
    · refine thnF (T.done (X.blk s3 H3 scope ce fp) rfl rfl rfl hc i [] s5 _ H5 (fun _ _ => False) I5 (stat I5 n5) st5 stop) fun r s6 ⟨hr, I6⟩ => ?_
      subst hr
      have I7 : Inv X pins σ H5 s6 := I3.call' (ch := fp) I6.os I6.base I6.hok I6.bare fun b hb => ⟨(f3 b hb).1.2.2.2.1, (f3 b hb).1.2.1, (f3 b hb).1.2.2.2.2.1, (f3 b hb).1.2.2.2.2.2⟩
      obtain ⟨m, hn, _⟩ := I6.loc
      have hn : s6.heap.Ns s3.heap.objs.size m := by rw [← cL]; exact hn
      exact hend D s3.heap.objs.size s6 m H5 I7 qq hn (I3.fpOk (Nat.le_refl _) (by rw [← cL]; exact I6.free))
    · refine thnF (T.item (X.blk s3 H3 scope ce fp) rfl rfl rfl hc i [] s5 _ H5 (fun _ _ => False) I5 (stat I5 n5) st5 go) fun r s6 ⟨u, hr, h6⟩ => ?_
      subst hr
      refine thnF h6 fun _ s7 ⟨x, H7, I7, r7, y7, st7, n7⟩ => ?_
      have fin : ∀ {σ8 : L2.St} {s' : Shared} {H' : Hp}, L2.wipe σ8 (own.map (·.2)) = L2.wipe σ (own.map (·.2)) → Inv (X.blk s3 H3 scope ce fp) ([] ++ pinsAt fp s7.heap) σ8 H' s' → Nx H' → ∃ m, m < n ∧ ∃ i H', Inv (X.blk s3 H3 scope ce fp) [] (L2.wipe σ (own.map (·.2))) H' s' ∧ tn i s'.heap ∧ (∀ b ∈ fp, H' b = none) ∧ W i m H' := fun {σ8 s' H'} hw I' nx => by
        obtain ⟨m', hm, w'⟩ := hNx H' nx
        have kept : ∀ b ∈ fp, ∀ o, s7.heap.get? b = some o → s'.heap.get? b = some o ∧ H' b = none := fun b hb o e =>
          let z := I'.pin (b, o) (List.mem_append_right _ (List.mem_append_right _ (mem_pinsAt hb e)))
          ⟨z.1, z.2.1⟩
        refine ⟨m', hm, i + 1, H', (I'.unpinned (pins := [])).weak (by rw [← hw, wipe_length]) (fun j v e => ?_), T.keep _ _ _ st7 fun b hb o e => (kept b hb o e).1, fun b hb => ?_, w'⟩
        · rw [← hw] at e
          exact (wipe_some e).1
        · obtain ⟨o, e, _⟩ := T.obj _ _ st7 b hb
          exact (kept b hb o e).2
      refine thnF (pg.run _ s7 _ H7 x u _ (I7.pinned (stat I7 n7) (T.obj _ _ st7)) r7 (step x H7 y7)) fun _ s8 ⟨σ8, H8, I8, hw8, q8⟩ => ?_
      refine thnF (pt.run _ s8 σ8 H8 _ I8 q8) fun b s9 ⟨H9, I9, q9⟩ => ?_
      cases b with
      | false =>
        simp only [Bool.false_eq_true, if_false] at q9 ⊢
        exact fin hw8 I9 q9
      | true =>
        simp only [if_true] at q9 ⊢
        refine thnF (pk.run _ s9 σ8 H9 _ I9 q9) fun z s10 ⟨yk, H10, I10, r10, q10⟩ => thnF (pv.run _ s10 σ8 H10 _ I10 q10) fun z2 s11 ⟨yv, H11, I11, r11, pt⟩ => ?_
        exact h_dictSet (X := X.blk s3 H3 scope ce fp) hu I11 pt r10 r11 fun H12 s12 nx I12 => fin hw8 I12 nx
  exact codeAny_compStart_dict loop (T.self X.A 0 _ _ _ st4 loop)
theorem pe_dcA {kx vx tg iter : Expr} {ifs : List Expr} {scope : Scope} {own : List (Str × Nat)} {pos : Pos} {wi : TI} {g : TG} {tt : TT} {tk tv : TE} (hu : X.A.units + 9 < cLine) (hc : X.calm = true) (hN : X.N.Nodup) (hi : PI X tg iter wi) (ok : BlkOk X.N X.env.scope scope own)
    (hg : ∀ (s : Shared) (H : Hp) (C : Addr) (cl : List (Str × Addr)) (fp : List Addr), PG (X.blk s H scope (compEnvC scope cl C X.env) fp) tg g) (ht : ∀ (s : Shared) (H : Hp) (C : Addr) (cl : List (Str × Addr)) (fp : List Addr), PTs (X.blk s H scope (compEnvC scope cl C X.env) fp) ifs tt)
    (hk : ∀ (s : Shared) (H : Hp) (C : Addr) (cl : List (Str × Addr)) (fp : List Addr), PE (X.blk s H scope (compEnvC scope cl C X.env) fp) kx tk)
    (he : ∀ (s : Shared) (H : Hp) (C : Addr) (cl : List (Str × Addr)) (fp : List Addr), PE (X.blk s H scope (compEnvC scope cl C X.env) fp) vx tv) (hs : ∀ x, foldedSetIterable iter X.env x = pure x := by intro _; rfl) :
    PE X (.DictComp kx vx [⟨tg, iter, ifs, 0⟩] scope pos) (tDcA X.kw wi g tt tk tv (own.map (·.2))) := by
  refine ⟨fun pins s σ H Q I h => ?_⟩
  rw [arm_eval_DictComp]
  refine dcA_core hu hc hN I hi ok hg ht hk he hs h fun D C s' m H' I' q hn ⟨f0, f1, f2, f3, f4, f5⟩ => ⟨m, hn, fun h'' sb => ?_⟩
  exact ⟨.ref D, H', I'.turned (t' := s'.toks) (fun b o hb e => (sb.2 b hb).trans e) f0 f1 f3 f4 f5, rfl, q⟩
end
end PM
end
section
set_option Elab.async false
set_option linter.all false
set_option maxRecDepth 100000
set_option maxHeartbeats 4000000
namespace PM
open PySem PySem.Spec PyProof.Rows L2 Evl
def dcGo (src : List (Nat × List D)) (tg : D → Env → Option Env) (t : Env → M Bool) (mk mv : Env → M D) (e0 : Env) : List D → List D → List D → M (List D × List D)
  | [], ks, vs => chk src (ret (ks, vs))
  | d :: ds, ks, vs => chk src (oM (tg d e0) fun e1 => bind (t e1) fun b => if b then bind (mk e1) fun k => bind (mv e1) fun v => gd (alike ks k = true) (dcGo src tg t mk mv e0 ds (dput k v ks vs).1 (dput k v ks vs).2) else dcGo src tg t mk mv e0 ds ks vs)
def fDic (p : List D × List D) : M D := ret (.dic p.1 p.2)
def fDct (p : List D × List D) : M D := fun S => .ok (.ptr S.length) (S ++ [.dct p.1 p.2])
def eDc (keep : Bool) (it : Env → M Itm) (vs : List Nat) (tg : D → Env → Option Env) (t : Env → M Bool) (mk mv : Env → M D) (e : Env) : M D :=
  bind (it e) fun I => gd (I.ds.length ≤ lim) (bind (noEM (dcGo I.src tg t mk mv (wipeE e vs) I.ds [] [])) (if keep then fDct else fDic))
/-- behind the expression the thing is known -/
def tSealE (te : TE) : TE := fun σ H Q => te σ H fun v H1 => ∃ a u, v = .ref a ∧ H1 a = some u ∧ Mut (some u) ∧ ∀ od, Q v (upd H1 a (.frz od u))
theorem pe_seal {X : L2.Cx} {e : Expr} {te : TE} (h : PE X e te) : PE X e (tSealE te) := by
  refine ⟨fun pins s σ H Q I hw => ?_⟩
  refine thn (h.run pins s σ H _ I hw) fun v s1 ⟨x, H1, I1, r, a, u, ex, hu, mu, q⟩ => ?_
  obtain ⟨od, I2⟩ := I1.lock hu mu
  exact ⟨x, _, I2, r, q od⟩
theorem dput_len (k v : D) (ks vs : List D) : (dput k v ks vs).1.length ≤ ks.length + 1 := by
  unfold dput
  split
  · exact Nat.le_succ _
  · simp
section
variable {X : L2.Cx} {C : Ct} {tg : Expr} {pos : Pos}
def tDcS (keep : Bool) (K : Kw) (wi : TI) (g : TG) (tt : TT) (tk tv : TE) (vs : List Nat) : TE := if keep then tDcA K wi g tt tk tv vs else tSealE (tDcA K wi g tt tk tv vs)
theorem snd_dc (keep : Bool) {wi : TI} {it : Env → M Itm} {g : TG} {f : D → Env → Option Env} {vs : List Nat} {tt : TT} {tk tv : TE} {t : Env → M Bool} {mk mv : Env → M D} (hI : SndI C wi it) (hg : SndG (C0 C) g f) (hkp : KeepG g vs) (ht : SndT (C0 C) tt t) (hk : SndE (C0 C) tk mk) (hv : SndE (C0 C) tv mv) :
    SndE C (tDcS keep C.K wi g tt tk tv vs) (eDc keep it vs f t mk mv) := fun e σ w S H Q E R h => by
  have main : ∀ Q' : VK, (∀ (w2 : Wd) (S2 : Sto) (H2 : Hp) (Dl : Addr) (u : HO) (ks us : List D), w.le w2 → w2.U Dl = none → Rel C.K (w2.hide Dl u) S2 H2 → VRd C.K w2 Dl u ks us → ((if keep then fDct else fDic) (ks, us) S2).sat (PV C.K w Q) (PX C w σ) → Q' (.ref Dl) H2) → tDcA C.K wi g tt tk tv vs σ H Q' := by
    intro Q' hQ'
    have h := sat_then.mp h
    refine hI e σ w S H _ E R (h.imp (fun I S1 h1 w1 H1 J l1 R1 wk => ?_) (fun x s hx => hx))
    obtain ⟨hlen, h1⟩ := gd_sat h1
    intro Dl hD
    have h2 := noE_sat (E' := fun _ _ => False) (sat_then.mp h1)
    have hU : w1.U Dl = none := by
      cases q : w1.U Dl with
      | none => rfl
      | some o =>
        have := (R1.hid Dl o q).1
        rw [hD] at this
        cases this
    have E1 : EnvR (C0 C) w1 (L2.wipe σ vs) (wipeE e vs) := ((E.up l1).wipe vs).c0
    let Gd : Nat → Hp → Prop := fun i H' => ∃ (w2 : Wd) (S2 : Sto) (u : HO) (ks us : List D), w1.le w2 ∧ Rel C.K (w2.hide Dl u) S2 H' ∧ VRd C.K w2 Dl u ks us ∧ ks.length ≤ i ∧
      (dcGo I.src f t mk mv (wipeE e vs) (I.ds.drop i) ks us S2).sat (fun p S3 => ((if keep then fDct else fDic) p S3).sat (PV C.K w Q) (PX C w σ)) (fun _ _ => False)
    refine ⟨fun i n H' => n = I.ds.length - i ∧ i ≤ I.ds.length ∧ Gd i H', ⟨I.ds.length, by simp, Nat.zero_le _, w1, S1, .dK [], [], [], Wd.le.refl _, R1.hide hD, .k (kvs := []) .nil, Nat.le_refl _, h2⟩, ?_⟩
    rintro i n H2 ⟨rfl, hi, w2, S2, u, ks, us, l2, R2, zd, hks, hgo⟩
    have hU2 : w2.U Dl = none := by rw [l2.u]; exact hU
    by_cases hlt : i < I.ds.length
    · rw [List.drop_eq_getElem_cons hlt] at hgo
      obtain ⟨okk, hgo⟩ := chk_sat hgo
      obtain ⟨e1, q1, hgo⟩ := oM_sat hgo
      obtain ⟨g1, g2⟩ := wk.go (w2.hide Dl u) S2 H2 l2.z.hide R2 okk i _ (List.getElem?_eq_getElem hlt)
      refine .inr ⟨g1, Gd (i + 1), fun H3 q => ⟨I.ds.length - (i + 1), by omega, rfl, by omega, q⟩, fun x H3 hy => ?_⟩
      obtain ⟨w3, l3, R3, a3⟩ := g2 x H3 hy
      have hgo := sat_then.mp hgo
      have z := hkp x (L2.wipe σ vs) H3 (fun σ2 H4 => tt σ2 H4 fun b H5 => if b = true then tk σ2 H5 fun y H6 => tv σ2 H6 fun z H7 => DPutA C.K H7 Dl y z (Gd (i + 1)) else Gd (i + 1) H5)
        (hg _ (L2.wipe σ vs) w3 S2 H3 x _ e1 _ (E1.up0 (l2.z.hide.trans l3.z)) R3 a3 q1 fun σ2 E2 => ?_)
      · rw [wipe_idem] at z
        exact z
      · refine ht e1 σ2 w3 S2 H3 _ E2 R3 (hgo.imp (fun k S4 h4 w4 H4 l4 R4 => ?_) fun _ _ z => z.elim)
        have l34 : (w2.hide Dl u).le w4 := l3.trans l4
        cases k with
        | false =>
          have e4 := Wd.unhide_eq (w5 := w4) (w2 := w2) l34.u
          rw [e4] at R4
          exact ⟨⟨w4.F, w4.B, w2.U⟩, S4, u, ks, us, l2.trans ⟨l34.f, l34.b, rfl⟩, R4, VRd.up (w := w2) (w' := ⟨w4.F, w4.B, w2.U⟩) ⟨l34.f, l34.b, rfl⟩ zd, by omega, h4⟩
        | true =>
          have h4 := sat_then.mp (show ((mk e1 S4).then _).sat _ _ from h4)
          refine hk e1 σ2 w4 S4 H4 _ (E2.up l4) R4 (h4.imp (fun y S5 h5 w5 H5 v l5 R5 r5 => ?_) fun _ _ z => z.elim)
          have h5 := sat_then.mp (show ((mv e1 S5).then _).sat _ _ from h5)
          refine hv e1 σ2 w5 S5 H5 _ ((E2.up l4).up l5) R5 (h5.imp (fun x2 S6 h6 w6 H6 v6 l6 R6 r6 => ?_) fun _ _ z => z.elim)
          obtain ⟨al, h6⟩ := gd_sat h6
          have l36 : (w2.hide Dl u).le w6 := (l34.trans l5).trans l6
          have e6 := Wd.unhide_eq (w5 := w6) (w2 := w2) l36.u
          have k6 := (R6.hid Dl u (by rw [l36.u]; exact upd_same)).1
          have l7 : w2.le ⟨w6.F, w6.B, w2.U⟩ := ⟨l36.f, l36.b, rfl⟩
          have zd6 : VRd C.K w6 Dl u ks us := VRd.via (w := ⟨w6.F, w6.B, w2.U⟩) (w' := w6) ⟨rfl, rfl⟩ (VRd.up l7 zd)
          refine dput_of R6 k6 zd6 (r5.up l6) r6 al (Nat.le_trans hks (Nat.le_trans (Nat.le_of_lt hlt) hlen)) fun u' z' => ?_
          rw [e6] at R6
          exact ⟨⟨w6.F, w6.B, w2.U⟩, S6, u', _, _, l2.trans l7, R6.rehide, VRd.via (w := w6) (w' := ⟨w6.F, w6.B, w2.U⟩) ⟨rfl, rfl⟩ z', Nat.le_trans (dput_len _ _ _ _) (Nat.succ_le_succ hks), h6⟩
    · have ei : i = I.ds.length := by omega
      subst ei
      rw [List.drop_length] at hgo
      obtain ⟨okk, hgo⟩ := chk_sat hgo
      exact .inl ⟨wk.stop (w2.hide Dl u) S2 H2 l2.z.hide R2 okk, hQ' w2 S2 H2 Dl u ks us (l1.trans l2) hU2 R2 zd hgo⟩
  cases keep with
  | false =>
    show tSealE (tDcA C.K wi g tt tk tv vs) σ H Q
    refine main _ fun w2 S2 H2 Dl u ks us l hU2 R2 zd hf => ?_
    refine ⟨Dl, u, rfl, (R2.hid Dl _ upd_same).1, vrd_mut zd, fun od => ?_⟩
    obtain ⟨le, R3⟩ := (R2.rehide (o' := .frz od u)).known hU2
    exact hf _ _ _ (l.trans le) R3 (.dic upd_same (zd.up le))
  | true =>
    show tDcA C.K wi g tt tk tv vs σ H Q
    refine main _ fun w2 S2 H2 Dl u ks us l hU2 R2 zd hf => ?_
    have R3 := R2.celled (c := .dct ks us) hU2 ⟨u, (R2.hid Dl _ upd_same).1, zd⟩
    exact hf _ H2 _ (l.trans Wd.le_cell) R3 (.ptr (cell_at Dl (R2.unhide (fun a u h z => by
      rw [z, hU2] at h
      cases h))))
theorem ce_dc (keep : Bool) {kx vx iter : Expr} {ifs : List Expr} {scope : Scope} {own : List (Str × Nat)} {wi : TI} {it : Env → M Itm} {g : TG} {f : D → Env → Option Env} {tt : TT} {tk tv : TE} {t : Env → M Bool} {mk mv : Env → M D} (hu : X.A.units + 9 < cLine) (hc : X.calm = true) (hN : X.N.Nodup) (hi : CI X C tg iter wi it) (ok : BlkOk X.N X.env.scope scope own)
    (hg : ∀ (s : Shared) (H : Hp) (Z : Addr) (cl : List (Str × Addr)) (fp : List Addr), CG (X.blk s H scope (compEnvC scope cl Z X.env) fp) (C0 C) tg g f) (hk : KeepG g (own.map (·.2))) (ht : ∀ (s : Shared) (H : Hp) (Z : Addr) (cl : List (Str × Addr)) (fp : List Addr), CTs (X.blk s H scope (compEnvC scope cl Z X.env) fp) (C0 C) ifs tt t)
    (hkx : ∀ (s : Shared) (H : Hp) (Z : Addr) (cl : List (Str × Addr)) (fp : List Addr), CE (X.blk s H scope (compEnvC scope cl Z X.env) fp) (C0 C) kx tk mk)
    (hvx : ∀ (s : Shared) (H : Hp) (Z : Addr) (cl : List (Str × Addr)) (fp : List Addr), CE (X.blk s H scope (compEnvC scope cl Z X.env) fp) (C0 C) vx tv mv) (hs : ∀ x, foldedSetIterable iter X.env x = pure x := by intro _; rfl) :
    CE X C (.DictComp kx vx [⟨tg, iter, ifs, 0⟩] scope pos) (tDcS keep C.K wi g tt tk tv (own.map (·.2))) (eDc keep it (own.map (·.2)) f t mk mv) :=
  ⟨hi.hK, fun y => by
    have p := pe_dcA (pos := pos) hu hc hN (hi.pi y) ok (fun s H Z cl fp => (hg s H Z cl fp).pg hyp0) (fun s H Z cl fp => (ht s H Z cl fp).pt hyp0) (fun s H Z cl fp => (hkx s H Z cl fp).pe hyp0) (fun s H Z cl fp => (hvx s H Z cl fp).pe hyp0) hs
    rw [hi.hK] at p
    cases keep with
    | false => exact pe_seal p
    | true => exact p, snd_dc keep hi.sn (hg X.s_0 X.H_0 0 [] []).sn hk (ht X.s_0 X.H_0 0 [] []).sn (hkx X.s_0 X.H_0 0 [] []).sn (hvx X.s_0 X.H_0 0 [] []).sn⟩
end
end PM
end
section
set_option Elab.async false
set_option linter.all false
namespace PM
open PySem L2
theorem u9 {k : Nat} {A : Around} (r : Room k A) : A.units + 9 < cLine := Nat.lt_of_le_of_lt (Nat.add_le_add_left (by decide) _) (u65 r)
end PM
end
section
set_option Elab.async false
set_option linter.all false
set_option maxRecDepth 100000
namespace PM
open PySem L2
noncomputable def b_FewRounds___init__ : Stm := (sSeq (sFldP ["FewRounds"] "rounds" (eA (d1 dTuple) (aCons (eVar 1) aNil)) (eVar 0)) (sFldP ["FewRounds"] "against" (eDc false (iKeysD (eVar 2)) [3] (gN 3) tYesP (eVar 3) (e2 dDGet (eVar 2) (eVar 3))) (eVar 0)))
noncomputable def m_FewRounds___init__ : List D → M D := runFn 3 4 b_FewRounds___init__
noncomputable def b_check_kinds : Stm := (sSeq (sIf (tOrP (tNotP (tOf (e1 (dIs [] sameC [(.inl "list"), (.inl "tuple")]) (eVar 0)))) (tOf (e2 dGt (eA (d1 dLen) (aCons (eVar 0) aNil)) (eC (.int 5))))) (sRaise1 "BadProgram" "place" (eC .non)) sNext) (sFor (iNum (eVar 0)) (gT 2 (gC (gN 1) (gC (gN 2) gN0))) (sIf (tOrP (tNotP (tOf (eA m_is_round (aCons (eVar 2) aNil)))) (tOf (e2 (dIn false) (eVar 2) (eSl (eVar 0) oNone (oSome (eVar 1)))))) (sRaise1 "BadProgram" "place" (eVar 1)) sNext)))
noncomputable def m_check_kinds : List D → M D := runFn 1 3 b_check_kinds
noncomputable def b_tuples_of : Stm := (sSeq (sAsg (eA dNew (aCons (eA dTup aNil) aNil)) (gN 2)) (sSeq (sAsg (eA dLst (aCons (eA dTup aNil) aNil)) (gN 3)) (sSeq (sFor (iR1 (aCons (eVar 1) aNil)) (gN 4) (sSeq (sAsg (eLc2 false (iSeq (eVar 3)) [5, 6] (gN 5) tYesP (iSeq (eVar 0)) [6] (gN 6) tYesP (eA dTup (aStar (eVar 5) (aCons (eVar 6) aNil)))) (gN 3)) (sDrop (eBM dExtend (eVar 2) (aCons (eVar 3) aNil))))) (sSeq (sFrz 2) (sRet (eVar 2))))))
noncomputable def m_tuples_of : List D → M D := runFn 2 7 b_tuples_of
noncomputable def b_few_rounds : Stm := (sSeq (sDrop (eA m_check_kinds (aCons (eVar 1) aNil))) (sSeq (sDrop (eA m_check_program (aCons (eVar 0) aNil))) (sSeq (sDrop (eA m_check_unmixed (aCons (eA dLst (aStar (e1 (dFldC ["Program"] "rounds") (eVar 0)) (aStar (eVar 1) aNil))) aNil))) (sSeq (sAsg eDNew (gN 2)) (sSeq (sFor (iSeq (eA m_tuples_of (aCons (eVar 1) (aCons (eC (.int 3)) aNil)))) (gN 3) (sSeq (sAsg (eA m_judge_programs (aCons (eVar 0) (aCons (eA (mkObj false "Program" m_Program___init__) (aCons (eVar 3) aNil)) aNil))) (gN 4)) (sSeq (sIf (orM (tTru "SameAlways" m_SameAlways___bool__ (eVar 4)) (tTru "FirstUnlike" m_FirstUnlike___bool__ (eVar 4))) (sSeq (sFrzD 2) (sRet (eA (mkObj false "FewRounds" m_FewRounds___init__) (aCons (eVar 3) (aCons (eDc false (iKeysD (eVar 2)) [5] (gN 5) (tOf (e2 dLt (eA (d1 dLen) (aCons (eVar 5) aNil)) (eA (d1 dLen) (aCons (eVar 3) aNil)))) (eVar 5) (e2 dDGet (eVar 2) (eVar 5))) aNil))))) sNext) (sDSet (eA dTup (aCons (e1 (dFldC ["FirstUnlike"] "many") (eVar 4)) (aCons (e1 (dFldC ["FirstUnlike"] "basin") (eVar 4)) (aCons (e1 (dFldC ["FirstUnlike"] "place") (eVar 4)) aNil)))) (eVar 2) (eVar 3))))) (sRet (eC .non)))))))
noncomputable def m_few_rounds : List D → M D := runFn 2 6 b_few_rounds
end PM
end
section
set_option Elab.async false
set_option linter.all false
set_option maxRecDepth 100000
namespace PM
open PySem L2
noncomputable def b__law_draw : Stm := (sSeq (sAsg (eIf (tOf (e2 (dEq true) (eVar 0) (eA dLst aNil))) (eSl (eVar 0) oNone (oSome (eC (.int 60)))) (eA dLst (aCons (eC (.int 7)) aNil))) (gN 3)) (sSeq (sPar 4 5 (aCons (e2 dIx (eVar 3) (e2 dMod (eVar 1) (eA (d1 dLen) (aCons (eVar 3) aNil)))) (aCons (e2 dDiv (eVar 1) (eA (d1 dLen) (aCons (eVar 3) aNil))) aNil))) (sSeq (sIf (tOf (e2 dGe (eVar 4) (e2 dPow (eC (.int 10)) (eC (.int 18))))) (sSeq (sAsg (e2 dMod (eA (d1 dInt) (aCons (eVar 4) aNil)) (e2 dPow (eC (.int 97)) (eC (.int 40)))) (gN 4)) (sSeq (sFor (iR1 (aCons (e2 dMod (eVar 5) (eC (.int 40))) aNil)) (gN 6) (sAsg (e2 dDiv (eVar 4) (eC (.int 97))) (gN 4))) (sRet (e2 dMod (e2 dMod (eA (d1 dInt) (aCons (eVar 4) aNil)) (eC (.int 97))) (eVar 2))))) sNext) (sSeq (sAsg (e2 dAdd (e2 dMul (e2 dAdd (e2 dAdd (e2 dMod (eA (d1 dInt) (aCons (e2 dAdd (eVar 4) (e2 dMul (eC (.int 31)) (eVar 5))) aNil)) (eC (.int 1000003))) (e2 dMul (eC (.int 977)) (eVar 1))) (eC (.int 13))) (eC (.int 48271))) (e2 dMod (eA (d1 dInt) (aCons (e2 dDiv (eVar 4) (eC (.int 1000003))) aNil)) (eC (.int 999983)))) (gN 7)) (sRet (e2 dMod (eA (d1 dInt) (aCons (e2 dMod (e2 dMul (e2 dMod (eVar 7) (eC (.int 2147483647))) (eC (.int 65537))) (eC (.int 4294967291))) aNil)) (eVar 2)))))))
noncomputable def m__law_draw : List D → M D := runFn 3 8 b__law_draw
noncomputable def b__law_rounds : Stm := (sSeq (sAsg (eA dNew (aCons (eA dTup (aCons (eVar 3) aNil)) (aCons (eA dTup (aCons (eC (.str "every")) (aCons (eC (.int 2)) (aCons (eC (.int 1)) aNil)))) (aCons (eA dTup (aCons (eC (.str "every")) (aCons (eC (.int 2)) (aCons (eC (.int 0)) aNil)))) (aCons (eA dTup (aCons (eC (.str "every")) (aCons (eC (.int 2)) (aCons (eC (.int 1)) aNil)))) (aCons (eA dTup (aCons (eC (.str "every")) (aCons (eC (.int 2)) (aCons (eC (.int 0)) aNil)))) aNil)))))) (gN 4)) (sSeq (sIf (tOf (e2 (dEq false) (eA m__law_draw (aCons (eVar 0) (aCons (eVar 1) (aCons (eC (.int 4)) aNil)))) (eC (.int 0)))) (sSeq (sAsg (e2 dAdd (eC (.int 3)) (eA m__law_draw (aCons (eVar 0) (aCons (e2 dAdd (eVar 1) (eC (.int 1))) (aCons (eC (.int 2)) aNil))))) (gN 5)) (sSeq (sSet (eA dTup (aCons (eC (.str "every")) (aCons (eVar 5) (aCons (eA m__law_draw (aCons (eVar 0) (aCons (e2 dAdd (eVar 1) (eC (.int 2))) (aCons (eVar 5) aNil)))) aNil)))) (eVar 4) (eC (.int 1))) (sSet (e2 dIx (eVar 4) (eC (.int 1))) (eVar 4) (eC (.int 3))))) sNext) (sRet (eLc false (iR1 (aCons (eA m__law_draw (aCons (eVar 0) (aCons (e2 dAdd (eVar 1) (eC (.int 3))) (aCons (e2 dAdd (eVar 2) (eC (.int 1))) aNil)))) aNil)) [6] (gN 6) tYesP (e2 dIx (eVar 4) (eA m__law_draw (aCons (eVar 0) (aCons (e2 dAdd (e2 dAdd (eVar 1) (eC (.int 4))) (eVar 6)) (aCons (eC (.int 5)) aNil)))))))))
noncomputable def m__law_rounds : List D → M D := runFn 4 7 b__law_rounds
end PM
end
section
set_option Elab.async false
set_option linter.all false
set_option maxRecDepth 100000
namespace PM
open PySem L2
noncomputable def b_turned_round : Stm := (sSeq (sIf (tOf (e1 (dTabIn false [("right", some "left"), ("left", some "right"), ("every", none)]) (e2 dIx (eVar 0) (eC (.int 0))))) (sRet (eA dTup (aCons (e1 (dTabIx [("right", some "left"), ("left", some "right"), ("every", none)]) (e2 dIx (eVar 0) (eC (.int 0)))) aNil))) sNext) (sRet (eVar 0)))
noncomputable def m_turned_round : List D → M D := runFn 1 1 b_turned_round
noncomputable def b_turned_back : Stm := (sSeq (sDrop (eA m_check_program (aCons (eVar 0) aNil))) (sRet (eA (mkObj false "Program" m_Program___init__) (aCons (eLc false (iSeq (e1 dRevT (e1 (dFldC ["Program"] "rounds") (eVar 0)))) [1] (gN 1) tYesP (eA m_turned_round (aCons (eVar 1) aNil))) aNil))))
noncomputable def m_turned_back : List D → M D := runFn 1 2 b_turned_back
end PM
end
section
set_option Elab.async false
set_option linter.all false
set_option maxRecDepth 100000
set_option maxHeartbeats 4000000
namespace PM
open PySem L2
noncomputable def b__law_rounds_x : Stm := (sSeq (sAsg (eA dLst (aCons (eA dTup (aCons (eC (.str "right")) aNil)) (aCons (eA dTup (aCons (eC (.str "every")) (aCons (eC (.int 2)) (aCons (eC (.int 1)) aNil)))) (aCons (eA dTup (aCons (eC (.str "every")) (aCons (eC (.int 2)) (aCons (eC (.int 0)) aNil)))) aNil)))) (gN 3)) (sRet (eLc false (iR1 (aCons (eA m__law_draw (aCons (eVar 0) (aCons (eVar 1) (aCons (e2 dAdd (eVar 2) (eC (.int 1))) aNil)))) aNil)) [4] (gN 4) tYesP (e2 dIx (eVar 3) (eA m__law_draw (aCons (eVar 0) (aCons (e2 dAdd (e2 dAdd (eVar 1) (eC (.int 1))) (eVar 4)) (aCons (eC (.int 3)) aNil))))))))
noncomputable def m__law_rounds_x : List D → M D := runFn 3 5 b__law_rounds_x
noncomputable def b_law_c0 : Stm := (sRet (eAnd (e2 (dIsN true) (eVar 15) (eC .non)) (eAnd (e2 dLe (eA (d1 dLen) (aCons (e1 (dFldC ["FewRounds"] "rounds") (eVar 15)) aNil)) (eA (dLenO "Program" m_Program___len__) (aCons (eA m_tidy_program (aCons (eVar 1) aNil)) aNil))) (orM (eA (dBoolO "SameAlways" m_SameAlways___bool__) (aCons (eA m_judge_programs (aCons (eA (mkObj false "Program" m_Program___init__) (aCons (e1 (dFldC ["FewRounds"] "rounds") (eVar 15)) aNil)) (aCons (eVar 1) aNil))) aNil)) (eA (dBoolO "FirstUnlike" m_FirstUnlike___bool__) (aCons (eA m_judge_programs (aCons (eA (mkObj false "Program" m_Program___init__) (aCons (e1 (dFldC ["FewRounds"] "rounds") (eVar 15)) aNil)) (aCons (eVar 1) aNil))) aNil))))))
noncomputable def b_law_c1 : Stm := (sSeq (sAsg (eA m_few_rounds (aCons (eVar 1) (aCons (eVar 14) aNil))) (gN 15)) b_law_c0)
noncomputable def b_law_c2 : Stm := (sSeq (sIf (tOf (e2 dGt (eA m__law_draw (aCons (eVar 0) (aCons (eC (.int 30)) (aCons (eC (.int 3)) aNil)))) (eC (.int 0)))) (sRet (eC (.bl true))) sNext) b_law_c1)
noncomputable def b_law_c3 : Stm := (sSeq (sAsg (eA dLst (aCons (eA dTup (aCons (eC (.str "right")) aNil)) (aCons (eA dTup (aCons (eC (.str "every")) (aCons (eC (.int 2)) (aCons (eC (.int 1)) aNil)))) (aCons (eA dTup (aCons (eC (.str "every")) (aCons (eC (.int 2)) (aCons (eC (.int 0)) aNil)))) aNil)))) (gN 14)) b_law_c2)
noncomputable def b_law_c4 : Stm := (sSeq (sIf (tOrP (tNotP (tOf (orM (eA (dBoolO "SameAlways" m_SameAlways___bool__) (aCons (eA m_judge_programs (aCons (eVar 13) (aCons (e2 (dAddO "Program" m_Program___add__) (eVar 1) (eVar 2)) aNil))) aNil)) (eA (dBoolO "FirstUnlike" m_FirstUnlike___bool__) (aCons (eA m_judge_programs (aCons (eVar 13) (aCons (e2 (dAddO "Program" m_Program___add__) (eVar 1) (eVar 2)) aNil))) aNil))))) (tOrP (tOf (e2 dGt (eA (dLenO "Program" m_Program___len__) (aCons (eVar 13) aNil)) (e2 dAdd (eA (dLenO "Program" m_Program___len__) (aCons (eVar 1) aNil)) (eA (dLenO "Program" m_Program___len__) (aCons (eVar 2) aNil))))) (tOf (e2 (dEqO true "Program" m_Program___eq__) (eA m_tidy_program (aCons (eVar 13) aNil)) (eVar 13))))) (sRet (eC (.bl false))) sNext) b_law_c3)
noncomputable def b_law_c5 : Stm := (sSeq (sAsg (eA m_tidy_program (aCons (e2 (dAddO "Program" m_Program___add__) (eVar 1) (eVar 2)) aNil)) (gN 13)) b_law_c4)
noncomputable def b_law_c6 : Stm := (sRet (eAnd (orM (eA (dBoolO "SameAlways" m_SameAlways___bool__) (aCons (eA m_judge_programs (aCons (e2 (dAddO "Program" m_Program___add__) (eVar 2) (eVar 1)) (aCons (e2 (dAddO "Program" m_Program___add__) (eVar 2) (eVar 3)) aNil))) aNil)) (eA (dBoolO "FirstUnlike" m_FirstUnlike___bool__) (aCons (eA m_judge_programs (aCons (e2 (dAddO "Program" m_Program___add__) (eVar 2) (eVar 1)) (aCons (e2 (dAddO "Program" m_Program___add__) (eVar 2) (eVar 3)) aNil))) aNil))) (eA (dBoolO "Later" m_Later___bool__) (aCons (eA m_judge_later (aCons (eVar 1) (aCons (eVar 3) aNil))) aNil))))
noncomputable def b_law_c7 : Stm := (sSeq (sIf (tOf (e2 (dEq false) (eVar 7) (eC (.int 3)))) (sSeq (sIf (tNotP (tOf (eVar 9))) (sRet (e2 (dEq false) (e1 (dFldC ["FirstUnlike"] "many") (eA m_judge_programs (aCons (eA m_turned_back (aCons (eVar 1) aNil)) (aCons (eA m_turned_back (aCons (eVar 3) aNil)) aNil)))) (e1 (dFldC ["FirstUnlike"] "many") (eVar 8)))) sNext) b_law_c6) sNext) b_law_c5)
noncomputable def b_law_c8 : Stm := (sRet (eOr (eNot (eVar 9)) (e2 (dEq false) (eVar 11) (eVar 12))))
noncomputable def b_law_c9 : Stm := (sSeq (sPar 11 12 (aCons (orM (eA (dBoolO "SameAlways" m_SameAlways___bool__) (aCons (eA m_judge_programs (aCons (eVar 3) (aCons (eVar 2) aNil))) aNil)) (eA (dBoolO "FirstUnlike" m_FirstUnlike___bool__) (aCons (eA m_judge_programs (aCons (eVar 3) (aCons (eVar 2) aNil))) aNil))) (aCons (orM (eA (dBoolO "SameAlways" m_SameAlways___bool__) (aCons (eA m_judge_programs (aCons (eVar 1) (aCons (eVar 2) aNil))) aNil)) (eA (dBoolO "FirstUnlike" m_FirstUnlike___bool__) (aCons (eA m_judge_programs (aCons (eVar 1) (aCons (eVar 2) aNil))) aNil))) aNil))) b_law_c8)
noncomputable def b_law_c10 : Stm := (sSeq (sIf (tOrP (tOf (e2 (dEq true) (orM (eA (dBoolO "SameAlways" m_SameAlways___bool__) (aCons (eVar 10) aNil)) (eA (dBoolO "FirstUnlike" m_FirstUnlike___bool__) (aCons (eVar 10) aNil))) (eVar 9))) (tOrP (tAndP (tOf (eVar 9)) (orM (tOf (e2 (dEqO true "SameAlways" m_SameAlways___eq__) (eVar 10) (eVar 8))) (tOf (e2 (dEqO true "FirstUnlike" m_FirstUnlike___eq__) (eVar 10) (eVar 8))))) (tAndP (tNotP (tOf (eVar 9))) (orM (tOf (e2 (dEqO true "SameAlways" m_SameAlways___eq__) (eVar 10) (eVar 8))) (tOf (e2 (dEqO true "FirstUnlike" m_FirstUnlike___eq__) (eVar 10) (eVar 8))))))) (sRet (eC (.bl false))) sNext) b_law_c9)
noncomputable def b_law_c11 : Stm := (sSeq (sIf (tOf (e2 (dEq false) (eVar 7) (eC (.int 2)))) (sSeq (sAsg (eA m_judge_programs (aCons (eVar 3) (aCons (eVar 1) aNil))) (gN 10)) b_law_c10) sNext) b_law_c7)
noncomputable def b_law_c12 : Stm := (sSeq (sPar 8 9 (aCons (eA m_judge_programs (aCons (eVar 1) (aCons (eVar 3) aNil))) (aCons (orM (eA (dBoolO "SameAlways" m_SameAlways___bool__) (aCons (eA m_judge_programs (aCons (eVar 1) (aCons (eVar 3) aNil))) aNil)) (eA (dBoolO "FirstUnlike" m_FirstUnlike___bool__) (aCons (eA m_judge_programs (aCons (eVar 1) (aCons (eVar 3) aNil))) aNil))) aNil))) b_law_c11)
noncomputable def b_law_c13 : Stm := (sSeq (sIf (tOf (e2 (dEq false) (eVar 7) (eC (.int 1)))) (sRet (eAnd (orM (eA (dBoolO "SameAlways" m_SameAlways___bool__) (aCons (eA m_judge_programs (aCons (eA m_turned_back (aCons (eVar 1) aNil)) (aCons (eA m_turned_back (aCons (eVar 6) aNil)) aNil))) aNil)) (eA (dBoolO "FirstUnlike" m_FirstUnlike___bool__) (aCons (eA m_judge_programs (aCons (eA m_turned_back (aCons (eVar 1) aNil)) (aCons (eA m_turned_back (aCons (eVar 6) aNil)) aNil))) aNil))) (orM (eA (dBoolO "SameAlways" m_SameAlways___bool__) (aCons (eA m_judge_programs (aCons (eA m_turned_back (aCons (e2 (dAddO "Program" m_Program___add__) (eVar 1) (eVar 2)) aNil)) (aCons (e2 (dAddO "Program" m_Program___add__) (eA m_turned_back (aCons (eVar 2) aNil)) (eA m_turned_back (aCons (eVar 1) aNil))) aNil))) aNil)) (eA (dBoolO "FirstUnlike" m_FirstUnlike___bool__) (aCons (eA m_judge_programs (aCons (eA m_turned_back (aCons (e2 (dAddO "Program" m_Program___add__) (eVar 1) (eVar 2)) aNil)) (aCons (e2 (dAddO "Program" m_Program___add__) (eA m_turned_back (aCons (eVar 2) aNil)) (eA m_turned_back (aCons (eVar 1) aNil))) aNil))) aNil))))) sNext) b_law_c12)
noncomputable def b_law_c14 : Stm := (sSeq (sIf (tOf (e2 (dEq false) (eVar 7) (eC (.int 0)))) (sRet (eAnd (orM (eA (dBoolO "SameAlways" m_SameAlways___bool__) (aCons (eA m_judge_programs (aCons (e2 (dAddO "Program" m_Program___add__) (eVar 2) (eVar 1)) (aCons (e2 (dAddO "Program" m_Program___add__) (eVar 2) (eVar 6)) aNil))) aNil)) (eA (dBoolO "FirstUnlike" m_FirstUnlike___bool__) (aCons (eA m_judge_programs (aCons (e2 (dAddO "Program" m_Program___add__) (eVar 2) (eVar 1)) (aCons (e2 (dAddO "Program" m_Program___add__) (eVar 2) (eVar 6)) aNil))) aNil))) (orM (eA (dBoolO "SameAlways" m_SameAlways___bool__) (aCons (eA m_judge_programs (aCons (e2 (dAddO "Program" m_Program___add__) (eVar 1) (eVar 2)) (aCons (e2 (dAddO "Program" m_Program___add__) (eVar 6) (eVar 2)) aNil))) aNil)) (eA (dBoolO "FirstUnlike" m_FirstUnlike___bool__) (aCons (eA m_judge_programs (aCons (e2 (dAddO "Program" m_Program___add__) (eVar 1) (eVar 2)) (aCons (e2 (dAddO "Program" m_Program___add__) (eVar 6) (eVar 2)) aNil))) aNil))))) sNext) b_law_c13)
noncomputable def b_law_c15 : Stm := (sSeq (sPar 6 7 (aCons (eA (mkObj false "Program" m_Program___init__) (aCons (eVar 4) aNil)) (aCons (eA m__law_draw (aCons (eVar 0) (aCons (eC (.int 31)) (aCons (eC (.int 5)) aNil)))) aNil))) b_law_c14)
noncomputable def b_law_c16 : Stm := (sSeq (sFor (iSeq (e1 (dFldC ["Program"] "rounds") (eVar 1))) (gN 5) (sAsg (e2 dAdd (eVar 4) (e2 dMul (eA dLst (aCons (eVar 5) aNil)) (eIf (tOf (e2 (dEq false) (e2 dIx (eVar 5) (eC (.int 0))) (eC (.str "every")))) (eC (.int 2)) (eC (.int 1))))) (gN 4))) b_law_c15)
noncomputable def b_law_c17 : Stm := (sSeq (sAsg (eA dLst aNil) (gN 4)) b_law_c16)
noncomputable def b_law : Stm := (sSeq (sPar3 1 2 3 (aCons (eA (mkObj false "Program" m_Program___init__) (aCons (eA m__law_rounds_x (aCons (eVar 0) (aCons (eC (.int 0)) (aCons (eC (.int 2)) aNil)))) aNil)) (aCons (eA (mkObj false "Program" m_Program___init__) (aCons (eA m__law_rounds_x (aCons (eVar 0) (aCons (eC (.int 10)) (aCons (eC (.int 1)) aNil)))) aNil)) (aCons (eA (mkObj false "Program" m_Program___init__) (aCons (eA m__law_rounds_x (aCons (eVar 0) (aCons (eC (.int 20)) (aCons (eC (.int 2)) aNil)))) aNil)) aNil)))) b_law_c17)
noncomputable def m_law : List D → M D := runFn 1 16 b_law
end PM
end
section
set_option Elab.async false
set_option linter.all false
set_option maxRecDepth 100000
set_option maxHeartbeats 4000000
namespace Lk14
open PySem PySem.Spec PyProof.Rows L2 Evl PM
open WD (pe_tyN pe_clsN cr_lcm call_lenS call_listS call_tupS call_absS call_maxS call_minS call_intS)
structure Tx (P : Program) (w : World) (K : PySem.W.Frag) (mg : Str → Option Value) : Prop extends Txt K mg where
  hp : P.main.file = fileS
  ht : (P.main.scope.names.lookup ("super" : Str)).isSome = false
  tb : ∀ (i : Nat) (t : He.Tab), tabs[i]? = some t → ∃ es n, KDict K w (t.1 K) es n
theorem Tx.d_TURNED {P : Program} {w : World} {K : PySem.W.Frag} {mg : Str → Option Value} (T : Tx P w K mg) : ∃ es n, KDict K w (He.ga K "TURNED") es n := T.tb 0 _ rfl
section
variable {P : Program} {w : World} {K : PySem.W.Frag} {mg : Str → Option Value} {base : Heap}
theorem ok_is_integer (T : Tx P w K mg) : WD.FnG P w K mg base 1 (He.ga K "is_integer") ["thing"] (spM ⟨K, w⟩ PM.m_is_integer) := by
  refine fn_pm (N := ["thing"]) (st := s_is_integer) (m := PM.b_is_integer) T.f_is_integer sc_is_integer (by decide) (fun _ _ _ _ _ _ us hl => match us, hl with | [_], _ => rfl) (fun cdv A outer s H E hr => ⟨_, by
  unfold PM.b_is_integer
  exact (css_one (cs_ret (ce_and (ce_is T.kt_none (.inl "int") (by decide) (pe_tyN (n := "int") (by rfl) T.z_int (by decide +kernel)) (by rfl) T.z_isinstance (ce_var 0 rfl (by first | exact Or.inl rfl | exact Or.inr (Or.inl rfl) | exact Or.inr (Or.inr rfl)))) (ce_one (ce_not (ce_is T.kt_none (.inl "bool") (by decide) (pe_tyN (n := "bool") (by rfl) T.z_bool (by decide +kernel)) (by rfl) T.z_isinstance (ce_var 0 rfl (by first | exact Or.inl rfl | exact Or.inr (Or.inl rfl) | exact Or.inr (Or.inr rfl)))))))))⟩)
theorem ok_FirstUnlike___eq__ (T : Tx P w K mg) : WD.FnG P w K mg base 1 (He.ma K (He.ga K "FirstUnlike") "__eq__") ["self", "other"] (spM ⟨K, w⟩ PM.m_FirstUnlike___eq__) := by
  refine fn_pm (N := ["self", "other"]) (st := s_FirstUnlike___eq__) (m := PM.b_FirstUnlike___eq__) T.f_FirstUnlike___eq__ sc_FirstUnlike___eq__ (by decide) (fun _ _ _ _ _ _ us hl => match us, hl with | [_, _], _ => rfl) (fun cdv A outer s H E hr => ⟨_, by
  unfold PM.b_FirstUnlike___eq__
  exact (css_one (cs_ret (ce_and (ce_is T.kt_SameAlways_FirstUnlike (.inr "FirstUnlike") (by decide) (pe_clsN (by rfl) T.m_FirstUnlike) (by rfl) T.z_isinstance (ce_var 1 rfl (by first | exact Or.inl rfl | exact Or.inr (Or.inl rfl) | exact Or.inr (Or.inr rfl)))) (ce_and (ce_eq hr.units (ce_fld ["FirstUnlike"] (fo_cons T.c_FirstUnlike T.n_FirstUnlike_many fo_nil) (ce_var 0 rfl (by first | exact Or.inl rfl | exact Or.inr (Or.inl rfl) | exact Or.inr (Or.inr rfl))) rfl) (ce_fld ["FirstUnlike"] (fo_cons T.c_FirstUnlike T.n_FirstUnlike_many fo_nil) (ce_var 1 rfl (by first | exact Or.inl rfl | exact Or.inr (Or.inl rfl) | exact Or.inr (Or.inr rfl))) rfl)) (ce_and (ce_eq hr.units (ce_fld ["FirstUnlike"] (fo_cons T.c_FirstUnlike T.n_FirstUnlike_basin fo_nil) (ce_var 0 rfl (by first | exact Or.inl rfl | exact Or.inr (Or.inl rfl) | exact Or.inr (Or.inr rfl))) rfl) (ce_fld ["FirstUnlike"] (fo_cons T.c_FirstUnlike T.n_FirstUnlike_basin fo_nil) (ce_var 1 rfl (by first | exact Or.inl rfl | exact Or.inr (Or.inl rfl) | exact Or.inr (Or.inr rfl))) rfl)) (ce_one (ce_eq hr.units (ce_fld ["FirstUnlike"] (fo_cons T.c_FirstUnlike T.n_FirstUnlike_place fo_nil) (ce_var 0 rfl (by first | exact Or.inl rfl | exact Or.inr (Or.inl rfl) | exact Or.inr (Or.inr rfl))) rfl) (ce_fld ["FirstUnlike"] (fo_cons T.c_FirstUnlike T.n_FirstUnlike_place fo_nil) (ce_var 1 rfl (by first | exact Or.inl rfl | exact Or.inr (Or.inl rfl) | exact Or.inr (Or.inr rfl))) rfl))))))))⟩)
theorem ok_Program___eq__ (T : Tx P w K mg) : WD.FnG P w K mg base 1 (He.ma K (He.ga K "Program") "__eq__") ["self", "other"] (spM ⟨K, w⟩ PM.m_Program___eq__) := by
  refine fn_pm (N := ["self", "other"]) (st := s_Program___eq__) (m := PM.b_Program___eq__) T.f_Program___eq__ sc_Program___eq__ (by decide) (fun _ _ _ _ _ _ us hl => match us, hl with | [_, _], _ => rfl) (fun cdv A outer s H E hr => ⟨_, by
  unfold PM.b_Program___eq__
  exact (css_one (cs_ret (ce_and (ce_is T.kt_Program (.inr "Program") (by decide) (pe_clsN (by rfl) T.m_Program) (by rfl) T.z_isinstance (ce_var 1 rfl (by first | exact Or.inl rfl | exact Or.inr (Or.inl rfl) | exact Or.inr (Or.inr rfl)))) (ce_one (ce_eq hr.units (ce_fld ["Program"] (fo_cons T.c_Program T.n_Program_rounds fo_nil) (ce_var 0 rfl (by first | exact Or.inl rfl | exact Or.inr (Or.inl rfl) | exact Or.inr (Or.inr rfl))) rfl) (ce_fld ["Program"] (fo_cons T.c_Program T.n_Program_rounds fo_nil) (ce_var 1 rfl (by first | exact Or.inl rfl | exact Or.inr (Or.inl rfl) | exact Or.inr (Or.inr rfl))) rfl))))))⟩)
theorem ok_SameAlways___eq__ (T : Tx P w K mg) : WD.FnG P w K mg base 1 (He.ma K (He.ga K "SameAlways") "__eq__") ["self", "other"] (spM ⟨K, w⟩ PM.m_SameAlways___eq__) := by
  refine fn_pm (N := ["self", "other"]) (st := s_SameAlways___eq__) (m := PM.b_SameAlways___eq__) T.f_SameAlways___eq__ sc_SameAlways___eq__ (by decide) (fun _ _ _ _ _ _ us hl => match us, hl with | [_, _], _ => rfl) (fun cdv A outer s H E hr => ⟨_, by
  unfold PM.b_SameAlways___eq__
  exact (css_one (cs_ret (ce_and (ce_is T.kt_SameAlways_FirstUnlike (.inr "SameAlways") (by decide) (pe_clsN (by rfl) T.m_SameAlways) (by rfl) T.z_isinstance (ce_var 1 rfl (by first | exact Or.inl rfl | exact Or.inr (Or.inl rfl) | exact Or.inr (Or.inr rfl)))) (ce_one (ce_eq hr.units (ce_fld ["SameAlways"] (fo_cons T.c_SameAlways T.n_SameAlways_most fo_nil) (ce_var 0 rfl (by first | exact Or.inl rfl | exact Or.inr (Or.inl rfl) | exact Or.inr (Or.inr rfl))) rfl) (ce_fld ["SameAlways"] (fo_cons T.c_SameAlways T.n_SameAlways_most fo_nil) (ce_var 1 rfl (by first | exact Or.inl rfl | exact Or.inr (Or.inl rfl) | exact Or.inr (Or.inr rfl))) rfl))))))⟩)
theorem ok_is_round (T : Tx P w K mg) : WD.FnG P w K mg base 2 (He.ga K "is_round") ["thing"] (spM ⟨K, w⟩ PM.m_is_round) := by
  refine fn_pm (N := ["thing", "step", "rest"]) (st := s_is_round) (m := PM.b_is_round) T.f_is_round sc_is_round (by decide) (fun _ _ _ _ _ _ us hl => match us, hl with | [_], _ => rfl) (fun cdv A outer s H E hr => ⟨_, by
  unfold PM.b_is_round
  exact (css_cons (cs_if (ct_in (u65 hr) (ce_var 0 rfl (by first | exact Or.inl rfl | exact Or.inr (Or.inl rfl) | exact Or.inr (Or.inr rfl))) (ce_tup (ca_cons (ce_tup (ca_cons ce_str ca_nil)) (ca_cons (ce_tup (ca_cons ce_str ca_nil)) ca_nil))) (by rfl)) (css_one (cs_ret ce_bl)) css_nil) (css_cons (cs_if (cw_t (cw_or (ct_not (ct_val (ce_is T.kt_none (.inl "tuple") (by decide) (pe_tyN (n := "tuple") (by rfl) T.z_tuple (by decide +kernel)) (by rfl) T.z_isinstance (ce_var 0 rfl (by first | exact Or.inl rfl | exact Or.inr (Or.inl rfl) | exact Or.inr (Or.inr rfl)))))) (cw_or (ct_ne hr.units (ce_callBK (fun K => rLenS K) call_lenS calls_len (by rfl) T.z_len PySem.boot_len (ca_cons (ce_var 0 rfl (by first | exact Or.inl rfl | exact Or.inr (Or.inl rfl) | exact Or.inr (Or.inr rfl))) ca_nil)) ce_int) (cw_or1 (ct_ne hr.units (ce_ix (ce_var 0 rfl (by first | exact Or.inl rfl | exact Or.inr (Or.inl rfl) | exact Or.inr (Or.inr rfl))) ce_int (fun _ _ => rfl)) ce_str))))) (css_one (cs_ret ce_bl)) css_nil) (css_cons (cs_asg (ce_sl (ce_var 0 rfl (by first | exact Or.inl rfl | exact Or.inr (Or.inl rfl) | exact Or.inr (Or.inr rfl))) (co_some ce_int) co_none) (cg_tup rfl (cgs_cons (cg_name (i := 1) sc_is_round.nd rfl (.inl rfl)) (cgs_cons (cg_name (i := 2) sc_is_round.nd rfl (.inl rfl)) cgs_nil)))) (css_one (cs_ret (ce_and (ce_call (ok_is_integer T) (hr.mono (by decide)) (by rfl) T.m_is_integer (ca_cons (ce_var 1 rfl (by first | exact Or.inl rfl | exact Or.inr (Or.inl rfl) | exact Or.inr (Or.inr rfl))) ca_nil)) (ce_and (ce_call (ok_is_integer T) (hr.mono (by decide)) (by rfl) T.m_is_integer (ca_cons (ce_var 2 rfl (by first | exact Or.inl rfl | exact Or.inr (Or.inl rfl) | exact Or.inr (Or.inr rfl))) ca_nil)) (ce_and (ce_chain op_le op_le (ops_le _) (ops_le _) ce_int (ce_var 1 rfl (by first | exact Or.inl rfl | exact Or.inr (Or.inl rfl) | exact Or.inr (Or.inr rfl))) ce_int) (ce_one (ce_chain op_le op_lt (ops_le _) (ops_lt _) ce_int (ce_var 2 rfl (by first | exact Or.inl rfl | exact Or.inr (Or.inl rfl) | exact Or.inr (Or.inr rfl))) (ce_var 1 rfl (by first | exact Or.inl rfl | exact Or.inr (Or.inl rfl) | exact Or.inr (Or.inr rfl)))))))))))))⟩)
theorem ok_check_rounds (T : Tx P w K mg) : WD.FnG P w K mg base 3 (He.ga K "check_rounds") ["rounds"] (spM ⟨K, w⟩ PM.m_check_rounds) := by
  refine fn_pm (N := ["rounds", "place", "told"]) (st := s_check_rounds) (m := PM.b_check_rounds) T.f_check_rounds sc_check_rounds (by decide) (fun _ _ _ _ _ _ us hl => match us, hl with | [_], _ => rfl) (fun cdv A outer s H E hr => ⟨_, by
  unfold PM.b_check_rounds
  exact (css_cons (cs_if (cw_t (cw_or (ct_not (ct_val (ce_isT T.kt_none (.inl "list") (.inl "tuple") (by decide) (by decide) (pe_tyN (n := "list") (by rfl) T.z_list (by decide +kernel)) (pe_tyN (n := "tuple") (by rfl) T.z_tuple (by decide +kernel)) (by rfl) T.z_isinstance (ce_var 0 rfl (by first | exact Or.inl rfl | exact Or.inr (Or.inl rfl) | exact Or.inr (Or.inr rfl)))))) (cw_or1 (ct_gt (ce_callBK (fun K => rLenS K) call_lenS calls_len (by rfl) T.z_len PySem.boot_len (ca_cons (ce_var 0 rfl (by first | exact Or.inl rfl | exact Or.inr (Or.inl rfl) | exact Or.inr (Or.inr rfl))) ca_nil)) (ce_globI (by rfl) T.i_MOST_ROUNDS))))) (css_one (cs_raise1 rfl (T.s_BadProgram T.hp T.ht) hr ce_non (by rfl))) css_nil) (css_one (cs_for rfl (ci_num (by rfl) T.z_enumerate (ce_var 0 rfl (by first | exact Or.inl rfl | exact Or.inr (Or.inl rfl) | exact Or.inr (Or.inr rfl)))) (cg_tup rfl (cgs_cons (cg_name (i := 1) sc_check_rounds.nd rfl (.inl rfl)) (cgs_cons (cg_name (i := 2) sc_check_rounds.nd rfl (.inl rfl)) cgs_nil))) (css_one (cs_if (ct_not (ct_val (ce_call (ok_is_round T) (hr.mono (by decide)) (by rfl) T.m_is_round (ca_cons (ce_var 2 rfl (by first | exact Or.inl rfl | exact Or.inr (Or.inl rfl) | exact Or.inr (Or.inr rfl))) ca_nil)))) (css_one (cs_raise1 rfl (T.s_BadProgram T.hp T.ht) hr (ce_var 1 rfl (by first | exact Or.inl rfl | exact Or.inr (Or.inl rfl) | exact Or.inr (Or.inr rfl))) (by rfl))) css_nil)))))⟩)
theorem ok_Program___init__ (T : Tx P w K mg) : WD.FnG P w K mg base 4 (He.ma K (He.ga K "Program") "__init__") ["self", "rounds"] (spM ⟨K, w⟩ PM.m_Program___init__) := by
  refine fn_pm (N := ["self", "rounds"]) (st := s_Program___init__) (m := PM.b_Program___init__) T.f_Program___init__ sc_Program___init__ (by decide) (fun _ _ _ _ _ _ us hl => match us, hl with | [_, _], _ => rfl) (fun cdv A outer s H E hr => ⟨_, by
  unfold PM.b_Program___init__
  exact (css_cons (cs_expr (ce_call (ok_check_rounds T) (hr.mono (by decide)) (by rfl) T.m_check_rounds (ca_cons (ce_var 1 rfl (by first | exact Or.inl rfl | exact Or.inr (Or.inl rfl) | exact Or.inr (Or.inr rfl))) ca_nil))) (css_one (cs_fld ["Program"] (fo_cons T.c_Program T.n_Program_rounds fo_nil) (ce_var 0 rfl (by first | exact Or.inl rfl | exact Or.inr (Or.inl rfl) | exact Or.inr (Or.inr rfl))) (ce_callTyK (fun K => WD.rTupS K) WD.call_tupS calls_tuple (by rfl) T.z_tuple (by decide +kernel) (ca_cons (ce_var 1 rfl (by first | exact Or.inl rfl | exact Or.inr (Or.inl rfl) | exact Or.inr (Or.inr rfl))) ca_nil)) rfl)))⟩)
theorem ok_Program___len__ (T : Tx P w K mg) : WD.FnG P w K mg base 1 (He.ma K (He.ga K "Program") "__len__") ["self"] (spM ⟨K, w⟩ PM.m_Program___len__) := by
  refine fn_pm (N := ["self"]) (st := s_Program___len__) (m := PM.b_Program___len__) T.f_Program___len__ sc_Program___len__ (by decide) (fun _ _ _ _ _ _ us hl => match us, hl with | [_], _ => rfl) (fun cdv A outer s H E hr => ⟨_, by
  unfold PM.b_Program___len__
  exact (css_one (cs_ret (ce_callBK (fun K => rLenS K) call_lenS calls_len (by rfl) T.z_len PySem.boot_len (ca_cons (ce_fld ["Program"] (fo_cons T.c_Program T.n_Program_rounds fo_nil) (ce_var 0 rfl (by first | exact Or.inl rfl | exact Or.inr (Or.inl rfl) | exact Or.inr (Or.inr rfl))) rfl) ca_nil))))⟩)
end
end Lk14
end
section
set_option Elab.async false
set_option linter.all false
set_option maxRecDepth 100000
set_option maxHeartbeats 4000000
namespace Lk14
open PySem PySem.Spec PyProof.Rows L2 Evl PM
open WD (pe_tyN pe_clsN cr_lcm call_lenS call_listS call_tupS call_absS call_maxS call_minS call_intS)
section
variable {P : Program} {w : World} {K : PySem.W.Frag} {mg : Str → Option Value} {base : Heap}
theorem ok_Program___add__ (T : Tx P w K mg) : WD.FnG P w K mg base 6 (He.ma K (He.ga K "Program") "__add__") ["self", "other"] (spM ⟨K, w⟩ PM.m_Program___add__) := by
  refine fn_pm (N := ["self", "other"]) (st := s_Program___add__) (m := PM.b_Program___add__) T.f_Program___add__ sc_Program___add__ (by decide) (fun _ _ _ _ _ _ us hl => match us, hl with | [_, _], _ => rfl) (fun cdv A outer s H E hr => ⟨_, by
  unfold PM.b_Program___add__
  exact (css_cons (cs_if (ct_not (ct_val (ce_is T.kt_Program (.inr "Program") (by decide) (pe_clsN (by rfl) T.m_Program) (by rfl) T.z_isinstance (ce_var 1 rfl (by first | exact Or.inl rfl | exact Or.inr (Or.inl rfl) | exact Or.inr (Or.inr rfl)))))) (css_one cs_no) css_nil) (css_one (cs_ret (ce_make false T.k_Program (ok_Program___init__ T) (hr.mono (by decide)) (by rfl) T.m_Program (ca_cons (ce_add (ce_fld ["Program"] (fo_cons T.c_Program T.n_Program_rounds fo_nil) (ce_var 0 rfl (by first | exact Or.inl rfl | exact Or.inr (Or.inl rfl) | exact Or.inr (Or.inr rfl))) rfl) (ce_fld ["Program"] (fo_cons T.c_Program T.n_Program_rounds fo_nil) (ce_var 1 rfl (by first | exact Or.inl rfl | exact Or.inr (Or.inl rfl) | exact Or.inr (Or.inr rfl))) rfl)) ca_nil)))))⟩)
theorem ok_openings (T : Tx P w K mg) : WD.FnG P w K mg base 1 (He.ga K "openings") ["rounds", "many"] (spM ⟨K, w⟩ PM.m_openings) := by
  refine fn_pm (N := ["rounds", "many", "found", "told", "weir"]) (st := s_openings) (m := PM.b_openings) T.f_openings sc_openings (by decide) (fun _ _ _ _ _ _ us hl => match us, hl with | [_, _], _ => rfl) (fun cdv A outer s H E hr => ⟨_, by
  unfold PM.b_openings
  exact (css_cons (cs_asg (ce_lstC ca_nil) (cg_name (i := 2) sc_openings.nd rfl (.inl rfl))) (css_cons (cs_for rfl (ci_seq (ce_var 0 rfl (by first | exact Or.inl rfl | exact Or.inr (Or.inl rfl) | exact Or.inr (Or.inr rfl)))) (cg_name (i := 3) sc_openings.nd rfl (.inr rfl)) (css_one (cs_if (ct_eq hr.units (ce_ix (ce_var 3 rfl (by first | exact Or.inl rfl | exact Or.inr (Or.inl rfl) | exact Or.inr (Or.inr rfl))) ce_int (fun _ _ => rfl)) ce_str) (css_one (cs_expr (ce_extend (ce_var 2 rfl (by first | exact Or.inl rfl | exact Or.inr (Or.inl rfl) | exact Or.inr (Or.inr rfl))) (ca_cons (ce_listRg rfl (by rfl) T.z_list (by rfl) T.z_range ce_int (ce_var 1 rfl (by first | exact Or.inl rfl | exact Or.inr (Or.inl rfl) | exact Or.inr (Or.inr rfl)))) ca_nil)))) (css_one (cs_if (ct_eq hr.units (ce_ix (ce_var 3 rfl (by first | exact Or.inl rfl | exact Or.inr (Or.inl rfl) | exact Or.inr (Or.inr rfl))) ce_int (fun _ _ => rfl)) ce_str) (css_one (cs_expr (ce_extend (ce_var 2 rfl (by first | exact Or.inl rfl | exact Or.inr (Or.inl rfl) | exact Or.inr (Or.inr rfl))) (ca_cons (ce_listRg3 rfl (by rfl) T.z_list (by rfl) T.z_range (ca_cons (ce_sub (ce_var 1 rfl (by first | exact Or.inl rfl | exact Or.inr (Or.inl rfl) | exact Or.inr (Or.inr rfl))) ce_int) (ca_cons ce_int (ca_cons (ce_neg ce_int) ca_nil)))) ca_nil)))) (css_one (cs_expr (ce_extend (ce_var 2 rfl (by first | exact Or.inl rfl | exact Or.inr (Or.inl rfl) | exact Or.inr (Or.inr rfl))) (ca_cons (ce_lc false (own := [("weir", 4)]) rfl sc_openings.nd (ci_range2 (by rfl) T.z_range (ca_cons ce_int (ca_cons (ce_var 1 rfl (by first | exact Or.inl rfl | exact Or.inr (Or.inl rfl) | exact Or.inr (Or.inr rfl))) ca_nil))) (blkOk_by (own := [("weir", 4)]) (N := ["rounds", "many", "found", "told", "weir"]) (sc := defScope s_openings) (by decide +kernel)) (fun _ _ _ _ _ => (cg_name (i := 4) sc_openings.nd rfl (.inl rfl))) (keep_gname (by decide)) (fun _ _ _ _ _ => (cts_one (ct_eq hr.units (ce_mod (ce_var 4 rfl (by first | exact Or.inl rfl | exact Or.inr (Or.inl rfl) | exact Or.inr (Or.inr rfl))) (ce_ix (ce_var 3 rfl (by first | exact Or.inl rfl | exact Or.inr (Or.inl rfl) | exact Or.inr (Or.inr rfl))) ce_int (fun _ _ => rfl))) (ce_ix (ce_var 3 rfl (by first | exact Or.inl rfl | exact Or.inr (Or.inl rfl) | exact Or.inr (Or.inr rfl))) ce_int (fun _ _ => rfl))))) (fun _ _ _ _ _ => (ce_var 4 rfl (by first | exact Or.inl rfl | exact Or.inr (Or.inl rfl) | exact Or.inr (Or.inr rfl))))) ca_nil))))))))) (css_one (cs_frz 2 (cs_ret (ce_var 2 rfl (by first | exact Or.inl rfl | exact Or.inr (Or.inl rfl) | exact Or.inr (Or.inr rfl))))))))⟩)
theorem ok_evened (T : Tx P w K mg) : WD.FnG P w K mg base 2 (He.ga K "evened") ["rounds", "tops"] (spM ⟨K, w⟩ PM.m_evened) := by
  refine fn_pm (N := ["rounds", "tops", "late", "weir"]) (st := s_evened) (m := PM.b_evened) T.f_evened sc_evened (by decide) (fun _ _ _ _ _ _ us hl => match us, hl with | [_, _], _ => rfl) (fun cdv A outer s H E hr => ⟨_, by
  unfold PM.b_evened
  exact (css_cons (cs_asg (ce_callTyK (fun K => rListS K) call_listS calls_listC (by rfl) T.z_list (by decide +kernel) (ca_cons (ce_var 1 rfl (by first | exact Or.inl rfl | exact Or.inr (Or.inl rfl) | exact Or.inr (Or.inr rfl))) ca_nil)) (cg_name (i := 2) sc_evened.nd rfl (.inl rfl))) (css_cons (cs_for rfl (ci_seq (ce_call (ok_openings T) (hr.mono (by decide)) (by rfl) T.m_openings (ca_cons (ce_var 0 rfl (by first | exact Or.inl rfl | exact Or.inr (Or.inl rfl) | exact Or.inr (Or.inr rfl))) (ca_cons (ce_callBK (fun K => rLenS K) call_lenS calls_len (by rfl) T.z_len PySem.boot_len (ca_cons (ce_var 2 rfl (by first | exact Or.inl rfl | exact Or.inr (Or.inl rfl) | exact Or.inr (Or.inr rfl))) ca_nil)) ca_nil)))) (cg_name (i := 3) sc_evened.nd rfl (.inl rfl)) (css_one (cs_set2 (ce_shr (ce_add (ce_ix (ce_var 2 rfl (by first | exact Or.inl rfl | exact Or.inr (Or.inl rfl) | exact Or.inr (Or.inr rfl))) (ce_sub (ce_var 3 rfl (by first | exact Or.inl rfl | exact Or.inr (Or.inl rfl) | exact Or.inr (Or.inr rfl))) ce_int) (fun _ _ => rfl)) (ce_ix (ce_var 2 rfl (by first | exact Or.inl rfl | exact Or.inr (Or.inl rfl) | exact Or.inr (Or.inr rfl))) (ce_var 3 rfl (by first | exact Or.inl rfl | exact Or.inr (Or.inl rfl) | exact Or.inr (Or.inr rfl))) (fun _ _ => rfl))) ce_int) (ce_var 2 rfl (by first | exact Or.inl rfl | exact Or.inr (Or.inl rfl) | exact Or.inr (Or.inr rfl))) (ce_sub (ce_var 3 rfl (by first | exact Or.inl rfl | exact Or.inr (Or.inl rfl) | exact Or.inr (Or.inr rfl))) ce_int) (ce_var 2 rfl (by first | exact Or.inl rfl | exact Or.inr (Or.inl rfl) | exact Or.inr (Or.inr rfl))) (ce_var 3 rfl (by first | exact Or.inl rfl | exact Or.inr (Or.inl rfl) | exact Or.inr (Or.inr rfl))) (fun y => pg_sub (((ce_var 2 rfl (by first | exact Or.inl rfl | exact Or.inr (Or.inl rfl) | exact Or.inr (Or.inr rfl)))).pe y) (((ce_sub (ce_var 3 rfl (by first | exact Or.inl rfl | exact Or.inr (Or.inl rfl) | exact Or.inr (Or.inr rfl))) ce_int)).pe y) set_list) (fun y => pg_sub (((ce_var 2 rfl (by first | exact Or.inl rfl | exact Or.inr (Or.inl rfl) | exact Or.inr (Or.inr rfl)))).pe y) (((ce_var 3 rfl (by first | exact Or.inl rfl | exact Or.inr (Or.inl rfl) | exact Or.inr (Or.inr rfl)))).pe y) set_list)))) (css_one (cs_frz 2 (cs_ret (ce_var 2 rfl (by first | exact Or.inl rfl | exact Or.inr (Or.inl rfl) | exact Or.inr (Or.inr rfl))))))))⟩)
theorem ok_halvings (T : Tx P w K mg) : WD.FnG P w K mg base 1 (He.ga K "halvings") ["rounds", "many"] (spM ⟨K, w⟩ PM.m_halvings) := by
  refine fn_pm (N := ["rounds", "many", "told"]) (st := s_halvings) (m := PM.b_halvings) T.f_halvings sc_halvings (by decide) (fun _ _ _ _ _ _ us hl => match us, hl with | [_, _], _ => rfl) (fun cdv A outer s H E hr => ⟨_, by
  unfold PM.b_halvings
  exact (css_one (cs_ret (ce_callBK (fun K => rSum K) (cr_sum rfl) calls_sum (by rfl) T.z_sum (by decide +kernel) (ca_cons (ce_lc false (own := [("told", 2)]) rfl sc_halvings.nd (ci_seq (ce_var 0 rfl (by first | exact Or.inl rfl | exact Or.inr (Or.inl rfl) | exact Or.inr (Or.inr rfl)))) (blkOk_by (own := [("told", 2)]) (N := ["rounds", "many", "told"]) (sc := defScope s_halvings) (by decide +kernel)) (fun _ _ _ _ _ => (cg_name (i := 2) sc_halvings.nd rfl (.inl rfl))) (keep_gname (by decide)) (fun _ _ _ _ _ => cts_nil) (fun _ _ _ _ _ => (ce_if (ct_in (u65 hr) (ce_ix (ce_var 2 rfl (by first | exact Or.inl rfl | exact Or.inr (Or.inl rfl) | exact Or.inr (Or.inr rfl))) ce_int (fun _ _ => rfl)) (ce_tup (ca_cons ce_str (ca_cons ce_str ca_nil))) (by rfl)) (ce_sub (ce_var 1 rfl (by first | exact Or.inl rfl | exact Or.inr (Or.inl rfl) | exact Or.inr (Or.inr rfl))) ce_int) ce_int))) ca_nil))))⟩)
theorem ok_check_program (T : Tx P w K mg) : WD.FnG P w K mg base 1 (He.ga K "check_program") ["program"] (spM ⟨K, w⟩ PM.m_check_program) := by
  refine fn_pm (N := ["program"]) (st := s_check_program) (m := PM.b_check_program) T.f_check_program sc_check_program (by decide) (fun _ _ _ _ _ _ us hl => match us, hl with | [_], _ => rfl) (fun cdv A outer s H E hr => ⟨_, by
  unfold PM.b_check_program
  exact (css_one (cs_if (ct_not (ct_val (ce_is T.kt_Program (.inr "Program") (by decide) (pe_clsN (by rfl) T.m_Program) (by rfl) T.z_isinstance (ce_var 0 rfl (by first | exact Or.inl rfl | exact Or.inr (Or.inl rfl) | exact Or.inr (Or.inr rfl)))))) (css_one (cs_raise1 rfl (T.s_BadProgram T.hp T.ht) hr ce_non (by rfl))) css_nil))⟩)
theorem ok_figures (T : Tx P w K mg) : WD.FnG P w K mg base 1 (He.ga K "figures") ["number", "at", "size"] (spM ⟨K, w⟩ PM.m_figures) := by
  refine fn_pm (N := ["number", "at", "size"]) (st := s_figures) (m := PM.b_figures) T.f_figures sc_figures (by decide) (fun _ _ _ _ _ _ us hl => match us, hl with | [_, _, _], _ => rfl) (fun cdv A outer s H E hr => ⟨_, by
  unfold PM.b_figures
  exact (css_one (cs_ret (ce_and2 (ce_shr (ce_var 0 rfl (by first | exact Or.inl rfl | exact Or.inr (Or.inl rfl) | exact Or.inr (Or.inr rfl))) (ce_mul (ce_var 1 rfl (by first | exact Or.inl rfl | exact Or.inr (Or.inl rfl) | exact Or.inr (Or.inr rfl))) (ce_var 2 rfl (by first | exact Or.inl rfl | exact Or.inr (Or.inl rfl) | exact Or.inr (Or.inr rfl))))) (ce_sub (ce_shl ce_int (ce_var 2 rfl (by first | exact Or.inl rfl | exact Or.inr (Or.inl rfl) | exact Or.inr (Or.inr rfl)))) ce_int))))⟩)
theorem ok_first_apart (T : Tx P w K mg) : WD.FnG P w K mg base 2 (He.ga K "first_apart") ["here", "there", "first", "size"] (spM ⟨K, w⟩ PM.m_first_apart) := by
  refine fn_pm (N := ["here", "there", "first", "size", "at", "place"]) (st := s_first_apart) (m := PM.b_first_apart) T.f_first_apart sc_first_apart (by decide) (fun _ _ _ _ _ _ us hl => match us, hl with | [_, _, _, _], _ => rfl) (fun cdv A outer s H E hr => ⟨_, by
  unfold PM.b_first_apart
  exact (css_cons (cs_for rfl (ci_range1 (by rfl) T.z_range (ca_cons (ce_globI (by rfl) T.i_TOGETHER) ca_nil)) (cg_name (i := 4) sc_first_apart.nd rfl (.inl rfl)) (css_one (cs_for rfl (ci_range1 (by rfl) T.z_range (ca_cons (ce_callBK (fun K => rLenS K) call_lenS calls_len (by rfl) T.z_len PySem.boot_len (ca_cons (ce_var 0 rfl (by first | exact Or.inl rfl | exact Or.inr (Or.inl rfl) | exact Or.inr (Or.inr rfl))) ca_nil)) ca_nil)) (cg_name (i := 5) sc_first_apart.nd rfl (.inl rfl)) (css_one (cs_if (ct_ne hr.units (ce_call (ok_figures T) (hr.mono (by decide)) (by rfl) T.m_figures (ca_cons (ce_ix (ce_var 0 rfl (by first | exact Or.inl rfl | exact Or.inr (Or.inl rfl) | exact Or.inr (Or.inr rfl))) (ce_var 5 rfl (by first | exact Or.inl rfl | exact Or.inr (Or.inl rfl) | exact Or.inr (Or.inr rfl))) (fun _ _ => rfl)) (ca_cons (ce_var 4 rfl (by first | exact Or.inl rfl | exact Or.inr (Or.inl rfl) | exact Or.inr (Or.inr rfl))) (ca_cons (ce_var 3 rfl (by first | exact Or.inl rfl | exact Or.inr (Or.inl rfl) | exact Or.inr (Or.inr rfl))) ca_nil)))) (ce_call (ok_figures T) (hr.mono (by decide)) (by rfl) T.m_figures (ca_cons (ce_ix (ce_var 1 rfl (by first | exact Or.inl rfl | exact Or.inr (Or.inl rfl) | exact Or.inr (Or.inr rfl))) (ce_var 5 rfl (by first | exact Or.inl rfl | exact Or.inr (Or.inl rfl) | exact Or.inr (Or.inr rfl))) (fun _ _ => rfl)) (ca_cons (ce_var 4 rfl (by first | exact Or.inl rfl | exact Or.inr (Or.inl rfl) | exact Or.inr (Or.inr rfl))) (ca_cons (ce_var 3 rfl (by first | exact Or.inl rfl | exact Or.inr (Or.inl rfl) | exact Or.inr (Or.inr rfl))) ca_nil))))) (css_one (cs_ret (ce_tup (ca_cons (ce_add (ce_var 2 rfl (by first | exact Or.inl rfl | exact Or.inr (Or.inl rfl) | exact Or.inr (Or.inr rfl))) (ce_var 4 rfl (by first | exact Or.inl rfl | exact Or.inr (Or.inl rfl) | exact Or.inr (Or.inr rfl)))) (ca_cons (ce_var 5 rfl (by first | exact Or.inl rfl | exact Or.inr (Or.inl rfl) | exact Or.inr (Or.inr rfl))) ca_nil))))) css_nil))))) (css_one (cs_ret ce_non)))⟩)
theorem ok_first_unlike (T : Tx P w K mg) : WD.FnG P w K mg base 3 (He.ga K "first_unlike") ["one", "other", "many"] (spM ⟨K, w⟩ PM.m_first_unlike) := by
  refine fn_pm (N := ["one", "other", "many", "often", "size", "first", "tops", "at", "here", "there", "_"]) (st := s_first_unlike) (m := PM.b_first_unlike) T.f_first_unlike sc_first_unlike (by decide) (fun _ _ _ _ _ _ us hl => match us, hl with | [_, _, _], _ => rfl) (fun cdv A outer s H E hr => ⟨_, by
  unfold PM.b_first_unlike
  exact (css_cons (cs_asg (ce_callBK (fun _ => rMax2) (call_maxS rfl) calls_max2 (by rfl) T.z_max (by decide +kernel) (ca_cons (ce_call (ok_halvings T) (hr.mono (by decide)) (by rfl) T.m_halvings (ca_cons (ce_fld ["Program"] (fo_cons T.c_Program T.n_Program_rounds fo_nil) (ce_var 0 rfl (by first | exact Or.inl rfl | exact Or.inr (Or.inl rfl) | exact Or.inr (Or.inr rfl))) rfl) (ca_cons (ce_var 2 rfl (by first | exact Or.inl rfl | exact Or.inr (Or.inl rfl) | exact Or.inr (Or.inr rfl))) ca_nil))) (ca_cons (ce_call (ok_halvings T) (hr.mono (by decide)) (by rfl) T.m_halvings (ca_cons (ce_fld ["Program"] (fo_cons T.c_Program T.n_Program_rounds fo_nil) (ce_var 1 rfl (by first | exact Or.inl rfl | exact Or.inr (Or.inl rfl) | exact Or.inr (Or.inr rfl))) rfl) (ca_cons (ce_var 2 rfl (by first | exact Or.inl rfl | exact Or.inr (Or.inl rfl) | exact Or.inr (Or.inr rfl))) ca_nil))) ca_nil))) (cg_name (i := 3) sc_first_unlike.nd rfl (.inl rfl))) (css_cons (cs_asg (ce_add (ce_var 3 rfl (by first | exact Or.inl rfl | exact Or.inr (Or.inl rfl) | exact Or.inr (Or.inr rfl))) ce_int) (cg_name (i := 4) sc_first_unlike.nd rfl (.inl rfl))) (css_cons (cs_for rfl (ci_range3 (by rfl) T.z_range (ca_cons ce_int (ca_cons (ce_var 2 rfl (by first | exact Or.inl rfl | exact Or.inr (Or.inl rfl) | exact Or.inr (Or.inr rfl))) (ca_cons (ce_globI (by rfl) T.i_TOGETHER) ca_nil)))) (cg_name (i := 5) sc_first_unlike.nd rfl (.inl rfl)) (css_cons (cs_setLc true (i := 6) (own := [("_", 10)]) rfl sc_first_unlike.nd rfl rfl (sw_true rfl rfl rfl (by decide +kernel)) (ci_range1 (by rfl) T.z_range (ca_cons (ce_var 2 rfl (by first | exact Or.inl rfl | exact Or.inr (Or.inl rfl) | exact Or.inr (Or.inr rfl))) ca_nil)) (blkOk_by (own := [("_", 10)]) (N := ["one", "other", "many", "often", "size", "first", "tops", "at", "here", "there", "_"]) (sc := defScope s_first_unlike) (by decide +kernel)) (fun _ _ _ _ _ => (cg_name (i := 10) sc_first_unlike.nd rfl (.inl rfl))) (keep_gname (by decide)) (fun _ _ _ _ _ => cts_nil) (fun _ _ _ _ _ => ce_int)) (css_cons (cs_for rfl (ci_range1 (by rfl) T.z_range (ca_cons (ce_callBK (fun _ => WD.rMin2) (WD.call_minS rfl) calls_min2 (by rfl) T.z_min (by decide +kernel) (ca_cons (ce_globI (by rfl) T.i_TOGETHER) (ca_cons (ce_sub (ce_var 2 rfl (by first | exact Or.inl rfl | exact Or.inr (Or.inl rfl) | exact Or.inr (Or.inr rfl))) (ce_var 5 rfl (by first | exact Or.inl rfl | exact Or.inr (Or.inl rfl) | exact Or.inr (Or.inr rfl)))) ca_nil))) ca_nil)) (cg_name (i := 7) sc_first_unlike.nd rfl (.inl rfl)) (css_one (cs_set (ce_shl ce_int (ce_add (ce_var 3 rfl (by first | exact Or.inl rfl | exact Or.inr (Or.inl rfl) | exact Or.inr (Or.inr rfl))) (ce_mul (ce_var 7 rfl (by first | exact Or.inl rfl | exact Or.inr (Or.inl rfl) | exact Or.inr (Or.inr rfl))) (ce_var 4 rfl (by first | exact Or.inl rfl | exact Or.inr (Or.inl rfl) | exact Or.inr (Or.inr rfl)))))) (ce_var 6 rfl (by first | exact Or.inl rfl | exact Or.inr (Or.inl rfl) | exact Or.inr (Or.inr rfl))) (ce_add (ce_var 5 rfl (by first | exact Or.inl rfl | exact Or.inr (Or.inl rfl) | exact Or.inr (Or.inr rfl))) (ce_var 7 rfl (by first | exact Or.inl rfl | exact Or.inr (Or.inl rfl) | exact Or.inr (Or.inr rfl)))) rfl rfl rfl (fun y => pg_sub (((ce_var 6 rfl (by first | exact Or.inl rfl | exact Or.inr (Or.inl rfl) | exact Or.inr (Or.inr rfl)))).pe y) (((ce_add (ce_var 5 rfl (by first | exact Or.inl rfl | exact Or.inr (Or.inl rfl) | exact Or.inr (Or.inr rfl))) (ce_var 7 rfl (by first | exact Or.inl rfl | exact Or.inr (Or.inl rfl) | exact Or.inr (Or.inr rfl))))).pe y) set_list)))) (css_cons (cs_par (i := 8) (j := 9) (by rfl) sc_first_unlike.nd rfl rfl (by decide) rfl rfl (ca_cons (ce_call (ok_evened T) (hr.mono (by decide)) (by rfl) T.m_evened (ca_cons (ce_fld ["Program"] (fo_cons T.c_Program T.n_Program_rounds fo_nil) (ce_var 0 rfl (by first | exact Or.inl rfl | exact Or.inr (Or.inl rfl) | exact Or.inr (Or.inr rfl))) rfl) (ca_cons (ce_var 6 rfl (by first | exact Or.inl rfl | exact Or.inr (Or.inl rfl) | exact Or.inr (Or.inr rfl))) ca_nil))) (ca_cons (ce_call (ok_evened T) (hr.mono (by decide)) (by rfl) T.m_evened (ca_cons (ce_fld ["Program"] (fo_cons T.c_Program T.n_Program_rounds fo_nil) (ce_var 1 rfl (by first | exact Or.inl rfl | exact Or.inr (Or.inl rfl) | exact Or.inr (Or.inr rfl))) rfl) (ca_cons (ce_var 6 rfl (by first | exact Or.inl rfl | exact Or.inr (Or.inl rfl) | exact Or.inr (Or.inr rfl))) ca_nil))) ca_nil)) (by rfl)) (css_one (cs_if (ct_ne hr.units (ce_var 8 rfl (by first | exact Or.inl rfl | exact Or.inr (Or.inl rfl) | exact Or.inr (Or.inr rfl))) (ce_var 9 rfl (by first | exact Or.inl rfl | exact Or.inr (Or.inl rfl) | exact Or.inr (Or.inr rfl)))) (css_one (cs_ret (ce_call (ok_first_apart T) (hr.mono (by decide)) (by rfl) T.m_first_apart (ca_cons (ce_var 8 rfl (by first | exact Or.inl rfl | exact Or.inr (Or.inl rfl) | exact Or.inr (Or.inr rfl))) (ca_cons (ce_var 9 rfl (by first | exact Or.inl rfl | exact Or.inr (Or.inl rfl) | exact Or.inr (Or.inr rfl))) (ca_cons (ce_var 5 rfl (by first | exact Or.inl rfl | exact Or.inr (Or.inl rfl) | exact Or.inr (Or.inr rfl))) (ca_cons (ce_var 4 rfl (by first | exact Or.inl rfl | exact Or.inr (Or.inl rfl) | exact Or.inr (Or.inr rfl))) ca_nil))))))) css_nil)))))) (css_one (cs_ret ce_non)))))⟩)
theorem ok_SameAlways___init__ (T : Tx P w K mg) : WD.FnG P w K mg base 1 (He.ma K (He.ga K "SameAlways") "__init__") ["self", "most"] (spM ⟨K, w⟩ PM.m_SameAlways___init__) := by
  refine fn_pm (N := ["self", "most"]) (st := s_SameAlways___init__) (m := PM.b_SameAlways___init__) T.f_SameAlways___init__ sc_SameAlways___init__ (by decide) (fun _ _ _ _ _ _ us hl => match us, hl with | [_, _], _ => rfl) (fun cdv A outer s H E hr => ⟨_, by
  unfold PM.b_SameAlways___init__
  exact (css_one (cs_fld ["SameAlways"] (fo_cons T.c_SameAlways T.n_SameAlways_most fo_nil) (ce_var 0 rfl (by first | exact Or.inl rfl | exact Or.inr (Or.inl rfl) | exact Or.inr (Or.inr rfl))) (ce_var 1 rfl (by first | exact Or.inl rfl | exact Or.inr (Or.inl rfl) | exact Or.inr (Or.inr rfl))) rfl))⟩)
theorem ok_SameAlways___bool__ (T : Tx P w K mg) : WD.FnG P w K mg base 1 (He.ma K (He.ga K "SameAlways") "__bool__") ["self"] (spM ⟨K, w⟩ PM.m_SameAlways___bool__) := by
  refine fn_pm (N := ["self"]) (st := s_SameAlways___bool__) (m := PM.b_SameAlways___bool__) T.f_SameAlways___bool__ sc_SameAlways___bool__ (by decide) (fun _ _ _ _ _ _ us hl => match us, hl with | [_], _ => rfl) (fun cdv A outer s H E hr => ⟨_, by
  unfold PM.b_SameAlways___bool__
  exact (css_one (cs_ret ce_bl))⟩)
end
end Lk14
end
section
set_option Elab.async false
set_option linter.all false
set_option maxRecDepth 100000
set_option maxHeartbeats 4000000
namespace Lk14
open PySem PySem.Spec PyProof.Rows L2 Evl PM
open WD (pe_tyN pe_clsN cr_lcm call_lenS call_listS call_tupS call_absS call_maxS call_minS call_intS)
section
variable {P : Program} {w : World} {K : PySem.W.Frag} {mg : Str → Option Value} {base : Heap}
theorem ok_FirstUnlike___init__ (T : Tx P w K mg) : WD.FnG P w K mg base 1 (He.ma K (He.ga K "FirstUnlike") "__init__") ["self", "many", "basin", "place"] (spM ⟨K, w⟩ PM.m_FirstUnlike___init__) := by
  refine fn_pm (N := ["self", "many", "basin", "place"]) (st := s_FirstUnlike___init__) (m := PM.b_FirstUnlike___init__) T.f_FirstUnlike___init__ sc_FirstUnlike___init__ (by decide) (fun _ _ _ _ _ _ us hl => match us, hl with | [_, _, _, _], _ => rfl) (fun cdv A outer s H E hr => ⟨_, by
  unfold PM.b_FirstUnlike___init__
  exact (css_cons (cs_fld ["FirstUnlike"] (fo_cons T.c_FirstUnlike T.n_FirstUnlike_many fo_nil) (ce_var 0 rfl (by first | exact Or.inl rfl | exact Or.inr (Or.inl rfl) | exact Or.inr (Or.inr rfl))) (ce_var 1 rfl (by first | exact Or.inl rfl | exact Or.inr (Or.inl rfl) | exact Or.inr (Or.inr rfl))) rfl) (css_cons (cs_fld ["FirstUnlike"] (fo_cons T.c_FirstUnlike T.n_FirstUnlike_basin fo_nil) (ce_var 0 rfl (by first | exact Or.inl rfl | exact Or.inr (Or.inl rfl) | exact Or.inr (Or.inr rfl))) (ce_var 2 rfl (by first | exact Or.inl rfl | exact Or.inr (Or.inl rfl) | exact Or.inr (Or.inr rfl))) rfl) (css_one (cs_fld ["FirstUnlike"] (fo_cons T.c_FirstUnlike T.n_FirstUnlike_place fo_nil) (ce_var 0 rfl (by first | exact Or.inl rfl | exact Or.inr (Or.inl rfl) | exact Or.inr (Or.inr rfl))) (ce_var 3 rfl (by first | exact Or.inl rfl | exact Or.inr (Or.inl rfl) | exact Or.inr (Or.inr rfl))) rfl))))⟩)
theorem ok_FirstUnlike___bool__ (T : Tx P w K mg) : WD.FnG P w K mg base 1 (He.ma K (He.ga K "FirstUnlike") "__bool__") ["self"] (spM ⟨K, w⟩ PM.m_FirstUnlike___bool__) := by
  refine fn_pm (N := ["self"]) (st := s_FirstUnlike___bool__) (m := PM.b_FirstUnlike___bool__) T.f_FirstUnlike___bool__ sc_FirstUnlike___bool__ (by decide) (fun _ _ _ _ _ _ us hl => match us, hl with | [_], _ => rfl) (fun cdv A outer s H E hr => ⟨_, by
  unfold PM.b_FirstUnlike___bool__
  exact (css_one (cs_ret ce_bl))⟩)
theorem ok_Later___init__ (T : Tx P w K mg) : WD.FnG P w K mg base 1 (He.ma K (He.ga K "Later") "__init__") ["self", "step", "rests"] (spM ⟨K, w⟩ PM.m_Later___init__) := by
  refine fn_pm (N := ["self", "step", "rests"]) (st := s_Later___init__) (m := PM.b_Later___init__) T.f_Later___init__ sc_Later___init__ (by decide) (fun _ _ _ _ _ _ us hl => match us, hl with | [_, _, _], _ => rfl) (fun cdv A outer s H E hr => ⟨_, by
  unfold PM.b_Later___init__
  exact (css_cons (cs_fld ["Later"] (fo_cons T.c_Later T.n_Later_step fo_nil) (ce_var 0 rfl (by first | exact Or.inl rfl | exact Or.inr (Or.inl rfl) | exact Or.inr (Or.inr rfl))) (ce_var 1 rfl (by first | exact Or.inl rfl | exact Or.inr (Or.inl rfl) | exact Or.inr (Or.inr rfl))) rfl) (css_one (cs_fld ["Later"] (fo_cons T.c_Later T.n_Later_rests fo_nil) (ce_var 0 rfl (by first | exact Or.inl rfl | exact Or.inr (Or.inl rfl) | exact Or.inr (Or.inr rfl))) (ce_callTyK (fun K => rListS K) call_listS calls_list (by rfl) T.z_list (by decide +kernel) (ca_cons (ce_var 2 rfl (by first | exact Or.inl rfl | exact Or.inr (Or.inl rfl) | exact Or.inr (Or.inr rfl))) ca_nil)) rfl)))⟩)
theorem ok_Later___bool__ (T : Tx P w K mg) : WD.FnG P w K mg base 1 (He.ma K (He.ga K "Later") "__bool__") ["self"] (spM ⟨K, w⟩ PM.m_Later___bool__) := by
  refine fn_pm (N := ["self"]) (st := s_Later___bool__) (m := PM.b_Later___bool__) T.f_Later___bool__ sc_Later___bool__ (by decide) (fun _ _ _ _ _ _ us hl => match us, hl with | [_], _ => rfl) (fun cdv A outer s H E hr => ⟨_, by
  unfold PM.b_Later___bool__
  exact (css_one (cs_ret (ce_callTyK (fun _ => rBoolB) boolB_of calls_boolB (by rfl) T.z_bool (by decide +kernel) (ca_cons (ce_eq hr.units (ce_callBK (fun K => rLenS K) call_lenS calls_len (by rfl) T.z_len PySem.boot_len (ca_cons (ce_fld ["Later"] (fo_cons T.c_Later T.n_Later_rests fo_nil) (ce_var 0 rfl (by first | exact Or.inl rfl | exact Or.inr (Or.inl rfl) | exact Or.inr (Or.inr rfl))) rfl) ca_nil)) (ce_fld ["Later"] (fo_cons T.c_Later T.n_Later_step fo_nil) (ce_var 0 rfl (by first | exact Or.inl rfl | exact Or.inr (Or.inl rfl) | exact Or.inr (Or.inr rfl))) rfl)) ca_nil))))⟩)
theorem ok_are_mixed (T : Tx P w K mg) : WD.FnG P w K mg base 1 (He.ga K "are_mixed") ["rounds"] (spM ⟨K, w⟩ PM.m_are_mixed) := by
  refine fn_pm (N := ["rounds"]) (st := s_are_mixed) (m := PM.b_are_mixed) T.f_are_mixed sc_are_mixed (by decide) (fun _ _ _ _ _ _ us hl => match us, hl with | [_], _ => rfl) (fun cdv A outer s H E hr => ⟨_, by
  unfold PM.b_are_mixed
  exact (css_one (cs_ret (ce_and (ce_in (u65 hr) (ce_tup (ca_cons ce_str ca_nil)) (ce_var 0 rfl (by first | exact Or.inl rfl | exact Or.inr (Or.inl rfl) | exact Or.inr (Or.inr rfl))) (by rfl)) (ce_one (ce_in (u65 hr) (ce_tup (ca_cons ce_str ca_nil)) (ce_var 0 rfl (by first | exact Or.inl rfl | exact Or.inr (Or.inl rfl) | exact Or.inr (Or.inr rfl))) (by rfl))))))⟩)
theorem ok_check_unmixed (T : Tx P w K mg) : WD.FnG P w K mg base 2 (He.ga K "check_unmixed") ["rounds"] (spM ⟨K, w⟩ PM.m_check_unmixed) := by
  refine fn_pm (N := ["rounds"]) (st := s_check_unmixed) (m := PM.b_check_unmixed) T.f_check_unmixed sc_check_unmixed (by decide) (fun _ _ _ _ _ _ us hl => match us, hl with | [_], _ => rfl) (fun cdv A outer s H E hr => ⟨_, by
  unfold PM.b_check_unmixed
  exact (css_one (cs_if (ct_val (ce_call (ok_are_mixed T) (hr.mono (by decide)) (by rfl) T.m_are_mixed (ca_cons (ce_var 0 rfl (by first | exact Or.inl rfl | exact Or.inr (Or.inl rfl) | exact Or.inr (Or.inr rfl))) ca_nil))) (css_one (cs_raise0 rfl (pmk_own PySem.F.excBase_ValueError T.q_Mixed T.m_Mixed T.p_Mixed (raises_own T.u_Mixed T.v_Mixed) (by rfl)))) css_nil))⟩)
theorem ok_check_pair (T : Tx P w K mg) : WD.FnG P w K mg base 3 (He.ga K "check_pair") ["one", "other"] (spM ⟨K, w⟩ PM.m_check_pair) := by
  refine fn_pm (N := ["one", "other"]) (st := s_check_pair) (m := PM.b_check_pair) T.f_check_pair sc_check_pair (by decide) (fun _ _ _ _ _ _ us hl => match us, hl with | [_, _], _ => rfl) (fun cdv A outer s H E hr => ⟨_, by
  unfold PM.b_check_pair
  exact (css_cons (cs_expr (ce_call (ok_check_program T) (hr.mono (by decide)) (by rfl) T.m_check_program (ca_cons (ce_var 0 rfl (by first | exact Or.inl rfl | exact Or.inr (Or.inl rfl) | exact Or.inr (Or.inr rfl))) ca_nil))) (css_cons (cs_expr (ce_call (ok_check_program T) (hr.mono (by decide)) (by rfl) T.m_check_program (ca_cons (ce_var 1 rfl (by first | exact Or.inl rfl | exact Or.inr (Or.inl rfl) | exact Or.inr (Or.inr rfl))) ca_nil))) (css_one (cs_expr (ce_call (ok_check_unmixed T) (hr.mono (by decide)) (by rfl) T.m_check_unmixed (ca_cons (ce_add (ce_fld ["Program"] (fo_cons T.c_Program T.n_Program_rounds fo_nil) (ce_var 0 rfl (by first | exact Or.inl rfl | exact Or.inr (Or.inl rfl) | exact Or.inr (Or.inr rfl))) rfl) (ce_fld ["Program"] (fo_cons T.c_Program T.n_Program_rounds fo_nil) (ce_var 1 rfl (by first | exact Or.inl rfl | exact Or.inr (Or.inl rfl) | exact Or.inr (Or.inr rfl))) rfl)) ca_nil))))))⟩)
theorem ok_common_step (T : Tx P w K mg) : WD.FnG P w K mg base 1 (He.ga K "common_step") ["one", "other"] (spM ⟨K, w⟩ PM.m_common_step) := by
  refine fn_pm (N := ["one", "other", "step", "told"]) (st := s_common_step) (m := PM.b_common_step) T.f_common_step sc_common_step (by decide) (fun _ _ _ _ _ _ us hl => match us, hl with | [_, _], _ => rfl) (fun cdv A outer s H E hr => ⟨_, by
  unfold PM.b_common_step
  exact (css_cons (cs_asg ce_int (cg_name (i := 2) sc_common_step.nd rfl (.inl rfl))) (css_cons (cs_for rfl (ci_seq (ce_add (ce_fld ["Program"] (fo_cons T.c_Program T.n_Program_rounds fo_nil) (ce_var 0 rfl (by first | exact Or.inl rfl | exact Or.inr (Or.inl rfl) | exact Or.inr (Or.inr rfl))) rfl) (ce_fld ["Program"] (fo_cons T.c_Program T.n_Program_rounds fo_nil) (ce_var 1 rfl (by first | exact Or.inl rfl | exact Or.inr (Or.inl rfl) | exact Or.inr (Or.inr rfl))) rfl))) (cg_name (i := 3) sc_common_step.nd rfl (.inl rfl)) (css_one (cs_if (ct_eq hr.units (ce_ix (ce_var 3 rfl (by first | exact Or.inl rfl | exact Or.inr (Or.inl rfl) | exact Or.inr (Or.inr rfl))) ce_int (fun _ _ => rfl)) ce_str) (css_one (cs_asg (ce_callBf cr_lcm calls_lcm (by rfl) T.b_lcm (ca_cons (ce_var 2 rfl (by first | exact Or.inl rfl | exact Or.inr (Or.inl rfl) | exact Or.inr (Or.inr rfl))) (ca_cons (ce_ix (ce_var 3 rfl (by first | exact Or.inl rfl | exact Or.inr (Or.inl rfl) | exact Or.inr (Or.inr rfl))) ce_int (fun _ _ => rfl)) ca_nil))) (cg_name (i := 2) sc_common_step.nd rfl (.inl rfl)))) css_nil))) (css_one (cs_ret (ce_var 2 rfl (by first | exact Or.inl rfl | exact Or.inr (Or.inl rfl) | exact Or.inr (Or.inr rfl)))))))⟩)
theorem ok_enough (T : Tx P w K mg) : WD.FnG P w K mg base 3 (He.ga K "enough") ["one", "other"] (spM ⟨K, w⟩ PM.m_enough) := by
  refine fn_pm (N := ["one", "other", "longer"]) (st := s_enough) (m := PM.b_enough) T.f_enough sc_enough (by decide) (fun _ _ _ _ _ _ us hl => match us, hl with | [_, _], _ => rfl) (fun cdv A outer s H E hr => ⟨_, by
  unfold PM.b_enough
  exact (css_cons (cs_asg (ce_callBK (fun _ => rMax2) (call_maxS rfl) calls_max2 (by rfl) T.z_max (by decide +kernel) (ca_cons (ce_lenO (ok_Program___len__ T) T.x_Program___len__ (hr.mono (by decide)) (by rfl) T.z_len (ca_cons (ce_var 0 rfl (by first | exact Or.inl rfl | exact Or.inr (Or.inl rfl) | exact Or.inr (Or.inr rfl))) ca_nil)) (ca_cons (ce_lenO (ok_Program___len__ T) T.x_Program___len__ (hr.mono (by decide)) (by rfl) T.z_len (ca_cons (ce_var 1 rfl (by first | exact Or.inl rfl | exact Or.inr (Or.inl rfl) | exact Or.inr (Or.inr rfl))) ca_nil)) ca_nil))) (cg_name (i := 2) sc_enough.nd rfl (.inl rfl))) (css_one (cs_ret (ce_add (ce_add (ce_mul (ce_call (ok_common_step T) (hr.mono (by decide)) (by rfl) T.m_common_step (ca_cons (ce_var 0 rfl (by first | exact Or.inl rfl | exact Or.inr (Or.inl rfl) | exact Or.inr (Or.inr rfl))) (ca_cons (ce_var 1 rfl (by first | exact Or.inl rfl | exact Or.inr (Or.inl rfl) | exact Or.inr (Or.inr rfl))) ca_nil))) (ce_add (ce_add (ce_add (ce_lenO (ok_Program___len__ T) T.x_Program___len__ (hr.mono (by decide)) (by rfl) T.z_len (ca_cons (ce_var 0 rfl (by first | exact Or.inl rfl | exact Or.inr (Or.inl rfl) | exact Or.inr (Or.inr rfl))) ca_nil)) (ce_lenO (ok_Program___len__ T) T.x_Program___len__ (hr.mono (by decide)) (by rfl) T.z_len (ca_cons (ce_var 1 rfl (by first | exact Or.inl rfl | exact Or.inr (Or.inl rfl) | exact Or.inr (Or.inr rfl))) ca_nil))) (ce_var 2 rfl (by first | exact Or.inl rfl | exact Or.inr (Or.inl rfl) | exact Or.inr (Or.inr rfl)))) ce_int)) (ce_var 2 rfl (by first | exact Or.inl rfl | exact Or.inr (Or.inl rfl) | exact Or.inr (Or.inr rfl)))) ce_int))))⟩)
theorem ok_judge_programs (T : Tx P w K mg) : WD.FnG P w K mg base 4 (He.ga K "judge_programs") ["one", "other"] (spM ⟨K, w⟩ PM.m_judge_programs) := by
  refine fn_pm (N := ["one", "other", "most", "many", "found"]) (st := s_judge_programs) (m := PM.b_judge_programs) T.f_judge_programs sc_judge_programs (by decide) (fun _ _ _ _ _ _ us hl => match us, hl with | [_, _], _ => rfl) (fun cdv A outer s H E hr => ⟨_, by
  unfold PM.b_judge_programs
  exact (css_cons (cs_expr (ce_call (ok_check_pair T) (hr.mono (by decide)) (by rfl) T.m_check_pair (ca_cons (ce_var 0 rfl (by first | exact Or.inl rfl | exact Or.inr (Or.inl rfl) | exact Or.inr (Or.inr rfl))) (ca_cons (ce_var 1 rfl (by first | exact Or.inl rfl | exact Or.inr (Or.inl rfl) | exact Or.inr (Or.inr rfl))) ca_nil)))) (css_cons (cs_asg (ce_call (ok_enough T) (hr.mono (by decide)) (by rfl) T.m_enough (ca_cons (ce_var 0 rfl (by first | exact Or.inl rfl | exact Or.inr (Or.inl rfl) | exact Or.inr (Or.inr rfl))) (ca_cons (ce_var 1 rfl (by first | exact Or.inl rfl | exact Or.inr (Or.inl rfl) | exact Or.inr (Or.inr rfl))) ca_nil))) (cg_name (i := 2) sc_judge_programs.nd rfl (.inl rfl))) (css_cons (cs_for rfl (ci_range2 (by rfl) T.z_range (ca_cons ce_int (ca_cons (ce_add (ce_var 2 rfl (by first | exact Or.inl rfl | exact Or.inr (Or.inl rfl) | exact Or.inr (Or.inr rfl))) ce_int) ca_nil))) (cg_name (i := 3) sc_judge_programs.nd rfl (.inl rfl)) (css_cons (cs_asg (ce_call (ok_first_unlike T) (hr.mono (by decide)) (by rfl) T.m_first_unlike (ca_cons (ce_var 0 rfl (by first | exact Or.inl rfl | exact Or.inr (Or.inl rfl) | exact Or.inr (Or.inr rfl))) (ca_cons (ce_var 1 rfl (by first | exact Or.inl rfl | exact Or.inr (Or.inl rfl) | exact Or.inr (Or.inr rfl))) (ca_cons (ce_var 3 rfl (by first | exact Or.inl rfl | exact Or.inr (Or.inl rfl) | exact Or.inr (Or.inr rfl))) ca_nil)))) (cg_name (i := 4) sc_judge_programs.nd rfl (.inl rfl))) (css_one (cs_if (ct_notN (ce_var 4 rfl (by first | exact Or.inl rfl | exact Or.inr (Or.inl rfl) | exact Or.inr (Or.inr rfl))) ce_non) (css_one (cs_ret (ce_make false T.k_FirstUnlike (ok_FirstUnlike___init__ T) (hr.mono (by decide)) (by rfl) T.m_FirstUnlike (ca_cons (ce_var 3 rfl (by first | exact Or.inl rfl | exact Or.inr (Or.inl rfl) | exact Or.inr (Or.inr rfl))) (ca_cons (ce_ix (ce_var 4 rfl (by first | exact Or.inl rfl | exact Or.inr (Or.inl rfl) | exact Or.inr (Or.inr rfl))) ce_int (fun _ _ => rfl)) (ca_cons (ce_ix (ce_var 4 rfl (by first | exact Or.inl rfl | exact Or.inr (Or.inl rfl) | exact Or.inr (Or.inr rfl))) ce_int (fun _ _ => rfl)) ca_nil)))))) css_nil)))) (css_one (cs_ret (ce_make false T.k_SameAlways (ok_SameAlways___init__ T) (hr.mono (by decide)) (by rfl) T.m_SameAlways (ca_cons (ce_var 2 rfl (by first | exact Or.inl rfl | exact Or.inr (Or.inl rfl) | exact Or.inr (Or.inr rfl))) ca_nil)))))))⟩)
theorem ok_tidy_program (T : Tx P w K mg) : WD.FnG P w K mg base 6 (He.ga K "tidy_program") ["program"] (spM ⟨K, w⟩ PM.m_tidy_program) := by
  refine fn_pm (N := ["program", "left", "place", "fewer"]) (st := s_tidy_program) (m := PM.b_tidy_program) T.f_tidy_program sc_tidy_program (by decide) (fun _ _ _ _ _ _ us hl => match us, hl with | [_], _ => rfl) (fun cdv A outer s H E hr => ⟨_, by
  unfold PM.b_tidy_program
  exact (css_cons (cs_expr (ce_call (ok_check_pair T) (hr.mono (by decide)) (by rfl) T.m_check_pair (ca_cons (ce_var 0 rfl (by first | exact Or.inl rfl | exact Or.inr (Or.inl rfl) | exact Or.inr (Or.inr rfl))) (ca_cons (ce_var 0 rfl (by first | exact Or.inl rfl | exact Or.inr (Or.inl rfl) | exact Or.inr (Or.inr rfl))) ca_nil)))) (css_cons (cs_asg (ce_var 0 rfl (by first | exact Or.inl rfl | exact Or.inr (Or.inl rfl) | exact Or.inr (Or.inr rfl))) (cg_name (i := 1) sc_tidy_program.nd rfl (.inl rfl))) (css_cons (cs_for rfl (ci_rv1 (by rfl) T.z_reversed (by rfl) T.z_range (ce_lenO (ok_Program___len__ T) T.x_Program___len__ (hr.mono (by decide)) (by rfl) T.z_len (ca_cons (ce_var 0 rfl (by first | exact Or.inl rfl | exact Or.inr (Or.inl rfl) | exact Or.inr (Or.inr rfl))) ca_nil))) (cg_name (i := 2) sc_tidy_program.nd rfl (.inl rfl)) (css_cons (cs_asg (ce_make false T.k_Program (ok_Program___init__ T) (hr.mono (by decide)) (by rfl) T.m_Program (ca_cons (ce_add (ce_sl (ce_fld ["Program"] (fo_cons T.c_Program T.n_Program_rounds fo_nil) (ce_var 1 rfl (by first | exact Or.inl rfl | exact Or.inr (Or.inl rfl) | exact Or.inr (Or.inr rfl))) rfl) co_none (co_some (ce_var 2 rfl (by first | exact Or.inl rfl | exact Or.inr (Or.inl rfl) | exact Or.inr (Or.inr rfl))))) (ce_sl (ce_fld ["Program"] (fo_cons T.c_Program T.n_Program_rounds fo_nil) (ce_var 1 rfl (by first | exact Or.inl rfl | exact Or.inr (Or.inl rfl) | exact Or.inr (Or.inr rfl))) rfl) (co_some (ce_add (ce_var 2 rfl (by first | exact Or.inl rfl | exact Or.inr (Or.inl rfl) | exact Or.inr (Or.inr rfl))) ce_int)) co_none)) ca_nil)) (cg_name (i := 3) sc_tidy_program.nd rfl (.inl rfl))) (css_one (cs_if (ct_or2 (ct_truO (ok_SameAlways___bool__ T) T.x_SameAlways___bool__ (hr.mono (by decide)) (ce_call (ok_judge_programs T) (hr.mono (by decide)) (by rfl) T.m_judge_programs (ca_cons (ce_var 1 rfl (by first | exact Or.inl rfl | exact Or.inr (Or.inl rfl) | exact Or.inr (Or.inr rfl))) (ca_cons (ce_var 3 rfl (by first | exact Or.inl rfl | exact Or.inr (Or.inl rfl) | exact Or.inr (Or.inr rfl))) ca_nil)))) (ct_truO (ok_FirstUnlike___bool__ T) T.x_FirstUnlike___bool__ (hr.mono (by decide)) (ce_call (ok_judge_programs T) (hr.mono (by decide)) (by rfl) T.m_judge_programs (ca_cons (ce_var 1 rfl (by first | exact Or.inl rfl | exact Or.inr (Or.inl rfl) | exact Or.inr (Or.inr rfl))) (ca_cons (ce_var 3 rfl (by first | exact Or.inl rfl | exact Or.inr (Or.inl rfl) | exact Or.inr (Or.inr rfl))) ca_nil))))) (css_one (cs_asg (ce_var 3 rfl (by first | exact Or.inl rfl | exact Or.inr (Or.inl rfl) | exact Or.inr (Or.inr rfl))) (cg_name (i := 1) sc_tidy_program.nd rfl (.inl rfl)))) css_nil)))) (css_one (cs_ret (ce_var 1 rfl (by first | exact Or.inl rfl | exact Or.inr (Or.inl rfl) | exact Or.inr (Or.inr rfl))))))))⟩)
theorem ok_judge_later (T : Tx P w K mg) : WD.FnG P w K mg base 4 (He.ga K "judge_later") ["one", "other"] (spM ⟨K, w⟩ PM.m_judge_later) := by
  refine fn_pm (N := ["one", "other", "step", "first", "more", "unlike", "many", "rest"]) (st := s_judge_later) (m := PM.b_judge_later) T.f_judge_later sc_judge_later (by decide) (fun _ _ _ _ _ _ us hl => match us, hl with | [_, _], _ => rfl) (fun cdv A outer s H E hr => ⟨_, by
  unfold PM.b_judge_later
  exact (css_cons (cs_expr (ce_call (ok_check_pair T) (hr.mono (by decide)) (by rfl) T.m_check_pair (ca_cons (ce_var 0 rfl (by first | exact Or.inl rfl | exact Or.inr (Or.inl rfl) | exact Or.inr (Or.inr rfl))) (ca_cons (ce_var 1 rfl (by first | exact Or.inl rfl | exact Or.inr (Or.inl rfl) | exact Or.inr (Or.inr rfl))) ca_nil)))) (css_cons (cs_asg (ce_call (ok_common_step T) (hr.mono (by decide)) (by rfl) T.m_common_step (ca_cons (ce_var 0 rfl (by first | exact Or.inl rfl | exact Or.inr (Or.inl rfl) | exact Or.inr (Or.inr rfl))) (ca_cons (ce_var 1 rfl (by first | exact Or.inl rfl | exact Or.inr (Or.inl rfl) | exact Or.inr (Or.inr rfl))) ca_nil))) (cg_name (i := 2) sc_judge_later.nd rfl (.inr rfl))) (css_cons (cs_asg (ce_call (ok_enough T) (hr.mono (by decide)) (by rfl) T.m_enough (ca_cons (ce_var 0 rfl (by first | exact Or.inl rfl | exact Or.inr (Or.inl rfl) | exact Or.inr (Or.inr rfl))) (ca_cons (ce_var 1 rfl (by first | exact Or.inl rfl | exact Or.inr (Or.inl rfl) | exact Or.inr (Or.inr rfl))) ca_nil))) (cg_name (i := 3) sc_judge_later.nd rfl (.inl rfl))) (css_cons (cs_asg (ce_mul (ce_var 2 rfl (by first | exact Or.inl rfl | exact Or.inr (Or.inl rfl) | exact Or.inr (Or.inr rfl))) (ce_add (ce_add (ce_lenO (ok_Program___len__ T) T.x_Program___len__ (hr.mono (by decide)) (by rfl) T.z_len (ca_cons (ce_var 0 rfl (by first | exact Or.inl rfl | exact Or.inr (Or.inl rfl) | exact Or.inr (Or.inr rfl))) ca_nil)) (ce_lenO (ok_Program___len__ T) T.x_Program___len__ (hr.mono (by decide)) (by rfl) T.z_len (ca_cons (ce_var 1 rfl (by first | exact Or.inl rfl | exact Or.inr (Or.inl rfl) | exact Or.inr (Or.inr rfl))) ca_nil))) (ce_callBK (fun _ => rMax2) (call_maxS rfl) calls_max2 (by rfl) T.z_max (by decide +kernel) (ca_cons (ce_lenO (ok_Program___len__ T) T.x_Program___len__ (hr.mono (by decide)) (by rfl) T.z_len (ca_cons (ce_var 0 rfl (by first | exact Or.inl rfl | exact Or.inr (Or.inl rfl) | exact Or.inr (Or.inr rfl))) ca_nil)) (ca_cons (ce_lenO (ok_Program___len__ T) T.x_Program___len__ (hr.mono (by decide)) (by rfl) T.z_len (ca_cons (ce_var 1 rfl (by first | exact Or.inl rfl | exact Or.inr (Or.inl rfl) | exact Or.inr (Or.inr rfl))) ca_nil)) ca_nil))))) (cg_name (i := 4) sc_judge_later.nd rfl (.inl rfl))) (css_cons (cs_asg (ce_lc false (own := [("many", 6)]) rfl sc_judge_later.nd (ci_range2 (by rfl) T.z_range (ca_cons (ce_var 3 rfl (by first | exact Or.inl rfl | exact Or.inr (Or.inl rfl) | exact Or.inr (Or.inr rfl))) (ca_cons (ce_add (ce_add (ce_var 3 rfl (by first | exact Or.inl rfl | exact Or.inr (Or.inl rfl) | exact Or.inr (Or.inr rfl))) (ce_var 4 rfl (by first | exact Or.inl rfl | exact Or.inr (Or.inl rfl) | exact Or.inr (Or.inr rfl)))) ce_int) ca_nil))) (blkOk_by (own := [("many", 6)]) (N := ["one", "other", "step", "first", "more", "unlike", "many", "rest"]) (sc := defScope s_judge_later) (by decide +kernel)) (fun _ _ _ _ _ => (cg_name (i := 6) sc_judge_later.nd rfl (.inl rfl))) (keep_gname (by decide)) (fun _ _ _ _ _ => (cts_one (ct_notN (ce_call (ok_first_unlike T) (hr.mono (by decide)) (by rfl) T.m_first_unlike (ca_cons (ce_var 0 rfl (by first | exact Or.inl rfl | exact Or.inr (Or.inl rfl) | exact Or.inr (Or.inr rfl))) (ca_cons (ce_var 1 rfl (by first | exact Or.inl rfl | exact Or.inr (Or.inl rfl) | exact Or.inr (Or.inr rfl))) (ca_cons (ce_var 6 rfl (by first | exact Or.inl rfl | exact Or.inr (Or.inl rfl) | exact Or.inr (Or.inr rfl))) ca_nil)))) ce_non))) (fun _ _ _ _ _ => (ce_mod (ce_var 6 rfl (by first | exact Or.inl rfl | exact Or.inr (Or.inl rfl) | exact Or.inr (Or.inr rfl))) (ce_var 2 rfl (by first | exact Or.inl rfl | exact Or.inr (Or.inl rfl) | exact Or.inr (Or.inr rfl)))))) (cg_name (i := 5) sc_judge_later.nd rfl (.inr rfl))) (css_one (cs_ret (ce_make false T.k_Later (ok_Later___init__ T) (hr.mono (by decide)) (by rfl) T.m_Later (ca_cons (ce_var 2 rfl (by first | exact Or.inl rfl | exact Or.inr (Or.inl rfl) | exact Or.inr (Or.inr rfl))) (ca_cons (ce_lc false (own := [("rest", 7)]) rfl sc_judge_later.nd (ci_range1 (by rfl) T.z_range (ca_cons (ce_var 2 rfl (by first | exact Or.inl rfl | exact Or.inr (Or.inl rfl) | exact Or.inr (Or.inr rfl))) ca_nil)) (blkOk_by (own := [("rest", 7)]) (N := ["one", "other", "step", "first", "more", "unlike", "many", "rest"]) (sc := defScope s_judge_later) (by decide +kernel)) (fun _ _ _ _ _ => (cg_name (i := 7) sc_judge_later.nd rfl (.inl rfl))) (keep_gname (by decide)) (fun _ _ _ _ _ => (cts_one (ct_notIn (u65 hr) (ce_var 7 rfl (by first | exact Or.inl rfl | exact Or.inr (Or.inl rfl) | exact Or.inr (Or.inr rfl))) (ce_var 5 rfl (by first | exact Or.inl rfl | exact Or.inr (Or.inl rfl) | exact Or.inr (Or.inr rfl))) (by rfl)))) (fun _ _ _ _ _ => (ce_var 7 rfl (by first | exact Or.inl rfl | exact Or.inr (Or.inl rfl) | exact Or.inr (Or.inr rfl))))) ca_nil))))))))))⟩)
theorem ok_FewRounds___init__ (T : Tx P w K mg) : WD.FnG P w K mg base 1 (He.ma K (He.ga K "FewRounds") "__init__") ["self", "rounds", "against"] (spM ⟨K, w⟩ PM.m_FewRounds___init__) := by
  refine fn_pm (N := ["self", "rounds", "against", "fewer"]) (st := s_FewRounds___init__) (m := PM.b_FewRounds___init__) T.f_FewRounds___init__ sc_FewRounds___init__ (by decide) (fun _ _ _ _ _ _ us hl => match us, hl with | [_, _, _], _ => rfl) (fun cdv A outer s H E hr => ⟨_, by
  unfold PM.b_FewRounds___init__
  exact (css_cons (cs_fld ["FewRounds"] (fo_cons T.c_FewRounds T.n_FewRounds_rounds fo_nil) (ce_var 0 rfl (by first | exact Or.inl rfl | exact Or.inr (Or.inl rfl) | exact Or.inr (Or.inr rfl))) (ce_callTyK (fun K => WD.rTupS K) WD.call_tupS calls_tuple (by rfl) T.z_tuple (by decide +kernel) (ca_cons (ce_var 1 rfl (by first | exact Or.inl rfl | exact Or.inr (Or.inl rfl) | exact Or.inr (Or.inr rfl))) ca_nil)) rfl) (css_one (cs_fld ["FewRounds"] (fo_cons T.c_FewRounds T.n_FewRounds_against fo_nil) (ce_var 0 rfl (by first | exact Or.inl rfl | exact Or.inr (Or.inl rfl) | exact Or.inr (Or.inr rfl))) (ce_dc false (own := [("fewer", 3)]) (u9 hr) rfl sc_FewRounds___init__.nd (ci_keysD (ce_var 2 rfl (by first | exact Or.inl rfl | exact Or.inr (Or.inl rfl) | exact Or.inr (Or.inr rfl)))) (blkOk_by (own := [("fewer", 3)]) (N := ["self", "rounds", "against", "fewer"]) (sc := defScope s_FewRounds___init__) (by decide +kernel)) (fun _ _ _ _ _ => (cg_name (i := 3) sc_FewRounds___init__.nd rfl (.inl rfl))) (keep_gname (by decide)) (fun _ _ _ _ _ => cts_nil) (fun _ _ _ _ _ => (ce_var 3 rfl (by first | exact Or.inl rfl | exact Or.inr (Or.inl rfl) | exact Or.inr (Or.inr rfl)))) (fun _ _ _ _ _ => (ce_dget (u9 hr) (ce_var 2 rfl (by first | exact Or.inl rfl | exact Or.inr (Or.inl rfl) | exact Or.inr (Or.inr rfl))) (ce_var 3 rfl (by first | exact Or.inl rfl | exact Or.inr (Or.inl rfl) | exact Or.inr (Or.inr rfl)))))) rfl)))⟩)
end
end Lk14
end
section
set_option Elab.async false
set_option linter.all false
set_option maxRecDepth 100000
set_option maxHeartbeats 4000000
namespace Lk14
open PySem PySem.Spec PyProof.Rows L2 Evl PM
open WD (pe_tyN pe_clsN cr_lcm call_lenS call_listS call_tupS call_absS call_maxS call_minS call_intS)
section
variable {P : Program} {w : World} {K : PySem.W.Frag} {mg : Str → Option Value} {base : Heap}
theorem ok_check_kinds (T : Tx P w K mg) : WD.FnG P w K mg base 3 (He.ga K "check_kinds") ["kinds"] (spM ⟨K, w⟩ PM.m_check_kinds) := by
  refine fn_pm (N := ["kinds", "place", "told"]) (st := s_check_kinds) (m := PM.b_check_kinds) T.f_check_kinds sc_check_kinds (by decide) (fun _ _ _ _ _ _ us hl => match us, hl with | [_], _ => rfl) (fun cdv A outer s H E hr => ⟨_, by
  unfold PM.b_check_kinds
  exact (css_cons (cs_if (cw_t (cw_or (ct_not (ct_val (ce_isT T.kt_none (.inl "list") (.inl "tuple") (by decide) (by decide) (pe_tyN (n := "list") (by rfl) T.z_list (by decide +kernel)) (pe_tyN (n := "tuple") (by rfl) T.z_tuple (by decide +kernel)) (by rfl) T.z_isinstance (ce_var 0 rfl (by first | exact Or.inl rfl | exact Or.inr (Or.inl rfl) | exact Or.inr (Or.inr rfl)))))) (cw_or1 (ct_gt (ce_callBK (fun K => rLenS K) call_lenS calls_len (by rfl) T.z_len PySem.boot_len (ca_cons (ce_var 0 rfl (by first | exact Or.inl rfl | exact Or.inr (Or.inl rfl) | exact Or.inr (Or.inr rfl))) ca_nil)) (ce_globI (by rfl) T.i_MOST_KINDS))))) (css_one (cs_raise1 rfl (T.s_BadProgram T.hp T.ht) hr ce_non (by rfl))) css_nil) (css_one (cs_for rfl (ci_num (by rfl) T.z_enumerate (ce_var 0 rfl (by first | exact Or.inl rfl | exact Or.inr (Or.inl rfl) | exact Or.inr (Or.inr rfl)))) (cg_tup rfl (cgs_cons (cg_name (i := 1) sc_check_kinds.nd rfl (.inl rfl)) (cgs_cons (cg_name (i := 2) sc_check_kinds.nd rfl (.inl rfl)) cgs_nil))) (css_one (cs_if (cw_t (cw_or (ct_not (ct_val (ce_call (ok_is_round T) (hr.mono (by decide)) (by rfl) T.m_is_round (ca_cons (ce_var 2 rfl (by first | exact Or.inl rfl | exact Or.inr (Or.inl rfl) | exact Or.inr (Or.inr rfl))) ca_nil)))) (cw_or1 (ct_in (u65 hr) (ce_var 2 rfl (by first | exact Or.inl rfl | exact Or.inr (Or.inl rfl) | exact Or.inr (Or.inr rfl))) (ce_sl (ce_var 0 rfl (by first | exact Or.inl rfl | exact Or.inr (Or.inl rfl) | exact Or.inr (Or.inr rfl))) co_none (co_some (ce_var 1 rfl (by first | exact Or.inl rfl | exact Or.inr (Or.inl rfl) | exact Or.inr (Or.inr rfl))))) (by rfl))))) (css_one (cs_raise1 rfl (T.s_BadProgram T.hp T.ht) hr (ce_var 1 rfl (by first | exact Or.inl rfl | exact Or.inr (Or.inl rfl) | exact Or.inr (Or.inr rfl))) (by rfl))) css_nil)))))⟩)
theorem ok_tuples_of (T : Tx P w K mg) : WD.FnG P w K mg base 1 (He.ga K "tuples_of") ["kinds", "longest"] (spM ⟨K, w⟩ PM.m_tuples_of) := by
  refine fn_pm (N := ["kinds", "longest", "found", "latest", "_", "told", "kind"]) (st := s_tuples_of) (m := PM.b_tuples_of) T.f_tuples_of sc_tuples_of (by decide) (fun _ _ _ _ _ _ us hl => match us, hl with | [_, _], _ => rfl) (fun cdv A outer s H E hr => ⟨_, by
  unfold PM.b_tuples_of
  exact (css_cons (cs_asg (ce_lstC (ca_cons (ce_tup ca_nil) ca_nil)) (cg_name (i := 2) sc_tuples_of.nd rfl (.inl rfl))) (css_cons (cs_asg (ce_lst (ca_cons (ce_tup ca_nil) ca_nil)) (cg_name (i := 3) sc_tuples_of.nd rfl (.inl rfl))) (css_cons (cs_for rfl (ci_range1 (by rfl) T.z_range (ca_cons (ce_var 1 rfl (by first | exact Or.inl rfl | exact Or.inr (Or.inl rfl) | exact Or.inr (Or.inr rfl))) ca_nil)) (cg_name (i := 4) sc_tuples_of.nd rfl (.inl rfl)) (css_cons (cs_setLc2 false (i := 3) (own := [("told", 5), ("kind", 6)]) (vs1 := [6]) rfl sc_tuples_of.nd rfl rfl (sw_true rfl rfl rfl (by decide +kernel)) (ci_seq (ce_var 3 rfl (by first | exact Or.inl rfl | exact Or.inr (Or.inl rfl) | exact Or.inr (Or.inr rfl)))) (blkOk_by (own := [("told", 5), ("kind", 6)]) (N := ["kinds", "longest", "found", "latest", "_", "told", "kind"]) (sc := defScope s_tuples_of) (by decide +kernel)) (by decide) (fun _ _ _ _ _ => (cg_name (i := 5) sc_tuples_of.nd rfl (.inl rfl))) (keep_gname (by decide)) (fun _ _ _ _ _ => cts_nil) (fun _ _ _ _ _ => (ci_seq (ce_var 0 rfl (by first | exact Or.inl rfl | exact Or.inr (Or.inl rfl) | exact Or.inr (Or.inr rfl))))) (fun _ _ _ _ _ => (cg_name (i := 6) sc_tuples_of.nd rfl (.inl rfl))) (keep_gname (by decide)) (fun _ _ _ _ _ => cts_nil) (fun _ _ _ _ _ => (ce_tup (ca_star (ce_var 5 rfl (by first | exact Or.inl rfl | exact Or.inr (Or.inl rfl) | exact Or.inr (Or.inr rfl))) (ca_cons (ce_var 6 rfl (by first | exact Or.inl rfl | exact Or.inr (Or.inl rfl) | exact Or.inr (Or.inr rfl))) ca_nil))))) (css_one (cs_expr (ce_extend (ce_var 2 rfl (by first | exact Or.inl rfl | exact Or.inr (Or.inl rfl) | exact Or.inr (Or.inr rfl))) (ca_cons (ce_var 3 rfl (by first | exact Or.inl rfl | exact Or.inr (Or.inl rfl) | exact Or.inr (Or.inr rfl))) ca_nil)))))) (css_one (cs_frz 2 (cs_ret (ce_var 2 rfl (by first | exact Or.inl rfl | exact Or.inr (Or.inl rfl) | exact Or.inr (Or.inr rfl)))))))))⟩)
theorem ok_few_rounds (T : Tx P w K mg) : WD.FnG P w K mg base 6 (He.ga K "few_rounds") ["program", "kinds"] (spM ⟨K, w⟩ PM.m_few_rounds) := by
  refine fn_pm (N := ["program", "kinds", "unlike", "rounds", "found", "fewer"]) (st := s_few_rounds) (m := PM.b_few_rounds) T.f_few_rounds sc_few_rounds (by decide) (fun _ _ _ _ _ _ us hl => match us, hl with | [_, _], _ => rfl) (fun cdv A outer s H E hr => ⟨_, by
  unfold PM.b_few_rounds
  exact (css_cons (cs_expr (ce_call (ok_check_kinds T) (hr.mono (by decide)) (by rfl) T.m_check_kinds (ca_cons (ce_var 1 rfl (by first | exact Or.inl rfl | exact Or.inr (Or.inl rfl) | exact Or.inr (Or.inr rfl))) ca_nil))) (css_cons (cs_expr (ce_call (ok_check_program T) (hr.mono (by decide)) (by rfl) T.m_check_program (ca_cons (ce_var 0 rfl (by first | exact Or.inl rfl | exact Or.inr (Or.inl rfl) | exact Or.inr (Or.inr rfl))) ca_nil))) (css_cons (cs_expr (ce_call (ok_check_unmixed T) (hr.mono (by decide)) (by rfl) T.m_check_unmixed (ca_cons (ce_lst (ca_star (ce_fld ["Program"] (fo_cons T.c_Program T.n_Program_rounds fo_nil) (ce_var 0 rfl (by first | exact Or.inl rfl | exact Or.inr (Or.inl rfl) | exact Or.inr (Or.inr rfl))) rfl) (ca_star (ce_var 1 rfl (by first | exact Or.inl rfl | exact Or.inr (Or.inl rfl) | exact Or.inr (Or.inr rfl))) ca_nil))) ca_nil))) (css_cons (cs_asg ce_dnew (cg_name (i := 2) sc_few_rounds.nd rfl (.inr rfl))) (css_cons (cs_for rfl (ci_seq (ce_call (ok_tuples_of T) (hr.mono (by decide)) (by rfl) T.m_tuples_of (ca_cons (ce_var 1 rfl (by first | exact Or.inl rfl | exact Or.inr (Or.inl rfl) | exact Or.inr (Or.inr rfl))) (ca_cons (ce_globI (by rfl) T.i_MOST_FEW_ROUNDS) ca_nil)))) (cg_name (i := 3) sc_few_rounds.nd rfl (.inr rfl)) (css_cons (cs_asg (ce_call (ok_judge_programs T) (hr.mono (by decide)) (by rfl) T.m_judge_programs (ca_cons (ce_var 0 rfl (by first | exact Or.inl rfl | exact Or.inr (Or.inl rfl) | exact Or.inr (Or.inr rfl))) (ca_cons (ce_make false T.k_Program (ok_Program___init__ T) (hr.mono (by decide)) (by rfl) T.m_Program (ca_cons (ce_var 3 rfl (by first | exact Or.inl rfl | exact Or.inr (Or.inl rfl) | exact Or.inr (Or.inr rfl))) ca_nil)) ca_nil))) (cg_name (i := 4) sc_few_rounds.nd rfl (.inl rfl))) (css_cons (cs_if (ct_or2 (ct_truO (ok_SameAlways___bool__ T) T.x_SameAlways___bool__ (hr.mono (by decide)) (ce_var 4 rfl (by first | exact Or.inl rfl | exact Or.inr (Or.inl rfl) | exact Or.inr (Or.inr rfl)))) (ct_truO (ok_FirstUnlike___bool__ T) T.x_FirstUnlike___bool__ (hr.mono (by decide)) (ce_var 4 rfl (by first | exact Or.inl rfl | exact Or.inr (Or.inl rfl) | exact Or.inr (Or.inr rfl))))) (css_one (cs_frzD 2 (cs_ret (ce_make false T.k_FewRounds (ok_FewRounds___init__ T) (hr.mono (by decide)) (by rfl) T.m_FewRounds (ca_cons (ce_var 3 rfl (by first | exact Or.inl rfl | exact Or.inr (Or.inl rfl) | exact Or.inr (Or.inr rfl))) (ca_cons (ce_dc false (own := [("fewer", 5)]) (u9 hr) rfl sc_few_rounds.nd (ci_keysD (ce_var 2 rfl (by first | exact Or.inl rfl | exact Or.inr (Or.inl rfl) | exact Or.inr (Or.inr rfl)))) (blkOk_by (own := [("fewer", 5)]) (N := ["program", "kinds", "unlike", "rounds", "found", "fewer"]) (sc := defScope s_few_rounds) (by decide +kernel)) (fun _ _ _ _ _ => (cg_name (i := 5) sc_few_rounds.nd rfl (.inl rfl))) (keep_gname (by decide)) (fun _ _ _ _ _ => (cts_one (ct_lt (ce_callBK (fun K => rLenS K) call_lenS calls_len (by rfl) T.z_len PySem.boot_len (ca_cons (ce_var 5 rfl (by first | exact Or.inl rfl | exact Or.inr (Or.inl rfl) | exact Or.inr (Or.inr rfl))) ca_nil)) (ce_callBK (fun K => rLenS K) call_lenS calls_len (by rfl) T.z_len PySem.boot_len (ca_cons (ce_var 3 rfl (by first | exact Or.inl rfl | exact Or.inr (Or.inl rfl) | exact Or.inr (Or.inr rfl))) ca_nil))))) (fun _ _ _ _ _ => (ce_var 5 rfl (by first | exact Or.inl rfl | exact Or.inr (Or.inl rfl) | exact Or.inr (Or.inr rfl)))) (fun _ _ _ _ _ => (ce_dget (u9 hr) (ce_var 2 rfl (by first | exact Or.inl rfl | exact Or.inr (Or.inl rfl) | exact Or.inr (Or.inr rfl))) (ce_var 5 rfl (by first | exact Or.inl rfl | exact Or.inr (Or.inl rfl) | exact Or.inr (Or.inr rfl)))))) ca_nil)))))) css_nil) (css_one (cs_dset (u9 hr) (ce_tup (ca_cons (ce_fld ["FirstUnlike"] (fo_cons T.c_FirstUnlike T.n_FirstUnlike_many fo_nil) (ce_var 4 rfl (by first | exact Or.inl rfl | exact Or.inr (Or.inl rfl) | exact Or.inr (Or.inr rfl))) rfl) (ca_cons (ce_fld ["FirstUnlike"] (fo_cons T.c_FirstUnlike T.n_FirstUnlike_basin fo_nil) (ce_var 4 rfl (by first | exact Or.inl rfl | exact Or.inr (Or.inl rfl) | exact Or.inr (Or.inr rfl))) rfl) (ca_cons (ce_fld ["FirstUnlike"] (fo_cons T.c_FirstUnlike T.n_FirstUnlike_place fo_nil) (ce_var 4 rfl (by first | exact Or.inl rfl | exact Or.inr (Or.inl rfl) | exact Or.inr (Or.inr rfl))) rfl) ca_nil)))) (ce_var 2 rfl (by first | exact Or.inl rfl | exact Or.inr (Or.inl rfl) | exact Or.inr (Or.inr rfl))) (ce_var 3 rfl (by first | exact Or.inl rfl | exact Or.inr (Or.inl rfl) | exact Or.inr (Or.inr rfl))) rfl))))) (css_one (cs_ret ce_non)))))))⟩)
theorem ok_turned_round (T : Tx P w K mg) : WD.FnG P w K mg base 1 (He.ga K "turned_round") ["told"] (spM ⟨K, w⟩ PM.m_turned_round) := by
  refine fn_pm (N := ["told"]) (st := s_turned_round) (m := PM.b_turned_round) T.f_turned_round sc_turned_round (by decide) (fun _ _ _ _ _ _ us hl => match us, hl with | [_], _ => rfl) (fun cdv A outer s H E hr => ⟨_, by
  unfold PM.b_turned_round
  exact (css_cons (cs_if (ct_tabIn (T.d_TURNED) T.tb_TURNED (by rfl) T.m_TURNED (ce_ix (ce_var 0 rfl (by first | exact Or.inl rfl | exact Or.inr (Or.inl rfl) | exact Or.inr (Or.inr rfl))) ce_int (fun _ _ => rfl))) (css_one (cs_ret (ce_tup (ca_cons (ce_tabIx (T.d_TURNED) T.tb_TURNED (by rfl) T.m_TURNED (ce_ix (ce_var 0 rfl (by first | exact Or.inl rfl | exact Or.inr (Or.inl rfl) | exact Or.inr (Or.inr rfl))) ce_int (fun _ _ => rfl)) (by decide) (fun _ _ => rfl)) ca_nil)))) css_nil) (css_one (cs_ret (ce_var 0 rfl (by first | exact Or.inl rfl | exact Or.inr (Or.inl rfl) | exact Or.inr (Or.inr rfl))))))⟩)
theorem ok_turned_back (T : Tx P w K mg) : WD.FnG P w K mg base 6 (He.ga K "turned_back") ["program"] (spM ⟨K, w⟩ PM.m_turned_back) := by
  refine fn_pm (N := ["program", "told"]) (st := s_turned_back) (m := PM.b_turned_back) T.f_turned_back sc_turned_back (by decide) (fun _ _ _ _ _ _ us hl => match us, hl with | [_], _ => rfl) (fun cdv A outer s H E hr => ⟨_, by
  unfold PM.b_turned_back
  exact (css_cons (cs_expr (ce_call (ok_check_program T) (hr.mono (by decide)) (by rfl) T.m_check_program (ca_cons (ce_var 0 rfl (by first | exact Or.inl rfl | exact Or.inr (Or.inl rfl) | exact Or.inr (Or.inr rfl))) ca_nil))) (css_one (cs_ret (ce_make false T.k_Program (ok_Program___init__ T) (hr.mono (by decide)) (by rfl) T.m_Program (ca_cons (ce_lc false (own := [("told", 1)]) rfl sc_turned_back.nd (ci_seq (ce_revT (ce_fld ["Program"] (fo_cons T.c_Program T.n_Program_rounds fo_nil) (ce_var 0 rfl (by first | exact Or.inl rfl | exact Or.inr (Or.inl rfl) | exact Or.inr (Or.inr rfl))) rfl))) (blkOk_by (own := [("told", 1)]) (N := ["program", "told"]) (sc := defScope s_turned_back) (by decide +kernel)) (fun _ _ _ _ _ => (cg_name (i := 1) sc_turned_back.nd rfl (.inl rfl))) (keep_gname (by decide)) (fun _ _ _ _ _ => cts_nil) (fun _ _ _ _ _ => (ce_call (ok_turned_round T) (hr.mono (by decide)) (by rfl) T.m_turned_round (ca_cons (ce_var 1 rfl (by first | exact Or.inl rfl | exact Or.inr (Or.inl rfl) | exact Or.inr (Or.inr rfl))) ca_nil)))) ca_nil)))))⟩)
theorem ok__law_draw (T : Tx P w K mg) : WD.FnG P w K mg base 1 (He.ga K "_law_draw") ["script", "at", "many"] (spM ⟨K, w⟩ PM.m__law_draw) := by
  refine fn_pm (N := ["script", "at", "many", "row", "cell", "turn", "step", "mixed"]) (st := s__law_draw) (m := PM.b__law_draw) T.f__law_draw sc__law_draw (by decide) (fun _ _ _ _ _ _ us hl => match us, hl with | [_, _, _], _ => rfl) (fun cdv A outer s H E hr => ⟨_, by
  unfold PM.b__law_draw
  exact (css_cons (cs_asg (ce_if (ct_ne hr.units (ce_var 0 rfl (by first | exact Or.inl rfl | exact Or.inr (Or.inl rfl) | exact Or.inr (Or.inr rfl))) (ce_lst ca_nil)) (ce_sl (ce_var 0 rfl (by first | exact Or.inl rfl | exact Or.inr (Or.inl rfl) | exact Or.inr (Or.inr rfl))) co_none (co_some ce_int)) (ce_lst (ca_cons ce_int ca_nil))) (cg_name (i := 3) sc__law_draw.nd rfl (.inl rfl))) (css_cons (cs_par (i := 4) (j := 5) (by rfl) sc__law_draw.nd rfl rfl (by decide) rfl rfl (ca_cons (ce_ix (ce_var 3 rfl (by first | exact Or.inl rfl | exact Or.inr (Or.inl rfl) | exact Or.inr (Or.inr rfl))) (ce_mod (ce_var 1 rfl (by first | exact Or.inl rfl | exact Or.inr (Or.inl rfl) | exact Or.inr (Or.inr rfl))) (ce_callBK (fun K => rLenS K) call_lenS calls_len (by rfl) T.z_len PySem.boot_len (ca_cons (ce_var 3 rfl (by first | exact Or.inl rfl | exact Or.inr (Or.inl rfl) | exact Or.inr (Or.inr rfl))) ca_nil))) (fun _ _ => rfl)) (ca_cons (ce_div (ce_var 1 rfl (by first | exact Or.inl rfl | exact Or.inr (Or.inl rfl) | exact Or.inr (Or.inr rfl))) (ce_callBK (fun K => rLenS K) call_lenS calls_len (by rfl) T.z_len PySem.boot_len (ca_cons (ce_var 3 rfl (by first | exact Or.inl rfl | exact Or.inr (Or.inl rfl) | exact Or.inr (Or.inr rfl))) ca_nil))) ca_nil)) (by rfl)) (css_cons (cs_if (ct_ge (ce_var 4 rfl (by first | exact Or.inl rfl | exact Or.inr (Or.inl rfl) | exact Or.inr (Or.inr rfl))) (ce_pow ce_int ce_int)) (css_cons (cs_asg (ce_mod (ce_callTyK (fun _ => WD.rInt1) WD.call_intS calls_int (by rfl) T.z_int (by decide +kernel) (ca_cons (ce_var 4 rfl (by first | exact Or.inl rfl | exact Or.inr (Or.inl rfl) | exact Or.inr (Or.inr rfl))) ca_nil)) (ce_pow ce_int ce_int)) (cg_name (i := 4) sc__law_draw.nd rfl (.inl rfl))) (css_cons (cs_for rfl (ci_range1 (by rfl) T.z_range (ca_cons (ce_mod (ce_var 5 rfl (by first | exact Or.inl rfl | exact Or.inr (Or.inl rfl) | exact Or.inr (Or.inr rfl))) ce_int) ca_nil)) (cg_name (i := 6) sc__law_draw.nd rfl (.inl rfl)) (css_one (cs_asg (ce_div (ce_var 4 rfl (by first | exact Or.inl rfl | exact Or.inr (Or.inl rfl) | exact Or.inr (Or.inr rfl))) ce_int) (cg_name (i := 4) sc__law_draw.nd rfl (.inl rfl))))) (css_one (cs_ret (ce_mod (ce_mod (ce_callTyK (fun _ => WD.rInt1) WD.call_intS calls_int (by rfl) T.z_int (by decide +kernel) (ca_cons (ce_var 4 rfl (by first | exact Or.inl rfl | exact Or.inr (Or.inl rfl) | exact Or.inr (Or.inr rfl))) ca_nil)) ce_int) (ce_var 2 rfl (by first | exact Or.inl rfl | exact Or.inr (Or.inl rfl) | exact Or.inr (Or.inr rfl)))))))) css_nil) (css_cons (cs_asg (ce_add (ce_mul (ce_add (ce_add (ce_mod (ce_callTyK (fun _ => WD.rInt1) WD.call_intS calls_int (by rfl) T.z_int (by decide +kernel) (ca_cons (ce_add (ce_var 4 rfl (by first | exact Or.inl rfl | exact Or.inr (Or.inl rfl) | exact Or.inr (Or.inr rfl))) (ce_mul ce_int (ce_var 5 rfl (by first | exact Or.inl rfl | exact Or.inr (Or.inl rfl) | exact Or.inr (Or.inr rfl))))) ca_nil)) ce_int) (ce_mul ce_int (ce_var 1 rfl (by first | exact Or.inl rfl | exact Or.inr (Or.inl rfl) | exact Or.inr (Or.inr rfl))))) ce_int) ce_int) (ce_mod (ce_callTyK (fun _ => WD.rInt1) WD.call_intS calls_int (by rfl) T.z_int (by decide +kernel) (ca_cons (ce_div (ce_var 4 rfl (by first | exact Or.inl rfl | exact Or.inr (Or.inl rfl) | exact Or.inr (Or.inr rfl))) ce_int) ca_nil)) ce_int)) (cg_name (i := 7) sc__law_draw.nd rfl (.inl rfl))) (css_one (cs_ret (ce_mod (ce_callTyK (fun _ => WD.rInt1) WD.call_intS calls_int (by rfl) T.z_int (by decide +kernel) (ca_cons (ce_mod (ce_mul (ce_mod (ce_var 7 rfl (by first | exact Or.inl rfl | exact Or.inr (Or.inl rfl) | exact Or.inr (Or.inr rfl))) ce_int) ce_int) ce_int) ca_nil)) (ce_var 2 rfl (by first | exact Or.inl rfl | exact Or.inr (Or.inl rfl) | exact Or.inr (Or.inr rfl))))))))))⟩)
theorem ok__law_rounds (T : Tx P w K mg) : WD.FnG P w K mg base 2 (He.ga K "_law_rounds") ["script", "at", "most"] (spM ⟨K, w⟩ PM.m__law_rounds_x) := by
  refine fn_pm (N := ["script", "at", "most", "rows", "turn"]) (st := s__law_rounds) (m := PM.b__law_rounds_x) T.f__law_rounds sc__law_rounds (by decide) (fun _ _ _ _ _ _ us hl => match us, hl with | [_, _, _], _ => rfl) (fun cdv A outer s H E hr => ⟨_, by
  unfold PM.b__law_rounds_x
  exact (css_cons (cs_asg (ce_lst (ca_cons (ce_tup (ca_cons ce_str ca_nil)) (ca_cons (ce_tup (ca_cons ce_str (ca_cons ce_int (ca_cons ce_int ca_nil)))) (ca_cons (ce_tup (ca_cons ce_str (ca_cons ce_int (ca_cons ce_int ca_nil)))) ca_nil)))) (cg_name (i := 3) sc__law_rounds.nd rfl (.inr rfl))) (css_one (cs_ret (ce_lc false (own := [("turn", 4)]) rfl sc__law_rounds.nd (ci_range1 (by rfl) T.z_range (ca_cons (ce_call (ok__law_draw T) (hr.mono (by decide)) (by rfl) T.m__law_draw (ca_cons (ce_var 0 rfl (by first | exact Or.inl rfl | exact Or.inr (Or.inl rfl) | exact Or.inr (Or.inr rfl))) (ca_cons (ce_var 1 rfl (by first | exact Or.inl rfl | exact Or.inr (Or.inl rfl) | exact Or.inr (Or.inr rfl))) (ca_cons (ce_add (ce_var 2 rfl (by first | exact Or.inl rfl | exact Or.inr (Or.inl rfl) | exact Or.inr (Or.inr rfl))) ce_int) ca_nil)))) ca_nil)) (blkOk_by (own := [("turn", 4)]) (N := ["script", "at", "most", "rows", "turn"]) (sc := defScope s__law_rounds) (by decide +kernel)) (fun _ _ _ _ _ => (cg_name (i := 4) sc__law_rounds.nd rfl (.inl rfl))) (keep_gname (by decide)) (fun _ _ _ _ _ => cts_nil) (fun _ _ _ _ _ => (ce_ix (ce_var 3 rfl (by first | exact Or.inl rfl | exact Or.inr (Or.inl rfl) | exact Or.inr (Or.inr rfl))) (ce_call (ok__law_draw T) (hr.mono (by decide)) (by rfl) T.m__law_draw (ca_cons (ce_var 0 rfl (by first | exact Or.inl rfl | exact Or.inr (Or.inl rfl) | exact Or.inr (Or.inr rfl))) (ca_cons (ce_add (ce_add (ce_var 1 rfl (by first | exact Or.inl rfl | exact Or.inr (Or.inl rfl) | exact Or.inr (Or.inr rfl))) ce_int) (ce_var 4 rfl (by first | exact Or.inl rfl | exact Or.inr (Or.inl rfl) | exact Or.inr (Or.inr rfl)))) (ca_cons ce_int ca_nil)))) (fun _ _ => rfl)))))))⟩)
end
end Lk14
end
section
set_option Elab.async false
set_option linter.all false
set_option maxRecDepth 100000
set_option maxHeartbeats 2000000
namespace PM
def eF (b : Nat) : Nat → Rat := fun i => if i = b then 1 else 0
/-- sums of k things -/
def sm (k : Nat) (f : Nat → Rat) : Rat := ((List.range k).map f).sum
theorem sm_zero (f : Nat → Rat) : sm 0 f = 0 := rfl
theorem sm_succ (k : Nat) (f : Nat → Rat) : sm (k + 1) f = sm k f + f k := by
  unfold sm
  rw [List.range_succ, List.map_append, List.sum_append]
  show _ + (f k + 0) = _
  grind
theorem sm_congr {k : Nat} {f g : Nat → Rat} (h : ∀ a, a < k → f a = g a) : sm k f = sm k g := by
  induction k with
  | zero => rfl
  | succ k ih => rw [sm_succ, sm_succ, ih fun a ha => h a (by omega), h k (by omega)]
theorem sm_lin (s t : Rat) (f g : Nat → Rat) (k : Nat) : sm k (fun a => s * f a + t * g a) = s * sm k f + t * sm k g := by
  induction k with
  | zero => rw [sm_zero, sm_zero, sm_zero]; grind
  | succ k ih => rw [sm_succ, sm_succ, sm_succ, ih]; grind
theorem sm_unit {n : Nat} (f : Nat → Rat) {i : Nat} (h : i < n) : sm n (fun a => f a * eF a i) = f i := by
  induction n with
  | zero => omega
  | succ n ih =>
    rw [sm_succ]
    by_cases e : i = n
    · subst e
      have : sm i (fun a => f a * eF a i) = sm i (fun _ => 0) := sm_congr fun a ha => by
        unfold eF
        rw [if_neg (by omega)]
        grind
      have z : ∀ k, sm k (fun _ => (0 : Rat)) = 0 := fun k => by
        induction k with
        | zero => rfl
        | succ k ih => rw [sm_succ, ih]; grind
      rw [this, z]
      unfold eF
      rw [if_pos rfl]
      grind
    · rw [ih (by omega)]
      unfold eF
      rw [if_neg e]
      grind
theorem sm_nil (k : Nat) : sm k (fun _ => (0 : Rat)) = 0 := by
  induction k with
  | zero => rfl
  | succ k ih => rw [sm_succ, ih]; grind
theorem sm_null {k : Nat} {f : Nat → Rat} (h : ∀ a, a < k → f a = 0) : sm k f = 0 := by
  rw [sm_congr h, sm_nil]
theorem least {P : Nat → Prop} : ∀ n, P n → ∃ m, m ≤ n ∧ P m ∧ ∀ j, j < m → ¬ P j := by
  intro n
  induction n using Nat.strongRecOn with
  | _ n ih =>
    intro h
    by_cases c : ∃ j, j < n ∧ P j
    · obtain ⟨j, hj, pj⟩ := c
      obtain ⟨m, h1, h2, h3⟩ := ih j hj pj
      exact ⟨m, by omega, h2, h3⟩
    · exact ⟨n, Nat.le_refl _, h, fun j hj pj => c ⟨j, hj, pj⟩⟩
/-- of d + 1 vectors of d numbers, some one is a sum of multiples of those ahead -/
theorem dep : ∀ (d : Nat) (v : Nat → Nat → Rat), ∃ k, k ≤ d ∧ ∃ c : Nat → Rat, ∀ j, j < d → v k j = sm k fun i => c i * v i j
  | 0, v => ⟨0, Nat.le_refl _, fun _ => 0, fun j h => absurd h (Nat.not_lt_zero _)⟩
  | d + 1, v => by
    by_cases h : ∃ p, p ≤ d ∧ v p d ≠ 0
    · obtain ⟨p0, hp0⟩ := h
      obtain ⟨p, hp1, hp2, hp3⟩ := least (P := fun p => p ≤ d ∧ v p d ≠ 0) p0 hp0
      have z : ∀ i, i < p → v i d = 0 := fun i hi => Decidable.byContradiction fun c => hp3 i hi ⟨by omega, c⟩
      let r : Nat → Rat := fun i => v i d / v p d
      let w : Nat → Nat → Rat := fun i j => if i < p then v i j else v (i + 1) j - r (i + 1) * v p j
      obtain ⟨k, hk, c, hc⟩ := dep d w
      have wd : ∀ i, w i d = 0 := fun i => by
        show (if i < p then v i d else v (i + 1) d - v (i + 1) d / v p d * v p d) = 0
        split
        · rename_i q
          exact z i q
        · have := hp2.2
          grind
      have hc : ∀ j, j < d + 1 → w k j = sm k fun i => c i * w i j := fun j hj => by
        by_cases e : j = d
        · subst e
          rw [wd, sm_null fun a _ => by rw [wd]; grind]
        · exact hc j (by omega)
      by_cases q : k < p
      · refine ⟨k, by omega, c, fun j hj => ?_⟩
        have := hc j hj
        have e : w k j = v k j := if_pos q
        rw [e] at this
        rw [this]
        refine sm_congr fun i hi => ?_
        have : w i j = v i j := if_pos (by omega)
        rw [this]
      · let cc : Nat → Rat := fun i => if i < p then c i else if i = p then 0 else c (i - 1)
        let S : Nat → Rat := fun k => sm k fun i => if i < p then 0 else c i * r (i + 1)
        have key : ∀ j t, sm (p + t) (fun i => c i * w i j) = sm (p + t + 1) (fun i => cc i * v i j) - S (p + t) * v p j := fun j t => by
          induction t with
          | zero =>
            rw [Nat.add_zero, sm_succ]
            have e1 : cc p = 0 := by
              show (if p < p then c p else if p = p then 0 else c (p - 1)) = 0
              rw [if_neg (Nat.lt_irrefl _), if_pos rfl]
            have e2 : S p = 0 := sm_null fun i hi => if_pos hi
            have e3 : sm p (fun i => c i * w i j) = sm p (fun i => cc i * v i j) := sm_congr fun i hi => by
              have a1 : w i j = v i j := if_pos hi
              have a2 : cc i = c i := if_pos hi
              rw [a1, a2]
            rw [e1, e2, e3]
            grind
          | succ t ih =>
            have s1 : sm (p + (t + 1)) (fun i => c i * w i j) = sm (p + t) (fun i => c i * w i j) + c (p + t) * w (p + t) j := sm_succ _ _
            have s2 : sm (p + (t + 1) + 1) (fun i => cc i * v i j) = sm (p + t + 1) (fun i => cc i * v i j) + cc (p + t + 1) * v (p + t + 1) j := sm_succ _ _
            have s3 : S (p + (t + 1)) = S (p + t) + (if p + t < p then 0 else c (p + t) * r (p + t + 1)) := sm_succ _ _
            have a1 : w (p + t) j = v (p + t + 1) j - r (p + t + 1) * v p j := if_neg (by omega)
            have a2 : cc (p + t + 1) = c (p + t) := by
              show (if p + t + 1 < p then _ else if p + t + 1 = p then 0 else c (p + t + 1 - 1)) = _
              rw [if_neg (by omega), if_neg (by omega)]
              rfl
            rw [if_neg (by omega)] at s3
            rw [s1, s2, s3, ih, a1, a2]
            grind
        refine ⟨k + 1, by omega, fun i => cc i + (r (k + 1) - S k) * eF i p, fun j hj => ?_⟩
        have h1 := hc j hj
        have h2 : w k j = v (k + 1) j - r (k + 1) * v p j := if_neg q
        have h3 := key j (k - p)
        rw [show p + (k - p) = k by omega] at h3
        have h4 : sm (k + 1) (fun i => (cc i + (r (k + 1) - S k) * eF i p) * v i j) = sm (k + 1) (fun i => 1 * (cc i * v i j) + (r (k + 1) - S k) * (v i j * eF i p)) := sm_congr fun i _ => by grind
        have h5 : sm (k + 1) (fun i => v i j * eF i p) = v p j := sm_unit (fun i => v i j) (by omega)
        rw [h4, sm_lin, h5]
        rw [h2, h3] at h1
        grind
    · have z : ∀ i, i ≤ d → v i d = 0 := fun i hi => Decidable.byContradiction fun c => h ⟨i, hi, c⟩
      obtain ⟨k, hk, c, hc⟩ := dep d v
      refine ⟨k, by omega, c, fun j hj => ?_⟩
      by_cases e : j = d
      · subst e
        rw [z k hk, sm_null fun i hi => by rw [z i (by omega)]; grind]
      · exact hc j (by omega)
end PM
end
section
set_option Elab.async false
set_option linter.all false
set_option maxRecDepth 100000
set_option maxHeartbeats 2000000
namespace PM
open PySem L2
/-- what it gives, whatever stands there -/
def Tot (m : List D → M D) (ds : List D) (d : D) : Prop := ∀ S, ∃ S', m ds S = .ok d S'
noncomputable def nx (m : List D → M D) (ds : List D) (S : Sto) : Sto := match m ds S with
  | .ok _ S' => S'
  | _ => S
theorem Tot.eq {m : List D → M D} {ds : List D} {d : D} (h : Tot m ds d) (S : Sto) : m ds S = .ok d (nx m ds S) := by
  obtain ⟨S', e⟩ := h S
  unfold nx
  rw [e]
@[simp] theorem lim_eq : lim = 100000 := Nat.le_antisymm (by unfold lim; decide) (by unfold lim; decide)
@[simp] theorem wipeD_nil (l : List (Option D)) : wipeD l [] = l := rfl
@[simp] theorem wipeD_cons (l : List (Option D)) (v : Nat) (vs : List Nat) : wipeD l (v :: vs) = (wipeD l vs).set v none := rfl
@[simp] theorem wipeE_ap (l : List (Option D)) (x : Option (Nat × Er)) (vs : List Nat) : wipeE ⟨l, x⟩ vs = ⟨wipeD l vs, none⟩ := rfl
theorem m_is_integer_int (i : Int) (S : Sto) : m_is_integer [.int i] S = .ok (.bl true) S := by
  simp [m_is_integer, b_is_integer, dIs_ap _ _ (.int i) S (k := .inl "int") rfl rfl, isK, kitP]
inductive Rd where
  | right | left | ev (a b : Int)
deriving DecidableEq
def Rd.d : Rd → D
  | .right => .tup [.str "right"]
  | .left => .tup [.str "left"]
  | .ev a b => .tup [.str "every", .int a, .int b]
def Rd.ok : Rd → Prop
  | .ev a b => 2 ≤ a ∧ a ≤ 4 ∧ 0 ≤ b ∧ b < a
  | _ => True
theorem Rd.d_inj {x y : Rd} : x.d = y.d ↔ x = y := by
  cases x <;> cases y <;> simp [Rd.d]
theorem Rd.fit (x : Rd) (n : Nat) : x.d.fit (n + 1) = true := by cases x <;> simp [Rd.d]
theorem m_is_round_ok (r : Rd) (h : r.ok) (S : Sto) : m_is_round [r.d] S = .ok (.bl true) S := by
  have e : dIn false r.d (.tup [.tup [.str "right"], .tup [.str "left"]]) S = .ok (.bl (decide (r.d ∈ [D.tup [.str "right"], D.tup [.str "left"]]))) S := dIn_tup false S rfl (r.fit 11) (by simp)
  cases r with
  | right => simp [m_is_round, b_is_round, e]; simp [Rd.d]
  | left => simp [m_is_round, b_is_round, e]; simp [Rd.d]
  | ev a b =>
    obtain ⟨h1, h2, h3, h4⟩ := h
    simp only [Rd.d] at e ⊢
    simp [m_is_round, b_is_round, e, dIs_ap _ _ (.tup _) S (k := .inl "tuple") rfl rfl, isK, kitP]
    simp [dSl, cutD, HT.sIx, m_is_integer_int, h1, h2, h3, h4]
def prog (rs : List Rd) : D := .obj "Program" [("rounds", .tup (rs.map Rd.d))]
/-- a list or a tuple of rounds -/
inductive IsSeq (ds : List D) : D → Prop
  | lst : IsSeq ds (.lst ds)
  | tup : IsSeq ds (.tup ds)
theorem IsSeq.itm {ds : List D} {x : D} (h : IsSeq ds x) (S : Sto) : itmOf S x = some ⟨ds, []⟩ := by cases h <;> rfl
theorem IsSeq.rdQ {ds : List D} {x : D} (h : IsSeq ds x) (S : Sto) : rdQ S x = some ds := by cases h <;> rfl
theorem IsSeq.isLT {ds : List D} {x : D} (h : IsSeq ds x) (S : Sto) : dIs [] sameC [.inl "list", .inl "tuple"] x S = .ok (.bl true) S := by
  cases h
  · exact dIs_ap _ _ (.lst ds) S (k := .inl "list") rfl rfl
  · exact dIs_ap _ _ (.tup ds) S (k := .inl "tuple") rfl rfl
theorem IsSeq.tuple {ds : List D} {x : D} (h : IsSeq ds x) (S : Sto) : dTuple x S = .ok (.tup ds) S := by cases h <;> rfl
theorem m_check_rounds_ok {rs : List Rd} {x : D} (hx : IsSeq (rs.map Rd.d) x) (hl : rs.length ≤ 12) (hr : ∀ r ∈ rs, r.ok) (S : Sto) : m_check_rounds [x] S = .ok .non S := by
  have h12 : ¬ (12 : Int) < (rs.length : Int) := by omega
  simp [m_check_rounds, b_check_rounds, hx.isLT, hx.rdQ, hx.itm, h12, oM]
  refine forGo_rule (G := fun o => toOut o = .ok .non S) (fun i e S' => S' = S ∧ ∃ a b, e = ⟨[some x, a, b], none⟩) ⟨rfl, _, _, rfl⟩ ?_ ?_
  · rintro i d e S' hi ⟨rfl, a, b, rfl⟩
    obtain ⟨d', h1, rfl⟩ := numD_get hi
    rw [List.getElem?_map] at h1
    cases q : rs[i]? with
    | none => simp [q] at h1
    | some r =>
      simp [q] at h1
      subst h1
      have := hr r (List.mem_of_getElem? q)
      simp [m_is_round_ok r this]
  · rintro e S' ⟨rfl, a, b, rfl⟩
    simp
theorem mk_Program {rs : List Rd} {x : D} (hx : IsSeq (rs.map Rd.d) x) (hl : rs.length ≤ 12) (hr : ∀ r ∈ rs, r.ok) (S : Sto) : mkObj false "Program" m_Program___init__ [x] S = .ok (prog rs) (S ++ [.dead]) := by
  simp [mkObj_ap, m_Program___init__, b_Program___init__, m_check_rounds_ok hx hl hr, hx.tuple, prog]
theorem m_check_program_ok (rs : List Rd) (S : Sto) : m_check_program [prog rs] S = .ok .non S := by
  simp [m_check_program, b_check_program, dIs_ap ["Program"] _ (prog rs) S (k := .inr "Program") rfl rfl, isK, sameC]
/-- the weirs that a round opens, in its order -/
def wrs (r : Rd) (n : Int) : List Int := match r with
  | .right => rng 1 n
  | .left => (rng 1 n).reverse
  | .ev a b => (rng 1 n).filter fun w => w % a = b
def Rd.opens (r : Rd) (w : Int) : Bool := match r with
  | .ev a b => w % a = b
  | _ => true
theorem mem_wrs {r : Rd} {n w : Int} : w ∈ wrs r n ↔ (1 ≤ w ∧ w < n) ∧ r.opens w = true := by
  cases r <;> simp [wrs, mem_rng, Rd.opens]
def opn (rs : List Rd) (n : Int) : List Int := rs.flatMap fun r => wrs r n
theorem mem_opn {rs : List Rd} {n w : Int} : w ∈ opn rs n ↔ (1 ≤ w ∧ w < n) ∧ rs.any (·.opens w) = true := by
  unfold opn
  simp only [List.mem_flatMap, mem_wrs, List.any_eq_true]
  constructor
  · rintro ⟨r, hr, h1, h2⟩
    exact ⟨h1, r, hr, h2⟩
  · rintro ⟨h1, r, hr, h2⟩
    exact ⟨r, hr, h1, h2⟩
theorem down_eq (n : Int) : ((List.range (n - 1 - 0).toNat).map fun (k : Nat) => D.int (n - 1 + k * -1)) = (rng 1 n).reverse.map D.int := by
  unfold rng
  refine List.ext_getElem? fun i => ?_
  rw [List.map_reverse, List.map_map, List.getElem?_map]
  by_cases hi : i < (n - 1).toNat
  · rw [List.getElem?_range (by omega), List.getElem?_reverse (by simpa using hi), List.getElem?_map, List.length_map, List.length_range, List.getElem?_range (by omega)]
    simp
    omega
  · rw [List.getElem?_eq_none (by simp; omega), List.getElem?_eq_none (by simp; omega)]
    rfl
theorem wrs_len (r : Rd) (n : Int) : (wrs r n).length ≤ (n - 1).toNat := by
  cases r with
  | right => simp [wrs]
  | left => simp [wrs]
  | ev a b => exact Nat.le_trans (List.length_filter_le _ _) (by simp)
theorem opn_len (rs : List Rd) (n : Int) : (opn rs n).length ≤ rs.length * (n - 1).toNat := by
  induction rs with
  | nil => simp [opn]
  | cons r rs ih =>
    have h := wrs_len r n
    have e : (opn (r :: rs) n).length = (wrs r n).length + (opn rs n).length := by simp [opn]
    rw [e, List.length_cons, Nat.succ_mul]
    omega
/-- weirs of a round by its rest, as a comprehension gives them -/
theorem lc_rest {i j : Nat} {l : List (Option D)} {a b n : Int} (t : Env → M Bool) (S : Sto) (h0 : 0 < a) (hi : i < l.length)
    (ht : ∀ w : Int, t ⟨l.set i (some (.int w)), none⟩ S = .ok (decide (w % a = b)) S) : lcGo [] (gN i) t (eVar i) ⟨l, none⟩ (rangeD 1 n) S = .ok ((wrs (.ev a b) n).map .int) S := by
  rw [rangeD_rng]
  have := lcGo_map (tg := gN i) (t := t) (m := eVar i) (e0 := ⟨l, none⟩) (S := S) D.int (fun w => decide (w % a = b)) D.int (rng 1 n) fun w hw => ⟨_, rfl, ht w, fun _ => by simp [hi]⟩
  rw [this]
  rfl
theorem m_openings_ok {rs : List Rd} {x : D} (hx : IsSeq (rs.map Rd.d) x) (hl : rs.length ≤ 12) (hr : ∀ r ∈ rs, r.ok) {n : Int} (h1 : 1 ≤ n) (h2 : n ≤ 400) (S : Sto) : m_openings [x, .int n] S = .ok (.lst ((opn rs n).map .int)) (S ++ [.dead]) := by
  simp [m_openings, b_openings, hx.itm, oM]
  refine forGo_rule (G := fun o => toOut (o.andThen _) = .ok (.lst ((opn rs n).map .int)) (S ++ [.dead])) (fun i e S' => S' = S ++ [.lst ((opn (rs.take i) n).map .int)] ∧ ∃ a b, e = ⟨[some x, some (.int n), some (.ptr S.length), a, b], none⟩) ⟨rfl, _, _, rfl⟩ ?_ ?_
  · rintro i d e S' hi ⟨rfl, a, b, rfl⟩
    rw [List.getElem?_map] at hi
    cases q : rs[i]? with
    | none => simp [q] at hi
    | some r =>
      simp [q] at hi
      subst hi
      have ok := hr r (List.mem_of_getElem? q)
      have et : opn (rs.take (i + 1)) n = opn (rs.take i) n ++ wrs r n := by
        rw [List.take_add_one, q]
        simp [opn]
      have hlen : (opn (rs.take i) n).length + (wrs r n).length ≤ 100000 := by
        have a1 := opn_len (rs.take i) n
        have a2 := wrs_len r n
        have a3 : (rs.take i).length ≤ 12 := by
          rw [List.length_take]
          omega
        have := Nat.mul_le_mul a3 (Nat.le_refl (n - 1).toNat)
        omega
      rw [et]
      cases r with
      | right =>
        have c1 : -1000000 ≤ n ∧ n ≤ 1000000 := by omega
        simp only [wrs] at hlen ⊢
        simp [Rd.d, eBM, cellL, dExtend, rdP, putL, c1, rangeD_rng, oM] 
        have : (opn (rs.take i) n).length + (n.toNat - 1) ≤ 100000 := by
          simp at hlen
          omega
        simp [this]
      | left =>
        have c1 : -400000 ≤ n - 1 ∧ n - 1 ≤ 400000 ∧ 0 ≤ n - 1 := by omega
        simp only [wrs] at hlen ⊢
        simp [Rd.d, eBM, cellL, dExtend, rdP, putL, c1, dRangeB, oM, h1]
        have : (opn (rs.take i) n).length + (n.toNat - 1) ≤ 100000 := by
          simp at hlen
          omega
        have e := down_eq n
        simp at e
        simp [this, e]
      | ev a' b' =>
        obtain ⟨k1, k2, k3, k4⟩ := ok
        have c1 : -1000000 ≤ n ∧ n ≤ 1000000 := by omega
        have c2 : (rangeD 1 n).length ≤ 100000 := by
          rw [rangeD_rng]
          simp
          omega
        have c3 : 0 < a' := by omega
        have e := lc_rest (i := 4) (j := 4) (l := [some x, some (.int n), some (.ptr S.length), some (.tup [.str "every", .int a', .int b']), none]) (a := a') (b := b') (n := n)
          (tOf (e2 (dEq false) (e2 dMod (eVar 4) (e2 dIx (eVar 3) (eC (.int 1)))) (e2 dIx (eVar 3) (eC (.int 2))))) (S ++ [.lst ((opn (rs.take i) n).map .int)]) c3 (by simp) fun w => by
            simp [c3]
        simp [Rd.d, eBM, cellL, dExtend, rdP, putL, c1, oM, c2, e]
        have : (opn (rs.take i) n).length + (wrs (.ev a' b') n).length ≤ 100000 := hlen
        simp [this]
  · rintro e S' ⟨rfl, a, b, rfl⟩
    simp [sFrz, setS]
end PM
end
section
set_option Elab.async false
set_option linter.all false
set_option maxRecDepth 100000
namespace PM
open PySem L2
end PM
end
section
set_option Elab.async false
set_option linter.all false
set_option maxRecDepth 100000
namespace PM
open PySem L2
end PM
end
section
set_option Elab.async false
set_option linter.all false
set_option maxRecDepth 100000
set_option maxHeartbeats 2000000
namespace PM
open PySem L2
/-- the least number that all a divide -/
def stpS (s : Nat) (r : Rd) : Nat := match r with
  | .ev a _ => Nat.lcm s a.toNat
  | _ => s
def stp (rs : List Rd) : Nat := rs.foldl stpS 1
def stpF (s : Nat) (rs : List Rd) : Nat := rs.foldl stpS s
theorem stpF_le : ∀ (rs : List Rd) (s : Nat), (∀ r ∈ rs, r.ok) → s ∣ 12 → stpF s rs ∣ 12
  | [], s, _, h => h
  | r :: rs, s, hr, h => by
    refine stpF_le rs _ (fun r h => hr r (List.mem_cons_of_mem _ h)) ?_
    cases r with
    | right => exact h
    | left => exact h
    | ev a b =>
      obtain ⟨h1, h2, _⟩ := hr (.ev a b) (by simp)
      refine Nat.lcm_dvd h ?_
      have : a.toNat = 2 ∨ a.toNat = 3 ∨ a.toNat = 4 := by omega
      rcases this with e | e | e <;> rw [e] <;> decide
theorem stpF_dvd : ∀ (rs : List Rd) (s : Nat), s ∣ stpF s rs ∧ ∀ a b, Rd.ev a b ∈ rs → a.toNat ∣ stpF s rs
  | [], s => ⟨Nat.dvd_refl _, by simp⟩
  | r :: rs, s => by
    obtain ⟨h1, h2⟩ := stpF_dvd rs (stpS s r)
    cases r with
    | right => exact ⟨h1, fun a b h => h2 a b (by simpa using h)⟩
    | left => exact ⟨h1, fun a b h => h2 a b (by simpa using h)⟩
    | ev a b =>
      refine ⟨Nat.dvd_trans (Nat.dvd_lcm_left s a.toNat) h1, fun a' b' h => ?_⟩
      rcases List.mem_cons.mp h with e | h
      · cases e
        exact Nat.dvd_trans (Nat.dvd_lcm_right s a.toNat) h1
      · exact h2 a' b' h
theorem stpF_least : ∀ (rs : List Rd) (s n : Nat), s ∣ n → (∀ a b, Rd.ev a b ∈ rs → a.toNat ∣ n) → stpF s rs ∣ n
  | [], s, n, h, _ => h
  | r :: rs, s, n, h, hr => by
    refine stpF_least rs _ n ?_ fun a b h => hr a b (List.mem_cons_of_mem _ h)
    cases r with
    | right => exact h
    | left => exact h
    | ev a b => exact Nat.lcm_dvd h (hr a b (by simp))
theorem stp_pos (rs : List Rd) (hr : ∀ r ∈ rs, r.ok) : 1 ≤ stp rs ∧ stp rs ≤ 12 := by
  have h := stpF_le rs 1 hr (by decide)
  exact ⟨Nat.pos_of_dvd_of_pos h (by decide), Nat.le_of_dvd (by decide) h⟩
theorem stp_app (rs ss : List Rd) : stpF (stp rs) ss = stp (rs ++ ss) := by
  unfold stp stpF
  rw [List.foldl_append]
theorem m_common_step_ok {rs ss : List Rd} (hr : ∀ r ∈ rs, r.ok) (hs : ∀ r ∈ ss, r.ok) (hl : rs.length ≤ 12) (hm : ss.length ≤ 12) (S : Sto) : m_common_step [prog rs, prog ss] S = .ok (.int (stp (rs ++ ss))) S := by
  have c : rs.length + ss.length ≤ 100000 := by omega
  simp [m_common_step, b_common_step, prog, oM, c]
  rw [← List.map_append]
  have hrs : ∀ r ∈ rs ++ ss, r.ok := fun r h => (List.mem_append.mp h).elim (hr r) (hs r)
  generalize rs ++ ss = ts at *
  refine forGo_rule (G := fun o => toOut (o.andThen _) = .ok (.int (stp ts)) S) (fun i e S' => S' = S ∧ ∃ a, e = ⟨[some (prog rs), some (prog ss), some (.int (stp (ts.take i))), a], none⟩) ⟨rfl, _, rfl⟩ ?_ ?_
  · rintro i d e S' hi ⟨rfl, a, rfl⟩
    rw [List.getElem?_map] at hi
    cases q : ts[i]? with
    | none => simp [q] at hi
    | some r =>
      simp [q] at hi
      subst hi
      have ok := hrs r (List.mem_of_getElem? q)
      have e1 : stp (ts.take (i + 1)) = stpS (stp (ts.take i)) r := by
        rw [List.take_add_one, q]
        show stp (ts.take i ++ [r]) = _
        rw [← stp_app]
        rfl
      have hp := stp_pos (ts.take i) fun r h => hrs r (List.mem_of_mem_take h)
      cases r with
      | right =>
        simp [stpS] at e1
        simp [Rd.d, e1]
      | left =>
        simp [stpS] at e1
        simp [Rd.d, e1]
      | ev a' b' =>
        obtain ⟨k1, k2, _⟩ := ok
        simp [stpS] at e1
        have l1 : (stp (ts.take i)).log2 < 5999 := Nat.lt_of_le_of_lt (Nat.log2_le_self _) (by omega)
        have l2 : a'.toNat.log2 < 5999 := Nat.lt_of_le_of_lt (Nat.log2_le_self _) (by omega)
        have l3 : 0 ≤ a' := by omega
        simp [Rd.d, e1, l1, l2, l3]
  · rintro e S' ⟨rfl, a, rfl⟩
    simp
end PM
end
section
set_option Elab.async false
set_option linter.all false
set_option maxRecDepth 100000
set_option maxHeartbeats 2000000
namespace PM
open PySem L2
theorem opens_mod {rs : List Rd} {r : Rd} (h : r ∈ rs) (hr : ∀ r ∈ rs, r.ok) {w w' : Int} (e : ((stp rs : Nat) : Int) ∣ w - w') : r.opens w = r.opens w' := by
  cases r with
  | right => rfl
  | left => rfl
  | ev a b =>
    obtain ⟨k1, k2, k3, k4⟩ := hr _ h
    have d := (stpF_dvd rs 1).2 a b h
    have d2 : a ∣ ((stp rs : Nat) : Int) := by
      obtain ⟨c, hc⟩ := d
      refine ⟨c, ?_⟩
      have : ((stp rs : Nat) : Int) = ((a.toNat * c : Nat) : Int) := by
        rw [← hc]
        rfl
      rw [this]
      push_cast
      rw [Int.toNat_of_nonneg (by omega)]
    have d3 := Int.dvd_trans d2 e
    have : w % a = w' % a := Int.emod_eq_emod_iff_emod_sub_eq_zero.mpr (Int.emod_eq_zero_of_dvd d3)
    simp [Rd.opens, this]
end PM
end
section
set_option Elab.async false
set_option linter.all false
set_option maxRecDepth 100000
set_option maxHeartbeats 2000000
namespace PM
open PySem L2
end PM
end
section
set_option Elab.async false
set_option linter.all false
set_option maxRecDepth 100000
set_option maxHeartbeats 2000000
namespace PM
open PySem L2
theorem dEq_scr (neg : Bool) (ns : List Int) (S : Sto) : dEq neg (.scr ns) (.lst []) S = .ok (.bl (neg != decide (ns = []))) S := by
  unfold dEq
  cases ns <;> simp [rdD, D.okD, D.py, D.pys, PyData.eqv, PyData.eqvAll]
def it97 : Nat → Int → Int
  | 0, c => c
  | n + 1, c => it97 n c / 97
theorem draw_ok (ns : List Int) (at_ many : Int) (h0 : 0 ≤ at_) (h1 : at_ ≤ 100000) (h2 : 0 < many) : ∃ v, 0 ≤ v ∧ v < many ∧ ∀ S, m__law_draw [.scr ns, .int at_, .int many] S = .ok (.int v) S := by
  -- the row
  obtain ⟨row, hrow, he, hl⟩ : ∃ row : List Int, row ≠ [] ∧ (∀ (l : List (Option D)) (S : Sto), eIf (tOf (e2 (dEq true) (eVar 0) (eA dLst aNil))) (eSl (eVar 0) oNone (oSome (eC (.int 60)))) (eA dLst (aCons (eC (.int 7)) aNil)) ⟨some (.scr ns) :: l, none⟩ S = .ok (.lst (row.map .int)) S) ∧ row.length ≤ 60 := by
    by_cases h : ns = []
    · refine ⟨[7], by simp, fun l S => ?_, by simp⟩
      simp [dEq_scr, h]
    · refine ⟨ns.take 60, by simpa using h, fun l S => ?_, by simp; omega⟩
      simp [dEq_scr, h, dSl, cutD, HT.sIx]
  have hp : 0 < row.length := List.length_pos_iff.mpr hrow
  obtain ⟨cell, hc⟩ : ∃ cell, row[(at_ % (row.length : Int)).toNat]? = some cell := by
    have a1 := Int.emod_nonneg at_ (show (row.length : Int) ≠ 0 by omega)
    have a2 := Int.emod_lt_of_pos at_ (show (0 : Int) < (row.length : Int) by omega)
    exact ⟨_, List.getElem?_eq_getElem (by omega)⟩
  have hat : atI (row.map D.int) (at_ % (row.length : Int)) = some (.int cell) := atI_pos (Int.emod_nonneg _ (by omega)) (by rw [List.getElem?_map, hc]; rfl)
  have lg : (row.length : Int).natAbs.log2 < 9000 := Nat.lt_of_le_of_lt (Nat.log2_le_self _) (by omega)
  have lg' : row.length.log2 < 9000 := lg
  have hp' : (0 : Int) < (row.length : Int) := by omega
  have p1 : (10 : Int) ^ (18 : Int).toNat = 1000000000000000000 := by decide
  have l97 : (97 : Int).natAbs.log2 < 9000 := by decide
  have lA : (1000003 : Int).natAbs.log2 < 9000 := by decide
  have t0 := Int.ediv_nonneg h0 (Int.le_of_lt hp')
  have t1 : at_ / (row.length : Int) ≤ at_ := Int.ediv_le_self _ h0
  by_cases big : (1000000000000000000 : Int) ≤ cell
  · -- a great cell
    refine ⟨it97 (at_ / (row.length : Int) % 40).toNat (cell % 97 ^ 40) % 97 % many, Int.emod_nonneg _ (by omega), Int.emod_lt_of_pos _ h2, fun S => ?_⟩
    have r0 := Int.emod_nonneg (at_ / (row.length : Int)) (show (40 : Int) ≠ 0 by decide)
    have r1 := Int.emod_lt_of_pos (at_ / (row.length : Int)) (show (0 : Int) < 40 by decide)
    have c1 : -1000000 ≤ at_ / (row.length : Int) % 40 ∧ at_ / (row.length : Int) % 40 ≤ 1000000 := by omega
    have p2 : (0 : Int) < 97 ^ (40 : Int).toNat := by decide
    simp -implicitDefEqProofs [m__law_draw, b__law_draw, he, hp', lg, lg', hat, big, p1, c1, rangeD_rng, hp]
    refine forGo_rule (G := fun o => toOut ((o.andThen _).andThen _) = .ok (.int (it97 (at_ / (row.length : Int) % 40).toNat (cell % 97 ^ 40) % 97 % many)) S) (fun i e S' => S' = S ∧ ∃ x, e = ⟨[some (.scr ns), some (.int at_), some (.int many), some (.lst (row.map .int)), some (.int (it97 i (cell % 97 ^ 40))), some (.int (at_ / (row.length : Int))), x, none], none⟩) ⟨rfl, _, rfl⟩ ?_ ?_
    · rintro i d e S' hi ⟨rfl, x, rfl⟩
      refine ⟨rfl, _, rfl, ?_⟩
      simp -implicitDefEqProofs [l97, it97]
    · rintro e S' ⟨rfl, x, rfl⟩
      refine ⟨rfl, ?_⟩
      simp -implicitDefEqProofs [h2]
  · refine ⟨(((cell + 31 * (at_ / (row.length : Int))) % 1000003 + 977 * at_ + 13) * 48271 + cell / 1000003 % 999983) % 2147483647 * 65537 % 4294967291 % many, Int.emod_nonneg _ (by omega), Int.emod_lt_of_pos _ h2, fun S => ?_⟩
    have tt : (at_ / (row.length : Int)).natAbs < 18446744073709551616 := by omega
    have ta : at_.natAbs < 18446744073709551616 := by omega
    have a0 := Int.emod_nonneg (cell + 31 * (at_ / (row.length : Int))) (show (1000003 : Int) ≠ 0 by decide)
    have a1 := Int.emod_lt_of_pos (cell + 31 * (at_ / (row.length : Int))) (show (0 : Int) < 1000003 by decide)
    have tb : ((cell + 31 * (at_ / (row.length : Int))) % 1000003 + 977 * at_ + 13).natAbs < 18446744073709551616 := by omega
    have tm : ∀ z : Int, (z % 2147483647).natAbs < 18446744073709551616 := fun z => by
      have b0 := Int.emod_nonneg z (show (2147483647 : Int) ≠ 0 by decide)
      have b1 := Int.emod_lt_of_pos z (show (0 : Int) < 2147483647 by decide)
      omega
    simp -implicitDefEqProofs [m__law_draw, b__law_draw, he, hp', lg, lg', hat, big, p1, hp, tt, ta, tb, tm, h2]
end PM
end
section
set_option Elab.async false
set_option linter.all false
set_option maxRecDepth 100000
namespace PM
open PySem L2
theorem cutD_hi (ds : List D) {k : Int} (h : 0 ≤ k) : cutD ds none (some k) = ds.take k.toNat := by
  unfold cutD HT.sIx
  simp only [List.drop_zero, Nat.sub_zero]
  rw [if_neg (by omega)]
  by_cases c : k.toNat ≤ ds.length
  · rw [Nat.min_eq_left c]
  · rw [Nat.min_eq_right (by omega), List.take_of_length_le (by omega), List.take_of_length_le (by omega)]
theorem dSl_lst (ds : List D) (lo hi : Option Int) (S : Sto) : dSl (.lst ds) lo hi S = .ok (.lst (cutD ds lo hi)) S := rfl
theorem dSl_tup (ds : List D) (lo hi : Option Int) (S : Sto) : dSl (.tup ds) lo hi S = .ok (.tup (cutD ds lo hi)) S := rfl
@[simp] theorem iZipA_ap (a : Env → M (List D)) (e : Env) : iZipA a e = bind (a e) fun ds => match ds with
  | [x, y] => fun S => oM (itmOf S x) (fun i => oM (itmOf S y) (fun j => ret ⟨zipD i.ds j.ds, i.src ++ j.src⟩)) S
  | _ => stuck := rfl
end PM
end
section
set_option Elab.async false
set_option linter.all false
set_option maxRecDepth 100000
namespace PM
open PySem L2
end PM
end
section
set_option Elab.async false
set_option linter.all false
set_option maxRecDepth 100000
set_option maxHeartbeats 2000000
set_option exponentiation.threshold 10000
namespace PM
open PySem L2
/-- a fraction as it is told: its parts without a common divisor -/
def fr (q : Rat) : D := .tup [.int q.num, .int q.den]
@[simp] theorem fr_fit (q : Rat) (n : Nat) : (fr q).fit (n + 1) = true := by simp [fr]
end PM
end
section
set_option Elab.async false
set_option linter.all false
set_option maxRecDepth 100000
set_option maxHeartbeats 2000000
set_option exponentiation.threshold 10000
namespace PM
open PySem L2
end PM
end
section
set_option Elab.async false
set_option linter.all false
namespace PM
def avg (v : List Int) (w : Int) : List Int := (v.set (w - 1).toNat ((v.getD (w - 1).toNat 0 + v.getD w.toNat 0) / 2)).set w.toNat ((v.getD (w - 1).toNat 0 + v.getD w.toNat 0) / 2)
def play (v : List Int) (ws : List Int) : List Int := ws.foldl avg v
def avgQ (v : List Rat) (w : Int) : List Rat := (v.set (w - 1).toNat ((v.getD (w - 1).toNat 0 + v.getD w.toNat 0) / 2)).set w.toNat ((v.getD (w - 1).toNat 0 + v.getD w.toNat 0) / 2)
def plyQ (v : List Rat) (ws : List Int) : List Rat := ws.foldl avgQ v
theorem avg_len (t : List Int) (w : Int) : (avg t w).length = t.length := by simp [avg]
theorem play_len (ws : List Int) : ∀ t : List Int, (play t ws).length = t.length := by
  induction ws with
  | nil => exact fun t => rfl
  | cons w ws ih => exact fun t => (ih _).trans (avg_len t w)
theorem avgQ_len (t : List Rat) (w : Int) : (avgQ t w).length = t.length := by simp [avgQ]
theorem plyQ_app (v : List Rat) (a b : List Int) : plyQ v (a ++ b) = plyQ (plyQ v a) b := List.foldl_append
theorem play_app (v : List Int) (a b : List Int) : play v (a ++ b) = play (play v a) b := List.foldl_append
theorem getD_set2 {α : Type} (t : List α) (z x : α) (a b i : Nat) (ha : a < t.length) (hb : b < t.length) : ((t.set a x).set b x).getD i z = if i = a ∨ i = b then x else t.getD i z := by
  simp only [List.getD_eq_getElem?_getD, List.getElem?_set, List.length_set]
  by_cases h1 : b = i
  · subst h1
    simp [hb]
  · by_cases h2 : a = i
    · subst h2
      simp [h1, ha, hb]
    · simp [h1, h2, Ne.symm h1, Ne.symm h2]
structure Sc (c : Rat) (t : List Int) (q : List Rat) : Prop where
  len : t.length = q.length
  at_ : ∀ i, ((t.getD i 0 : Int) : Rat) = q.getD i 0 * c
def Dv (e : Nat) (t : List Int) : Prop := ∀ i, ((2 ^ e : Nat) : Int) ∣ t.getD i 0
theorem Sc.avg {c : Rat} {t : List Int} {q : List Rat} (h : Sc c t q) {w : Int} (w1 : 1 ≤ w) (w2 : w < t.length) (ev : (2 : Int) ∣ t.getD (w - 1).toNat 0 + t.getD w.toNat 0) : Sc c (avg t w) (avgQ q w) := by
  refine ⟨by rw [avg_len, avgQ_len, h.len], fun i => ?_⟩
  have hq := h.len
  unfold PM.avg avgQ
  rw [getD_set2 _ _ _ _ _ _ (by omega) (by omega), getD_set2 _ _ _ _ _ _ (by omega) (by omega)]
  by_cases c1 : i = (w - 1).toNat ∨ i = w.toNat
  · rw [if_pos c1, if_pos c1]
    obtain ⟨k, hk⟩ := ev
    have a1 := h.at_ (w - 1).toNat
    have a2 := h.at_ w.toNat
    have e : (t.getD (w - 1).toNat 0 + t.getD w.toNat 0) / 2 = k := by omega
    rw [e]
    have e2 : ((2 * k : Int) : Rat) = (q.getD (w - 1).toNat 0 + q.getD w.toNat 0) * c := by
      rw [← hk, Rat.intCast_add, a1, a2, Rat.add_mul]
    rw [Rat.intCast_mul] at e2
    have e3 : ((2 : Int) : Rat) = 2 := rfl
    rw [e3] at e2
    grind
  · rw [if_neg c1, if_neg c1]
    exact h.at_ i
theorem Dv.avg {e : Nat} {t : List Int} (h : Dv (e + 1) t) {w : Int} (w1 : 1 ≤ w) (w2 : w < t.length) : (2 : Int) ∣ t.getD (w - 1).toNat 0 + t.getD w.toNat 0 ∧ Dv e (avg t w) := by
  obtain ⟨x, hx⟩ := h (w - 1).toNat
  obtain ⟨y, hy⟩ := h w.toNat
  have p : ((2 ^ (e + 1) : Nat) : Int) = 2 * ((2 ^ e : Nat) : Int) := by rw [Nat.pow_succ]; omega
  have es : t.getD (w - 1).toNat 0 + t.getD w.toNat 0 = 2 * (((2 ^ e : Nat) : Int) * (x + y)) := by
    rw [hx, hy, p]
    grind
  refine ⟨⟨_, es⟩, fun i => ?_⟩
  unfold PM.avg
  rw [getD_set2 _ _ _ _ _ _ (by omega) (by omega)]
  by_cases c1 : i = (w - 1).toNat ∨ i = w.toNat
  · rw [if_pos c1, es, Int.mul_ediv_cancel_left _ (by decide)]
    exact ⟨_, rfl⟩
  · rw [if_neg c1]
    exact Int.dvd_trans ⟨2, by rw [p, Int.mul_comm]⟩ (h i)
theorem play_any {c : Rat} (ws : List Int) : ∀ {e : Nat} {t : List Int} {q : List Rat}, (∀ w ∈ ws, 1 ≤ w ∧ w < t.length) → Dv (e + ws.length) t → Sc c t q → Sc c (play t ws) (plyQ q ws) ∧ Dv e (play t ws) := by
  induction ws with
  | nil => exact fun _ hd hs => ⟨hs, hd⟩
  | cons w ws ih =>
    intro e t q hw hd hs
    obtain ⟨w1, w2⟩ := hw w (List.mem_cons_self ..)
    obtain ⟨ev, d2⟩ := Dv.avg (e := e + ws.length) hd w1 w2
    exact ih (fun x hx => by rw [avg_len]; exact hw x (List.mem_cons_of_mem _ hx)) d2 (hs.avg w1 w2 ev)
theorem play_apart {c : Rat} (ws : List Int) : ∀ {e b : Nat} {t : List Int} {q : List Rat}, (∀ w ∈ ws, (b : Int) + 1 ≤ w ∧ w < t.length) → ws.Pairwise (fun x y => x + 2 ≤ y) → Dv e t → (∀ i, b ≤ i → ((2 ^ (e + 1) : Nat) : Int) ∣ t.getD i 0) → Sc c t q → Sc c (play t ws) (plyQ q ws) ∧ Dv e (play t ws) := by
  induction ws with
  | nil => exact fun _ _ hd _ hs => ⟨hs, hd⟩
  | cons w ws ih =>
    intro e b t q hw pw hd hu hs
    obtain ⟨w1, w2⟩ := hw w (List.mem_cons_self ..)
    obtain ⟨x, hx⟩ := hu (w - 1).toNat (by omega)
    obtain ⟨y, hy⟩ := hu w.toNat (by omega)
    have p : ((2 ^ (e + 1) : Nat) : Int) = 2 * ((2 ^ e : Nat) : Int) := by rw [Nat.pow_succ]; omega
    have es : t.getD (w - 1).toNat 0 + t.getD w.toNat 0 = 2 * (((2 ^ e : Nat) : Int) * (x + y)) := by
      rw [hx, hy, p]
      grind
    have pw2 := List.pairwise_cons.mp pw
    refine ih (b := (w + 1).toNat) (fun z hz => ?_) pw2.2 (fun i => ?_) (fun i hi => ?_) (hs.avg (by omega) w2 ⟨_, es⟩)
    · rw [avg_len]
      have := pw2.1 z hz
      have := hw z (List.mem_cons_of_mem _ hz)
      omega
    · unfold PM.avg
      rw [getD_set2 _ _ _ _ _ _ (by omega) (by omega)]
      by_cases c1 : i = (w - 1).toNat ∨ i = w.toNat
      · rw [if_pos c1, es, Int.mul_ediv_cancel_left _ (by decide)]
        exact ⟨_, rfl⟩
      · rw [if_neg c1]
        exact hd i
    · unfold PM.avg
      rw [getD_set2 _ _ _ _ _ _ (by omega) (by omega), if_neg (by omega)]
      exact hu i (by omega)
theorem getD_avgQ {q : List Rat} {w : Int} (w1 : 1 ≤ w) (w2 : w < q.length) (i : Nat) : (avgQ q w).getD i 0 = if i = (w - 1).toNat ∨ i = w.toNat then (q.getD (w - 1).toNat 0 + q.getD w.toNat 0) / 2 else q.getD i 0 := by
  unfold avgQ
  rw [getD_set2 _ _ _ _ _ _ (by omega) (by omega)]
/-- what a mean keeps: of all basins -/
theorem plyQ_all (P : Rat → Prop) (hP : ∀ x y, P x → P y → P ((x + y) / 2)) (ws : List Int) : ∀ (q : List Rat), (∀ w ∈ ws, 1 ≤ w ∧ w < q.length) → (∀ i, P (q.getD i 0)) → ∀ i, P ((plyQ q ws).getD i 0) := by
  induction ws with
  | nil => exact fun q _ h => h
  | cons w ws ih =>
    intro q hw h
    obtain ⟨w1, w2⟩ := hw w (List.mem_cons_self ..)
    refine ih (avgQ q w) (fun x hx => by rw [avgQ_len]; exact hw x (List.mem_cons_of_mem _ hx)) fun i => ?_
    rw [getD_avgQ w1 w2]
    split
    · exact hP _ _ (h _) (h _)
    · exact h i
inductive Prt : Int → Int → List (Int × Int) → Prop
  | nil (a : Int) : Prt a a []
  | cons {a c z : Int} {l : List (Int × Int)} : a < c → Prt c z l → Prt a z ((a, c) :: l)
theorem Prt.le {a z : Int} {l : List (Int × Int)} (h : Prt a z l) : a ≤ z := by
  induction h with
  | nil => exact Int.le_refl _
  | cons h _ ih => omega
theorem Prt.mem {a z : Int} {l : List (Int × Int)} (h : Prt a z l) : ∀ p ∈ l, a ≤ p.1 ∧ p.1 < p.2 ∧ p.2 ≤ z := by
  induction h with
  | nil => simp
  | cons h g ih =>
    intro p hp
    have := g.le
    rcases List.mem_cons.mp hp with rfl | hp
    · simp; omega
    · have := ih p hp
      omega
/-- the one part of a basin -/
theorem Prt.one {a z : Int} {l : List (Int × Int)} (h : Prt a z l) {b : Int} (h1 : a ≤ b) (h2 : b < z) : ∃ p ∈ l, p.1 ≤ b ∧ b < p.2 ∧ l.filter (fun p => decide (p.1 ≤ b) && decide (b < p.2)) = [p] := by
  induction h with
  | nil => omega
  | @cons a c z l h g ih =>
    by_cases hb : b < c
    · refine ⟨(a, c), by simp, h1, hb, ?_⟩
      rw [List.filter_cons_of_pos (by simp [h1, hb]), List.filter_eq_nil_iff.mpr]
      intro p hp
      have := g.mem p hp
      simp; omega
    · obtain ⟨p, hp, p1, p2, p3⟩ := ih (by omega) h2
      refine ⟨p, List.mem_cons_of_mem _ hp, p1, p2, ?_⟩
      rw [List.filter_cons_of_neg (by simp; omega), p3]
end PM
end
section
set_option Elab.async false
set_option linter.all false
namespace PM
def prts (n : Nat) (es : List Int) : List (Int × Int) := ((0 : Int) :: es).zip (es ++ [(n : Int)])
def lapQ (ws : List Int) (q : List Rat) : Nat → List Rat
  | 0 => q
  | k + 1 => plyQ (lapQ ws q k) ws
def unQ (n b : Nat) : List Rat := (List.range n).map fun i => if i = b then 1 else 0
@[simp] theorem unQ_len (n b : Nat) : (unQ n b).length = n := by simp [unQ]
theorem unQ_get (n b i : Nat) (hb : b < n) : (unQ n b).getD i 0 = if i = b then 1 else 0 := by
  unfold unQ
  rw [List.getD_eq_getElem?_getD, List.getElem?_map]
  by_cases h : i < n
  · rw [List.getElem?_range h]; rfl
  · rw [List.getElem?_eq_none (by simpa using Nat.le_of_not_lt h), if_neg (by omega)]; rfl
end PM
end
section
set_option Elab.async false
set_option linter.all false
set_option maxRecDepth 100000
set_option maxHeartbeats 2000000
set_option exponentiation.threshold 10000
namespace PM
open PySem L2
def hv1 (n : Int) : Rd → Nat
  | .ev _ _ => 1
  | _ => (n - 1).toNat
def hvs (rs : List Rd) (n : Int) : Nat := (rs.map (hv1 n)).sum
theorem hvs_le (rs : List Rd) {n : Int} (h : 1 ≤ n) : hvs rs n ≤ rs.length * n.toNat := by
  induction rs with
  | nil => simp [hvs]
  | cons r rs ih =>
    have e : hvs (r :: rs) n = hv1 n r + hvs rs n := rfl
    have h1 : hv1 n r ≤ n.toNat := by cases r <;> simp [hv1] <;> omega
    rw [e, List.length_cons, Nat.succ_mul]
    omega
theorem natsum_int (l : List Nat) : ((l.map fun n : Nat => (n : Int)).sum) = ((l.sum : Nat) : Int) := by
  induction l with
  | nil => rfl
  | cons a l ih => simp [ih]
theorem m_halvings_ok {rs : List Rd} {x : D} (hx : IsSeq (rs.map Rd.d) x) (hl : rs.length ≤ 1000) {n : Int} (h1 : 1 ≤ n) (S : Sto) : m_halvings [x, .int n] S = .ok (.int (hvs rs n)) S := by
  have d : ∀ a : String, dIn false (.str a) (.tup [.str "right", .str "left"]) S = .ok (.bl (decide ((.str a : D) ∈ [D.str "right", .str "left"]))) S := fun a => dIn_tup false S rfl (by simp) (by simp)
  have lc := lcGo_all (tg := gN 2) (m := eIf (tOf (e2 (dIn false) (e2 dIx (eVar 2) (eC (.int 0))) (eA dTup (aCons (eC (.str "right")) (aCons (eC (.str "left")) aNil))))) (e2 dSub (eVar 1) (eC (.int 1))) (eC (.int 1))) (e0 := ⟨[some x, some (.int n), none], none⟩) (S := S) Rd.d (fun r => D.int (hv1 n r)) rs fun r hr => by
    refine ⟨_, rfl, ?_⟩
    cases r with
    | right => simp -implicitDefEqProofs [Rd.d, d, hv1]; omega
    | left => simp -implicitDefEqProofs [Rd.d, d, hv1]; omega
    | ev a b => simp -implicitDefEqProofs [Rd.d, d, hv1]
  have c1 : rs.length ≤ 100000 := by omega
  have e := natsum_int (rs.map (hv1 n))
  rw [List.map_map] at e
  have e2 : (rs.map fun r => ((hv1 n r : Nat) : Int)).sum = ((hvs rs n : Nat) : Int) := e
  simp -implicitDefEqProofs [m_halvings, b_halvings, hx.itm, oM, lc, c1, dSum, e2]
theorem atI_int {t : List Int} {i : Int} (h0 : 0 ≤ i) (h1 : i < t.length) : atI (t.map D.int) i = some (.int (t.getD i.toNat 0)) := by
  refine atI_pos h0 ?_
  rw [List.getElem?_map, List.getD_eq_getElem?_getD, List.getElem?_eq_getElem (by omega)]
  rfl
theorem ixN_of {n : Nat} {i : Int} (h0 : 0 ≤ i) (h1 : i < n) : ixN n i = some i.toNat := by
  unfold ixN
  rw [if_pos h0, if_pos (by omega)]
theorem app2_get (S : Sto) (c d : Cell) : (S ++ [c, d])[S.length]? = some c := by simp
theorem app2_set (S : Sto) (c d e : Cell) : (S ++ [c, d]).set S.length e = S ++ [e, d] := by simp [List.set_append]
theorem avg_sets (t : List Int) (w : Int) : ((t.map D.int).set (w - 1).toNat (.int ((t.getD (w - 1).toNat 0 + t.getD w.toNat 0) / 2))).set w.toNat (.int ((t.getD (w - 1).toNat 0 + t.getD w.toNat 0) / 2)) = (avg t w).map D.int := by
  simp [avg, List.map_set]
theorem opn_in {rs : List Rd} {n w : Int} (h : w ∈ opn rs n) : 1 ≤ w ∧ w < n := (mem_opn.mp h).1
theorem wrs_in {r : Rd} {n w : Int} (h : w ∈ wrs r n) : 1 ≤ w ∧ w < n := (mem_wrs.mp h).1
theorem ev_pw (n a b : Int) (ha : 2 ≤ a) : (wrs (.ev a b) n).Pairwise (fun x y => x + 2 ≤ y) := by
  have h1 : (rng 1 n).Pairwise (fun x y => x < y) := by
    unfold rng
    rw [List.pairwise_map]
    exact List.pairwise_lt_range.imp fun {a b} h => by omega
  have h2 := h1.filter fun w => decide (w % a = b)
  refine List.Pairwise.imp_of_mem (fun {x y} hx hy hxy => ?_) h2
  have e1 := of_decide_eq_true (List.mem_filter.mp hx).2
  have e2 := of_decide_eq_true (List.mem_filter.mp hy).2
  have d : a ∣ y - x := Int.dvd_of_emod_eq_zero (Int.emod_eq_emod_iff_emod_sub_eq_zero.mp (e2.trans e1.symm))
  have := Int.le_of_dvd (by omega) d
  omega
theorem play_one {c : Rat} {e : Nat} {r : Rd} {t : List Int} {q : List Rat} (ho : r.ok) (hd : Dv (e + hv1 t.length r) t) (hs : Sc c t q) : Sc c (play t (wrs r t.length)) (plyQ q (wrs r t.length)) ∧ Dv e (play t (wrs r t.length)) := by
  cases r with
  | right => exact play_any _ (fun w hw => wrs_in hw) (by simpa [wrs, hv1] using hd) hs
  | left => exact play_any _ (fun w hw => wrs_in hw) (by simpa [wrs, hv1] using hd) hs
  | ev a b =>
    refine play_apart (b := 0) _ (fun w hw => ?_) (ev_pw _ a b ho.1) (fun i => ?_) (fun i _ => hd i) hs
    · have := wrs_in hw
      omega
    · refine Int.dvd_trans ⟨2, ?_⟩ (hd i)
      show ((2 ^ (e + 1) : Nat) : Int) = _
      rw [Nat.pow_succ]
      omega
theorem play_ops {c : Rat} : ∀ {rs : List Rd} {e : Nat} {t : List Int} {q : List Rat}, (∀ r ∈ rs, r.ok) → Dv (e + hvs rs t.length) t → Sc c t q → Sc c (play t (opn rs t.length)) (plyQ q (opn rs t.length)) ∧ Dv e (play t (opn rs t.length))
  | [], e, t, q, _, hd, hs => ⟨hs, hd⟩
  | r :: rs, e, t, q, ho, hd, hs => by
    have e1 : opn (r :: rs) t.length = wrs r t.length ++ opn rs t.length := rfl
    rw [e1, play_app, plyQ_app]
    have h := play_one (e := e + hvs rs t.length) (ho r (List.mem_cons_self ..)) (by
      have e2 : hvs (r :: rs) t.length = hv1 t.length r + hvs rs t.length := rfl
      rw [e2] at hd
      rw [show e + hvs rs t.length + hv1 t.length r = e + (hv1 t.length r + hvs rs t.length) from by omega]
      exact hd) hs
    have := play_ops (rs := rs) (e := e) (t := play t (wrs r t.length)) (fun x hx => ho x (List.mem_cons_of_mem _ hx)) (by rw [play_len]; exact h.2) h.1
    rw [play_len] at this
    exact this
/-- whole numbers, by a power of two -/
def ups (vs : List Int) (j : Nat) : List Int := vs.map fun v => v * ((2 ^ j : Nat) : Int)
def ofI (vs : List Int) : List Rat := vs.map fun v : Int => (v : Rat)
theorem ofI_len (vs : List Int) : (ofI vs).length = vs.length := by simp [ofI]
theorem ups_len (vs : List Int) (j : Nat) : (ups vs j).length = vs.length := by simp [ups]
theorem getD_map0 {α β : Type} (f : α → β) (l : List α) (i : Nat) (x : α) (y : β) (h : f x = y) : (l.map f).getD i y = f (l.getD i x) := by
  rw [List.getD_eq_getElem?_getD, List.getD_eq_getElem?_getD, List.getElem?_map]
  cases l[i]? with
  | none => exact h.symm
  | some a => rfl
theorem ups_sc (vs : List Int) (j : Nat) : Sc (((2 ^ j : Nat) : Int) : Rat) (ups vs j) (ofI vs) := by
  refine ⟨by rw [ups_len, ofI_len], fun i => ?_⟩
  unfold ups ofI
  rw [getD_map0 (fun v => v * ((2 ^ j : Nat) : Int)) vs i 0 0 (Int.zero_mul _), getD_map0 (fun v : Int => (v : Rat)) vs i 0 0 rfl, Rat.intCast_mul]
theorem ups_dv (vs : List Int) (j : Nat) : Dv j (ups vs j) := fun i => by
  unfold ups
  rw [getD_map0 (fun v => v * ((2 ^ j : Nat) : Int)) vs i 0 0 (Int.zero_mul _)]
  exact ⟨_, Int.mul_comm _ _⟩
theorem Dv.le {e f : Nat} {t : List Int} (h : Dv f t) (he : e ≤ f) : Dv e t := fun i => Int.dvd_trans (Int.ofNat_dvd.mpr (Nat.pow_dvd_pow 2 he)) (h i)
end PM
end
section
set_option Elab.async false
set_option linter.all false
set_option maxRecDepth 100000
set_option maxHeartbeats 2000000
set_option exponentiation.threshold 10000
namespace PM
open PySem L2
/-- gives d; what stood there stays -/
def Ext (m : List D → M D) (ds : List D) (d : D) : Prop := ∀ S, ∃ T, m ds S = .ok d (S ++ T)
noncomputable def tl (m : List D → M D) (ds : List D) (S : Sto) : Sto := match m ds S with
  | .ok _ S' => S'.drop S.length
  | _ => []
theorem Ext.eq {m : List D → M D} {ds : List D} {d : D} (h : Ext m ds d) (S : Sto) : m ds S = .ok d (S ++ tl m ds S) := by
  obtain ⟨T, e⟩ := h S
  unfold tl
  rw [e]
  simp
theorem ap_get (S : Sto) (c : Cell) (T : Sto) : (S ++ c :: T)[S.length]? = some c := by simp
theorem ap_set (S : Sto) (c e : Cell) (T : Sto) : (S ++ c :: T).set S.length e = S ++ e :: T := by simp [List.set_append]
theorem p2 (j : Nat) : (((2 ^ j : Nat) : Int)) = (2 : Int) ^ j := Int.natCast_pow ..
end PM
end
section
set_option Elab.async false
set_option linter.all false
set_option maxRecDepth 100000
set_option maxHeartbeats 2000000
namespace PM
open PySem L2
theorem m_evened_okQ {rs : List Rd} {x y : D} {ts : List Int} (hx : IsSeq (rs.map Rd.d) x) (hl : rs.length ≤ 12) (hr : ∀ r ∈ rs, r.ok) (S : Sto) (hy : rdQ S y = some (ts.map .int)) (h1 : 1 ≤ ts.length) (h2 : ts.length ≤ 400) :
    m_evened [x, y] S = .ok (.lst ((play ts (opn rs ts.length)).map .int)) (S ++ [.dead, .dead]) := by
  have o := fun S => m_openings_ok hx hl hr (n := ts.length) (by omega) (by omega) S
  have c1 : ts.length ≤ 100000 := by omega
  simp -implicitDefEqProofs [m_evened, b_evened, hy, c1, o]
  refine forGo_rule (G := fun o => toOut (o.andThen _) = .ok (.lst ((play ts (opn rs ts.length)).map .int)) (S ++ [.dead, .dead])) (fun i e S' => S' = S ++ [.lst ((play ts ((opn rs ts.length).take i)).map .int), .dead] ∧ ∃ a, e = ⟨[some x, some y, some (.ptr S.length), a], none⟩) ?_ ?_ ?_
  · exact ⟨by simp [play], _, rfl⟩
  · rintro i d e S' hi ⟨rfl, a, rfl⟩
    rw [List.getElem?_map] at hi
    cases q : (opn rs ts.length)[i]? with
    | none => simp [q] at hi
    | some w =>
      simp [q] at hi
      subst hi
      obtain ⟨w1, w2⟩ := opn_in (List.mem_of_getElem? q)
      have et : play ts ((opn rs ts.length).take (i + 1)) = avg (play ts ((opn rs ts.length).take i)) w := by
        rw [List.take_add_one, q, play_app]
        rfl
      rw [et]
      have tl := play_len ((opn rs ts.length).take i) ts
      generalize play ts ((opn rs ts.length).take i) = t at *
      have a1 := atI_int (t := t) (i := w - 1) (by omega) (by omega)
      have a2 := atI_int (t := t) (i := w) (by omega) (by omega)
      have i1 := ixN_of (n := t.length) (i := w - 1) (by omega) (by omega)
      have i2 := ixN_of (n := t.length) (i := w) (by omega) (by omega)
      have as := avg_sets t w
      refine ⟨rfl, _, rfl, ?_⟩
      simp -implicitDefEqProofs [app2_get, app2_set, a1, a2, i1, i2, dSet, cellL, oM, putL]
      simpa using as
  · rintro e S' ⟨rfl, a, rfl⟩
    simp -implicitDefEqProofs [sFrz, setS, app2_get, app2_set]
def fig (x : Int) (a size : Nat) : Int := Builtin.bitAnd (x / 2 ^ (a * size)) (2 ^ size - 1)
theorem bits_one : Builtin.Int.intBits 1 = 1 := by decide +kernel
theorem dBand_ii (i j : Int) : dBand (.int i) (.int j) = ret (.int (Builtin.bitAnd i j)) := rfl
theorem m_figures_ok (x : Int) (a size : Nat) (ha : a ≤ 100) (h : size ≤ 10000) (S : Sto) : m_figures [.int x, .int a, .int size] S = .ok (.int (fig x a size)) S := by
  have c1 : (0 : Int) ≤ (a : Int) * (size : Int) := Int.mul_nonneg (by omega) (by omega)
  have c2 : (1 : Int) + (size : Int) ≤ 134217728 := by omega
  have c3 : ((a : Int) * (size : Int)).toNat = a * size := by
    rw [← Int.natCast_mul, Int.toNat_natCast]
  have c4 : a.log2 + size.log2 < 1000000 := by
    have := Nat.log2_le_self a
    have := Nat.log2_le_self size
    omega
  simp -implicitDefEqProofs [m_figures, b_figures, dBand_ii, c1, c2, c3, c4, bits_one, fig]
theorem fs_some {α β : Type} {f : α → Option β} {l : List α} {i : Nat} {a : α} {b : β} (h : (l.take i).findSome? f = none) (e : l[i]? = some a) (ha : f a = some b) : l.findSome? f = some b := by
  have h2 : l = l.take i ++ (a :: l.drop (i + 1)) := by
    have h3 := List.take_append_drop i l
    obtain ⟨hi, e2⟩ := List.getElem?_eq_some_iff.mp e
    rw [List.drop_eq_getElem_cons hi, e2] at h3
    exact h3.symm
  rw [h2, List.findSome?_append, h, List.findSome?_cons, ha]
  rfl
theorem fs_none {α β : Type} {f : α → Option β} {l : List α} {i : Nat} {a : α} (h : (l.take i).findSome? f = none) (e : l[i]? = some a) (ha : f a = none) : (l.take (i + 1)).findSome? f = none := by
  rw [List.take_add_one, e, List.findSome?_append, h]
  simp [ha]
theorem fs_end {α β : Type} {f : α → Option β} {l : List α} (h : (l.take l.length).findSome? f = none) : l.findSome? f = none := by rwa [List.take_length] at h
/-- nothing among the first i -/
structure Pre {α β : Type} (l : List α) (f : α → Option β) (i : Nat) : Prop where
  n : (l.take i).findSome? f = none
theorem pre0 {α β : Type} {l : List α} {f : α → Option β} : Pre l f 0 := ⟨by simp⟩
theorem Pre.step {α β : Type} {l : List α} {f : α → Option β} {i : Nat} {a : α} (h : Pre l f i) (e : l[i]? = some a) (ha : f a = none) : Pre l f (i + 1) := ⟨fs_none h.n e ha⟩
theorem Pre.all {α β : Type} {l : List α} {f : α → Option β} {n : Nat} (h : Pre l f n) (e : n = l.length) : l.findSome? f = none := fs_end (e ▸ h.n)
def apIn (h t : List Int) (size a : Nat) : Option Nat := (List.range h.length).findSome? fun p => if fig (h.getD p 0) a size = fig (t.getD p 0) a size then none else some p
def apOut (h t : List Int) (size a : Nat) : Option (Nat × Nat) := (apIn h t size a).map fun p => (a, p)
def ap (h t : List Int) (size : Nat) : Option (Nat × Nat) := (List.range 16).findSome? (apOut h t size)
def apD (first : Nat) : Option (Nat × Nat) → D
  | some (a, p) => .tup [.int (first + a), .int p]
  | none => .non
theorem rangeD_nat (n : Nat) : rangeD 0 n = (List.range n).map fun (k : Nat) => D.int k := by
  unfold rangeD
  rw [Int.sub_zero, Int.toNat_natCast]
  exact List.map_congr_left fun k _ => by rw [Int.zero_add]
theorem get_nat {n i : Nat} {d : D} (h : ((List.range n).map fun (k : Nat) => D.int k)[i]? = some d) : i < n ∧ d = .int i ∧ (List.range n)[i]? = some i := by
  rw [List.getElem?_map] at h
  cases q : (List.range n)[i]? with
  | none =>
    rw [q] at h
    cases h
  | some k =>
    have hi := (List.getElem?_eq_some_iff.mp q).1
    rw [List.length_range] at hi
    rw [List.getElem?_range hi] at q
    cases q
    rw [List.getElem?_range hi] at h
    cases h
    exact ⟨hi, rfl, rfl⟩
theorem m_first_apart_ok {h t : List Int} {first size : Nat} (hl : h.length ≤ 400) (ht : t.length = h.length) (hs : size ≤ 10000) (S : Sto) : m_first_apart [.lst (h.map .int), .lst (t.map .int), .int first, .int size] S = .ok (apD first (ap h t size)) S := by
  have rn := rangeD_nat h.length
  have c1 : (h.length : Int) ≤ 1000000 := by omega
  have c2 : (-1000000 : Int) ≤ (h.length : Int) := by omega
  have r16 : rangeD 0 16 = (List.range 16).map fun (k : Nat) => D.int k := rangeD_nat 16
  simp -implicitDefEqProofs only [m_first_apart, b_first_apart]
  generalize eh : h.map D.int = hd
  generalize et : t.map D.int = td
  have lh : hd.length = h.length := by rw [← eh, List.length_map]
  simp -implicitDefEqProofs [r16]
  refine forGo_rule (G := fun o => toOut (o.andThen _) = .ok (apD first (ap h t size)) S) (fun i e S' => S' = S ∧ Pre (List.range 16) (apOut h t size) i ∧ ∃ a b, e = ⟨[some (.lst hd), some (.lst td), some (.int first), some (.int size), a, b], none⟩) ⟨rfl, pre0, _, _, rfl⟩ ?_ ?_
  · rintro i d e S' hi ⟨rfl, hall, a, b, rfl⟩
    obtain ⟨hk, rfl, q⟩ := get_nat hi
    refine ⟨rfl, _, rfl, ?_⟩
    simp -implicitDefEqProofs [c1, c2, rn, lh]
    refine forGo_rule (fun j e S'' => S'' = S' ∧ Pre (List.range h.length) (fun p => if fig (h.getD p 0) i size = fig (t.getD p 0) i size then none else some p) j ∧ ∃ b, e = ⟨[some (.lst hd), some (.lst td), some (.int first), some (.int size), some (.int i), b], none⟩) ⟨rfl, pre0, _, rfl⟩ ?_ ?_
    · rintro j d e S'' hj ⟨rfl, hall2, b2, rfl⟩
      obtain ⟨hp, rfl, q2⟩ := get_nat hj
      have a1 := atI_int (t := h) (i := (j : Int)) (by omega) (by omega)
      have a2 := atI_int (t := t) (i := (j : Int)) (by omega) (by omega)
      rw [Int.toNat_natCast, eh] at a1
      rw [Int.toNat_natCast, et] at a2
      refine ⟨rfl, _, rfl, ?_⟩
      have f1 := fun x S => m_figures_ok x i size (by omega) hs S
      have st : fig (h.getD j 0) i size = fig (t.getD j 0) i size → Pre (List.range h.length) (fun p => if fig (h.getD p 0) i size = fig (t.getD p 0) i size then none else some p) (j + 1) := fun z => hall2.step q2 (by rw [if_pos z])
      have sn : fig (h.getD j 0) i size ≠ fig (t.getD j 0) i size → ap h t size = some (i, j) := fun z => by
        have e1 : apIn h t size i = some j := fs_some hall2.n q2 (by rw [if_neg z])
        exact fs_some hall.n q (by rw [apOut, e1]; rfl)
      generalize h.getD j 0 = x at a1 st sn
      generalize t.getD j 0 = y at a2 st sn
      by_cases z : fig x i size = fig y i size
      · have := st z
        simp -implicitDefEqProofs [a1, a2, f1, z]
        exact this
      · have := sn z
        simp -implicitDefEqProofs [a1, a2, f1, z, this, apD]
    · rintro e S'' ⟨rfl, hall2, b2, rfl⟩
      have e1 : apIn h t size i = none := hall2.all (by simp)
      refine ⟨rfl, ?_⟩
      have := hall.step q (by rw [apOut, e1]; rfl)
      simp -implicitDefEqProofs
      exact this
  · rintro e S' ⟨rfl, hall, a, b, rfl⟩
    have e2 : ap h t size = none := hall.all (by simp)
    rw [e2]
    refine ⟨rfl, ?_⟩
    simp -implicitDefEqProofs [apD]
end PM
end
section
set_option Elab.async false
set_option linter.all false
set_option maxRecDepth 100000
set_option maxHeartbeats 2000000
set_option exponentiation.threshold 10000
namespace PM
open PySem L2
/-- range(0, n, 16) -/
theorem rg16 (n : Nat) (h1 : 1 ≤ n) (h2 : n ≤ 400) : stepN 0 n 16 = (n + 15) / 16 ∧ RgC 0 n 16 ((n + 15) / 16) := by
  have e : Builtin.Range.rangeSize 0 (n : Int) 16 = (((n + 15) / 16 : Nat) : Int) := by
    unfold Builtin.Range.rangeSize
    rw [if_pos (by decide), if_pos (by omega)]
    omega
  refine ⟨by unfold stepN; rw [e]; rfl, by decide, by decide, ?_, e⟩
  unfold Builtin.Range.small
  rw [e]
  unfold Builtin.Range.rangeFitsLong
  have hp : (16 : Int) > 0 := by decide
  simp only [hp, if_true, Bool.and_eq_true, Bool.or_eq_true, decide_eq_true_eq]
  omega
theorem step16 (n : Nat) : stepD 0 16 n = (List.range n).map fun (k : Nat) => D.int ((16 * k : Nat) : Int) := by
  unfold stepD
  exact List.map_congr_left fun k _ => by
    congr 1
    omega
/-- figures of so many basins from first on, k of them laid -/
def pkv (o size first k i : Nat) : Int := if first ≤ i ∧ i < first + k then 2 ^ (o + (i - first) * size) else 0
def pk (n o size first k : Nat) : List Int := (List.range n).map (pkv o size first k)
theorem pk_len (n o size first k : Nat) : (pk n o size first k).length = n := by simp [pk]
theorem pk0 (n o size first : Nat) : (pk n o size first 0).map D.int = (List.range n).map fun _ => D.int 0 := by
  unfold pk
  rw [List.map_map]
  refine List.map_congr_left fun i _ => ?_
  show D.int (pkv o size first 0 i) = D.int 0
  unfold pkv
  rw [if_neg (by omega)]
theorem pk_set (n o size first k : Nat) (h : first + k < n) : ((pk n o size first k).map D.int).set (first + k) (.int (2 ^ (o + k * size))) = (pk n o size first (k + 1)).map D.int := by
  refine List.ext_getElem (by simp [pk]) fun i h1 h2 => ?_
  rw [List.getElem_set]
  by_cases z : first + k = i
  · subst z
    rw [if_pos rfl, List.getElem_map]
    unfold pk
    rw [List.getElem_map, List.getElem_range]
    unfold pkv
    rw [if_pos (by omega), show first + k - first = k by omega]
  · rw [if_neg z, List.getElem_map, List.getElem_map]
    unfold pk
    rw [List.getElem_map, List.getElem_map, List.getElem_range]
    unfold pkv
    by_cases c : first ≤ i ∧ i < first + k
    · rw [if_pos c, if_pos (by omega)]
    · rw [if_neg c, if_neg (by omega)]
/-- how often is enough for both -/
def oft (rs ss : List Rd) (n : Nat) : Nat := max (hvs rs n) (hvs ss n)
def fuTs (rs ss : List Rd) (n k : Nat) : List Int := pk n (oft rs ss n) (oft rs ss n + 1) (16 * k) (min 16 (n - 16 * k))
def fuAt (rs ss : List Rd) (n k : Nat) : Option D := if play (fuTs rs ss n k) (opn rs n) = play (fuTs rs ss n k) (opn ss n) then none else some (apD (16 * k) (ap (play (fuTs rs ss n k) (opn rs n)) (play (fuTs rs ss n k) (opn ss n)) (oft rs ss n + 1)))
def fu (rs ss : List Rd) (n : Nat) : Option D := (List.range ((n + 15) / 16)).findSome? (fuAt rs ss n)
theorem get_map {f : Nat → D} {n i : Nat} {d : D} (h : ((List.range n).map f)[i]? = some d) : i < n ∧ d = f i ∧ (List.range n)[i]? = some i := by
  rw [List.getElem?_map] at h
  by_cases hi : i < n
  · rw [List.getElem?_range hi] at h ⊢
    cases h
    exact ⟨hi, rfl, rfl⟩
  · rw [List.getElem?_eq_none (by rw [List.length_range]; omega)] at h
    cases h
theorem lst_inj {xs ys : List Int} : (D.lst (xs.map .int) = D.lst (ys.map .int)) = (xs = ys) := propext ⟨fun h => by
  injection h with h
  exact (List.map_inj_right fun a b h => by injection h).mp h, fun h => by rw [h]⟩
theorem fit_li (xs : List Int) (n : Nat) : (D.lst (xs.map .int)).fit (n + 1) = true := by
  rw [fit_lst]
  simp
theorem m_first_unlike_ok {rs ss : List Rd} (hl : rs.length ≤ 12) (hr : ∀ r ∈ rs, r.ok) (hl' : ss.length ≤ 12) (hs : ∀ r ∈ ss, r.ok) {n : Nat} (h1 : 1 ≤ n) (h2 : n ≤ 400) : Ext m_first_unlike [prog rs, prog ss, .int n] ((fu rs ss n).getD .non) := fun S => by
  have e1 := fun S => m_halvings_ok (IsSeq.tup (ds := rs.map Rd.d)) (by omega) (n := n) (by omega) S
  have e2 := fun S => m_halvings_ok (IsSeq.tup (ds := ss.map Rd.d)) (by omega) (n := n) (by omega) S
  obtain ⟨g1, g2⟩ := rg16 n h1 h2
  have ho : oft rs ss n ≤ 4800 := by
    have a := hvs_le rs (n := n) (by omega)
    have b : rs.length * (n : Int).toNat ≤ 12 * 400 := Nat.mul_le_mul hl (by omega)
    have a' := hvs_le ss (n := n) (by omega)
    have b' : ss.length * (n : Int).toNat ≤ 12 * 400 := Nat.mul_le_mul hl' (by omega)
    unfold oft
    omega
  have em : (if hvs rs n < hvs ss n then (hvs ss n : Int) else (hvs rs n : Int)) = ((oft rs ss n : Nat) : Int) := by
    unfold oft
    split <;> omega
  have c1 : (n : Int) ≤ 1000000 := by omega
  have c2 : (-1000000 : Int) ≤ (n : Int) := by omega
  have c3 : n ≤ 100000 := by omega
  have rn := rangeD_nat n
  simp -implicitDefEqProofs only [m_first_unlike, b_first_unlike]
  generalize eo : oft rs ss n = o at *
  have os : ((o : Nat) : Int) + 1 = ((o + 1 : Nat) : Int) := by omega
  generalize ez : o + 1 = size at *
  have lc := fun (S : Sto) (a5 a6 a7 a8 a9 : Option D) => lcGo_all (tg := gN 10) (m := eC (.int 0)) (e0 := ⟨[some (prog rs), some (prog ss), some (.int n), some (.int o), some (.int size), a5, a6, a7, a8, a9, none], none⟩) (S := S) (fun k : Nat => D.int k) (fun _ => D.int 0) (List.range n) fun v _ => ⟨_, rfl, rfl⟩
  simp -implicitDefEqProofs [prog, iR3, e1, e2, em, os, g1, g2, step16]
  refine forGo_rule (G := fun x => ∃ T, toOut (x.andThen _) = .ok ((fu rs ss n).getD .non) (S ++ T)) (fun i e S' => (∃ T, S' = S ++ T) ∧ Pre (List.range ((n + 15) / 16)) (fuAt rs ss n) i ∧ ∃ a5 a6 a7 a8 a9, e = ⟨[some (prog rs), some (prog ss), some (.int n), some (.int o), some (.int size), a5, a6, a7, a8, a9, none], none⟩) ⟨⟨[], by simp⟩, pre0, _, _, _, _, _, rfl⟩ ?_ ?_
  · rintro k d e S' hi ⟨⟨T, rfl⟩, hall, a5, a6, a7, a8, a9, rfl⟩
    obtain ⟨hk, rfl, q⟩ := get_map hi
    refine ⟨rfl, _, rfl, ?_⟩
    have lc1 := lc (S ++ T) (some (.int (16 * (k : Int)))) a6 a7 a8 a9
    rw [← pk0 n o size (16 * k)] at lc1
    have hq : ∀ b, fuAt rs ss n k = some b → fu rs ss n = some b := fun b h => fs_some hall.n q h
    have hn : fuAt rs ss n k = none → Pre (List.range ((n + 15) / 16)) (fuAt rs ss n) (k + 1) := fun h => hall.step q h
    have k1 : 16 * k < n := by omega
    have em2 : (if (n : Int) - 16 * (k : Int) < 16 then (n : Int) - 16 * (k : Int) else 16) = ((min 16 (n - 16 * k) : Nat) : Int) := by
      split <;> omega
    have em3 : min 16 (n - 16 * k) ≤ 16 := by omega
    have em4 : 16 * k + min 16 (n - 16 * k) ≤ n := by omega
    have rm := rangeD_nat (min 16 (n - 16 * k))
    generalize emm : min 16 (n - 16 * k) = m at *
    have ef : fuAt rs ss n k = if play (pk n o size (16 * k) m) (opn rs n) = play (pk n o size (16 * k) m) (opn ss n) then none else some (apD (16 * k) (ap (play (pk n o size (16 * k) m) (opn rs n)) (play (pk n o size (16 * k) m) (opn ss n)) size)) := by
      unfold fuAt fuTs
      rw [eo, ez, emm]
    have c4 : (m : Int) ≤ 1000000 := by omega
    have c5 : (-1000000 : Int) ≤ (m : Int) := by omega
    generalize eS : S ++ T = S1 at *
    simp -implicitDefEqProofs [c1, c2, c3, rn, lc1, em2, c4, c5, rm, fCell]
    refine forGo_rule (G := fun x => Turn _ _ (x.andThen _)) (fun j e S'' => S'' = S1 ++ [.lst ((pk n o size (16 * k) j).map .int)] ∧ ∃ a7, e = ⟨[some (prog rs), some (prog ss), some (.int n), some (.int o), some (.int size), some (.int (16 * (k : Int))), some (.ptr S1.length), a7, a8, a9, none], none⟩) ⟨rfl, _, rfl⟩ ?_ ?_
    · rintro j d e S'' hj ⟨rfl, a7, rfl⟩
      obtain ⟨hj1, rfl, _⟩ := get_nat hj
      refine ⟨rfl, _, rfl, ?_⟩
      have ps := pk_set n o size (16 * k) j (by omega)
      have pl : ((pk n o size (16 * k) j).map D.int).length = n := by rw [List.length_map, pk_len]
      generalize (pk n o size (16 * k) j).map D.int = L at *
      have j1 : (1 : Int) + ((o : Int) + (j : Int) * (size : Int)) ≤ 134217728 := by
        have : j * size ≤ 16 * 4801 := Nat.mul_le_mul (by omega) (by omega)
        have e : (j : Int) * (size : Int) = ((j * size : Nat) : Int) := by rw [Int.natCast_mul]
        omega
      have j2 : (0 : Int) ≤ (o : Int) + (j : Int) * (size : Int) := by
        have e : (j : Int) * (size : Int) = ((j * size : Nat) : Int) := by rw [Int.natCast_mul]
        omega
      have j3 : ((o : Int) + (j : Int) * (size : Int)).toNat = o + j * size := by
        have e : (j : Int) * (size : Int) = ((j * size : Nat) : Int) := by rw [Int.natCast_mul]
        omega
      have j4 : j.log2 + size.log2 < 1000000 := by
        have := Nat.log2_le_self j
        have := Nat.log2_le_self size
        omega
      have j5 := ixN_of (n := L.length) (i := 16 * (k : Int) + (j : Int)) (by omega) (by omega)
      have j6 : (16 * (k : Int) + (j : Int)).toNat = 16 * k + j := by omega
      rw [j6] at j5
      simp -implicitDefEqProofs [bits_one, j1, j2, j3, j4, j5, dSet, cellL, oM, putL, ap_get, ap_set, setS]
      exact ps
    · rintro e S'' ⟨rfl, a7, rfl⟩
      refine ⟨rfl, ?_⟩
      rw [List.length_map, List.length_range]
      have tl := pk_len n o size (16 * k) m
      generalize pk n o size (16 * k) m = ts at *
      have v1 := m_evened_okQ (IsSeq.tup (ds := rs.map Rd.d)) hl hr (S1 ++ [.lst (ts.map .int)]) (y := .ptr S1.length) (ts := ts) (by simp [rdQ, rdL]) (by omega) (by omega)
      have v2 := m_evened_okQ (IsSeq.tup (ds := ss.map Rd.d)) hl' hs (S1 ++ [.lst (ts.map .int), .dead, .dead]) (y := .ptr S1.length) (ts := ts) (by simp [rdQ, rdL]) (by omega) (by omega)
      rw [tl] at v1 v2
      have l1 := play_len (opn rs n) ts
      have l2 := play_len (opn ss n) ts
      generalize play ts (opn rs n) = h at *
      generalize play ts (opn ss n) = t at *
      have fa := fun S => m_first_apart_ok (h := h) (t := t) (first := 16 * k) (size := size) (by omega) (by omega) (by omega) S
      have fc : ((16 * k : Nat) : Int) = 16 * (k : Int) := by omega
      rw [fc] at fa
      have de := fun S => dEq_fit true S (fit_li h 11) (fit_li t 11)
      simp only [lst_inj] at de
      by_cases z : h = t
      · have p := hn (by rw [ef, if_pos z])
        simp only [z] at v1 v2 de
        simp -implicitDefEqProofs [prog, v1, v2, de]
        exact ⟨⟨T ++ [.lst (ts.map .int), .dead, .dead, .dead, .dead], by simp [← eS]⟩, p⟩
      · have p := hq _ (by rw [ef, if_neg z])
        simp -implicitDefEqProofs [prog, v1, v2, de, z, fa, p]
        exact ⟨T ++ [.lst (ts.map .int), .dead, .dead, .dead, .dead], by simp [← eS]⟩
  · rintro e S' ⟨⟨T, rfl⟩, hall, a5, a6, a7, a8, a9, rfl⟩
    have e3 : fu rs ss n = none := hall.all (by simp)
    rw [e3]
    refine ⟨rfl, T, ?_⟩
    simp -implicitDefEqProofs
end PM
end
section
set_option Elab.async false
set_option linter.all false
set_option maxRecDepth 100000
set_option maxHeartbeats 2000000
set_option exponentiation.threshold 10000
namespace PM
open PySem L2
theorem m_len_ok (rs : List Rd) (S : Sto) : m_Program___len__ [prog rs] S = .ok (.int rs.length) S := by
  simp [m_Program___len__, b_Program___len__, prog]
theorem lenO_ok (rs : List Rd) (hl : rs.length ≤ 12) (S : Sto) : dLenO "Program" m_Program___len__ [prog rs] S = .ok (.int rs.length) S := by
  have e : insOf S "Program" "" (prog rs) = true := rfl
  have c : (rs.length : Int) < 9223372036854775808 := by omega
  simp -implicitDefEqProofs [dLenO, e, m_len_ok, c]
/-- rounds to the right and rounds to the left -/
def mxd (rs : List Rd) : Bool := decide (Rd.right ∈ rs) && decide (Rd.left ∈ rs)
theorem mem_d {r : Rd} {rs : List Rd} : (r.d ∈ rs.map Rd.d) = (r ∈ rs) := propext ⟨fun h => by
  obtain ⟨x, hx, e⟩ := List.mem_map.mp h
  rw [← Rd.d_inj.mp e]
  exact hx, fun h => List.mem_map.mpr ⟨r, h, rfl⟩⟩
theorem m_are_mixed_ok (rs : List Rd) (S : Sto) : m_are_mixed [.tup (rs.map Rd.d)] S = .ok (.bl (mxd rs)) S := by
  have f : (D.tup (rs.map Rd.d)).fit 12 = true := by
    rw [fit_tup]
    refine List.all_eq_true.mpr fun d h => ?_
    obtain ⟨r, _, rfl⟩ := List.mem_map.mp h
    exact r.fit 10
  have e1 := dIn_tup false (a := Rd.right.d) (ds := rs.map Rd.d) S rfl (Rd.fit .right 11) f
  have e2 := dIn_tup false (a := Rd.left.d) (ds := rs.map Rd.d) S rfl (Rd.fit .left 11) f
  simp only [mem_d] at e1 e2
  simp only [Rd.d] at e1 e2
  simp -implicitDefEqProofs [m_are_mixed, b_are_mixed, e1, e2, mxd]
  by_cases h : Rd.right ∈ rs <;> simp [h]
theorem m_check_pair_ok {rs ss : List Rd} (h : mxd (rs ++ ss) = false) (hl : rs.length ≤ 12) (hl' : ss.length ≤ 12) (S : Sto) : m_check_pair [prog rs, prog ss] S = .ok .non S := by
  have e := m_are_mixed_ok (rs ++ ss) S
  rw [List.map_append, h] at e
  have c : (rs.map Rd.d).length + (ss.map Rd.d).length ≤ 100000 := by simp; omega
  have u : m_check_unmixed [.tup (rs.map Rd.d ++ ss.map Rd.d)] S = .ok .non S := by
    simp -implicitDefEqProofs [m_check_unmixed, b_check_unmixed, e]
  have p1 := m_check_program_ok rs S
  have p2 := m_check_program_ok ss S
  simp only [prog] at p1 p2
  simp -implicitDefEqProofs [m_check_pair, b_check_pair, prog, p1, p2, u]
  simp at c
  simp [c, u]
def enN (rs ss : List Rd) : Nat := stp (rs ++ ss) * (rs.length + ss.length + max rs.length ss.length + 1) + max rs.length ss.length + 1
theorem m_enough_ok {rs ss : List Rd} (hr : ∀ r ∈ rs, r.ok) (hs : ∀ r ∈ ss, r.ok) (hl : rs.length ≤ 12) (hl' : ss.length ≤ 12) (S : Sto) : m_enough [prog rs, prog ss] S = .ok (.int (enN rs ss)) S := by
  have em : (if rs.length < ss.length then (ss.length : Int) else (rs.length : Int)) = ((max rs.length ss.length : Nat) : Int) := by split <;> omega
  have l1 := fun S => lenO_ok rs hl S
  have l2 := fun S => lenO_ok ss hl' S
  have cs := fun S => m_common_step_ok hr hs hl hl' S
  obtain ⟨p1, p2⟩ := stp_pos (rs ++ ss) (fun r h => (List.mem_append.mp h).elim (hr r) (hs r))
  have e : enN rs ss = stp (rs ++ ss) * (rs.length + ss.length + max rs.length ss.length + 1) + max rs.length ss.length + 1 := rfl
  generalize enN rs ss = N at *
  generalize stp (rs ++ ss) = s at *
  have e2 : (s : Int) * ((rs.length : Int) + (ss.length : Int) + ((max rs.length ss.length : Nat) : Int) + 1) + ((max rs.length ss.length : Nat) : Int) + 1 = (N : Int) := by
    rw [e]
    simp only [Int.natCast_add, Int.natCast_mul, Int.natCast_one]
    try rfl
  have lg : s.log2 + ((rs.length : Int) + (ss.length : Int) + ((max rs.length ss.length : Nat) : Int) + 1).natAbs.log2 < 1000000 := by
    have := Nat.log2_le_self s
    have := Nat.log2_le_self ((rs.length : Int) + (ss.length : Int) + ((max rs.length ss.length : Nat) : Int) + 1).natAbs
    omega
  generalize max rs.length ss.length = m at *
  simp -implicitDefEqProofs [m_enough, b_enough, l1, l2, cs, em, lg, e2]
def unlO (n : Nat) (a b : D) : D := .obj "FirstUnlike" [("many", .int n), ("basin", a), ("place", b)]
def samO (n : Nat) : D := .obj "SameAlways" [("most", .int n)]
theorem mk_Unlike (n : Nat) (a b : Int) (S : Sto) : mkObj false "FirstUnlike" m_FirstUnlike___init__ [.int n, .int a, .int b] S = .ok (unlO n (.int a) (.int b)) (S ++ [.dead]) := by
  simp [mkObj_ap, m_FirstUnlike___init__, b_FirstUnlike___init__, unlO]
theorem mk_Same (n : Nat) (S : Sto) : mkObj false "SameAlways" m_SameAlways___init__ [.int n] S = .ok (samO n) (S ++ [.dead]) := by
  simp [mkObj_ap, m_SameAlways___init__, b_SameAlways___init__, samO]
def fuV (rs ss : List Rd) (n : Nat) : D := (fu rs ss n).getD .non
theorem fuV_cases (rs ss : List Rd) (n : Nat) : fuV rs ss n = .non ∨ ∃ a b : Int, fuV rs ss n = .tup [.int a, .int b] := by
  unfold fuV
  cases h : fu rs ss n with
  | none => exact .inl rfl
  | some d =>
    obtain ⟨k, _, hk⟩ := List.exists_of_findSome?_eq_some h
    unfold fuAt at hk
    split at hk
    · cases hk
    · cases hk
      show apD _ _ = .non ∨ ∃ a b : Int, apD _ _ = .tup [.int a, .int b]
      cases ap _ _ _ with
      | none => exact .inl rfl
      | some p => exact .inr ⟨_, _, rfl⟩
def jpAt (rs ss : List Rd) (k : Nat) : Option D := match fuV rs ss (k + 1) with
  | .tup [a, b] => some (unlO (k + 1) a b)
  | _ => none
def jp (rs ss : List Rd) : D := ((List.range (enN rs ss)).findSome? (jpAt rs ss)).getD (samO (enN rs ss))
theorem rng1 (n : Nat) : rangeD 1 ((n : Int) + 1) = (List.range n).map fun (k : Nat) => D.int (((k + 1 : Nat)) : Int) := by
  unfold rangeD
  rw [show ((n : Int) + 1 - 1).toNat = n by omega]
  exact List.map_congr_left fun k _ => by
    congr 1
    omega
theorem m_judge_programs_ok {rs ss : List Rd} (hm : mxd (rs ++ ss) = false) (hr : ∀ r ∈ rs, r.ok) (hs : ∀ r ∈ ss, r.ok) (hl : rs.length ≤ 12) (hl' : ss.length ≤ 12) (hN : enN rs ss ≤ 400) : Ext m_judge_programs [prog rs, prog ss] (jp rs ss) := fun S => by
  have cp := fun S => m_check_pair_ok hm hl hl' S
  have en := fun S => m_enough_ok hr hs hl hl' S
  have r1 := rng1 (enN rs ss)
  have ej : jp rs ss = ((List.range (enN rs ss)).findSome? (jpAt rs ss)).getD (samO (enN rs ss)) := rfl
  rw [ej]
  generalize enN rs ss = N at *
  have c1 : (N : Int) + 1 ≤ 1000000 := by omega
  have c2 : (-1000000 : Int) ≤ (N : Int) + 1 := by omega
  simp -implicitDefEqProofs only [m_judge_programs, b_judge_programs]
  simp -implicitDefEqProofs [cp, en, c1, c2, r1]
  refine forGo_rule (G := fun x => ∃ T, toOut (x.andThen _) = .ok (((List.range N).findSome? (jpAt rs ss)).getD (samO N)) (S ++ T)) (fun i e S' => (∃ T, S' = S ++ T) ∧ Pre (List.range N) (jpAt rs ss) i ∧ ∃ a3 a4, e = ⟨[some (prog rs), some (prog ss), some (.int N), a3, a4], none⟩) ⟨⟨[], by simp⟩, pre0, _, _, rfl⟩ ?_ ?_
  · rintro k d e S' hi ⟨⟨T, rfl⟩, hall, a3, a4, rfl⟩
    obtain ⟨hk, rfl, q⟩ := get_map hi
    refine ⟨rfl, _, rfl, ?_⟩
    have hq : ∀ b, jpAt rs ss k = some b → (List.range N).findSome? (jpAt rs ss) = some b := fun b h => fs_some hall.n q h
    have hn : jpAt rs ss k = none → Pre (List.range N) (jpAt rs ss) (k + 1) := fun h => hall.step q h
    obtain ⟨T2, fe⟩ := m_first_unlike_ok hl hr hl' hs (n := k + 1) (by omega) (by omega) (S ++ T)
    have fe : m_first_unlike [prog rs, prog ss, .int ((k + 1 : Nat) : Int)] (S ++ T) = .ok (fuV rs ss (k + 1)) (S ++ T ++ T2) := fe
    have kc : ((k + 1 : Nat) : Int) = (k : Int) + 1 := by omega
    rw [kc] at fe
    have hj : jpAt rs ss k = match fuV rs ss (k + 1) with
      | .tup [a, b] => some (unlO (k + 1) a b)
      | _ => none := rfl
    generalize eS : S ++ T = S1 at *
    rcases fuV_cases rs ss (k + 1) with z | ⟨a, b, z⟩
    · rw [z] at fe
      have p := hn (by rw [hj, z])
      simp -implicitDefEqProofs [fe, D.isNon]
      exact ⟨⟨T ++ T2, by simp [← eS]⟩, p⟩
    · rw [z] at fe
      have p := hq _ (by rw [hj, z])
      have mk := fun S => mk_Unlike (k + 1) a b S
      rw [kc] at mk
      simp -implicitDefEqProofs [fe, D.isNon, mk, p]
      exact ⟨T ++ (T2 ++ [.dead]), by simp [← eS]⟩
  · rintro e S' ⟨⟨T, rfl⟩, hall, a3, a4, rfl⟩
    have e3 : (List.range N).findSome? (jpAt rs ss) = none := hall.all (by simp)
    rw [e3]
    refine ⟨rfl, T ++ [.dead], ?_⟩
    simp -implicitDefEqProofs [mk_Same]
end PM
end
section
set_option Elab.async false
set_option linter.all false
set_option maxRecDepth 100000
set_option maxHeartbeats 2000000
set_option exponentiation.threshold 10000
namespace PM
open PySem L2
/-- a round the other way -/
def tnd : Rd → Rd
  | .right => .left
  | .left => .right
  | r => r
theorem tnd_ok {r : Rd} (h : r.ok) : (tnd r).ok := by cases r <;> exact h
theorem m_turned_round_ok (r : Rd) (S : Sto) : m_turned_round [r.d] S = .ok (tnd r).d S := by
  cases r <;> simp -implicitDefEqProofs [m_turned_round, b_turned_round, Rd.d, tnd, dTabIn, dTabIx, tabAt]
def tb (rs : List Rd) : List Rd := rs.reverse.map tnd
theorem tb_len (rs : List Rd) : (tb rs).length = rs.length := by simp [tb]
theorem tb_ok {rs : List Rd} (hr : ∀ r ∈ rs, r.ok) : ∀ r ∈ tb rs, r.ok := fun r h => by
  obtain ⟨x, hx, rfl⟩ := List.mem_map.mp h
  exact tnd_ok (hr x (List.mem_reverse.mp hx))
theorem m_turned_back_ok {rs : List Rd} (hl : rs.length ≤ 12) (hr : ∀ r ∈ rs, r.ok) (S : Sto) : m_turned_back [prog rs] S = .ok (prog (tb rs)) (S ++ [.dead]) := by
  have cp := fun S => m_check_program_ok rs S
  have lc := fun S => lcGo_all (tg := gN 1) (m := eA m_turned_round (aCons (eVar 1) aNil)) (e0 := ⟨[some (prog rs), none], none⟩) (S := S) Rd.d (fun r => (tnd r).d) rs.reverse fun r _ => by
    refine ⟨_, rfl, ?_⟩
    simp -implicitDefEqProofs [m_turned_round_ok]
  have mk := fun S => mk_Program (rs := tb rs) (x := .lst ((tb rs).map Rd.d)) IsSeq.lst (by rw [tb_len]; exact hl) (tb_ok hr) S
  have e : (tb rs).map Rd.d = rs.reverse.map fun r => (tnd r).d := by
    unfold tb
    rw [List.map_map]
    rfl
  rw [e] at mk
  have c : rs.length ≤ 100000 := by omega
  simp only [prog] at cp lc mk
  simp only [List.map_reverse] at lc mk
  rw [e] at mk
  simp only [List.map_reverse] at mk
  simp -implicitDefEqProofs [m_turned_back, b_turned_back, prog, cp, dRevT, c, lc, fLst, mk]
  rw [e, List.map_reverse]
/-- the volumes that a basin gives -/
def unV (n b : Nat) : List Int := (List.range n).map fun i => if i = b then 1 else 0
theorem unV_len (n b : Nat) : (unV n b).length = n := by simp [unV]
end PM
end
section
set_option Elab.async false
set_option linter.all false
set_option maxRecDepth 100000
set_option maxHeartbeats 2000000
namespace PM
open PySem L2
def avgF (f : Nat → Rat) (w : Int) : Nat → Rat := fun i => if i = (w - 1).toNat ∨ i = w.toNat then (f (w - 1).toNat + f w.toNat) / 2 else f i
def plyF (f : Nat → Rat) (ws : List Int) : Nat → Rat := ws.foldl avgF f
def getF (q : List Rat) : Nat → Rat := fun i => q.getD i 0
/-- weirs of a row of n basins -/
def Wi (n : Nat) (ws : List Int) : Prop := ∀ w ∈ ws, 1 ≤ w ∧ w < n
theorem plyF_cons (f : Nat → Rat) (w : Int) (ws : List Int) : plyF f (w :: ws) = plyF (avgF f w) ws := rfl
theorem plyF_app (f : Nat → Rat) (a b : List Int) : plyF f (a ++ b) = plyF (plyF f a) b := List.foldl_append
theorem getF_avg {q : List Rat} {w : Int} (w1 : 1 ≤ w) (w2 : w < q.length) : getF (avgQ q w) = avgF (getF q) w := funext fun i => getD_avgQ w1 w2 i
theorem getF_ply : ∀ (ws : List Int) (q : List Rat), Wi q.length ws → getF (plyQ q ws) = plyF (getF q) ws
  | [], _, _ => rfl
  | w :: ws, q, h => by
    show getF (plyQ (avgQ q w) ws) = _
    have h1 := h w (List.mem_cons_self ..)
    rw [getF_ply ws (avgQ q w) (by rw [avgQ_len]; exact fun x hx => h x (List.mem_cons_of_mem _ hx)), getF_avg h1.1 h1.2]
    rfl
theorem getF_un {n b : Nat} (h : b < n) : getF (unQ n b) = eF b := funext fun i => unQ_get n b i h
theorem avgF_lin (s t : Rat) (f g : Nat → Rat) (w : Int) : avgF (fun i => s * f i + t * g i) w = fun i => s * avgF f w i + t * avgF g w i := by
  funext i
  unfold avgF
  split <;> grind
theorem plyF_lin (s t : Rat) : ∀ (ws : List Int) (f g : Nat → Rat), plyF (fun i => s * f i + t * g i) ws = fun i => s * plyF f ws i + t * plyF g ws i
  | [], _, _ => rfl
  | w :: ws, f, g => by
    rw [plyF_cons, avgF_lin, plyF_lin s t ws]
    rfl
theorem plyF_sm (ws : List Int) (c : Nat → Rat) (u : Nat → Nat → Rat) (k : Nat) : plyF (fun i => sm k fun a => c a * u a i) ws = fun i => sm k fun a => c a * plyF (u a) ws i := by
  induction k with
  | zero =>
    have : (fun i : Nat => sm 0 fun a => c a * u a i) = fun i => 0 * (fun _ => (0 : Rat)) i + 0 * (fun _ => (0 : Rat)) i := by
      funext i
      rw [sm_zero]
      grind
    rw [this, plyF_lin]
    funext i
    rw [sm_zero]
    grind
  | succ k ih =>
    have : (fun i : Nat => sm (k + 1) fun a => c a * u a i) = fun i => 1 * (fun i => sm k fun a => c a * u a i) i + c k * u k i := by
      funext i
      rw [sm_succ]
      grind
    rw [this, plyF_lin, ih]
    funext i
    rw [sm_succ]
    grind
/-- plays look at what stands below n only -/
theorem plyF_cong {n : Nat} : ∀ (ws : List Int) {f g : Nat → Rat}, Wi n ws → (∀ i, i < n → f i = g i) → ∀ i, i < n → plyF f ws i = plyF g ws i
  | [], _, _, _, h => h
  | w :: ws, f, g, hw, h => by
    refine plyF_cong ws (fun x hx => hw x (List.mem_cons_of_mem _ hx)) fun i hi => ?_
    have := hw w (List.mem_cons_self ..)
    unfold avgF
    rw [h _ (show (w - 1).toNat < n by omega), h _ (show w.toNat < n by omega), h i hi]
/-- a play by those of units -/
theorem plyF_units {n : Nat} (f : Nat → Rat) (ws : List Int) (hw : Wi n ws) {i : Nat} (hi : i < n) : plyF f ws i = sm n fun a => f a * plyF (eF a) ws i := by
  have := plyF_cong ws (g := fun i => sm n fun a => f a * eF a i) hw (fun i hi => (sm_unit f hi).symm) i hi
  rw [this, plyF_sm]
theorem avgF_e (b : Nat) {w : Int} (hw : 1 ≤ w) : avgF (eF b) w = if b = (w - 1).toNat ∨ b = w.toNat then fun i => (1 / 2) * eF (w - 1).toNat i + (1 / 2) * eF w.toNat i else eF b := by
  have ne : (w - 1).toNat ≠ w.toNat := by omega
  by_cases h : b = (w - 1).toNat ∨ b = w.toNat
  · rw [if_pos h]
    funext i
    unfold avgF eF
    rcases h with rfl | rfl
    · by_cases c : i = (w - 1).toNat
      · subst c
        simp [ne, Ne.symm ne]
        try grind
      · by_cases d : i = w.toNat
        · subst d
          simp [ne, Ne.symm ne]
          try grind
        · simp [c, d]
          try grind
    · by_cases c : i = (w - 1).toNat
      · subst c
        simp [ne, Ne.symm ne]
        try grind
      · by_cases d : i = w.toNat
        · subst d
          simp [ne, Ne.symm ne]
          try grind
        · simp [c, d]
          try grind
  · rw [if_neg h]
    funext i
    unfold avgF eF
    split
    · rename_i c
      rw [if_neg (by omega), if_neg (by omega), if_neg (by omega)]
      grind
    · rfl
theorem snoc_ind {α : Type} {P : List α → Prop} (h0 : P []) (h1 : ∀ l a, P l → P (l ++ [a])) (l : List α) : P l := by
  rw [← List.reverse_reverse l]
  induction l.reverse with
  | nil => exact h0
  | cons a l ih => rw [List.reverse_cons]; exact h1 _ _ ih
theorem ent_rev (ws : List Int) : (∀ w ∈ ws, 1 ≤ w) → ∀ b i : Nat, plyF (eF b) ws i = plyF (eF i) ws.reverse b := by
  refine snoc_ind (P := fun ws => (∀ w ∈ ws, 1 ≤ w) → ∀ b i : Nat, plyF (eF b) ws i = plyF (eF i) ws.reverse b) (fun _ b i => ?_) (fun ws w ih hw b i => ?_) ws
  · show eF b i = eF i b
    unfold eF
    by_cases h : i = b
    · rw [if_pos h, if_pos h.symm]
    · rw [if_neg h, if_neg (Ne.symm h)]
  · have h1 : 1 ≤ w := hw w (by simp)
    have ih := ih fun x hx => hw x (by simp [hx])
    rw [plyF_app, List.reverse_append]
    show avgF (plyF (eF b) ws) w i = plyF (eF i) (w :: ws.reverse) b
    rw [plyF_cons, avgF_e i h1]
    unfold avgF
    by_cases c : i = (w - 1).toNat ∨ i = w.toNat
    · rw [if_pos c, if_pos c, plyF_lin, ih, ih]
      grind
    · rw [if_neg c, if_neg c, ih]
theorem avgF_comm (f : Nat → Rat) {v w : Int} (h1 : 1 ≤ v) (h2 : v + 2 ≤ w) : avgF (avgF f v) w = avgF (avgF f w) v := by
  funext i
  unfold avgF
  have a1 : ¬ ((w - 1).toNat = (v - 1).toNat ∨ (w - 1).toNat = v.toNat) := by omega
  have a2 : ¬ (w.toNat = (v - 1).toNat ∨ w.toNat = v.toNat) := by omega
  have a3 : ¬ ((v - 1).toNat = (w - 1).toNat ∨ (v - 1).toNat = w.toNat) := by omega
  have a4 : ¬ (v.toNat = (w - 1).toNat ∨ v.toNat = w.toNat) := by omega
  simp only [if_neg a1, if_neg a2, if_neg a3, if_neg a4]
  by_cases c : i = (w - 1).toNat ∨ i = w.toNat
  · have d : ¬ (i = (v - 1).toNat ∨ i = v.toNat) := by omega
    simp only [if_pos c, if_neg d]
  · simp only [if_neg c]
theorem plyF_late (ws : List Int) : ∀ (f : Nat → Rat) (w : Int), 1 ≤ w → (∀ x ∈ ws, w + 2 ≤ x) → plyF f (w :: ws) = plyF f (ws ++ [w]) := by
  induction ws with
  | nil => intros; rfl
  | cons x ws ih =>
    intro f w h1 h2
    have hx := h2 x (List.mem_cons_self ..)
    show plyF (avgF (avgF f w) x) ws = plyF (avgF f x) (ws ++ [w])
    rw [avgF_comm f h1 hx, ← ih (avgF f x) w h1 fun y hy => h2 y (List.mem_cons_of_mem _ hy)]
    rfl
theorem plyF_apart : ∀ (ws : List Int) (f : Nat → Rat), (∀ w ∈ ws, 1 ≤ w) → ws.Pairwise (fun x y => x + 2 ≤ y) → plyF f ws.reverse = plyF f ws
  | [], _, _, _ => rfl
  | w :: ws, f, h1, h2 => by
    rw [List.pairwise_cons] at h2
    rw [plyF_late ws f w (h1 w (List.mem_cons_self ..)) h2.1, List.reverse_cons, plyF_app, plyF_app, plyF_apart ws f (fun x hx => h1 x (List.mem_cons_of_mem _ hx)) h2.2]
theorem opn_wi (rs : List Rd) (n : Nat) : Wi n (opn rs n) := fun w h => opn_in h
theorem wrs_tnd {r : Rd} (h : r.ok) (n : Nat) (f : Nat → Rat) : plyF f (wrs (tnd r) n) = plyF f (wrs r n).reverse := by
  cases r with
  | right => rfl
  | left =>
    show plyF f (rng 1 n) = plyF f (rng 1 n).reverse.reverse
    rw [List.reverse_reverse]
  | ev a b => exact (plyF_apart _ f (fun w hw => (wrs_in hw).1) (ev_pw n a b h.1)).symm
theorem opn_tb (n : Nat) : ∀ (rs : List Rd) (f : Nat → Rat), (∀ r ∈ rs, r.ok) → plyF f (opn (tb rs) n) = plyF f (opn rs n).reverse := by
  intro rs
  induction rs with
  | nil => intros; rfl
  | cons r rs ih =>
    intro f h
    have e1 : opn (tb (r :: rs)) n = opn (tb rs) n ++ wrs (tnd r) n := by
      unfold opn tb
      rw [List.reverse_cons, List.map_append, List.flatMap_append]
      simp
    have e2 : opn (r :: rs) n = wrs r n ++ opn rs n := rfl
    rw [e1, e2, List.reverse_append, plyF_app, plyF_app, ih f fun x hx => h x (List.mem_cons_of_mem _ hx), wrs_tnd (h r (List.mem_cons_self ..))]
/-- what a basin gives to another one in the program, by the program turned back -/
theorem ent_tb {rs : List Rd} (h : ∀ r ∈ rs, r.ok) (n b i : Nat) : plyF (eF b) (opn rs n) i = plyF (eF i) (opn (tb rs) n) b := by
  rw [opn_tb n rs _ h]
  exact ent_rev _ (fun w hw => (opn_in hw).1) b i
theorem tb_app (rs ss : List Rd) : tb (rs ++ ss) = tb ss ++ tb rs := by
  unfold tb
  rw [List.reverse_append, List.map_append]
end PM
end
section
set_option Elab.async false
set_option linter.all false
set_option maxRecDepth 100000
set_option maxHeartbeats 2000000
set_option exponentiation.threshold 10000
namespace PM
open PySem L2
/-- the share of basin i of the water of basin b -/
def ent (rs : List Rd) (n b i : Nat) : Rat := plyF (eF b) (opn rs n) i
theorem ent_eq {rs : List Rd} {n b : Nat} (h : b < n) (i : Nat) : (plyQ (unQ n b) (opn rs n)).getD i 0 = ent rs n b i := by
  have := getF_ply (opn rs n) (unQ n b) (by rw [unQ_len]; exact opn_wi rs n)
  rw [getF_un h] at this
  exact congrFun this i
theorem ent_01 {rs : List Rd} {n b : Nat} (h : b < n) (i : Nat) : 0 ≤ ent rs n b i ∧ ent rs n b i ≤ 1 := by
  rw [← ent_eq h]
  refine plyQ_all (fun x => 0 ≤ x ∧ x ≤ 1) (fun x y hx hy => ⟨by grind, by grind⟩) _ _ (by rw [unQ_len]; exact opn_wi rs n) (fun i => ?_) i
  rw [unQ_get n b i h]
  split <;> grind
/-- digits -/
def dsum (B : Nat) (X : Nat → Nat) : Nat → Nat
  | 0 => 0
  | k + 1 => dsum B X k + B ^ k * X k
theorem dsum_lt {B : Nat} {X : Nat → Nat} (hX : ∀ a, X a < B) : ∀ k, dsum B X k < B ^ k
  | 0 => by simp [dsum]
  | k + 1 => by
    have h := dsum_lt hX k
    have h2 : B ^ k * X k + B ^ k ≤ B ^ k * B := by
      rw [← Nat.mul_succ]
      exact Nat.mul_le_mul_left _ (hX k)
    rw [Nat.pow_succ]
    show dsum B X k + B ^ k * X k < _
    omega
theorem dsum_digit {B : Nat} {X : Nat → Nat} (hB : 0 < B) (hX : ∀ a, X a < B) {a : Nat} : ∀ k, dsum B X k / B ^ a % B = if a < k then X a else 0
  | 0 => by simp [dsum]
  | k + 1 => by
    have ih := dsum_digit hB hX (a := a) k
    show (dsum B X k + B ^ k * X k) / B ^ a % B = _
    have hp : 0 < B ^ a := Nat.pow_pos hB
    by_cases c : a < k
    · rw [if_pos (by omega)]
      rw [if_pos c] at ih
      obtain ⟨j, rfl⟩ : ∃ j, k = a + (j + 1) := ⟨k - a - 1, by omega⟩
      have e : B ^ (a + (j + 1)) * X (a + (j + 1)) = B ^ a * (B * (B ^ j * X (a + (j + 1)))) := by
        rw [Nat.pow_add, Nat.pow_succ]
        simp only [Nat.mul_assoc, Nat.mul_left_comm, Nat.mul_comm]
      rw [e, Nat.add_mul_div_left _ _ hp, Nat.add_mul_mod_self_left, ih]
    · by_cases d : a = k
      · subst d
        rw [if_pos (by omega), Nat.add_mul_div_left _ _ hp, Nat.div_eq_of_lt (dsum_lt hX a), Nat.zero_add, Nat.mod_eq_of_lt (hX a)]
      · rw [if_neg (by omega)]
        have h1 := dsum_lt hX (k + 1)
        have h2 : B ^ (k + 1) ≤ B ^ a := Nat.pow_le_pow_right hB (by omega)
        have h3 : dsum B X k + B ^ k * X k < B ^ a := Nat.lt_of_lt_of_le h1 h2
        rw [Nat.div_eq_of_lt h3, Nat.zero_mod]
theorem fig_nat (x a size : Nat) : fig (x : Int) a size = ((x / (2 ^ size) ^ a % 2 ^ size : Nat) : Int) := by
  unfold fig
  have e1 : ((x : Nat) : Int) / 2 ^ (a * size) = ((x / 2 ^ (a * size) : Nat) : Int) := by rw [Int.natCast_ediv, Int.natCast_pow]; rfl
  have e2 : (2 : Int) ^ size - 1 = ((2 ^ size - 1 : Nat) : Int) := by
    have := Nat.pow_pos (n := size) (show 0 < 2 by decide)
    rw [Int.natCast_sub this, Int.natCast_pow]
    rfl
  rw [e1, e2]
  unfold Builtin.bitAnd
  rw [decide_eq_true (Int.natCast_nonneg _), decide_eq_true (Int.natCast_nonneg _)]
  simp only [Int.toNat_natCast]
  rw [Nat.and_two_pow_sub_one_eq_mod, ← Nat.pow_mul, Nat.mul_comm a size]
/-- the whole number that tells a share -/
def shN (rs : List Rd) (n o b i : Nat) : Nat := ((play (ups (unV n b) o) (opn rs n)).getD i 0).toNat
theorem unV_un {n b : Nat} : ofI (unV n b) = unQ n b := by
  unfold ofI unV unQ
  rw [List.map_map]
  refine List.map_congr_left fun i _ => ?_
  show (((if i = b then 1 else 0 : Int)) : Rat) = if i = b then 1 else 0
  split <;> rfl
theorem shN_eq {rs : List Rd} (hr : ∀ r ∈ rs, r.ok) {n o b : Nat} (ho : hvs rs n ≤ o) (h : b < n) (i : Nat) : ((shN rs n o b i : Nat) : Rat) = ent rs n b i * ((2 ^ o : Nat) : Rat) ∧ shN rs n o b i < 2 ^ (o + 1) := by
  have sc := (play_ops (e := 0) (t := ups (unV n b) o) hr (by
    rw [ups_len, unV_len, Nat.zero_add]
    exact (ups_dv _ o).le ho) (ups_sc (unV n b) o)).1
  rw [ups_len, unV_len, unV_un] at sc
  have e := sc.at_ i
  rw [ent_eq h] at e
  have b01 := ent_01 (rs := rs) h i
  have p : (0 : Rat) < ((2 ^ o : Nat) : Rat) := by exact_mod_cast Nat.pow_pos (show 0 < 2 by decide)
  have nn : 0 ≤ (play (ups (unV n b) o) (opn rs n)).getD i 0 := by
    have : (0 : Rat) ≤ (((play (ups (unV n b) o) (opn rs n)).getD i 0 : Int) : Rat) := by
      rw [e]
      exact Rat.mul_nonneg b01.1 (Rat.le_of_lt p)
    exact_mod_cast this
  have ec : ((shN rs n o b i : Nat) : Rat) = (((play (ups (unV n b) o) (opn rs n)).getD i 0 : Int) : Rat) := by
    unfold shN
    rw [← Rat.intCast_natCast, Int.toNat_of_nonneg nn]
  refine ⟨by rw [ec]; exact e, ?_⟩
  have le : ((shN rs n o b i : Nat) : Rat) ≤ ((2 ^ o : Nat) : Rat) := by
    rw [ec, e]
    have := Rat.mul_le_mul_of_nonneg_right b01.2 (Rat.le_of_lt p)
    grind
  have : shN rs n o b i ≤ 2 ^ o := by exact_mod_cast le
  rw [Nat.pow_succ]
  have := Nat.pow_pos (n := o) (show 0 < 2 by decide)
  omega
end PM
end
section
set_option Elab.async false
set_option linter.all false
set_option maxRecDepth 100000
set_option maxHeartbeats 2000000
set_option exponentiation.threshold 10000
namespace PM
open PySem L2
def shX (rs : List Rd) (n o first i a : Nat) : Nat := if first + a < n then shN rs n o (first + a) i else 0
theorem shX_lt {rs : List Rd} (hr : ∀ r ∈ rs, r.ok) {n o : Nat} (ho : hvs rs n ≤ o) (first i a : Nat) : shX rs n o first i a < 2 ^ (o + 1) := by
  unfold shX
  split
  · rename_i h
    exact (shN_eq hr ho h i).2
  · exact Nat.pow_pos (by decide)
theorem pk_sum (n o size first cnt : Nat) (hc : first + cnt ≤ n) (j : Nat) : getF (ofI (pk n o size first cnt)) j = sm cnt fun a => ((2 ^ (o + a * size) : Nat) : Rat) * eF (first + a) j := by
  have e : getF (ofI (pk n o size first cnt)) j = if first ≤ j ∧ j < first + cnt then ((2 ^ (o + (j - first) * size) : Nat) : Rat) else 0 := by
    unfold getF ofI pk
    rw [List.getD_eq_getElem?_getD, List.getElem?_map, List.getElem?_map]
    by_cases h : j < n
    · rw [List.getElem?_range h]
      show ((pkv o size first cnt j : Int) : Rat) = _
      unfold pkv
      split
      · exact_mod_cast rfl
      · rfl
    · rw [List.getElem?_eq_none (by simpa using Nat.le_of_not_lt h), if_neg (by omega)]
      rfl
  rw [e]
  clear e hc
  induction cnt with
  | zero => rw [if_neg (by omega), sm_zero]
  | succ k ih =>
    rw [sm_succ, ← ih]
    unfold eF
    by_cases h1 : j = first + k
    · subst h1
      rw [if_pos (by omega), if_neg (by omega), if_pos rfl, Nat.add_sub_cancel_left]
      grind
    · rw [if_neg h1]
      by_cases h2 : first ≤ j ∧ j < first + k
      · rw [if_pos (by omega), if_pos h2]
        grind
      · rw [if_neg (by omega), if_neg h2]
        grind
theorem pk_play {rs : List Rd} (hr : ∀ r ∈ rs, r.ok) {n o first cnt : Nat} (ho : hvs rs n ≤ o) (hc : first + cnt ≤ n) (i : Nat) :
    (play (pk n o (o + 1) first cnt) (opn rs n)).getD i 0 = ((dsum (2 ^ (o + 1)) (shX rs n o first i) cnt : Nat) : Int) := by
  have dv : Dv (0 + hvs rs (pk n o (o + 1) first cnt).length) (pk n o (o + 1) first cnt) := fun j => by
    rw [pk_len, Nat.zero_add]
    unfold pk
    rw [List.getD_eq_getElem?_getD, List.getElem?_map]
    by_cases h : j < n
    · rw [List.getElem?_range h]
      show _ ∣ pkv o (o + 1) first cnt j
      unfold pkv
      split
      · refine ⟨((2 ^ (o + (j - first) * (o + 1) - hvs rs n) : Nat) : Int), ?_⟩
        rw [← Int.natCast_mul, ← Nat.pow_add, Int.natCast_pow]
        have : hvs rs n + (o + (j - first) * (o + 1) - hvs rs n) = o + (j - first) * (o + 1) := by omega
        rw [this]
        rfl
      · exact Int.dvd_zero _
    · rw [List.getElem?_eq_none (by simpa using Nat.le_of_not_lt h)]
      exact Int.dvd_zero _
  have sc0 : Sc 1 (pk n o (o + 1) first cnt) (ofI (pk n o (o + 1) first cnt)) := ⟨by rw [ofI_len], fun j => by
    have : (ofI (pk n o (o + 1) first cnt)).getD j 0 = (((pk n o (o + 1) first cnt).getD j 0 : Int) : Rat) := getD_map0 _ _ _ _ _ rfl
    rw [this]
    grind⟩
  have sc := (play_ops (e := 0) hr dv sc0).1
  rw [pk_len] at sc
  have e := sc.at_ i
  have f := getF_ply (opn rs n) (ofI (pk n o (o + 1) first cnt)) (by rw [ofI_len, pk_len]; exact opn_wi rs n)
  have g : getF (ofI (pk n o (o + 1) first cnt)) = fun j => sm cnt fun a => ((2 ^ (o + a * (o + 1)) : Nat) : Rat) * eF (first + a) j := funext fun j => pk_sum n o (o + 1) first cnt hc j
  rw [g, plyF_sm] at f
  have e2 : (plyQ (ofI (pk n o (o + 1) first cnt)) (opn rs n)).getD i 0 = sm cnt fun a => ((2 ^ (o + a * (o + 1)) : Nat) : Rat) * ent rs n (first + a) i := congrFun f i
  rw [e2] at e
  have e3 : ∀ k, k ≤ cnt → (sm k fun a => ((2 ^ (o + a * (o + 1)) : Nat) : Rat) * ent rs n (first + a) i) = ((dsum (2 ^ (o + 1)) (shX rs n o first i) k : Nat) : Rat) := fun k => by
    induction k with
    | zero => intro _; rfl
    | succ k ih =>
      intro hk
      rw [sm_succ, ih (by omega)]
      show _ = ((dsum (2 ^ (o + 1)) (shX rs n o first i) k + (2 ^ (o + 1)) ^ k * shX rs n o first i k : Nat) : Rat)
      have hb : first + k < n := by omega
      have s := (shN_eq hr ho hb i).1
      have : shX rs n o first i k = shN rs n o (first + k) i := by unfold shX; rw [if_pos hb]
      have pw : ((2 ^ (o + k * (o + 1)) : Nat) : Rat) = ((2 ^ ((o + 1) * k) : Nat) : Rat) * ((2 ^ o : Nat) : Rat) := by
        rw [← Rat.natCast_mul, ← Nat.pow_add, Nat.mul_comm k (o + 1), Nat.add_comm o]
      rw [this, Rat.natCast_add, Rat.natCast_mul, s, ← Nat.pow_mul, pw]
      generalize ((2 ^ ((o + 1) * k) : Nat) : Rat) = x
      generalize ((2 ^ o : Nat) : Rat) = y
      grind
  rw [e3 cnt (Nat.le_refl _)] at e
  have : (((play (pk n o (o + 1) first cnt) (opn rs n)).getD i 0 : Int) : Rat) = (((dsum (2 ^ (o + 1)) (shX rs n o first i) cnt : Nat) : Int) : Rat) := by
    rw [e, Rat.intCast_natCast]
    grind
  exact_mod_cast this
theorem fig_pk {rs : List Rd} (hr : ∀ r ∈ rs, r.ok) {n o first cnt : Nat} (ho : hvs rs n ≤ o) (hc : first + cnt ≤ n) (i a : Nat) :
    fig ((play (pk n o (o + 1) first cnt) (opn rs n)).getD i 0) a (o + 1) = if a < cnt then ((shN rs n o (first + a) i : Nat) : Int) else 0 := by
  rw [pk_play hr ho hc, fig_nat, dsum_digit (Nat.pow_pos (by decide)) (fun a => shX_lt hr ho first i a)]
  by_cases h : a < cnt
  · rw [if_pos h, if_pos h]
    unfold shX
    rw [if_pos (by omega)]
  · rw [if_neg h, if_neg h]
    rfl
theorem shN_inj {rs ss : List Rd} (hr : ∀ r ∈ rs, r.ok) (hs : ∀ r ∈ ss, r.ok) {n o b : Nat} (ho : hvs rs n ≤ o) (ho' : hvs ss n ≤ o) (h : b < n) (i : Nat) : shN rs n o b i = shN ss n o b i ↔ ent rs n b i = ent ss n b i := by
  have e1 := (shN_eq hr ho h i).1
  have e2 := (shN_eq hs ho' h i).1
  have p : ((2 ^ o : Nat) : Rat) ≠ 0 := by
    have : (2 ^ o : Nat) ≠ 0 := Nat.pos_iff_ne_zero.mp (Nat.pow_pos (by decide))
    exact_mod_cast this
  constructor
  · intro z
    rw [z, e2] at e1
    have : ent ss n b i * ((2 ^ o : Nat) : Rat) / ((2 ^ o : Nat) : Rat) = ent rs n b i * ((2 ^ o : Nat) : Rat) / ((2 ^ o : Nat) : Rat) := by rw [e1]
    rw [Rat.mul_div_cancel p, Rat.mul_div_cancel p] at this
    exact this.symm
  · intro z
    rw [z, ← e2] at e1
    exact_mod_cast e1
theorem findSome_none {α β : Type} {f : α → Option β} {l : List α} : l.findSome? f = none ↔ ∀ a ∈ l, f a = none := by simp
theorem findSome_first {β : Type} {f : Nat → Option β} {n : Nat} {b : β} (h : (List.range n).findSome? f = some b) : ∃ k, k < n ∧ f k = some b ∧ ∀ j, j < k → f j = none := by
  induction n with
  | zero => cases h
  | succ n ih =>
    rw [List.range_succ, List.findSome?_append] at h
    cases q : (List.range n).findSome? f with
    | some c =>
      rw [q] at h
      have h : some c = some b := h
      cases h
      obtain ⟨k, h1, h2, h3⟩ := ih q
      exact ⟨k, by omega, h2, h3⟩
    | none =>
      rw [q] at h
      have h : [n].findSome? f = some b := h
      refine ⟨n, by omega, ?_, fun j hj => findSome_none.mp q j (List.mem_range.mpr hj)⟩
      simpa using h
/-- alike up to here -/
def likeTo (rs ss : List Rd) (n b : Nat) : Prop := ∀ b', b' < b → ∀ i, i < n → ent rs n b' i = ent ss n b' i
def Like (rs ss : List Rd) (n : Nat) : Prop := likeTo rs ss n n
theorem group_none {rs ss : List Rd} (hr : ∀ r ∈ rs, r.ok) (hs : ∀ r ∈ ss, r.ok) {n k : Nat} (hk : 16 * k < n) (h : fuAt rs ss n k = none) : ∀ a, a < 16 → 16 * k + a < n → ∀ i, ent rs n (16 * k + a) i = ent ss n (16 * k + a) i := by
  intro a ha hb i
  have e : play (fuTs rs ss n k) (opn rs n) = play (fuTs rs ss n k) (opn ss n) := by
    unfold fuAt at h
    split at h
    · assumption
    · cases h
  have o1 : hvs rs n ≤ oft rs ss n := Nat.le_max_left _ _
  have o2 : hvs ss n ≤ oft rs ss n := Nat.le_max_right _ _
  have hc : 16 * k + min 16 (n - 16 * k) ≤ n := by omega
  have f1 := fig_pk hr o1 hc i a
  have f2 := fig_pk hs o2 hc i a
  unfold fuTs at e
  rw [e, f2, if_pos (by omega), if_pos (by omega)] at f1
  exact (shN_inj hr hs o1 o2 hb i).mp (by exact_mod_cast f1.symm)
theorem group_some {rs ss : List Rd} (hr : ∀ r ∈ rs, r.ok) (hs : ∀ r ∈ ss, r.ok) {n k : Nat} (hk : 16 * k < n) {d : D} (h : fuAt rs ss n k = some d) : ∃ a p, a < 16 ∧ 16 * k + a < n ∧ p < n ∧ d = .tup [.int ((16 * k + a : Nat) : Int), .int p] ∧ ent rs n (16 * k + a) p ≠ ent ss n (16 * k + a) p ∧ (∀ a', a' < a → ∀ i, i < n → ent rs n (16 * k + a') i = ent ss n (16 * k + a') i) ∧ ∀ i, i < p → ent rs n (16 * k + a) i = ent ss n (16 * k + a) i := by
  have o1 : hvs rs n ≤ oft rs ss n := Nat.le_max_left _ _
  have o2 : hvs ss n ≤ oft rs ss n := Nat.le_max_right _ _
  have hc : 16 * k + min 16 (n - 16 * k) ≤ n := by omega
  have ne : play (fuTs rs ss n k) (opn rs n) ≠ play (fuTs rs ss n k) (opn ss n) ∧ d = apD (16 * k) (ap (play (fuTs rs ss n k) (opn rs n)) (play (fuTs rs ss n k) (opn ss n)) (oft rs ss n + 1)) := by
    unfold fuAt at h
    split at h
    · cases h
    · rename_i c
      exact ⟨c, (Option.some.inj h).symm⟩
  have figs : ∀ i a, fig ((play (fuTs rs ss n k) (opn rs n)).getD i 0) a (oft rs ss n + 1) = fig ((play (fuTs rs ss n k) (opn ss n)).getD i 0) a (oft rs ss n + 1) ↔ (a < 16 → 16 * k + a < n → ent rs n (16 * k + a) i = ent ss n (16 * k + a) i) ∨ 16 ≤ a := fun i a => by
    unfold fuTs
    rw [fig_pk hr o1 hc, fig_pk hs o2 hc]
    by_cases c : a < min 16 (n - 16 * k)
    · rw [if_pos c, if_pos c]
      constructor
      · intro z
        exact .inl fun _ hb => (shN_inj hr hs o1 o2 hb i).mp (by exact_mod_cast z)
      · intro z
        rcases z with z | z
        · have := (shN_inj hr hs o1 o2 (show 16 * k + a < n by omega) i).mpr (z (by omega) (by omega))
          rw [this]
        · omega
    · rw [if_neg c, if_neg c]
      refine ⟨fun _ => ?_, fun _ => rfl⟩
      by_cases c2 : a < 16
      · exact .inl fun _ hb => absurd hb (by omega)
      · exact .inr (by omega)
  have hl : (play (fuTs rs ss n k) (opn rs n)).length = n := by rw [play_len]; exact pk_len ..
  have hl2 : (play (fuTs rs ss n k) (opn ss n)).length = n := by rw [play_len]; exact pk_len ..
  have dg : ∀ i, (play (fuTs rs ss n k) (opn rs n)).getD i 0 = ((dsum (2 ^ (oft rs ss n + 1)) (shX rs n (oft rs ss n) (16 * k) i) (min 16 (n - 16 * k)) : Nat) : Int) := fun i => pk_play hr o1 hc i
  have dg2 : ∀ i, (play (fuTs rs ss n k) (opn ss n)).getD i 0 = ((dsum (2 ^ (oft rs ss n + 1)) (shX ss n (oft rs ss n) (16 * k) i) (min 16 (n - 16 * k)) : Nat) : Int) := fun i => pk_play hs o2 hc i
  generalize play (fuTs rs ss n k) (opn rs n) = A at *
  generalize play (fuTs rs ss n k) (opn ss n) = B at *
  have in_none : ∀ a, apIn A B (oft rs ss n + 1) a = none ↔ ∀ p, p < n → fig (A.getD p 0) a (oft rs ss n + 1) = fig (B.getD p 0) a (oft rs ss n + 1) := fun a => by
    unfold apIn
    rw [findSome_none, hl]
    constructor
    · intro z p hp
      have := z p (List.mem_range.mpr hp)
      split at this
      · assumption
      · cases this
    · intro z p hp
      rw [if_pos (z p (List.mem_range.mp hp))]
  cases q : ap A B (oft rs ss n + 1) with
  | none =>
    exfalso
    refine ne.1 (List.ext_getElem? fun i => ?_)
    by_cases hi : i < n
    · have e1 : A[i]? = some (A.getD i 0) := by
        rw [List.getD_eq_getElem?_getD, List.getElem?_eq_getElem (by omega)]; rfl
      have e2 : B[i]? = some (B.getD i 0) := by
        rw [List.getD_eq_getElem?_getD, List.getElem?_eq_getElem (by omega)]; rfl
      rw [e1, e2, dg, dg2]
      have same : ∀ a, shX rs n (oft rs ss n) (16 * k) i a = shX ss n (oft rs ss n) (16 * k) i a ∨ 16 ≤ a := fun a => by
        by_cases c : a < 16
        · refine .inl ?_
          have := findSome_none.mp q a (List.mem_range.mpr c)
          have this : (apIn A B (oft rs ss n + 1) a).map (fun p => (a, p)) = none := this
          rw [Option.map_eq_none_iff] at this
          have z := (figs i a).mp ((in_none a).mp this i hi)
          unfold shX
          by_cases hb : 16 * k + a < n
          · rw [if_pos hb, if_pos hb]
            rcases z with z | z
            · exact (shN_inj hr hs o1 o2 hb i).mpr (z c hb)
            · omega
          · rw [if_neg hb, if_neg hb]
        · exact .inr (by omega)
      have : ∀ m, m ≤ 16 → dsum (2 ^ (oft rs ss n + 1)) (shX rs n (oft rs ss n) (16 * k) i) m = dsum (2 ^ (oft rs ss n + 1)) (shX ss n (oft rs ss n) (16 * k) i) m := fun m => by
        induction m with
        | zero => intro _; rfl
        | succ m ih =>
          intro hm
          show dsum _ _ m + _ * _ = dsum _ _ m + _ * _
          rw [ih (by omega), (same m).resolve_right (by omega)]
      rw [this _ (Nat.min_le_left _ _)]
    · rw [List.getElem?_eq_none (by omega), List.getElem?_eq_none (by omega)]
  | some ab =>
    rw [q] at ne
    obtain ⟨a, h1, h2, h3⟩ := findSome_first q
    have h2 : (apIn A B (oft rs ss n + 1) a).map (fun p => (a, p)) = some ab := h2
    obtain ⟨p, hp, rfl⟩ := Option.map_eq_some_iff.mp h2
    obtain ⟨p', hp1, hp2, hp3⟩ := findSome_first hp
    rw [hl] at hp1
    have fp : ¬ fig (A.getD p' 0) a (oft rs ss n + 1) = fig (B.getD p' 0) a (oft rs ss n + 1) ∧ p' = p := by
      split at hp2
      · cases hp2
      · rename_i c
        exact ⟨c, Option.some.inj hp2⟩
    obtain ⟨fp, rfl⟩ := fp
    have nn := fun z => fp ((figs p' a).mpr z)
    have hb : 16 * k + a < n := Decidable.byContradiction fun c => nn (.inl fun _ hb => absurd hb c)
    refine ⟨a, p', h1, hb, hp1, ?_, fun z => nn (.inl fun _ _ => z), fun a' ha' i hi => ?_, fun i hi => ?_⟩
    · rw [ne.2]
      show D.tup [.int ((16 * k : Nat) + (a : Nat) : Int), .int p'] = _
      rw [← Int.natCast_add]
    · have := h3 a' ha'
      have this : (apIn A B (oft rs ss n + 1) a').map (fun p => (a', p)) = none := this
      rw [Option.map_eq_none_iff] at this
      rcases (figs i a').mp ((in_none a').mp this i hi) with z | z
      · exact z (by omega) (by omega)
      · omega
    · have := hp3 i hi
      split at this
      · rename_i c
        rcases (figs i a).mp c with z | z
        · exact z h1 hb
        · omega
      · cases this
theorem fu_none {rs ss : List Rd} (hr : ∀ r ∈ rs, r.ok) (hs : ∀ r ∈ ss, r.ok) (n : Nat) : fu rs ss n = none ↔ Like rs ss n := by
  constructor
  · intro h b hb i hi
    have z := findSome_none.mp h (b / 16) (List.mem_range.mpr (by omega))
    have := group_none hr hs (by omega) z (b % 16) (by omega) (by omega) i
    have e : 16 * (b / 16) + b % 16 = b := by omega
    rwa [e] at this
  · intro h
    refine findSome_none.mpr fun k hk => ?_
    have hk := List.mem_range.mp hk
    cases q : fuAt rs ss n k with
    | none => rfl
    | some d =>
      obtain ⟨a, p, h1, h2, h3, h4, h5, _⟩ := group_some hr hs (by omega) q
      exact absurd (h _ h2 p h3) h5
theorem fu_some {rs ss : List Rd} (hr : ∀ r ∈ rs, r.ok) (hs : ∀ r ∈ ss, r.ok) {n : Nat} {d : D} (h : fu rs ss n = some d) : ∃ b p : Nat, b < n ∧ p < n ∧ d = .tup [.int b, .int p] ∧ ent rs n b p ≠ ent ss n b p ∧ likeTo rs ss n b ∧ ∀ i, i < p → ent rs n b i = ent ss n b i := by
  obtain ⟨k, h1, h2, h3⟩ := findSome_first h
  obtain ⟨a, p, a1, a2, a3, a4, a5, a6, a7⟩ := group_some hr hs (by omega) h2
  refine ⟨16 * k + a, p, a2, a3, a4, a5, fun b hb i hi => ?_, a7⟩
  by_cases c : b < 16 * k
  · have := group_none hr hs (by omega) (h3 (b / 16) (by omega)) (b % 16) (by omega) (by omega) i
    have e : 16 * (b / 16) + b % 16 = b := by omega
    rwa [e] at this
  · have := a6 (b - 16 * k) (by omega) i hi
    have e : 16 * k + (b - 16 * k) = b := by omega
    rwa [e] at this
theorem fuV_non {rs ss : List Rd} (hr : ∀ r ∈ rs, r.ok) (hs : ∀ r ∈ ss, r.ok) (n : Nat) : fuV rs ss n = .non ↔ Like rs ss n := by
  rw [← fu_none hr hs]
  unfold fuV
  cases q : fu rs ss n with
  | none => simp
  | some d =>
    obtain ⟨b, p, _, _, rfl, _⟩ := fu_some hr hs q
    simp
end PM
end
section
set_option Elab.async false
set_option linter.all false
set_option maxRecDepth 100000
set_option maxHeartbeats 2000000
set_option exponentiation.threshold 10000
namespace PM
open PySem L2
def isSam (d : D) : Bool := match d with
  | .obj c _ => decide (c = "SameAlways")
  | _ => false
theorem jp_cases (rs ss : List Rd) : jp rs ss = samO (enN rs ss) ∨ ∃ n a b, jp rs ss = unlO n a b := by
  unfold jp
  cases h : (List.range (enN rs ss)).findSome? (jpAt rs ss) with
  | none => exact .inl rfl
  | some d =>
    obtain ⟨k, _, hk⟩ := List.exists_of_findSome?_eq_some h
    unfold jpAt at hk
    split at hk
    · cases hk
      exact .inr ⟨_, _, _, rfl⟩
    · cases hk
theorem sam_not (n m : Nat) (a b : D) : isSam (unlO n a b) = false ∧ isSam (samO m) = true := ⟨rfl, rfl⟩
def cutAt (L : List Rd) (p : Nat) : List Rd := L.take p ++ L.drop (p + 1)
def tdStep (L : List Rd) (p : Nat) : List Rd := if isSam (jp L (cutAt L p)) then cutAt L p else L
/-- what is left when the places from p - 1 down have been looked at -/
def tdy (rs : List Rd) (k : Nat) : List Rd := ((List.range k).map fun i => rs.length - 1 - i).foldl tdStep rs
theorem tdy_succ (rs : List Rd) (k : Nat) : tdy rs (k + 1) = tdStep (tdy rs k) (rs.length - 1 - k) := by
  unfold tdy
  rw [List.range_succ, List.map_append, List.foldl_append]
  rfl
theorem cut_mem {L : List Rd} {p : Nat} {r : Rd} (h : r ∈ cutAt L p) : r ∈ L := by
  rcases List.mem_append.mp h with h | h
  · exact List.mem_of_mem_take h
  · exact List.mem_of_mem_drop h
theorem cut_len (L : List Rd) (p : Nat) : (cutAt L p).length ≤ L.length := by
  unfold cutAt
  rw [List.length_append, List.length_take, List.length_drop]
  omega
theorem tdy_sub (rs : List Rd) : ∀ k, (tdy rs k).length ≤ rs.length ∧ ∀ r ∈ tdy rs k, r ∈ rs
  | 0 => ⟨Nat.le_refl _, fun r h => h⟩
  | k + 1 => by
    obtain ⟨h1, h2⟩ := tdy_sub rs k
    rw [tdy_succ]
    unfold tdStep
    split
    · exact ⟨Nat.le_trans (cut_len _ _) h1, fun r h => h2 r (cut_mem h)⟩
    · exact ⟨h1, h2⟩
theorem mxd_false {rs ss : List Rd} (h : mxd rs = false) (hs : ∀ r ∈ ss, r ∈ rs) : mxd ss = false := by
  unfold mxd at *
  by_cases a : Rd.right ∈ ss
  · by_cases b : Rd.left ∈ ss
    · simp [hs _ a, hs _ b] at h
    · simp [b]
  · simp [a]
theorem cut_to (ds : List D) (p : Nat) : cutD ds none (some (p : Int)) = ds.take p := by
  unfold cutD HT.sIx
  simp only [List.drop_zero, Nat.sub_zero]
  rw [if_neg (by omega), Int.toNat_natCast]
  by_cases h : p ≤ ds.length
  · rw [Nat.min_eq_left h]
  · rw [Nat.min_eq_right (by omega), List.take_length, List.take_of_length_le (by omega)]
theorem cut_from (ds : List D) (p : Nat) : cutD ds (some ((p : Int) + 1)) none = ds.drop (p + 1) := by
  unfold cutD HT.sIx
  simp only
  rw [if_neg (by omega), show ((p : Int) + 1).toNat = p + 1 by omega]
  by_cases h : p + 1 ≤ ds.length
  · rw [Nat.min_eq_left h, List.take_of_length_le (by rw [List.length_drop]; omega)]
  · rw [Nat.min_eq_right (by omega), List.drop_length, List.drop_of_length_le (by omega)]
    simp
theorem m_tidy_ok {rs : List Rd} (hm : mxd rs = false) (hl : rs.length ≤ 12) (hr : ∀ r ∈ rs, r.ok) (hN : ∀ k, k < rs.length → enN (tdy rs k) (cutAt (tdy rs k) (rs.length - 1 - k)) ≤ 400) : Ext m_tidy_program [prog rs] (prog (tdy rs rs.length)) := fun S => by
  have mm : mxd (rs ++ rs) = false := mxd_false hm fun r h => (List.mem_append.mp h).elim id id
  have cp := fun S => m_check_pair_ok mm hl hl S
  have ln := fun S => lenO_ok rs hl S
  have c1 : (rs.length : Int) ≤ 1000000 := by omega
  have c2 : (-1000000 : Int) ≤ (rs.length : Int) := by omega
  have rv : stepD ((rs.length : Int) - 1) (-1) rs.length = (List.range rs.length).map fun (k : Nat) => D.int ((rs.length : Int) - 1 - (k : Int)) := by
    unfold stepD
    exact List.map_congr_left fun k _ => by
      congr 1
      omega
  simp -implicitDefEqProofs only [m_tidy_program, b_tidy_program]
  simp -implicitDefEqProofs [cp, ln, iRv1, c1, c2, rv]
  refine forGo_rule (G := fun x => ∃ T, toOut (x.andThen _) = .ok (prog (tdy rs rs.length)) (S ++ T)) (fun i e S' => (∃ T, S' = S ++ T) ∧ ∃ a2 a3, e = ⟨[some (prog rs), some (prog (tdy rs i)), a2, a3], none⟩) ⟨⟨[], by simp⟩, _, _, rfl⟩ ?_ ?_
  · rintro k d e S' hi ⟨⟨T, rfl⟩, a2, a3, rfl⟩
    obtain ⟨hk, rfl, q⟩ := get_map hi
    refine ⟨rfl, _, rfl, ?_⟩
    have ts := tdy_succ rs k
    obtain ⟨l1, l2⟩ := tdy_sub rs k
    have hN := hN k hk
    rw [ts]
    generalize tdy rs k = L at *
    generalize eS : S ++ T = S1 at *
    have p1 : ((rs.length : Int) - 1 - (k : Int)) = ((rs.length - 1 - k : Nat) : Int) := by omega
    rw [p1]
    generalize rs.length - 1 - k = p at *
    have okc : ∀ r ∈ cutAt L p, r.ok := fun r h => hr r (l2 r (cut_mem h))
    have lc : (cutAt L p).length ≤ 12 := Nat.le_trans (cut_len L p) (by omega)
    have mx : mxd (L ++ cutAt L p) = false := mxd_false hm fun r h => (List.mem_append.mp h).elim (l2 r) fun h => l2 r (cut_mem h)
    have mk := fun S => mk_Program (rs := cutAt L p) (x := .tup ((cutAt L p).map Rd.d)) IsSeq.tup lc okc S
    obtain ⟨T2, je⟩ := m_judge_programs_ok mx (fun r h => hr r (l2 r h)) okc (by omega) lc hN (S1 ++ [.dead])
    have ec : (cutAt L p).map Rd.d = (L.map Rd.d).take p ++ (L.map Rd.d).drop (p + 1) := by
      unfold cutAt
      rw [List.map_append, List.map_take, List.map_drop]
    have c3 : ((L.map Rd.d).take p).length + ((L.map Rd.d).drop (p + 1)).length ≤ 100000 := by
      rw [List.length_take, List.length_drop, List.length_map]
      omega
    rw [ec] at mk
    have r1 : L.map Rd.d = L.map Rd.d := rfl
    have s1 := cut_to (L.map Rd.d) p
    have s2 := cut_from (L.map Rd.d) p
    have j1 : isSam (jp L (cutAt L p)) = true → jp L (cutAt L p) = samO (enN L (cutAt L p)) := fun h => by
      rcases jp_cases L (cutAt L p) with z | ⟨n, a, b, z⟩
      · exact z
      · rw [z] at h
        cases h
    have j2 : isSam (jp L (cutAt L p)) = false → ∃ n a b, jp L (cutAt L p) = unlO n a b := fun h => by
      rcases jp_cases L (cutAt L p) with z | z
      · rw [z] at h
        cases h
      · exact z
    unfold tdStep
    generalize (L.map Rd.d).take p = X1 at *
    generalize (L.map Rd.d).drop (p + 1) = X2 at *
    cases z : isSam (jp L (cutAt L p)) with
    | true =>
      rw [j1 z] at je
      rw [if_pos rfl]
      generalize cutAt L p = M at *
      simp only [prog] at mk je
      simp -implicitDefEqProofs [prog, dSl, s1, s2, c3, mk, je, samO, tTru, m_SameAlways___bool__, b_SameAlways___bool__]
      exact ⟨T ++ ([.dead] ++ T2), by simp [← eS]⟩
    | false =>
      obtain ⟨n, a, b, z2⟩ := j2 z
      rw [z2] at je
      rw [if_neg (by decide)]
      generalize cutAt L p = M at *
      simp only [prog] at mk je
      simp -implicitDefEqProofs [prog, dSl, s1, s2, c3, mk, je, unlO, tTru, m_FirstUnlike___bool__, b_FirstUnlike___bool__]
      exact ⟨T ++ ([.dead] ++ T2), by simp [← eS]⟩
  · rintro e S' ⟨⟨T, rfl⟩, a2, a3, rfl⟩
    refine ⟨rfl, T, ?_⟩
    simp -implicitDefEqProofs
end PM
end
section
set_option Elab.async false
set_option linter.all false
set_option maxRecDepth 100000
set_option maxHeartbeats 2000000
namespace PM
open PySem L2
theorem jpAt_none {rs ss : List Rd} (hr : ∀ r ∈ rs, r.ok) (hs : ∀ r ∈ ss, r.ok) (k : Nat) : jpAt rs ss k = none ↔ Like rs ss (k + 1) := by
  rw [← fuV_non hr hs]
  unfold jpAt
  rcases fuV_cases rs ss (k + 1) with hf | ⟨a, b, hf⟩
  · rw [hf]
    simp
  · rw [hf]
    simp
/-- always the same, as it is judged -/
theorem jp_sam {rs ss : List Rd} (hr : ∀ r ∈ rs, r.ok) (hs : ∀ r ∈ ss, r.ok) : jp rs ss = samO (enN rs ss) ↔ ∀ n, 1 ≤ n → n ≤ enN rs ss → Like rs ss n := by
  constructor
  · intro h n h1 h2
    have q : (List.range (enN rs ss)).findSome? (jpAt rs ss) = none := by
      cases q : (List.range (enN rs ss)).findSome? (jpAt rs ss) with
      | none => rfl
      | some d =>
        exfalso
        have hj2 : jp rs ss = d := by unfold PM.jp; rw [q]; rfl
        obtain ⟨k, _, hk, _⟩ := findSome_first q
        rw [h] at hj2
        subst hj2
        unfold jpAt at hk
        rcases fuV_cases rs ss (k + 1) with hf | ⟨a, b, hf⟩
        · rw [hf] at hk
          cases hk
        · rw [hf] at hk
          simp [unlO, samO] at hk
    have z := (jpAt_none hr hs (n - 1)).mp (findSome_none.mp q (n - 1) (List.mem_range.mpr (by omega)))
    rwa [show n - 1 + 1 = n by omega] at z
  · intro h
    have q : (List.range (enN rs ss)).findSome? (jpAt rs ss) = none := findSome_none.mpr fun k hk => (jpAt_none hr hs k).mpr (h (k + 1) (by omega) (by have := List.mem_range.mp hk; omega))
    unfold PM.jp
    rw [q]
    rfl
/-- .. or the first number of basins, the first basin, the first place -/
theorem jp_unl {rs ss : List Rd} (hr : ∀ r ∈ rs, r.ok) (hs : ∀ r ∈ ss, r.ok) (h : jp rs ss ≠ samO (enN rs ss)) : ∃ n b p : Nat, jp rs ss = unlO n (.int b) (.int p) ∧ 1 ≤ n ∧ n ≤ enN rs ss ∧ b < n ∧ p < n ∧ ent rs n b p ≠ ent ss n b p ∧ (∀ m, 1 ≤ m → m < n → Like rs ss m) ∧ likeTo rs ss n b ∧ ∀ i, i < p → ent rs n b i = ent ss n b i := by
  cases q : (List.range (enN rs ss)).findSome? (jpAt rs ss) with
  | none =>
    exfalso
    apply h
    unfold PM.jp
    rw [q]
    rfl
  | some d =>
    have hj : jp rs ss = d := by unfold PM.jp; rw [q]; rfl
    obtain ⟨k, k1, k2, k3⟩ := findSome_first q
    unfold jpAt at k2
    cases qf : fu rs ss (k + 1) with
    | none =>
      have : fuV rs ss (k + 1) = .non := by unfold fuV; rw [qf]; rfl
      rw [this] at k2
      cases k2
    | some e =>
      obtain ⟨b, p, b1, p1, rfl, ne, l1, l2⟩ := fu_some hr hs qf
      have : fuV rs ss (k + 1) = .tup [.int b, .int p] := by unfold fuV; rw [qf]; rfl
      rw [this] at k2
      have k2 : some (unlO (k + 1) (.int b) (.int p)) = some d := k2
      cases k2
      exact ⟨k + 1, b, p, hj, by omega, by omega, b1, p1, ne, fun m m1 m2 => by
        have := (jpAt_none hr hs (m - 1)).mp (k3 (m - 1) (by omega))
        rwa [show m - 1 + 1 = m by omega] at this, l1, l2⟩
theorem isSam_iff {rs ss : List Rd} (hr : ∀ r ∈ rs, r.ok) (hs : ∀ r ∈ ss, r.ok) : isSam (jp rs ss) = true ↔ jp rs ss = samO (enN rs ss) := by
  rcases jp_cases rs ss with h | ⟨n, a, b, h⟩
  · rw [h]
    simp [isSam, samO]
  · rw [h]
    have : isSam (unlO n a b) = false := (sam_not n 0 a b).1
    rw [this]
    constructor
    · intro z; cases z
    · intro z
      simp [unlO, samO] at z
theorem avg_fix {f : Nat → Rat} {w : Int} (h : f (w - 1).toNat = f w.toNat) : avgF f w = f := by
  funext i
  unfold avgF
  split
  · rename_i c
    rcases c with rfl | rfl <;> grind
  · rfl
theorem ply_fix {f : Nat → Rat} : ∀ (ws : List Int), (∀ w ∈ ws, f (w - 1).toNat = f w.toNat) → plyF f ws = f
  | [], _ => rfl
  | w :: ws, h => by
    rw [plyF_cons, avg_fix (h w (List.mem_cons_self ..)), ply_fix ws fun x hx => h x (List.mem_cons_of_mem _ hx)]
theorem ply_out {i : Nat} : ∀ (ws : List Int) (f : Nat → Rat), (∀ w ∈ ws, ¬ (i = (w - 1).toNat ∨ i = w.toNat)) → plyF f ws i = f i
  | [], _, _ => rfl
  | w :: ws, f, h => by
    rw [plyF_cons, ply_out ws _ fun x hx => h x (List.mem_cons_of_mem _ hx)]
    unfold avgF
    rw [if_neg (h w (List.mem_cons_self ..))]
theorem apart_even : ∀ (ws : List Int) (f : Nat → Rat), (∀ w ∈ ws, 1 ≤ w) → ws.Pairwise (fun x y => x + 2 ≤ y) → ∀ w ∈ ws, plyF f ws (w - 1).toNat = plyF f ws w.toNat
  | [], _, _, _, _, h => by cases h
  | v :: ws, f, h1, h2, w, hw => by
    rw [List.pairwise_cons] at h2
    rw [plyF_cons]
    rcases List.mem_cons.mp hw with rfl | hw
    · have v1 := h1 w (List.mem_cons_self ..)
      have o : ∀ x ∈ ws, ¬ ((w - 1).toNat = (x - 1).toNat ∨ (w - 1).toNat = x.toNat) ∧ ¬ (w.toNat = (x - 1).toNat ∨ w.toNat = x.toNat) := fun x hx => by
        have := h2.1 x hx
        constructor <;> omega
      rw [ply_out ws _ fun x hx => (o x hx).1, ply_out ws _ fun x hx => (o x hx).2]
      unfold avgF
      rw [if_pos (.inl rfl), if_pos (.inr rfl)]
    · exact apart_even ws _ (fun x hx => h1 x (List.mem_cons_of_mem _ hx)) h2.2 w hw
theorem ev_twice {a b : Int} (ha : 2 ≤ a) (n : Int) (f : Nat → Rat) : plyF (plyF f (wrs (.ev a b) n)) (wrs (.ev a b) n) = plyF f (wrs (.ev a b) n) :=
  ply_fix _ fun w hw => apart_even _ f (fun w hw => (wrs_in hw).1) (ev_pw n a b ha) w hw
theorem opn_app (rs ss : List Rd) (n : Int) : opn (rs ++ ss) n = opn rs n ++ opn ss n := List.flatMap_append
theorem opn_cons (r : Rd) (rs : List Rd) (n : Int) : opn (r :: rs) n = wrs r n ++ opn rs n := rfl
theorem like_of {rs ss : List Rd} {n : Nat} (h : ∀ f, plyF f (opn rs n) = plyF f (opn ss n)) : Like rs ss n := fun b _ i _ => by
  unfold ent
  rw [h]
theorem dup_ply {a b : Int} (ha : 2 ≤ a) (X Y : List Rd) (n : Int) (f : Nat → Rat) : plyF f (opn (X ++ .ev a b :: .ev a b :: Y) n) = plyF f (opn (X ++ .ev a b :: Y) n) := by
  rw [opn_app, opn_app, opn_cons, opn_cons, plyF_app, plyF_app, plyF_app, plyF_app, plyF_app, ev_twice ha]
end PM
end
section
set_option Elab.async false
set_option linter.all false
set_option maxRecDepth 100000
set_option maxHeartbeats 2000000
namespace PM
open PySem L2
abbrev Pd := Nat → Bool
/-- weirs from 1 to m that p opens -/
def rd (p : Pd) : Nat → List Int
  | 0 => []
  | m + 1 => rd p m ++ if p (m + 1) then [((m + 1 : Nat) : Int)] else []
/-- what is done at time d -/
def blk : List Pd → Nat → List Int
  | [], _ => []
  | _ :: _, 0 => []
  | p :: ps, d + 1 => (if p (d + 1) then [((d + 1 : Nat) : Int)] else []) ++ blk ps d
/-- up to time d -/
def runD (ps : List Pd) : Nat → List Int
  | 0 => []
  | d + 1 => runD ps d ++ blk ps (d + 1)
theorem rd_mem {p : Pd} {w : Int} : ∀ {m : Nat}, w ∈ rd p m → 1 ≤ w ∧ w ≤ m
  | 0, h => by cases h
  | m + 1, h => by
    rcases List.mem_append.mp h with h | h
    · have := rd_mem h
      omega
    · split at h
      · have := List.mem_singleton.mp h
        omega
      · cases h
theorem blk_mem {w : Int} : ∀ {ps : List Pd} {d : Nat}, w ∈ blk ps d → 1 ≤ w ∧ w ≤ d ∧ (d : Int) + 1 ≤ w + ps.length
  | [], _, h => by cases h
  | _ :: _, 0, h => by cases h
  | p :: ps, d + 1, h => by
    rcases List.mem_append.mp h with h | h
    · split at h
      · have := List.mem_singleton.mp h
        rw [List.length_cons]
        omega
      · cases h
    · have := blk_mem h
      rw [List.length_cons]
      omega
theorem blk_snoc (p : Pd) : ∀ (ps : List Pd) (d : Nat), blk (ps ++ [p]) d = blk ps d ++ (if ps.length < d ∧ p (d - ps.length) = true then [((d - ps.length : Nat) : Int)] else [])
  | [], 0 => by
    show [] = [] ++ _
    rw [if_neg (by simp)]
    rfl
  | [], d + 1 => by
    show (if p (d + 1) = true then [((d + 1 : Nat) : Int)] else []) ++ blk [] d = [] ++ _
    by_cases h : p (d + 1) = true
    · rw [if_pos h, if_pos ⟨by simp, by simpa using h⟩]
      rfl
    · rw [if_neg h, if_neg fun z => h (by simpa using z.2)]
      rfl
  | q :: ps, 0 => by
    show [] = [] ++ _
    rw [if_neg (by simp)]
    rfl
  | q :: ps, d + 1 => by
    show _ ++ blk (ps ++ [p]) d = (_ ++ blk ps d) ++ _
    rw [blk_snoc p ps d, List.append_assoc, List.length_cons, Nat.add_sub_add_right]
    congr 2
    by_cases h : ps.length < d ∧ p (d - ps.length) = true
    · rw [if_pos h, if_pos ⟨by omega, h.2⟩]
    · rw [if_neg h, if_neg fun z => h ⟨by omega, z.2⟩]
theorem plyF_swap : ∀ (A B : List Int) (f : Nat → Rat), (∀ a ∈ A, 1 ≤ a) → (∀ a ∈ A, ∀ b ∈ B, a + 2 ≤ b) → plyF f (A ++ B) = plyF f (B ++ A)
  | [], B, f, _, _ => by rw [List.nil_append, List.append_nil]
  | a :: A, B, f, h1, h2 => by
    have ih := plyF_swap A B (avgF f a) (fun x hx => h1 x (List.mem_cons_of_mem _ hx)) fun x hx => h2 x (List.mem_cons_of_mem _ hx)
    rw [List.cons_append, plyF_cons, ih, plyF_app]
    show plyF (plyF f (a :: B)) A = _
    rw [plyF_late B f a (h1 a (List.mem_cons_self ..)) (h2 a (List.mem_cons_self ..)), ← plyF_app, List.append_assoc]
    rfl
theorem run_snoc (p : Pd) (ps : List Pd) (f : Nat → Rat) : ∀ D : Nat, plyF f (runD ps D ++ rd p (D - ps.length)) = plyF f (runD (ps ++ [p]) D)
  | 0 => by
    rw [Nat.zero_sub]
    rfl
  | D + 1 => by
    have ih := run_snoc p ps f D
    show plyF f ((runD ps D ++ blk ps (D + 1)) ++ rd p (D + 1 - ps.length)) = plyF f (runD (ps ++ [p]) D ++ blk (ps ++ [p]) (D + 1))
    rw [plyF_app f (runD (ps ++ [p]) D), ← ih, blk_snoc]
    by_cases h : ps.length ≤ D
    · have e : D + 1 - ps.length = (D - ps.length) + 1 := by omega
      rw [e]
      show plyF f ((runD ps D ++ blk ps (D + 1)) ++ (rd p (D - ps.length) ++ if p (D - ps.length + 1) = true then [((D - ps.length + 1 : Nat) : Int)] else [])) = _
      have sw := plyF_swap (rd p (D - ps.length)) (blk ps (D + 1)) (plyF f (runD ps D)) (fun a ha => (rd_mem ha).1) fun a ha b hb => by
        have h1 := rd_mem ha
        have h2 := blk_mem hb
        omega
      rw [← List.append_assoc, plyF_app, List.append_assoc, plyF_app f (runD ps D), ← sw, plyF_app _ (rd p (D - ps.length)), ← plyF_app f (runD ps D), ← plyF_app _ (blk ps (D + 1))]
      congr 2
      by_cases c : p (D - ps.length + 1) = true
      · rw [if_pos c, if_pos ⟨by omega, c⟩]
      · rw [if_neg c, if_neg fun z => c z.2]
    · have e1 : D + 1 - ps.length = 0 := by omega
      have e2 : D - ps.length = 0 := by omega
      rw [e1, e2, if_neg (by omega)]
      show plyF f ((runD ps D ++ blk ps (D + 1)) ++ []) = plyF (plyF f (runD ps D ++ [])) (blk ps (D + 1) ++ [])
      rw [List.append_nil, List.append_nil, List.append_nil, plyF_app]
theorem rd_cap {p : Pd} {m : Nat} (h : ∀ w, m < w → p w = false) : ∀ k, m ≤ k → rd p k = rd p m
  | 0, hk => by
    obtain rfl : m = 0 := by omega
    rfl
  | k + 1, hk => by
    by_cases e : m = k + 1
    · rw [e]
    · show rd p k ++ _ = _
      rw [h (k + 1) (by omega), rd_cap h k (by omega)]
      simp
/-- all rounds, one behind the other, are done as well by diagonals -/
theorem rounds_run {m : Nat} (f : Nat → Rat) (ps : List Pd) : (∀ p ∈ ps, ∀ w, m < w → p w = false) → ∀ D, m + ps.length ≤ D → plyF f (ps.flatMap fun p => rd p m) = plyF f (runD ps D) := by
  refine snoc_ind (P := fun ps => (∀ p ∈ ps, ∀ w, m < w → p w = false) → ∀ D, m + ps.length ≤ D → plyF f (ps.flatMap fun p => rd p m) = plyF f (runD ps D)) (fun _ D _ => ?_) (fun ps p ih hp D hD => ?_) ps
  · have : ∀ D, runD [] D = [] := fun D => by
      induction D with
      | zero => rfl
      | succ D ih => show runD [] D ++ [] = []; rw [ih]; rfl
    rw [this]
    rfl
  · rw [List.length_append] at hD
    have hD : m + ps.length + 1 ≤ D := by simpa [Nat.add_assoc] using hD
    rw [List.flatMap_append, plyF_app, ih (fun q hq => hp q (by simp [hq])) D (by omega), ← run_snoc]
    rw [rd_cap (hp p (by simp)) (D - ps.length) (by omega), plyF_app]
    show plyF _ (rd p m ++ []) = _
    rw [List.append_nil]
def prdOf (r : Rd) : Pd := fun w => r.opens (w : Int)
def cap (m : Nat) (p : Pd) : Pd := fun w => decide (w ≤ m) && p w
theorem rng_snoc (m : Nat) : rng 1 ((m + 1 : Nat) + 1 : Int) = rng 1 ((m : Int) + 1) ++ [((m + 1 : Nat) : Int)] := by
  unfold rng
  have e1 : (((m + 1 : Nat) + 1 : Int) - 1).toNat = m + 1 := by omega
  have e2 : ((m : Int) + 1 - 1).toNat = m := by omega
  rw [e1, e2, List.range_succ, List.map_append]
  congr 1
  show [(1 : Int) + (m : Int)] = _
  rw [Int.natCast_add]
  congr 1
  omega
theorem rd_eq {r : Rd} (hr : r ≠ .left) (M : Nat) : ∀ m : Nat, m ≤ M → rd (cap M (prdOf r)) m = wrs r ((m : Int) + 1) := by
  have filt : ∀ n, wrs r n = (rng 1 n).filter fun w => r.opens w := fun n => by
    cases r with
    | right => exact (List.filter_eq_self.mpr fun _ _ => rfl).symm
    | left => exact absurd rfl hr
    | ev a b => rfl
  intro m
  induction m with
  | zero =>
    intro _
    rw [filt]
    have : rng 1 ((0 : Nat) + 1 : Int) = [] := by unfold rng; simp
    rw [this]
    rfl
  | succ m ih =>
    intro hm
    rw [filt, rng_snoc, List.filter_append, ← filt]
    show rd _ m ++ _ = _
    rw [ih (by omega)]
    congr 1
    have : cap M (prdOf r) (m + 1) = r.opens ((m + 1 : Nat) : Int) := by
      unfold cap prdOf
      rw [decide_eq_true hm]
      rfl
    rw [this]
    by_cases c : r.opens ((m + 1 : Nat) : Int) = true
    · rw [if_pos c, List.filter_cons_of_pos c]
      rfl
    · rw [if_neg c, List.filter_cons_of_neg c]
      rfl
theorem rd_idle : ∀ m, rd (fun _ => false) m = []
  | 0 => rfl
  | m + 1 => by
    show rd _ m ++ _ = _
    rw [rd_idle m]
    rfl
/-- a program's rounds, and some that do nothing -/
def padP (rs : List Rd) (L : Nat) : List Pd := rs.map prdOf ++ List.replicate (L - rs.length) (fun _ => false)
theorem padP_len {rs : List Rd} {L : Nat} (h : rs.length ≤ L) : (padP rs L).length = L := by
  unfold padP
  rw [List.length_append, List.length_map, List.length_replicate]
  omega
theorem opn_run {rs : List Rd} (hr : ∀ r ∈ rs, r ≠ .left) {L : Nat} (hl : rs.length ≤ L) (m : Nat) (f : Nat → Rat) {D : Nat} (hD : m + L ≤ D) : plyF f (opn rs ((m + 1 : Nat) : Int)) = plyF f (runD ((padP rs L).map (cap m)) D) := by
  have e : ((padP rs L).map (cap m)).flatMap (fun p => rd p m) = opn rs ((m + 1 : Nat) : Int) := by
    unfold padP
    rw [List.map_append, List.flatMap_append]
    have z : (List.map (cap m) (List.replicate (L - rs.length) (fun _ => false))).flatMap (fun p => rd p m) = [] := by
      rw [List.map_replicate]
      have : cap m (fun _ => false) = fun _ => false := by
        funext w
        unfold cap
        exact Bool.and_false _
      rw [this]
      induction L - rs.length with
      | zero => rfl
      | succ k ih =>
        rw [List.replicate_succ, List.flatMap_cons, rd_idle, ih]
        rfl
    rw [z, List.append_nil]
    unfold opn
    rw [List.flatMap_def, List.flatMap_def, List.map_map, List.map_map]
    congr 1
    refine List.map_congr_left fun r h => ?_
    exact rd_eq (hr r h) m m (Nat.le_refl _)
  rw [← e]
  refine rounds_run f _ (fun p hp w hw => ?_) D (by rw [List.length_map, padP_len hl]; exact hD)
  obtain ⟨q, _, rfl⟩ := List.mem_map.mp hp
  unfold cap
  rw [decide_eq_false (by omega)]
  rfl
end PM
end
section
set_option Elab.async false
set_option linter.all false
set_option maxRecDepth 100000
set_option maxHeartbeats 2000000
namespace PM
open PySem L2
/-- two rows that go on by plays: what is alike so often stays alike -/
theorem comb_on {s : Nat} {W : List Int} {g : Nat → Nat → Rat} (hg : ∀ k, g (k + 1) = fun i => plyF (g k) W (i + s)) {K : Nat} {c : Nat → Rat} (h : g K = fun i => sm K fun a => c a * g a i) : ∀ t, g (K + t) = fun i => sm K fun a => c a * g (a + t) i
  | 0 => h
  | t + 1 => by
    show g (K + t + 1) = _
    rw [hg, comb_on hg h t, plyF_sm]
    funext i
    refine sm_congr fun a _ => ?_
    show _ = c a * g (a + t + 1) i
    rw [hg]
theorem two_rec {L s : Nat} {W W' FL FL' : List Int} {g h : Nat → Nat → Rat} (hg : ∀ k, g (k + 1) = fun i => plyF (g k) W (i + s)) (hh : ∀ k, h (k + 1) = fun i => plyF (h k) W' (i + s)) (sg : ∀ k i, L ≤ i → g k i = 0) (sh : ∀ k i, L ≤ i → h k i = 0) (j : Nat)
    (h0 : ∀ k, k < 2 * L → plyF (g k) FL j = plyF (h k) FL' j) : ∀ k, plyF (g k) FL j = plyF (h k) FL' j := by
  obtain ⟨K, hK, c, hc⟩ := dep (2 * L) fun k j => if j < L then g k j else h k (j - L)
  have gK : g K = fun i => sm K fun a => c a * g a i := funext fun i => by
    by_cases e : i < L
    · have := hc i (by omega)
      simp only [if_pos e] at this
      exact this
    · rw [sg K i (by omega), sm_null fun a _ => by rw [sg a i (by omega)]; grind]
  have hK' : h K = fun i => sm K fun a => c a * h a i := funext fun i => by
    by_cases e : i < L
    · have := hc (i + L) (by omega)
      simp only [if_neg (show ¬ i + L < L by omega), Nat.add_sub_cancel] at this
      exact this
    · rw [sh K i (by omega), sm_null fun a _ => by rw [sh a i (by omega)]; grind]
  intro k
  induction k using Nat.strongRecOn with
  | _ k ih =>
    by_cases e : k < 2 * L
    · exact h0 k e
    · have e1 : k = K + (k - K) := by omega
      rw [e1, comb_on hg gK, comb_on hh hK', plyF_sm, plyF_sm]
      refine sm_congr fun a ha => ?_
      rw [ih (a + (k - K)) (by omega)]
end PM
end
section
set_option Elab.async false
set_option linter.all false
set_option maxRecDepth 100000
set_option maxHeartbeats 2000000
namespace PM
open PySem L2
structure Prg (ps : List Pd) (L s : Nat) : Prop where
  len : ps.length = L
  per : ∀ p ∈ ps, ∀ w, p (w + s) = p w
def up (t : Nat) (ws : List Int) : List Int := ws.map fun w => w + (t : Int)
def bkz (ps : List Pd) (m : Nat) : Nat → List Int
  | 0 => []
  | k + 1 => bkz ps m k ++ blk ps (m + k + 1)
theorem run_bks (ps : List Pd) (m : Nat) : ∀ k, runD ps (m + k) = runD ps m ++ bkz ps m k
  | 0 => by rw [Nat.add_zero]; show _ = _ ++ []; rw [List.append_nil]
  | k + 1 => by
    show runD ps (m + k) ++ blk ps (m + k + 1) = runD ps m ++ (bkz ps m k ++ blk ps (m + k + 1))
    rw [run_bks ps m k, List.append_assoc]
theorem bks_mem {ps : List Pd} {m : Nat} {w : Int} : ∀ {k : Nat}, w ∈ bkz ps m k → 1 ≤ w ∧ (m : Int) + 2 ≤ w + ps.length ∧ w ≤ m + k
  | 0, h => by cases h
  | k + 1, h => by
    rcases List.mem_append.mp h with h | h
    · have := bks_mem h
      omega
    · have := blk_mem h
      omega
theorem run_mem {ps : List Pd} {w : Int} {m : Nat} (h : w ∈ runD ps m) : 1 ≤ w ∧ w ≤ m := by
  induction m with
  | zero => cases h
  | succ m ih =>
    rcases List.mem_append.mp h with h | h
    · have := ih h
      omega
    · have := blk_mem h
      omega
theorem blk_up {φ ψ : Pd → Pd} {s : Nat} : ∀ {ps : List Pd}, (∀ p ∈ ps, ∀ w, ψ p (w + s) = φ p w) → ∀ {d : Nat}, ps.length ≤ d → blk (ps.map ψ) (d + s) = up s (blk (ps.map φ) d)
  | [], _, _, _ => rfl
  | p :: ps, h, 0, hd => by simp at hd
  | p :: ps, h, d + 1, hd => by
    have ih := blk_up (φ := φ) (ψ := ψ) (s := s) (ps := ps) (fun q hq => h q (List.mem_cons_of_mem _ hq)) (d := d) (by simpa using hd)
    rw [show d + 1 + s = (d + s) + 1 by omega]
    show (if ψ p (d + s + 1) = true then [((d + s + 1 : Nat) : Int)] else []) ++ blk (ps.map ψ) (d + s) = up s ((if φ p (d + 1) = true then [((d + 1 : Nat) : Int)] else []) ++ blk (ps.map φ) d)
    rw [ih]
    unfold up
    rw [List.map_append]
    congr 1
    have e := h p (List.mem_cons_self ..) (d + 1)
    rw [show d + 1 + s = d + s + 1 by omega] at e
    rw [e]
    by_cases c : φ p (d + 1) = true
    · rw [if_pos c, if_pos c]
      show [((d + s + 1 : Nat) : Int)] = [((d + 1 : Nat) : Int) + (s : Int)]
      congr 1
      omega
    · rw [if_neg c, if_neg c]
      rfl
theorem bks_up {φ ψ : Pd → Pd} {s : Nat} {ps : List Pd} (h : ∀ p ∈ ps, ∀ w, ψ p (w + s) = φ p w) {m : Nat} (hm : ps.length ≤ m + 1) : ∀ k, bkz (ps.map ψ) (m + s) k = up s (bkz (ps.map φ) m k)
  | 0 => rfl
  | k + 1 => by
    show bkz (ps.map ψ) (m + s) k ++ blk (ps.map ψ) (m + s + k + 1) = up s (bkz (ps.map φ) m k ++ blk (ps.map φ) (m + k + 1))
    rw [bks_up h hm k, show m + s + k + 1 = (m + k + 1) + s by omega, blk_up h (by omega)]
    unfold up
    rw [List.map_append]
theorem plyF_up (t : Nat) : ∀ (ws : List Int) (f : Nat → Rat), (∀ w ∈ ws, 1 ≤ w) → ∀ i, plyF f (up t ws) (i + t) = plyF (fun i => f (i + t)) ws i
  | [], _, _, _ => rfl
  | w :: ws, f, h, i => by
    have h1 := h w (List.mem_cons_self ..)
    show plyF (avgF f (w + (t : Int))) (up t ws) (i + t) = plyF (avgF (fun i => f (i + t)) w) ws i
    rw [plyF_up t ws _ fun x hx => h x (List.mem_cons_of_mem _ hx)]
    congr 1
    funext i
    unfold avgF
    have e1 : (w + (t : Int) - 1).toNat = (w - 1).toNat + t := by omega
    have e2 : (w + (t : Int)).toNat = w.toNat + t := by omega
    rw [e1, e2]
    by_cases c : i = (w - 1).toNat ∨ i = w.toNat
    · rw [if_pos c, if_pos (by omega)]
    · rw [if_neg c, if_neg (by omega)]
/-- weirs, told from a basin on -/
def dn (t : Nat) (ws : List Int) : List Int := ws.map fun w => w - (t : Int)
theorem up_dn (t : Nat) (ws : List Int) : up t (dn t ws) = ws := by
  unfold up dn
  rw [List.map_map]
  refine (List.map_congr_left fun w _ => ?_).trans (List.map_id ws)
  show w - (t : Int) + (t : Int) = w
  omega
theorem dn_up (t s : Nat) (ws : List Int) : dn (t + s) (up s ws) = dn t ws := by
  unfold up dn
  rw [List.map_map]
  refine List.map_congr_left fun w _ => ?_
  show w + (s : Int) - ((t + s : Nat) : Int) = _
  omega
def Fd (ps : List Pd) (b D : Nat) : Nat → Rat := plyF (eF b) (runD ps D)
theorem Fd_on (ps : List Pd) (b m k : Nat) : Fd ps b (m + k) = plyF (Fd ps b m) (bkz ps m k) := by
  unfold Fd
  rw [run_bks, plyF_app]
theorem Fd_far {ps : List Pd} {b m i : Nat} (hb : b ≤ m) (hi : m < i) : Fd ps b m i = 0 := by
  unfold Fd
  rw [ply_out _ _ fun w hw => by have := run_mem hw; omega]
  unfold eF
  rw [if_neg (by omega)]
section
variable {ps : List Pd} {L s : Nat} (P : Prg ps L s)
include P
theorem Fd_old {b m k i : Nat} (hi : i + L < m + 1) : Fd ps b (m + k) i = Fd ps b m i := by
  rw [Fd_on, ply_out _ _ fun w hw => by
    have := bks_mem hw
    rw [P.len] at this
    omega]
/-- the window: L basins up to m -/
def Gd (ps : List Pd) (L b m : Nat) : Nat → Rat := fun i => Fd ps b m (i + (m + 1 - L))
theorem Gd_far {b m : Nat} (hb : b ≤ m) (hL : L ≤ m + 1) (i : Nat) (hi : L ≤ i) : Gd ps L b m i = 0 := Fd_far hb (by omega)
/-- what a list of weirs behind m does, told from the window's first basin on -/
theorem win_ply {b m : Nat} (hL : L ≤ m + 1) (ws : List Int) (hw : ∀ w ∈ ws, (m : Int) + 2 ≤ w + L) (j : Nat) : plyF (Fd ps b m) ws (j + (m + 1 - L)) = plyF (Gd ps L b m) (dn (m + 1 - L) ws) j := by
  have := plyF_up (m + 1 - L) (dn (m + 1 - L) ws) (Fd ps b m) (fun w h => by
    obtain ⟨x, hx, rfl⟩ := List.mem_map.mp h
    have := hw x hx
    omega) j
  rw [up_dn] at this
  exact this
theorem map_id' : ps.map (fun p => p) = ps := List.map_id ps
theorem bks_per {m : Nat} (hL : L ≤ m + 1) (k : Nat) : bkz ps (m + s) k = up s (bkz ps m k) := by
  have := bks_up (φ := fun p => p) (ψ := fun p => p) P.per (m := m) (by rw [P.len]; exact hL) k
  rwa [map_id' P] at this
theorem cap_per {m : Nat} (hL : L ≤ m + 1) (k : Nat) : bkz (ps.map (cap (m + s))) (m + s) k = up s (bkz (ps.map (cap m)) m k) := by
  refine bks_up (fun p hp w => ?_) (by rw [P.len]; exact hL) k
  unfold cap
  rw [P.per p hp]
  congr 1
  by_cases c : w ≤ m
  · rw [decide_eq_true c, decide_eq_true (by omega)]
  · rw [decide_eq_false c, decide_eq_false (by omega)]
theorem per_k {m : Nat} (k : Nat) : ∀ p ∈ ps, ∀ w, p (w + k * s) = p w := by
  induction k with
  | zero => intro p hp w; rw [Nat.zero_mul]; rfl
  | succ k ih =>
    intro p hp w
    rw [Nat.succ_mul, ← Nat.add_assoc, P.per p hp, ih p hp]
theorem prg_k (k : Nat) : Prg ps L (k * s) := ⟨P.len, per_k P (m := 0) k⟩
/-- windows go on -/
theorem Gd_on {b m : Nat} (hL : L ≤ m + 1) (k : Nat) : Gd ps L b (m + (k + 1) * s) = fun i => plyF (Gd ps L b (m + k * s)) (dn (m + 1 - L) (bkz ps m s)) (i + s) := by
  funext i
  have e : m + (k + 1) * s = (m + k * s) + s := by rw [Nat.succ_mul]; omega
  have hL2 : L ≤ m + k * s + 1 := by omega
  unfold Gd
  rw [e, Fd_on]
  have e2 : i + (m + k * s + s + 1 - L) = (i + s) + (m + k * s + 1 - L) := by omega
  rw [e2, win_ply P hL2 _ fun w hw => by
    have := bks_mem hw
    rw [P.len] at this
    omega]
  have e3 : bkz ps (m + k * s) s = up (k * s) (bkz ps m s) := bks_per (prg_k P k) hL s
  have e4 : m + k * s + 1 - L = (m + 1 - L) + k * s := by omega
  rw [e3, e4, dn_up]
  unfold Gd
  rw [← e4]
/-- the next basin that stays -/
theorem mid_eq {b m : Nat} (hL : L ≤ m + 1) (k : Nat) : Fd ps b (m + k * s + 1) (m + k * s + 1 - L) = plyF (Gd ps L b (m + k * s)) (dn (m + 1 - L) (bkz ps m 1)) 0 := by
  have hL2 : L ≤ m + k * s + 1 := by omega
  rw [Fd_on]
  have := win_ply P (b := b) hL2 (bkz ps (m + k * s) 1) (fun w hw => by
    have := bks_mem hw
    rw [P.len] at this
    omega) 0
  rw [Nat.zero_add] at this
  rw [this, show bkz ps (m + k * s) 1 = up (k * s) (bkz ps m 1) from bks_per (prg_k P k) hL 1]
  have e4 : m + k * s + 1 - L = (m + 1 - L) + k * s := by omega
  rw [e4, dn_up]
/-- what stands at the end, for m + 1 basins -/
def Ed (ps : List Pd) (L m b : Nat) : Nat → Rat := plyF (eF b) (runD (ps.map (cap m)) (m + L))
theorem cap_run {m : Nat} : ∀ D, D ≤ m → runD (ps.map (cap m)) D = runD ps D := by
  clear P
  have bl : ∀ (ps : List Pd) D, D ≤ m → blk (ps.map (cap m)) D = blk ps D := by
    intro ps
    induction ps with
    | nil => intros; rfl
    | cons p ps ih =>
      intro D hD
      cases D with
      | zero => rfl
      | succ D =>
        show (if cap m p (D + 1) = true then _ else _) ++ blk (ps.map (cap m)) D = (if p (D + 1) = true then _ else _) ++ blk ps D
        rw [ih D (by omega)]
        have : cap m p (D + 1) = p (D + 1) := by
          unfold cap
          rw [decide_eq_true hD]
          rfl
        rw [this]
  intro D
  induction D with
  | zero => intros; rfl
  | succ D ih =>
    intro hD
    show runD (ps.map (cap m)) D ++ _ = runD ps D ++ _
    rw [ih (by omega), bl ps (D + 1) hD]
theorem Ed_eq (m b : Nat) : Ed ps L m b = plyF (Fd ps b m) (bkz (ps.map (cap m)) m L) := by
  unfold Ed Fd
  rw [run_bks, cap_run P m (Nat.le_refl _), plyF_app]
theorem Ed_low {m b i : Nat} (hi : i + L < m + 1) : Ed ps L m b i = Fd ps b m i := by
  rw [Ed_eq P, ply_out _ _ fun w hw => by
    have := bks_mem hw
    rw [List.length_map, P.len] at this
    omega]
theorem Ed_top {m b : Nat} (hL : L ≤ m + 1) (k j : Nat) : Ed ps L (m + k * s) b (j + (m + k * s + 1 - L)) = plyF (Gd ps L b (m + k * s)) (dn (m + 1 - L) (bkz (ps.map (cap m)) m L)) j := by
  have hL2 : L ≤ m + k * s + 1 := by omega
  rw [Ed_eq P, win_ply P hL2 _ fun w hw => by
    have := bks_mem hw
    rw [List.length_map, P.len] at this
    omega]
  have e3 : bkz (ps.map (cap (m + k * s))) (m + k * s) L = up (k * s) (bkz (ps.map (cap m)) m L) := cap_per (prg_k P k) hL L
  have e4 : m + k * s + 1 - L = (m + 1 - L) + k * s := by omega
  rw [e3, e4, dn_up]
theorem Fd_start {b m : Nat} (hb : 1 ≤ b) (hm : b ≤ m + 1) : Fd ps b m = plyF (eF b) (bkz ps (b - 1) (m + 1 - b)) := by
  have e : m = (b - 1) + (m + 1 - b) := by omega
  have s0 : Fd ps b (b - 1) = eF b := by
    unfold Fd
    refine ply_fix _ fun w hw => ?_
    have := run_mem hw
    unfold eF
    rw [if_neg (by omega), if_neg (by omega)]
  have := Fd_on ps b (b - 1) (m + 1 - b)
  rw [← e, s0] at this
  exact this
theorem Fd_up {b m : Nat} (hb : L ≤ b) (h1 : 1 ≤ b) (hm : b ≤ m) : (∀ i, Fd ps (b + s) (m + s) (i + s) = Fd ps b m i) ∧ ∀ i, i < s → Fd ps (b + s) (m + s) i = 0 := by
  have e1 := Fd_start P (b := b) (m := m) h1 (by omega)
  have e2 := Fd_start P (b := b + s) (m := m + s) (by omega) (by omega)
  have e3 : b + s - 1 = (b - 1) + s := by omega
  have e4 : m + s + 1 - (b + s) = m + 1 - b := by omega
  have e5 := bks_per P (m := b - 1) (by omega) (m + 1 - b)
  rw [e3, e4, e5] at e2
  constructor
  · intro i
    rw [e2, e1, plyF_up s _ _ fun w hw => (bks_mem hw).1]
    congr 1
    funext i
    unfold eF
    by_cases c : i = b
    · rw [if_pos c, if_pos (by omega)]
    · rw [if_neg c, if_neg (by omega)]
  · intro i hi
    rw [e2, ply_out _ _ fun w hw => by
      obtain ⟨x, hx, rfl⟩ := List.mem_map.mp hw
      have := bks_mem hx
      rw [P.len] at this
      omega]
    unfold eF
    rw [if_neg (by omega)]
theorem Ed_up {b m : Nat} (hb : L ≤ b) (h1 : 1 ≤ b) (hm : b ≤ m) : (∀ i, Ed ps L (m + s) (b + s) (i + s) = Ed ps L m b i) ∧ ∀ i, i < s → Ed ps L (m + s) (b + s) i = 0 := by
  obtain ⟨f1, f2⟩ := Fd_up P hb h1 hm
  constructor
  · intro i
    rw [Ed_eq P, Ed_eq P, cap_per P (by omega) L, plyF_up s _ _ fun w hw => (bks_mem hw).1]
    congr 1
    exact funext f1
  · intro i hi
    rw [Ed_low P (by omega)]
    exact f2 i hi
end
/-- two programs, told alike: for rows of m + 1 basins, with the water of basin b -/
def EqB (ps qs : List Pd) (L m b : Nat) : Prop := ∀ i, i ≤ m → Ed ps L m b i = Ed qs L m b i
theorem always {ps qs : List Pd} {L s N : Nat} (P : Prg ps L s) (Q : Prg qs L s) (hL : 1 ≤ L) (hs : 1 ≤ s) (hN : s * (2 * L + 1) + L ≤ N) (h : ∀ m b, m ≤ N → b ≤ m → EqB ps qs L m b) : ∀ b m, b ≤ m → EqB ps qs L m b := by
  have two : ∀ k, k < 2 * L → (k + 1) * s ≤ 2 * L * s := fun k hk => Nat.mul_le_mul_right s hk
  have eN : s * (2 * L + 1) = 2 * L * s + s := by rw [Nat.mul_succ, Nat.mul_comm]
  intro b
  induction b using Nat.strongRecOn with
  | _ b ih =>
    intro m hb
    by_cases far : L + s ≤ b
    · -- as further ahead
      obtain ⟨b', rfl⟩ : ∃ b', b = b' + s := ⟨b - s, by omega⟩
      obtain ⟨m', rfl⟩ : ∃ m', m = m' + s := ⟨m - s, by omega⟩
      have e := ih b' (by omega) m' (by omega)
      obtain ⟨p1, p2⟩ := Ed_up P (b := b') (m := m') (by omega) (by omega) (by omega)
      obtain ⟨q1, q2⟩ := Ed_up Q (b := b') (m := m') (by omega) (by omega) (by omega)
      intro i hi
      by_cases c : i < s
      · rw [p2 i c, q2 i c]
      · have := e (i - s) (by omega)
        rw [← p1, ← q1, show i - s + s = i by omega] at this
        exact this
    · -- the sequences from M0 on
      have rec1 : ∀ (m0 : Nat) (W W' : List Int) (j : Nat), b ≤ m0 → L ≤ m0 + 1 → (∀ k, k < 2 * L → plyF (Gd ps L b (m0 + k * s)) W j = plyF (Gd qs L b (m0 + k * s)) W' j) → ∀ k, plyF (Gd ps L b (m0 + k * s)) W j = plyF (Gd qs L b (m0 + k * s)) W' j := fun m0 W W' j h1 h2 h3 =>
        two_rec (L := L) (s := s) (g := fun k => Gd ps L b (m0 + k * s)) (h := fun k => Gd qs L b (m0 + k * s)) (fun k => Gd_on P h2 k) (fun k => Gd_on Q h2 k) (fun k i hi => Gd_far P (by omega) (by omega) i hi) (fun k i hi => Gd_far Q (by omega) (by omega) i hi) j h3
      have res : ∀ m, b ≤ m → L ≤ m + 1 → ∃ m0 k, m = m0 + k * s ∧ b ≤ m0 ∧ L ≤ m0 + 1 ∧ m0 + 2 ≤ L + 2 * s := fun m h1 h2 => by
        obtain ⟨M0, hM⟩ : ∃ M0, M0 = max b (L - 1) := ⟨_, rfl⟩
        refine ⟨M0 + (m - M0) % s, (m - M0) / s, ?_, by omega, by omega, ?_⟩
        · have := Nat.mod_add_div (m - M0) s
          rw [Nat.mul_comm] at this
          omega
        · have := Nat.mod_lt (m - M0) hs
          omega
      have mid : ∀ m, b ≤ m → L ≤ m + 1 → Fd ps b (m + 1) (m + 1 - L) = Fd qs b (m + 1) (m + 1 - L) := fun m h1 h2 => by
        obtain ⟨m0, k, rfl, a1, a2, a3⟩ := res m h1 h2
        rw [mid_eq P a2, mid_eq Q a2]
        refine rec1 m0 _ _ 0 a1 a2 (fun k hk => ?_) k
        rw [← mid_eq P a2, ← mid_eq Q a2]
        have t := two k hk
        rw [Nat.succ_mul] at t
        have := h (m0 + k * s + 1) b (by omega) (by omega) (m0 + k * s + 1 - L) (by omega)
        rw [Ed_low P (by omega), Ed_low Q (by omega)] at this
        exact this
      have low : ∀ m, b ≤ m → L ≤ m + 1 → ∀ i, i + L < m + 1 → Fd ps b m i = Fd qs b m i := by
        intro m h1 h2
        induction m with
        | zero => intro i hi; omega
        | succ m ihm =>
          intro i hi
          by_cases c : b ≤ m ∧ L ≤ m + 1
          · by_cases d : i + L < m + 1
            · rw [Fd_old P (k := 1) d, Fd_old Q (k := 1) d]
              exact ihm c.1 c.2 i d
            · have e : i = m + 1 - L := by omega
              rw [e]
              exact mid m c.1 c.2
          · have := h (m + 1) b (by omega) (by omega) i (by omega)
            rw [Ed_low P (by omega), Ed_low Q (by omega)] at this
            exact this
      by_cases small : m ≤ N
      · exact h m b small hb
      · have h2 : L ≤ m + 1 := by omega
        intro i hi
        by_cases d : i + L < m + 1
        · rw [Ed_low P d, Ed_low Q d]
          exact low m hb h2 i d
        · obtain ⟨m0, k, rfl, a1, a2, a3⟩ := res m hb h2
          obtain ⟨j, rfl⟩ : ∃ j, i = j + (m0 + k * s + 1 - L) := ⟨i - (m0 + k * s + 1 - L), by omega⟩
          rw [Ed_top P a2, Ed_top Q a2]
          refine rec1 m0 _ _ j a1 a2 (fun k' hk => ?_) k
          rw [← Ed_top P a2, ← Ed_top Q a2]
          have t := two k' hk
          rw [Nat.succ_mul] at t
          exact h (m0 + k' * s) b (by omega) (by omega) _ (by omega)
end PM
end
section
set_option Elab.async false
set_option linter.all false
set_option maxRecDepth 100000
set_option maxHeartbeats 2000000
namespace PM
open PySem L2
theorem ent_Ed {rs : List Rd} (hr : ∀ r ∈ rs, r ≠ .left) {L : Nat} (hl : rs.length ≤ L) (m b i : Nat) : ent rs (m + 1) b i = Ed (padP rs L) L m b i := by
  unfold ent Ed
  rw [opn_run hr hl m (eF b) (Nat.le_refl (m + L))]
theorem prg_of {rs : List Rd} {s L : Nat} (hl : rs.length ≤ L) (per : ∀ r ∈ rs, ∀ w : Nat, r.opens ((w + s : Nat) : Int) = r.opens (w : Int)) : Prg (padP rs L) L s := by
  refine ⟨padP_len hl, fun p hp w => ?_⟩
  rcases List.mem_append.mp hp with hp | hp
  · obtain ⟨r, h, rfl⟩ := List.mem_map.mp hp
    exact per r h w
  · rw [(List.mem_replicate.mp hp).2]
theorem like_core {rs ss : List Rd} (hr : ∀ r ∈ rs, r ≠ .left) (hs : ∀ r ∈ ss, r ≠ .left) {s N L : Nat} (h1 : rs.length ≤ L) (h2 : ss.length ≤ L) (hL : 1 ≤ L) (s1 : 1 ≤ s)
    (per : ∀ r ∈ rs, ∀ w : Nat, r.opens ((w + s : Nat) : Int) = r.opens (w : Int)) (per' : ∀ r ∈ ss, ∀ w : Nat, r.opens ((w + s : Nat) : Int) = r.opens (w : Int)) (hN : s * (2 * L + 1) + L + 1 ≤ N)
    (h : ∀ n, 1 ≤ n → n ≤ N → Like rs ss n) : ∀ n, Like rs ss n := by
  intro n b hb i hi
  obtain ⟨m, rfl⟩ : ∃ m, n = m + 1 := ⟨n - 1, by omega⟩
  have := always (prg_of h1 per) (prg_of h2 per') (N := N - 1) hL s1 (by omega) (fun m b hm hb i hi => by
    rw [← ent_Ed hr h1, ← ent_Ed hs h2]
    exact h (m + 1) (by omega) (by omega) b (by omega) i (by omega)) b m (by omega) i (by omega)
  rwa [← ent_Ed hr h1, ← ent_Ed hs h2] at this
theorem like_tb {rs ss : List Rd} (hr : ∀ r ∈ rs, r.ok) (hs : ∀ r ∈ ss, r.ok) (n : Nat) : Like rs ss n ↔ Like (tb rs) (tb ss) n := by
  constructor
  · intro h b hb i hi
    have := h i hi b hb
    unfold ent at *
    rw [ent_tb hr, ent_tb hs] at this
    exact this
  · intro h b hb i hi
    have := h i hi b hb
    unfold ent at *
    rw [ent_tb hr, ent_tb hs]
    exact this
def Same (rs ss : List Rd) : Prop := ∀ n, Like rs ss n
theorem opens_per {rs : List Rd} (hr : ∀ r ∈ rs, r.ok) {r : Rd} (h : r ∈ rs) (w : Nat) : r.opens ((w + stp rs : Nat) : Int) = r.opens (w : Int) := opens_mod h hr ⟨1, by omega⟩
theorem opens_tnd (r : Rd) (w : Int) : (tnd r).opens w = r.opens w := by cases r <;> rfl
theorem same_of {rs ss : List Rd} (hm : mxd (rs ++ ss) = false) (hr : ∀ r ∈ rs, r.ok) (hs : ∀ r ∈ ss, r.ok) (h : ∀ n, 1 ≤ n → n ≤ enN rs ss → Like rs ss n) : Same rs ss := by
  have ho : ∀ r ∈ rs ++ ss, r.ok := fun r h => (List.mem_append.mp h).elim (hr r) (hs r)
  have sp := stp_pos (rs ++ ss) ho
  by_cases e : rs.length = 0 ∧ ss.length = 0
  · have e1 := List.length_eq_zero_iff.mp e.1
    have e2 := List.length_eq_zero_iff.mp e.2
    subst e1
    subst e2
    exact fun n b hb i hi => rfl
  · have L1 : 1 ≤ max rs.length ss.length := by omega
    have hN : stp (rs ++ ss) * (2 * max rs.length ss.length + 1) + max rs.length ss.length + 1 ≤ enN rs ss := by
      unfold enN
      have := Nat.mul_le_mul_left (stp (rs ++ ss)) (show 2 * max rs.length ss.length + 1 ≤ rs.length + ss.length + max rs.length ss.length + 1 by omega)
      omega
    by_cases c : Rd.left ∈ rs ++ ss
    · have nr : Rd.right ∉ rs ++ ss := fun z => by
        unfold mxd at hm
        rw [decide_eq_true z, decide_eq_true c] at hm
        cases hm
      have nl : ∀ {xs : List Rd}, (∀ r ∈ xs, r ∈ rs ++ ss) → ∀ r ∈ tb xs, r ≠ .left := fun hx r h z => by
        obtain ⟨x, h1, rfl⟩ := List.mem_map.mp h
        have h2 := hx x (List.mem_reverse.mp h1)
        cases x with
        | right => exact nr h2
        | left => cases z
        | ev a b => cases z
      have pr : ∀ {xs : List Rd}, (∀ r ∈ xs, r ∈ rs ++ ss) → ∀ r ∈ tb xs, ∀ w : Nat, r.opens ((w + stp (rs ++ ss) : Nat) : Int) = r.opens (w : Int) := fun hx r h w => by
        obtain ⟨x, h1, rfl⟩ := List.mem_map.mp h
        rw [opens_tnd, opens_tnd]
        exact opens_per ho (hx x (List.mem_reverse.mp h1)) w
      intro n
      rw [like_tb hr hs]
      exact like_core (nl fun r h => by simp [h]) (nl fun r h => by simp [h]) (L := max rs.length ss.length) (by rw [tb_len]; omega) (by rw [tb_len]; omega) L1 sp.1 (pr fun r h => by simp [h]) (pr fun r h => by simp [h]) hN (fun n n1 n2 => (like_tb hr hs n).mp (h n n1 n2)) n
    · exact like_core (fun r h z => c (by simp [← z, h])) (fun r h z => c (by simp [← z, h])) (L := max rs.length ss.length) (by omega) (by omega) L1 sp.1 (fun r h => opens_per ho (by simp [h])) (fun r h => opens_per ho (by simp [h])) hN h
theorem sam_same {rs ss : List Rd} (hm : mxd (rs ++ ss) = false) (hr : ∀ r ∈ rs, r.ok) (hs : ∀ r ∈ ss, r.ok) : jp rs ss = samO (enN rs ss) ↔ Same rs ss := by
  rw [jp_sam hr hs]
  exact ⟨same_of hm hr hs, fun h n _ _ => h n⟩
theorem isSam_same {rs ss : List Rd} (hm : mxd (rs ++ ss) = false) (hr : ∀ r ∈ rs, r.ok) (hs : ∀ r ∈ ss, r.ok) : isSam (jp rs ss) = true ↔ Same rs ss := by
  rw [isSam_iff hr hs, sam_same hm hr hs]
theorem Same.refl (rs : List Rd) : Same rs rs := fun n b hb i hi => rfl
theorem Same.symm {rs ss : List Rd} (h : Same rs ss) : Same ss rs := fun n b hb i hi => (h n b hb i hi).symm
theorem Same.trans {rs ss ts : List Rd} (h : Same rs ss) (g : Same ss ts) : Same rs ts := fun n b hb i hi => (h n b hb i hi).trans (g n b hb i hi)
def run1 (rs : List Rd) (n : Nat) (f : Nat → Rat) : Nat → Rat := plyF f (opn rs n)
theorem run1_app (rs ss : List Rd) (n : Nat) (f : Nat → Rat) : run1 (rs ++ ss) n f = run1 ss n (run1 rs n f) := by
  unfold run1
  rw [opn_app, plyF_app]
/-- alike for all volumes -/
theorem like_map {rs ss : List Rd} {n : Nat} : Like rs ss n ↔ ∀ f i, i < n → run1 rs n f i = run1 ss n f i := by
  constructor
  · intro h f i hi
    unfold run1
    rw [plyF_units f _ (opn_wi rs n) hi, plyF_units f _ (opn_wi ss n) hi]
    refine sm_congr fun b hb => ?_
    have := h b hb i hi
    unfold ent at this
    rw [this]
  · intro h b hb i hi
    exact h (eF b) i hi
theorem run1_cong {rs : List Rd} {n : Nat} {f g : Nat → Rat} (h : ∀ i, i < n → f i = g i) : ∀ i, i < n → run1 rs n f i = run1 rs n g i := plyF_cong _ (opn_wi rs n) h
theorem Same.app {rs ss ts us : List Rd} (h : Same rs ss) (g : Same ts us) : Same (rs ++ ts) (ss ++ us) := fun n => like_map.mpr fun f i hi => by
  rw [run1_app, run1_app, like_map.mp (g n) _ i hi]
  exact run1_cong (like_map.mp (h n) f) i hi
/-- squares -/
def nrm (n : Nat) (f : Nat → Rat) : Rat := sm n fun i => f i * f i
theorem nrm_cong {n : Nat} {f g : Nat → Rat} (h : ∀ i, i < n → f i = g i) : nrm n f = nrm n g := sm_congr fun i hi => by rw [h i hi]
theorem nrm_avg {n : Nat} (f : Nat → Rat) {w : Int} (w1 : 1 ≤ w) (w2 : w < n) : nrm n (avgF f w) = nrm n f - (f (w - 1).toNat - f w.toNat) * (f (w - 1).toNat - f w.toNat) / 2 := by
  have ne : (w - 1).toNat ≠ w.toNat := by omega
  obtain ⟨x, hx⟩ : ∃ x, x = f (w - 1).toNat := ⟨_, rfl⟩
  obtain ⟨y, hy⟩ : ∃ y, y = f w.toNat := ⟨_, rfl⟩
  have e : ∀ i, i < n → avgF f w i * avgF f w i = 1 * (f i * f i) + 1 * (1 * ((fun _ => ((x + y) / 2) * ((x + y) / 2) - x * x) i * eF i (w - 1).toNat) + 1 * ((fun _ => ((x + y) / 2) * ((x + y) / 2) - y * y) i * eF i w.toNat)) := fun i _ => by
    unfold avgF eF
    rw [← hx, ← hy]
    by_cases c : i = (w - 1).toNat
    · subst c
      rw [if_pos (.inl rfl), if_pos rfl, if_neg (Ne.symm ne), ← hx]
      grind
    · by_cases d : i = w.toNat
      · subst d
        rw [if_pos (.inr rfl), if_neg ne, if_pos rfl, ← hy]
        grind
      · rw [if_neg (by omega), if_neg (Ne.symm c), if_neg (Ne.symm d)]
        grind
  unfold nrm
  rw [sm_congr e, sm_lin, sm_lin, sm_unit (fun _ => ((x + y) / 2) * ((x + y) / 2) - x * x) (show (w - 1).toNat < n by omega), sm_unit (fun _ => ((x + y) / 2) * ((x + y) / 2) - y * y) (show w.toNat < n by omega), ← hx, ← hy]
  grind
theorem sq_nn (x : Rat) : 0 ≤ x * x := by
  by_cases h : 0 ≤ x
  · exact Rat.mul_nonneg h h
  · have : 0 ≤ -x := by grind
    have := Rat.mul_nonneg this this
    grind
theorem sq_zero {x : Rat} (h : x * x = 0) : x = 0 := by
  rcases Rat.mul_eq_zero.mp h with h | h <;> exact h
theorem nrm_le {n : Nat} : ∀ (ws : List Int) (f : Nat → Rat), Wi n ws → nrm n (plyF f ws) ≤ nrm n f ∧ (nrm n (plyF f ws) = nrm n f → plyF f ws = f)
  | [], f, _ => ⟨Rat.le_refl, fun _ => rfl⟩
  | w :: ws, f, h => by
    have hw := h w (List.mem_cons_self ..)
    obtain ⟨i1, i2⟩ := nrm_le ws (avgF f w) fun x hx => h x (List.mem_cons_of_mem _ hx)
    have e := nrm_avg f hw.1 hw.2
    have nn := sq_nn (f (w - 1).toNat - f w.toNat)
    rw [plyF_cons]
    refine ⟨by grind, fun z => ?_⟩
    have q : (f (w - 1).toNat - f w.toNat) * (f (w - 1).toNat - f w.toNat) = 0 := by grind
    have q := sq_zero q
    have fx : avgF f w = f := avg_fix (by grind)
    rw [fx] at z ⊢
    rw [fx] at i2
    exact i2 z
/-- what later rounds undo, they never did -/
theorem undo {x y z : List Rd} (h : Same (x ++ y ++ z) x) : Same (x ++ y) x := fun n => like_map.mpr fun f i hi => by
  have e := like_map.mp (h n) f
  rw [run1_app, run1_app] at e
  rw [run1_app]
  have a := nrm_le (opn y n) (run1 x n f) (opn_wi y n)
  have b := nrm_le (opn z n) (run1 y n (run1 x n f)) (opn_wi z n)
  have c := nrm_cong (n := n) e
  have q : nrm n (plyF (run1 x n f) (opn y n)) = nrm n (run1 x n f) := by
    have b1 := b.1
    have a1 := a.1
    have c' : nrm n (plyF (run1 y n (run1 x n f)) (opn z n)) = nrm n (run1 x n f) := by
      rw [← c]
      rfl
    rw [c'] at b1
    exact Rat.le_antisymm a1 b1
  have := a.2 q
  exact congrFun this i
end PM
end
section
set_option Elab.async false
set_option linter.all false
set_option maxRecDepth 100000
set_option maxHeartbeats 2000000
set_option exponentiation.threshold 10000
namespace PM
open PySem L2
/-- rounds that are rounds, not to both sides -/
structure Gd1 (rs : List Rd) : Prop where
  ok : ∀ r ∈ rs, r.ok
  mx : mxd rs = false
theorem Gd1.sub {rs ss : List Rd} (h : Gd1 rs) (hs : ∀ r ∈ ss, r ∈ rs) : Gd1 ss := ⟨fun r hr => h.ok r (hs r hr), mxd_false h.mx hs⟩
theorem Gd1.sam {rs X Y : List Rd} (h : Gd1 rs) (hX : ∀ r ∈ X, r ∈ rs) (hY : ∀ r ∈ Y, r ∈ rs) : isSam (jp X Y) = true ↔ Same X Y :=
  isSam_same (mxd_false h.mx fun r hr => (List.mem_append.mp hr).elim (hX r) (hY r)) (fun r hr => h.ok r (hX r hr)) fun r hr => h.ok r (hY r hr)
open Classical in
theorem Gd1.td {rs L : List Rd} (h : Gd1 rs) (hL : ∀ r ∈ L, r ∈ rs) (p : Nat) : tdStep L p = if Same L (cutAt L p) then cutAt L p else L := by
  unfold tdStep
  have e := h.sam (X := L) (Y := cutAt L p) hL fun r hr => hL r (cut_mem hr)
  by_cases c : Same L (cutAt L p)
  · rw [if_pos c, if_pos (e.mpr c)]
  · rw [if_neg c, if_neg fun z => c (e.mp z)]
theorem tdy_same {rs : List Rd} (h : Gd1 rs) : ∀ k, Same (tdy rs k) rs
  | 0 => Same.refl rs
  | k + 1 => by
    rw [tdy_succ, h.td (tdy_sub rs k).2]
    split
    · rename_i c
      exact c.symm.trans (tdy_same h k)
    · exact tdy_same h k
theorem single_ne {r : Rd} (h : r.ok) : ¬ Same [r] [] := fun c => by
  have e : isSam (jp [r] []) = true := (isSam_same (by cases r <;> rfl) (by simpa using h) (by simp)).mpr c
  have no : ∀ r ∈ [Rd.right, .left, .ev 2 0, .ev 2 1, .ev 3 0, .ev 3 1, .ev 3 2, .ev 4 0, .ev 4 1, .ev 4 2, .ev 4 3], isSam (jp [r] []) = false := by
    intro r hr
    simp only [List.mem_cons, List.not_mem_nil, or_false] at hr
    rcases hr with rfl | rfl | rfl | rfl | rfl | rfl | rfl | rfl | rfl | rfl | rfl <;> kernel_rfl
  have hm : r ∈ [Rd.right, .left, .ev 2 0, .ev 2 1, .ev 3 0, .ev 3 1, .ev 3 2, .ev 4 0, .ev 4 1, .ev 4 2, .ev 4 3] := by
    cases r with
    | right => simp
    | left => simp
    | ev a b =>
      obtain ⟨h1, h2, h3, h4⟩ := h
      have ha : a = 2 ∨ a = 3 ∨ a = 4 := by omega
      rcases ha with rfl | rfl | rfl
      · have hb : b = 0 ∨ b = 1 := by omega
        rcases hb with rfl | rfl <;> simp
      · have hb : b = 0 ∨ b = 1 ∨ b = 2 := by omega
        rcases hb with rfl | rfl | rfl <;> simp
      · have hb : b = 0 ∨ b = 1 ∨ b = 2 ∨ b = 3 := by omega
        rcases hb with rfl | rfl | rfl | rfl <;> simp
  rw [no r hm] at e
  cases e
/-- no round can go -/
def Irr (R : List Rd) : Prop := ∀ p, p < R.length → ¬ Same R (cutAt R p)
theorem tdy_irr {R : List Rd} (h : Gd1 R) (hi : Irr R) : ∀ k, k ≤ R.length → tdy R k = R
  | 0, _ => rfl
  | k + 1, hk => by
    rw [tdy_succ, tdy_irr h hi k (by omega), h.td (fun r hr => hr), if_neg (hi _ (by omega))]
theorem irr0 : Irr [] := fun p hp => absurd hp (Nat.not_lt_zero _)
theorem irr1 {a : Rd} (h : a.ok) : Irr [a] := fun p hp => by
  have : p = 0 := by simp at hp; omega
  subst this
  exact single_ne h
theorem irr2 {a b : Rd} (h1 : ¬ Same [a, b] [a]) (h2 : ¬ Same [a, b] [b]) : Irr [a, b] := fun p hp => by
  have : p = 0 ∨ p = 1 := by simp at hp; omega
  rcases this with rfl | rfl
  · exact h2
  · exact h1
theorem irr3 {a b c : Rd} (h1 : ¬ Same [a, b, c] [a, b]) (h2 : ¬ Same [a, b, c] [a, c]) (h3 : ¬ Same [a, b, c] [b, c]) : Irr [a, b, c] := fun p hp => by
  have : p = 0 ∨ p = 1 ∨ p = 2 := by simp at hp; omega
  rcases this with rfl | rfl | rfl
  · exact h3
  · exact h2
  · exact h1
theorem tdy_tidy {rs : List Rd} (h : Gd1 rs) (hl : rs.length ≤ 3) : Irr (tdy rs rs.length) := by
  have one : ∀ {X Y : List Rd} (c : Rd), Same X Y → Same (X ++ [c]) (Y ++ [c]) := fun c z => z.app (Same.refl [c])
  have pre : ∀ {X Y : List Rd} (c : Rd), Same X Y → Same ([c] ++ X) ([c] ++ Y) := fun c z => (Same.refl [c]).app z
  match rs, hl with
  | [], _ => exact irr0
  | [a], _ =>
    have e : tdy [a] 1 = tdStep [a] 0 := by rw [tdy_succ]; rfl
    show Irr (tdy [a] 1)
    rw [e, h.td (L := [a]) (by simp), if_neg (show ¬ Same [a] (cutAt [a] 0) from single_ne (h.ok a (by simp)))]
    exact irr1 (h.ok a (by simp))
  | [a, b], _ =>
    have e : tdy [a, b] 2 = tdStep (tdStep [a, b] 1) 0 := by rw [tdy_succ, tdy_succ]; rfl
    show Irr (tdy [a, b] 2)
    rw [e, h.td (L := [a, b]) (by simp)]
    by_cases c1 : Same [a, b] (cutAt [a, b] 1)
    · rw [if_pos c1]
      show Irr (tdStep [a] 0)
      rw [h.td (L := [a]) (by simp), if_neg (show ¬ Same [a] (cutAt [a] 0) from single_ne (h.ok a (by simp)))]
      exact irr1 (h.ok a (by simp))
    · rw [if_neg c1, h.td (L := [a, b]) (by simp)]
      by_cases c0 : Same [a, b] (cutAt [a, b] 0)
      · rw [if_pos c0]
        exact irr1 (h.ok b (by simp))
      · rw [if_neg c0]
        exact irr2 c1 c0
  | [a, b, c], _ =>
    have e : tdy [a, b, c] 3 = tdStep (tdStep (tdStep [a, b, c] 2) 1) 0 := by rw [tdy_succ, tdy_succ, tdy_succ]; rfl
    show Irr (tdy [a, b, c] 3)
    rw [e, h.td (L := [a, b, c]) (by simp)]
    by_cases c2 : Same [a, b, c] [a, b]
    · rw [if_pos (show Same [a, b, c] (cutAt [a, b, c] 2) from c2)]
      show Irr (tdStep (tdStep [a, b] 1) 0)
      rw [h.td (L := [a, b]) (by simp)]
      by_cases c1 : Same [a, b] (cutAt [a, b] 1)
      · rw [if_pos c1]
        show Irr (tdStep [a] 0)
        rw [h.td (L := [a]) (by simp), if_neg (show ¬ Same [a] (cutAt [a] 0) from single_ne (h.ok a (by simp)))]
        exact irr1 (h.ok a (by simp))
      · rw [if_neg c1, h.td (L := [a, b]) (by simp)]
        by_cases c0 : Same [a, b] (cutAt [a, b] 0)
        · rw [if_pos c0]
          exact irr1 (h.ok b (by simp))
        · rw [if_neg c0]
          exact irr2 c1 c0
    · rw [if_neg (show ¬ Same [a, b, c] (cutAt [a, b, c] 2) from c2), h.td (L := [a, b, c]) (by simp)]
      by_cases c1 : Same [a, b, c] [a, c]
      · rw [if_pos (show Same [a, b, c] (cutAt [a, b, c] 1) from c1)]
        show Irr (tdStep [a, c] 0)
        rw [h.td (L := [a, c]) (by simp)]
        by_cases c0 : Same [a, c] [c]
        · rw [if_pos (show Same [a, c] (cutAt [a, c] 0) from c0)]
          exact irr1 (h.ok c (by simp))
        · rw [if_neg (show ¬ Same [a, c] (cutAt [a, c] 0) from c0)]
          refine irr2 (fun z => c2 ?_) c0
          -- c undoes b: then b does nothing
          have u : Same ([a] ++ [b]) [a] := undo (z := [c]) (c1.trans z)
          exact (c1.trans z).trans u.symm
      · rw [if_neg (show ¬ Same [a, b, c] (cutAt [a, b, c] 1) from c1), h.td (L := [a, b, c]) (by simp)]
        by_cases c0 : Same [a, b, c] [b, c]
        · rw [if_pos (show Same [a, b, c] (cutAt [a, b, c] 0) from c0)]
          show Irr [b, c]
          refine irr2 (fun z => c2 ?_) fun z => c1 ?_
          · -- c lets be what b leaves
            exact pre a z
          · -- b ahead of c does nothing
            have u : Same [a, b, c] [a, c] := pre a z
            exact u
        · rw [if_neg (show ¬ Same [a, b, c] (cutAt [a, b, c] 0) from c0)]
          exact irr3 c2 c1 c0
end PM
end
section
set_option Elab.async false
set_option linter.all false
set_option maxRecDepth 100000
set_option maxHeartbeats 4000000
namespace PM
open PySem L2
theorem dfind_none {k : D} : ∀ {ks vs : List D}, k ∉ ks → dfind k ks vs = none
  | [], _, _ => by cases ‹List D› <;> rfl
  | x :: ks, [], _ => rfl
  | x :: ks, v :: vs, h => by
    show (if D.same x k = true then some v else dfind k ks vs) = none
    rw [if_neg (fun z => h (by rw [same_iff.mp z]; simp))]
    exact dfind_none fun z => h (List.mem_cons_of_mem _ z)
theorem dfind_some {k : D} : ∀ {ks vs : List D}, k ∈ ks → ks.length = vs.length → ∃ v ∈ vs, dfind k ks vs = some v
  | [], _, h, _ => nomatch h
  | x :: ks, [], _, l => nomatch l
  | x :: ks, v :: vs, h, l => by
    by_cases e : D.same x k = true
    · exact ⟨v, by simp, by show (if D.same x k = true then some v else dfind k ks vs) = some v; rw [if_pos e]⟩
    · have h' : k ∈ ks := by
        rcases List.mem_cons.mp h with z | z
        · exact absurd (same_iff.mpr z.symm) e
        · exact z
      obtain ⟨u, hu, q⟩ := dfind_some h' (by simpa using l)
      exact ⟨u, List.mem_cons_of_mem _ hu, by show (if D.same x k = true then some v else dfind k ks vs) = some u; rw [if_neg e]; exact q⟩
theorem dput_new {k v : D} {ks vs : List D} (h : k ∉ ks) : dput k v ks vs = (ks ++ [k], vs ++ [v]) := by
  unfold dput
  rw [dfind_none h]
  rfl
theorem alike_tok {ks : List D} {y : D} (h : ks.all D.tok = true) (g : D.tok y = true) : alike ks y = true := by
  unfold alike
  rw [h, g]
  simp
@[simp] theorem eDNew_ap (e : Env) (S : Sto) : eDNew e S = .ok (.ptr S.length) (S ++ [.dct [] []]) := rfl
@[simp] theorem iKeysD_ap (m : Env → M D) (e : Env) (S : Sto) : iKeysD m e S = (m e S).then fun d => match d with
  | .dic ks _ => ret ⟨ks, []⟩
  | _ => stuck := rfl
@[simp] theorem sDSet_ap (m mo mi : Env → M D) (e : Env) (S : Sto) : sDSet m mo mi e S = (m e S).stm e fun d => sE mo fun o => sE mi fun i => sE (fun _ => dDPut o i d) fun _ e S => .nx e S := rfl
theorem dDPut_new {S : Sto} {n : Nat} {k v : D} {ks vs : List D} (h : S[n]? = some (.dct ks vs)) (t : ks.all D.tok = true) (g : D.tok k = true) (hl : ks.length ≤ lim) (hk : k ∉ ks) : dDPut (.ptr n) k v S = .ok .non (S.set n (.dct (ks ++ [k]) (vs ++ [v]))) := by
  unfold dDPut
  simp only [h]
  rw [if_pos ⟨alike_tok t g, hl⟩, dput_new hk]
theorem dDGet_dic {S : Sto} {k v : D} {ks vs : List D} (t : ks.all D.tok = true) (g : D.tok k = true) (h : dfind k ks vs = some v) : dDGet (.dic ks vs) k S = .ok v S := by
  unfold dDGet
  simp [dkv, oM, gd, alike_tok t g, h]
/-- the part of a known dict that a test lets through -/
theorem dc_run {i j : Nat} {ks0 vs0 : List D} {t : Env → M Bool} {e0 : Env} {S : Sto} (p : D → Bool) (h0 : ∀ d ∈ ks0, eVar i (setE i d e0) S = .ok d S ∧ eVar j (setE i d e0) S = .ok (.dic ks0 vs0) S ∧ t (setE i d e0) S = .ok (p d) S) (tk : ks0.all D.tok = true) (hl : ks0.length = vs0.length) :
    ∀ (ds ks vs : List D), (∀ d ∈ ds, d ∈ ks0) → (ks ++ ds).Nodup → ks.all D.tok = true →
      dcGo [] (gN i) t (eVar i) (e2 dDGet (eVar j) (eVar i)) e0 ds ks vs S = .ok (ks ++ ds.filter p, vs ++ (ds.filter p).map fun d => (dfind d ks0 vs0).getD .non) S
  | [], ks, vs, _, _, _ => by simp [dcGo]
  | d :: ds, ks, vs, hm, hn, ht => by
    obtain ⟨a1, a2, a3⟩ := h0 d (hm d (by simp))
    obtain ⟨v, _, hv⟩ := dfind_some (hm d (by simp)) hl
    have td : D.tok d = true := List.all_eq_true.mp tk d (hm d (by simp))
    have ih := fun ks' vs' h1 h2 => dc_run p h0 tk hl ds ks' vs' (fun x hx => hm x (List.mem_cons_of_mem _ hx)) h1 h2
    have nd : d ∉ ks := fun z => by
      rw [List.nodup_append] at hn
      exact hn.2.2 d z d (by simp) rfl
    unfold dcGo
    simp only [chk_nil, gN_ap, oM, bind_ap, a3, then_ok]
    cases q : p d with
    | false =>
      simp only [Bool.false_eq_true, if_false]
      rw [ih ks vs (hn.sublist (List.Sublist.append_left (List.sublist_cons_self d ds) ks)) ht]
      rw [List.filter_cons_of_neg (by simp [q])]
    | true =>
      have g1 := dDGet_dic (S := S) tk td hv
      simp only [if_true, bind_ap, a1, a2, then_ok, e2_ap, g1]
      simp only [gd, alike_tok ht td, if_true, dput_new nd]
      rw [ih (ks ++ [d]) (vs ++ [v]) (by simpa using hn) (by rw [List.all_append, ht]; simp [td])]
      rw [List.filter_cons_of_pos (by simp [q])]
      simp [hv]
end PM
end
section
set_option Elab.async false
set_option linter.all false
set_option maxRecDepth 100000
set_option maxHeartbeats 2000000
set_option exponentiation.threshold 10000
namespace PM
open PySem L2
/-- the volumes that a start says -/
inductive Stt where
  | ones | first | last | stairs
def Stt.s : Stt → String
  | .ones => "ones" | .first => "first" | .last => "last" | .stairs => "stairs"
end PM
end
section
set_option Elab.async false
set_option linter.all false
set_option maxRecDepth 100000
set_option maxHeartbeats 4000000
set_option exponentiation.threshold 10000
namespace PM
open PySem L2
/-- it raises x, the store grows -/
def ErX (m : List D → M D) (ds : List D) (x : Er) : Prop := ∀ S, ∃ T, m ds S = .er x (S ++ T)
theorem ErX.of {m : List D → M D} {ds : List D} {x : Er} (h : ∀ S, m ds S = .er x S) : ErX m ds x := fun S => ⟨[], by rw [h, List.append_nil]⟩
theorem IsSeq.sl {ds : List D} {x : D} (h : IsSeq ds x) (hi : Int) (S : Sto) (h0 : 0 ≤ hi) : ∃ y, IsSeq (ds.take hi.toNat) y ∧ dSl x none (some hi) S = .ok y S := by
  cases h with
  | lst => exact ⟨_, .lst, by rw [dSl_lst, cutD_hi _ h0]⟩
  | tup => exact ⟨_, .tup, by rw [dSl_tup, cutD_hi _ h0]⟩
theorem IsSeq.dIn {ds : List D} {x a : D} (h : IsSeq ds x) (S : Sto) (ha : a.fit 12 = true) (hb : (D.tup ds).fit 12 = true) : PM.dIn false a x S = .ok (.bl (decide (a ∈ ds))) S := by
  cases h with
  | lst => rw [dIn_lst false S ha hb]; simp
  | tup => rw [dIn_tup false S rfl ha hb]
theorem fit_rds (rs : List Rd) : (D.tup (rs.map Rd.d)).fit 12 = true := by
  rw [fit_tup]
  refine List.all_eq_true.mpr fun d h => ?_
  obtain ⟨r, _, rfl⟩ := List.mem_map.mp h
  exact r.fit 10
theorem mixed_ok {rs : List Rd} {x : D} (hx : IsSeq (rs.map Rd.d) x) (S : Sto) : m_are_mixed [x] S = .ok (.bl (mxd rs)) S := by
  have e1 := hx.dIn (a := Rd.right.d) S (Rd.fit .right 11) (fit_rds _)
  have e2 := hx.dIn (a := Rd.left.d) S (Rd.fit .left 11) (fit_rds _)
  simp only [mem_d] at e1 e2
  simp only [Rd.d] at e1 e2
  simp -implicitDefEqProofs [m_are_mixed, b_are_mixed, e1, e2, mxd]
  by_cases h : Rd.right ∈ rs <;> simp [h]
theorem unmixed_ok {rs : List Rd} {x : D} (hx : IsSeq (rs.map Rd.d) x) (h : mxd rs = false) (S : Sto) : m_check_unmixed [x] S = .ok .non S := by
  simp -implicitDefEqProofs [m_check_unmixed, b_check_unmixed, mixed_ok hx, h]
theorem add_ok {rs ss : List Rd} (hl : rs.length + ss.length ≤ 12) (hr : ∀ r ∈ rs, r.ok) (hs : ∀ r ∈ ss, r.ok) (S : Sto) : dAddO "Program" m_Program___add__ (prog rs) (prog ss) S = .ok (prog (rs ++ ss)) (S ++ [.dead]) := by
  have mk := fun S => mk_Program (IsSeq.tup (ds := (rs ++ ss).map Rd.d)) (by rw [List.length_append]; exact hl) (fun r h => (List.mem_append.mp h).elim (hr r) (hs r)) S
  rw [List.map_append] at mk
  have c : rs.length + ss.length ≤ 100000 := by omega
  have i1 : ∀ S : Sto, insOf S "Program" "" (prog rs) = true := fun _ => rfl
  have i2 : ∀ S : Sto, insOf S "Program" "" (prog ss) = true := fun _ => rfl
  have q := fun S => dIs_ap ["Program"] [.inr "Program"] (prog ss) S (k := .inr "Program") rfl rfl
  have q2 : ([Sum.inr "Program"] : List Ty).any (isK sameC (.inr "Program")) = true := rfl
  simp only [prog] at mk i1 i2 q ⊢
  simp -implicitDefEqProofs [dAddO, i1, i2, m_Program___add__, b_Program___add__, q, q2, c, mk, noE]
theorem eq_prog (rs ss : List Rd) (S : Sto) : dEqO false "Program" m_Program___eq__ (prog rs) (prog ss) S = .ok (.bl (decide (rs = ss))) S := by
  have i1 : ∀ S : Sto, insOf S "Program" "" (prog rs) = true := fun _ => rfl
  have i2 : ∀ S : Sto, insOf S "Program" "" (prog ss) = true := fun _ => rfl
  have q := fun S => dIs_ap ["Program"] [.inr "Program"] (prog ss) S (k := .inr "Program") rfl rfl
  have q2 : ([Sum.inr "Program"] : List Ty).any (isK sameC (.inr "Program")) = true := rfl
  have e := fun S => dEq_fit false (a := .tup (rs.map Rd.d)) (b := .tup (ss.map Rd.d)) S (fit_rds _) (fit_rds _)
  have inj : (rs.map Rd.d = ss.map Rd.d) = (rs = ss) := propext ⟨fun h => (List.map_inj_right fun x y h => Rd.d_inj.mp h).mp h, fun h => by rw [h]⟩
  simp only [prog] at i1 i2 q ⊢
  simp -implicitDefEqProofs [dEqO, i1, i2, m_Program___eq__, b_Program___eq__, q, q2, e, inj, noE]
end PM
end
section
set_option Elab.async false
set_option linter.all false
set_option maxRecDepth 100000
set_option maxHeartbeats 4000000
set_option exponentiation.threshold 10000
namespace PM
open PySem L2
def K3 : List Rd := [.right, .ev 2 1, .ev 2 0]
def tp (t : List Rd) : D := .tup (t.map Rd.d)
def lvR : Nat → List (List Rd)
  | 0 => [[]]
  | n + 1 => (lvR n).flatMap fun t => K3.map fun r => t ++ [r]
def acR : Nat → List (List Rd)
  | 0 => [[]]
  | n + 1 => acR n ++ lvR (n + 1)
theorem kinds_ok (S : Sto) : m_check_kinds [.lst (K3.map Rd.d)] S = .ok .non S := by kernel_rfl
theorem lv_ok (n : Nat) (a4 : Option D) (i : Nat) (hi : i < 3) (S : Sto) : eLc2 false (iSeq (eVar 3)) [5, 6] (gN 5) tYesP (iSeq (eVar 0)) [6] (gN 6) tYesP (eA dTup (aStar (eVar 5) (aCons (eVar 6) aNil))) ⟨[some (.lst (K3.map Rd.d)), some (.int 3), some (.ptr n), some (.lst ((lvR i).map tp)), a4, none, none], none⟩ S = .ok (.lst ((lvR (i + 1)).map tp)) S := by
  match i, hi with
  | 0, _ => kernel_rfl
  | 1, _ => kernel_rfl
  | 2, _ => kernel_rfl
end PM
end
section
set_option Elab.async false
set_option linter.all false
set_option maxRecDepth 100000
set_option maxHeartbeats 4000000
set_option exponentiation.threshold 10000
namespace PM
open PySem L2
theorem tuples_ok (S : Sto) : m_tuples_of [.lst (K3.map Rd.d), .int 3] S = .ok (.lst ((acR 3).map tp)) (S ++ [.dead]) := by
  have s0 : acR 0 = lvR 0 := rfl
  have lv := fun n a4 i hi S => lv_ok n a4 i hi S
  have z0 : (acR 0).map tp = [.tup []] := rfl
  have z1 : (lvR 0).map tp = [.tup []] := rfl
  have len : ∀ i, i < 3 → (acR i).length + (lvR (i + 1)).length ≤ 100000 := by decide +kernel
  simp -implicitDefEqProofs only [m_tuples_of, b_tuples_of]
  generalize eK : D.lst (K3.map Rd.d) = K at *
  simp -implicitDefEqProofs [dNew]
  refine forGo_rule (G := fun o => toOut (o.andThen _) = .ok (.lst ((acR 3).map tp)) (S ++ [.dead])) (fun i e S' => S' = S ++ [.lst ((acR i).map tp)] ∧ ∃ a4, e = ⟨[some K, some (.int 3), some (.ptr S.length), some (.lst ((lvR i).map tp)), a4, none, none], none⟩) ⟨by rw [z0], none, by rw [z1]⟩ ?_ ?_
  · rintro i d e S' hi ⟨rfl, a4, rfl⟩
    have h3 : i < 3 := (List.getElem?_eq_some_iff.mp hi).1
    have l1 := lv S.length (some d) i h3 (S ++ [.lst ((acR i).map tp)])
    have ln := len i h3
    have ea : acR (i + 1) = acR i ++ lvR (i + 1) := rfl
    rw [ea, List.map_append]
    have ll : ((acR i).map tp).length + ((lvR (i + 1)).map tp).length ≤ 100000 := by
      rw [List.length_map, List.length_map]
      exact ln
    generalize (acR i).map tp = A at *
    generalize (lvR (i + 1)).map tp = B at *
    generalize (lvR i).map tp = B0 at *
    refine ⟨rfl, _, rfl, ?_⟩
    simp -implicitDefEqProofs [l1, ll, eBM, cellL, dExtend, rdP, putL, oM]
  · rintro e S' ⟨rfl, a4, rfl⟩
    refine ⟨rfl, ?_⟩
    have e3 : (rangeD 0 3).length = 3 := rfl
    rw [e3]
    simp -implicitDefEqProofs [sFrz, setS]
end PM
end
section
set_option Elab.async false
set_option linter.all false
set_option maxRecDepth 100000
set_option maxHeartbeats 4000000
set_option exponentiation.threshold 10000
namespace PM
open PySem L2
theorem enN_le5 {X Y : List Rd} (hX : ∀ r ∈ X, r.ok) (hY : ∀ r ∈ Y, r.ok) (h1 : X.length ≤ 5) (h2 : Y.length ≤ 5) : enN X Y ≤ 400 := by
  have sp := stp_pos (X ++ Y) (fun r h => (List.mem_append.mp h).elim (hX r) (hY r))
  unfold enN
  have := Nat.mul_le_mul sp.2 (show X.length + Y.length + max X.length Y.length + 1 ≤ 16 by omega)
  omega
def In3 (rs : List Rd) : Prop := ∀ r ∈ rs, r ∈ K3
theorem In3.ok {rs : List Rd} (h : In3 rs) : ∀ r ∈ rs, r.ok := fun r hr => by
  have := h r hr
  simp [K3] at this
  rcases this with rfl | rfl | rfl <;> simp [Rd.ok]
theorem In3.app {rs ss : List Rd} (h : In3 rs) (g : In3 ss) : In3 (rs ++ ss) := fun r hr => (List.mem_append.mp hr).elim (h r) (g r)
theorem In3.mx {rs : List Rd} (h : In3 rs) : mxd rs = false := by
  have : Rd.left ∉ rs := fun z => by
    have := h _ z
    simp [K3] at this
  simp [mxd, this]
theorem tp_inj {a b : List Rd} (h : tp a = tp b) : a = b := by
  injection h with h
  exact List.map_inj_right (fun _ _ z => Rd.d_inj.mp z) |>.mp h
theorem tups_tok : ((acR 3).map tp).all D.tok = true := by kernel_rfl
theorem tups_nd : ((acR 3).map tp).Nodup := by
  have h : (acR 3).Nodup := by decide +kernel
  exact List.Pairwise.map tp (fun _ _ z q => z (tp_inj q)) h
theorem tups_in : ∀ t ∈ acR 3, In3 t ∧ t.length ≤ 3 := by
  have : ∀ t ∈ acR 3, (∀ r ∈ t, r ∈ K3) ∧ t.length ≤ 3 := by decide +kernel
  exact this
theorem tups_up : (acR 3).Pairwise fun a b => a.length ≤ b.length := by decide +kernel
theorem lv_mem : ∀ (n : Nat) (t : List Rd), In3 t → t.length = n → t ∈ lvR n
  | 0, t, _, h => by
    rw [List.length_eq_zero_iff.mp h]
    exact List.mem_singleton.mpr rfl
  | n + 1, t, h, hl => by
    have ne : t ≠ [] := fun z => by subst z; cases hl
    have e := List.dropLast_concat_getLast ne
    refine List.mem_flatMap.mpr ⟨t.dropLast, lv_mem n _ (fun r hr => h r ((List.dropLast_sublist t).subset hr)) (by rw [List.length_dropLast, hl]; rfl), ?_⟩
    exact List.mem_map.mpr ⟨t.getLast ne, h _ (List.getLast_mem ne), e⟩
theorem tups_mem {t : List Rd} (h : In3 t) (hl : t.length ≤ 3) : t ∈ acR 3 := by
  have q := lv_mem t.length t h rfl
  show t ∈ ((acR 0 ++ lvR 1) ++ lvR 2) ++ lvR 3
  have e0 : acR 0 = lvR 0 := rfl
  rw [e0]
  simp only [List.mem_append]
  rcases (by omega : t.length = 0 ∨ t.length = 1 ∨ t.length = 2 ∨ t.length = 3) with z | z | z | z <;> rw [z] at q <;> simp only [q, true_or, or_true]
theorem tru_sam (n : Nat) (S : Sto) (e : Env) (i : Nat) (he : eVar i e S = .ok (samO n) S) : orM (tTru "SameAlways" m_SameAlways___bool__ (eVar i)) (tTru "FirstUnlike" m_FirstUnlike___bool__ (eVar i)) e S = .ok true S := by
  unfold orM
  have i1 : insOf S "SameAlways" "" (samO n) = true := rfl
  simp only [samO] at he i1 ⊢
  simp -implicitDefEqProofs [tTru, he, m_SameAlways___bool__, b_SameAlways___bool__, noE]
theorem tru_unl (n : Nat) (a b : D) (S : Sto) (e : Env) (i : Nat) (he : eVar i e S = .ok (unlO n a b) S) : orM (tTru "SameAlways" m_SameAlways___bool__ (eVar i)) (tTru "FirstUnlike" m_FirstUnlike___bool__ (eVar i)) e S = .ok false S := by
  unfold orM
  have i1 : insOf S "FirstUnlike" "" (unlO n a b) = true := rfl
  simp only [unlO] at he i1 ⊢
  simp -implicitDefEqProofs [tTru, he, m_FirstUnlike___bool__, b_FirstUnlike___bool__, noE]
/-- FewRounds(t, {..}) of a known dict -/
theorem mk_few {t : List Rd} {ks vs : List D} (tk : ks.all D.tok = true) (nd : ks.Nodup) (hl : ks.length = vs.length) (h1 : ks.length ≤ 100000) (h2 : t.length ≤ 12) :
    ∃ a, ∀ S, mkObj false "FewRounds" m_FewRounds___init__ [tp t, .dic ks vs] S = .ok (.obj "FewRounds" [("rounds", tp t), ("against", a)]) (S ++ [.dead]) := by
  refine ⟨.dic ks (ks.map fun d => (dfind d ks vs).getD .non), fun S => ?_⟩
  have run := fun (l : List (Option D)) (hl3 : l.length = 4) (l2 : l[2]? = some (some (.dic ks vs))) (S : Sto) => dc_run (i := 3) (j := 2) (ks0 := ks) (vs0 := vs) (t := tYesP) (e0 := ⟨l, none⟩) (S := S) (fun _ => true) (fun d _ => ⟨by simp [hl3], by simp [l2], rfl⟩) tk hl ks [] [] (fun d h => h) (by simpa using nd) rfl
  have f : ks.filter (fun _ => true) = ks := List.filter_eq_self.mpr fun _ _ => rfl
  simp only [f, List.nil_append] at run
  have tl : (t.map Rd.d).length ≤ 100000 := by rw [List.length_map]; omega
  unfold tp
  generalize t.map Rd.d = T at *
  simp -implicitDefEqProofs [mkObj_ap, m_FewRounds___init__, b_FewRounds___init__, eDc, h1, tl, run, fDic, noEM, noE, wipeE, wipeD, gd]
end PM
end
section
set_option Elab.async false
set_option linter.all false
set_option maxRecDepth 100000
set_option maxHeartbeats 4000000
set_option exponentiation.threshold 10000
namespace PM
open PySem L2
noncomputable def fBody : Stm := (sSeq (sAsg (eA m_judge_programs (aCons (eVar 0) (aCons (eA (mkObj false "Program" m_Program___init__) (aCons (eVar 3) aNil)) aNil))) (gN 4)) (sSeq (sIf (orM (tTru "SameAlways" m_SameAlways___bool__ (eVar 4)) (tTru "FirstUnlike" m_FirstUnlike___bool__ (eVar 4))) (sSeq (sFrzD 2) (sRet (eA (mkObj false "FewRounds" m_FewRounds___init__) (aCons (eVar 3) (aCons (eDc false (iKeysD (eVar 2)) [5] (gN 5) (tOf (e2 dLt (eA (d1 dLen) (aCons (eVar 5) aNil)) (eA (d1 dLen) (aCons (eVar 3) aNil)))) (eVar 5) (e2 dDGet (eVar 2) (eVar 5))) aNil))))) sNext) (sDSet (eA dTup (aCons (e1 (dFldC ["FirstUnlike"] "many") (eVar 4)) (aCons (e1 (dFldC ["FirstUnlike"] "basin") (eVar 4)) (aCons (e1 (dFldC ["FirstUnlike"] "place") (eVar 4)) aNil)))) (eVar 2) (eVar 3))))
def shorter (m : Nat) : D → Bool
  | .tup ds => decide (ds.length < m)
  | _ => false
def fewO (t : List Rd) (a : D) : D := .obj "FewRounds" [("rounds", tp t), ("against", a)]
/-- the end of the walk -/
theorem few_ret {P K : D} {t : List Rd} {ks vs : List D} {n : Nat} {x5 : Option D} {A : D} (ht : t.length ≤ 12) (tk : ks.all D.tok = true) (nd : ks.Nodup) (hl : ks.length = vs.length) (h1 : ks.length ≤ 100000) (hk : ∀ d ∈ ks, ∃ u : List Rd, d = tp u ∧ u.length ≤ 12) {S : Sto} (hS : S[n]? = some (.dct ks vs)) :
    ∃ a S', (sSeq (sFrzD 2) (sRet (eA (mkObj false "FewRounds" m_FewRounds___init__) (aCons (eVar 3) (aCons (eDc false (iKeysD (eVar 2)) [5] (gN 5) (tOf (e2 dLt (eA (d1 dLen) (aCons (eVar 5) aNil)) (eA (d1 dLen) (aCons (eVar 3) aNil)))) (eVar 5) (e2 dDGet (eVar 2) (eVar 5))) aNil))))) ⟨[some P, some K, some (.ptr n), some (tp t), some A, x5], none⟩ S = .rt (fewO t a) S' := by
  have run := fun (S : Sto) => dc_run (i := 5) (j := 2) (ks0 := ks) (vs0 := vs) (t := tOf (e2 dLt (eA (d1 dLen) (aCons (eVar 5) aNil)) (eA (d1 dLen) (aCons (eVar 3) aNil)))) (e0 := ⟨[some P, some K, some (.dic ks vs), some (tp t), some A, none], none⟩) (S := S) (shorter t.length) (fun d hd => ⟨by simp, by simp, by
    obtain ⟨u, rfl, hu⟩ := hk d hd
    have c1 : u.length ≤ 100000 := by omega
    have c2 : t.length ≤ 100000 := by omega
    simp -implicitDefEqProofs [tp, shorter, c1, c2]⟩) tk hl ks [] [] (fun d h => h) (by simpa using nd) rfl
  simp only [List.nil_append] at run
  have tk2 : (ks.filter (shorter t.length)).all D.tok = true := List.all_eq_true.mpr fun d hd => List.all_eq_true.mp tk d (List.mem_filter.mp hd).1
  have nd2 : (ks.filter (shorter t.length)).Nodup := nd.filter _
  have l2 : (ks.filter (shorter t.length)).length ≤ 100000 := Nat.le_trans (List.length_filter_le _ _) h1
  have mk := mk_few (t := t) tk2 nd2 (vs := (ks.filter (shorter t.length)).map fun d => (dfind d ks vs).getD .non) (by rw [List.length_map]) l2 ht
  unfold fewO
  generalize ks.filter (shorter t.length) = ks2 at *
  generalize (ks2.map fun d => (dfind d ks vs).getD .non) = vs2 at *
  generalize tp t = T at *
  obtain ⟨a, mk⟩ := mk
  refine ⟨a, S.set n .dead ++ [.dead], ?_⟩
  simp -implicitDefEqProofs [sFrzD, hS, setS, eDc, h1, run, fDic, noEM, noE, wipeE, wipeD, gd, mk]
theorem few_loop {rs : List Rd} {K : D} {L : List (List Rd)} (h : In3 rs) (hl : rs.length ≤ 5) (tk : (L.map tp).all D.tok = true) (nd : (L.map tp).Nodup) (hin : ∀ t ∈ L, In3 t ∧ t.length ≤ 3) (hL : L.length ≤ 100000) (n : Nat) (S : Sto) (h0 : S[n]? = some (.dct [] [])) (hex : ∃ t ∈ L, Same rs t) :
    ∃ (i : Nat) (t : List Rd) (a : D) (S' : Sto), L[i]? = some t ∧ Same rs t ∧ (∀ (j : Nat) (u : List Rd), j < i → L[j]? = some u → ¬ Same rs u) ∧ forGo [] (gN 3) fBody (L.map tp) ⟨[some (prog rs), some K, some (.ptr n), none, none, none], none⟩ S = .rt (fewO t a) S' := by
  refine forGo_rule (G := fun o => ∃ (i : Nat) (t : List Rd) (a : D) (S' : Sto), L[i]? = some t ∧ Same rs t ∧ (∀ (j : Nat) (u : List Rd), j < i → L[j]? = some u → ¬ Same rs u) ∧ o = .rt (fewO t a) S') (fun i e S' => ∃ vs x3 x4, e = ⟨[some (prog rs), some K, some (.ptr n), x3, x4, none], none⟩ ∧ S'[n]? = some (.dct ((L.map tp).take i) vs) ∧ ((L.map tp).take i).length = vs.length ∧ ∀ (j : Nat) (u : List Rd), j < i → L[j]? = some u → ¬ Same rs u) ⟨[], none, none, rfl, h0, rfl, fun j u hj => absurd hj (Nat.not_lt_zero _)⟩ ?_ ?_
  · rintro i d e S' hi ⟨vs, x3, x4, rfl, hS, hv, hn⟩
    have hi' := hi
    rw [List.getElem?_map] at hi
    obtain ⟨t, ht, rfl⟩ := Option.map_eq_some_iff.mp hi
    have hm := List.mem_of_getElem? ht
    obtain ⟨t3, tlen⟩ := hin t hm
    have mk := fun S => mk_Program (rs := t) (x := tp t) IsSeq.tup (by omega) t3.ok S
    have mx : mxd (rs ++ t) = false := (h.app t3).mx
    have je := fun S => (m_judge_programs_ok mx h.ok t3.ok (by omega) (by omega) (enN_le5 h.ok t3.ok hl (by omega))).eq S
    have ss := isSam_same mx h.ok t3.ok
    refine ⟨rfl, _, rfl, ?_⟩
    have hS2 : ∀ T, ((S' ++ [Cell.dead]) ++ T)[n]? = some (.dct ((L.map tp).take i) vs) := fun T => by
      have hn := (List.getElem?_eq_some_iff.mp hS).1
      rw [List.getElem?_append_left (by rw [List.length_append]; omega), List.getElem?_append_left hn]
      exact hS
    have hS3 := hS2 (tl m_judge_programs [prog rs, prog t] (S' ++ [Cell.dead]))
    have hiL : i < (L.map tp).length := (List.getElem?_eq_some_iff.mp hi').1
    have tkt : D.tok (tp t) = true := List.all_eq_true.mp tk _ (List.mem_of_getElem? hi')
    have tk' : ((L.map tp).take i).all D.tok = true := List.all_eq_true.mpr fun d hd => List.all_eq_true.mp tk d (List.mem_of_mem_take hd)
    have nd' : ((L.map tp).take i).Nodup := nd.sublist (List.take_sublist _ _)
    have lt' : ((L.map tp).take i).length ≤ 100000 := by rw [List.length_take, List.length_map]; omega
    have ni : tp t ∉ (L.map tp).take i := fun z => by
      obtain ⟨j, hj, e⟩ := List.getElem_of_mem z
      rw [List.getElem_take] at e
      rw [List.length_take] at hj
      have := (List.getElem?_inj (i := j) (j := i) (by omega) nd).mp (by rw [hi', List.getElem?_eq_getElem (by omega), e])
      omega
    have a1 : (sAsg (eA m_judge_programs (aCons (eVar 0) (aCons (eA (mkObj false "Program" m_Program___init__) (aCons (eVar 3) aNil)) aNil))) (gN 4)) ⟨[some (prog rs), some K, some (.ptr n), some (tp t), x4, none], none⟩ S' = .nx ⟨[some (prog rs), some K, some (.ptr n), some (tp t), some (jp rs t), none], none⟩ ((S' ++ [Cell.dead]) ++ tl m_judge_programs [prog rs, prog t] (S' ++ [Cell.dead])) := by
      generalize prog rs = P at *
      generalize prog t = Pt at *
      generalize tp t = Tt at *
      generalize jp rs t = J at *
      simp -implicitDefEqProofs [mk, je]
    generalize ((S' ++ [Cell.dead]) ++ tl m_judge_programs [prog rs, prog t] (S' ++ [Cell.dead])) = S2 at *
    rcases jp_cases rs t with hj | ⟨m, a, b, hj⟩
    · have same : Same rs t := ss.mp ((isSam_iff h.ok t3.ok).mpr hj)
      rw [hj] at a1
      obtain ⟨a, S9, er⟩ := few_ret (P := prog rs) (K := K) (t := t) (x5 := none) (A := samO (enN rs t)) (by omega) tk' nd' hv lt' (fun d hd => by
        obtain ⟨u, hu, rfl⟩ := List.mem_map.mp (List.mem_of_mem_take hd)
        exact ⟨u, rfl, by have := (hin u hu).2; omega⟩) hS3
      have tr := tru_sam (enN rs t) S2 ⟨[some (prog rs), some K, some (.ptr n), some (tp t), some (samO (enN rs t)), none], none⟩ 4 rfl
      have b3 : fBody ⟨[some (prog rs), some K, some (.ptr n), some (tp t), x4, none], none⟩ S' = .rt (fewO t a) S9 := by
        unfold fBody
        rw [sSeq_ap, a1]
        rw [andThen_nx, sSeq_ap, sIf_ap, tr]
        show SO.andThen (sSeq (sFrzD 2) _ _ _) _ = _
        rw [er]
        rfl
      show PM.Turn _ _ (fBody ⟨[some (prog rs), some K, some (.ptr n), some (tp t), x4, none], none⟩ S')
      rw [b3]
      exact ⟨i, t, a, S9, ht, same, hn, rfl⟩
    · have not : ¬ Same rs t := fun sm => by
        have := (isSam_iff h.ok t3.ok).mp (ss.mpr sm)
        rw [hj] at this
        simp [samO, unlO] at this
      rw [hj] at a1
      have tr := tru_unl m a b S2 ⟨[some (prog rs), some K, some (.ptr n), some (tp t), some (unlO m a b), none], none⟩ 4 rfl
      have dp := fun v => dDPut_new (v := v) hS3 tk' tkt lt' ni
      have hS2n := (List.getElem?_eq_some_iff.mp hS3).1
      have b3 : fBody ⟨[some (prog rs), some K, some (.ptr n), some (tp t), x4, none], none⟩ S' = .nx ⟨[some (prog rs), some K, some (.ptr n), some (tp t), some (unlO m a b), none], none⟩ (S2.set n (.dct ((L.map tp).take i ++ [tp t]) (vs ++ [.tup [.int m, a, b]]))) := by
        unfold fBody
        rw [sSeq_ap, a1]
        rw [andThen_nx, sSeq_ap, sIf_ap, tr]
        show sDSet _ _ _ _ _ = _
        generalize tp t = Tt at *
        simp -implicitDefEqProofs [unlO, dp]
      show PM.Turn _ _ (fBody ⟨[some (prog rs), some K, some (.ptr n), some (tp t), x4, none], none⟩ S')
      rw [b3]
      have tk1 : (L.map tp).take (i + 1) = (L.map tp).take i ++ [tp t] := by rw [List.take_add_one, hi']; rfl
      refine ⟨vs ++ [.tup [.int m, a, b]], _, _, rfl, ?_, ?_, fun j u hj hu => ?_⟩
      · rw [tk1, List.getElem?_set_self hS2n]
      · rw [tk1, List.length_append, List.length_append, hv]
        rfl
      · by_cases q : j = i
        · subst q
          rw [ht] at hu
          cases hu
          exact not
        · exact hn j u (by omega) hu
  · rintro e S' ⟨vs, x3, x4, rfl, hS, hv, hn⟩
    exfalso
    obtain ⟨t, ht, hs⟩ := hex
    obtain ⟨j, hj, e⟩ := List.getElem_of_mem ht
    exact hn j t (by rw [List.length_map]; exact hj) (by rw [List.getElem?_eq_getElem hj, e]) hs
end PM
end
section
set_option Elab.async false
set_option linter.all false
set_option maxRecDepth 100000
set_option maxHeartbeats 4000000
set_option exponentiation.threshold 10000
namespace PM
open PySem L2
theorem few_ok {rs : List Rd} (h : In3 rs) (hl : rs.length ≤ 3) (S : Sto) : ∃ (t : List Rd) (a : D) (S' : Sto), In3 t ∧ t.length ≤ (tdy rs rs.length).length ∧ t.length ≤ 3 ∧ Same rs t ∧ m_few_rounds [prog rs, .lst (K3.map Rd.d)] S = .ok (fewO t a) S' := by
  have g1 : Gd1 rs := ⟨h.ok, h.mx⟩
  obtain ⟨d1, d2⟩ := tdy_sub rs rs.length
  have sd : Same rs (tdy rs rs.length) := (tdy_same g1 rs.length).symm
  have md : tdy rs rs.length ∈ acR 3 := tups_mem (fun r hr => h r (d2 r hr)) (by omega)
  have k0 : K3.map Rd.d = K3.map Rd.d := rfl
  have kk := fun S => kinds_ok S
  have cp := fun S => m_check_program_ok rs S
  have um := fun S => unmixed_ok (rs := rs ++ K3) (x := .lst (rs.map Rd.d ++ K3.map Rd.d)) (by rw [← List.map_append]; exact IsSeq.lst) (h.app fun r hr => hr).mx S
  have tu := fun S => tuples_ok S
  have c1 : (rs.map Rd.d).length + (K3.map Rd.d).length ≤ 100000 := by rw [List.length_map, List.length_map]; show rs.length + 3 ≤ 100000; omega
  have lp := few_loop (rs := rs) (K := .lst (K3.map Rd.d)) (L := acR 3) h (by omega) tups_tok tups_nd tups_in (by decide +kernel) S.length (S ++ [.dct [] []] ++ [.dead]) (by simp) ⟨_, md, sd⟩
  obtain ⟨i, t, a, S9, ht, hs, hn, lp⟩ := lp
  obtain ⟨t1, t2⟩ := tups_in t (List.mem_of_getElem? ht)
  refine ⟨t, a, S9, t1, ?_, t2, hs, ?_⟩
  · obtain ⟨j, hj, e⟩ := List.getElem_of_mem md
    have hij : i ≤ j := by
      rcases Nat.lt_or_ge j i with q | q
      · exact absurd sd (hn j _ q (by rw [List.getElem?_eq_getElem hj, e]))
      · exact q
    rcases Nat.lt_or_ge i j with q | q
    · have up := List.pairwise_iff_getElem.mp tups_up i j (List.getElem?_eq_some_iff.mp ht).1 hj q
      rw [(List.getElem?_eq_some_iff.mp ht).2, e] at up
      exact up
    · have : i = j := by omega
      subst this
      rw [List.getElem?_eq_getElem hj, e] at ht
      cases ht
      exact Nat.le_refl _
  · unfold m_few_rounds
    have pr : prog rs = .obj "Program" [("rounds", .tup (rs.map Rd.d))] := rfl
    have fl : ∀ S, dFldC ["Program"] "rounds" (prog rs) S = .ok (.tup (rs.map Rd.d)) S := fun S => by rw [pr]; simp -implicitDefEqProofs
    generalize (acR 3).map tp = L at *
    generalize K3.map Rd.d = K at *
    generalize rs.map Rd.d = R at *
    generalize prog rs = P at *
    unfold fBody at lp
    simp -implicitDefEqProofs [b_few_rounds, kk, cp, fl, c1, um, tu]
    simp only [List.append_assoc, List.cons_append, List.nil_append] at lp
    rw [lp]
    rfl
def dbr : Rd → List Rd
  | .ev a b => [.ev a b, .ev a b]
  | r => [r]
def dbl (rs : List Rd) : List Rd := rs.flatMap dbr
theorem dbl_len : ∀ rs : List Rd, (dbl rs).length ≤ 2 * rs.length
  | [] => Nat.le_refl _
  | r :: rs => by
    have := dbl_len rs
    show (dbr r ++ dbl rs).length ≤ _
    rw [List.length_append, List.length_cons]
    cases r <;> simp [dbr] <;> omega
theorem dbl_in {rs : List Rd} (h : In3 rs) : In3 (dbl rs) := fun r hr => by
  obtain ⟨x, hx, e⟩ := List.mem_flatMap.mp hr
  have := h x hx
  cases x with
  | ev a b =>
    simp [dbr] at e
    rw [e]
    exact this
  | _ =>
    simp [dbr] at e
    rw [e]
    exact this
theorem dbl_same : ∀ {rs : List Rd}, In3 rs → Same rs (dbl rs)
  | [], _ => Same.refl []
  | r :: rs, h => by
    have ih := dbl_same (rs := rs) fun x hx => h x (List.mem_cons_of_mem _ hx)
    have hr := h r (by simp)
    have s1 : Same [r] (dbr r) := by
      cases r with
      | right => exact Same.refl _
      | left => exact Same.refl _
      | ev a b =>
        have ha : 2 ≤ a := by simp [K3] at hr; omega
        refine fun n => like_of fun f => ?_
        exact (dup_ply ha [] [] n f).symm
    exact Same.app s1 ih
theorem Same.tb' {rs ss : List Rd} (hr : ∀ r ∈ rs, r.ok) (hs : ∀ r ∈ ss, r.ok) (h : Same rs ss) : Same (tb rs) (tb ss) := fun n => (like_tb hr hs n).mp (h n)
/-- where two programs first differ -/
theorem unl_first {rs ss rs' ss' : List Rd} (hr : ∀ r ∈ rs, r.ok) (hs : ∀ r ∈ ss, r.ok) (hr' : ∀ r ∈ rs', r.ok) (hs' : ∀ r ∈ ss', r.ok) (like : ∀ n, Like rs ss n ↔ Like rs' ss' n) (h : jp rs ss ≠ samO (enN rs ss)) (h' : jp rs' ss' ≠ samO (enN rs' ss')) :
    ∃ n b p b' p' : Nat, jp rs ss = unlO n (.int b) (.int p) ∧ jp rs' ss' = unlO n (.int b') (.int p') := by
  obtain ⟨n, b, p, e, n1, n2, b1, p1, ne, l, _, _⟩ := jp_unl hr hs h
  obtain ⟨n', b', p', e', n1', n2', b1', p1', ne', l', _, _⟩ := jp_unl hr' hs' h'
  have d1 : ¬ Like rs ss n := fun z => ne (z b b1 p p1)
  have d2 : ¬ Like rs' ss' n' := fun z => ne' (z b' b1' p' p1')
  have : n = n' := by
    rcases Nat.lt_trichotomy n n' with q | q | q
    · exact absurd ((like n).mpr (l' n n1 q)) d1
    · exact q
    · exact absurd ((like n').mp (l n' n1' q)) d2
  subst this
  exact ⟨n, b, p, b', p', e, e'⟩
theorem enN_comm (rs ss : List Rd) : enN rs ss = enN ss rs := by
  have le : ∀ X Y : List Rd, stp (X ++ Y) ∣ stp (Y ++ X) := fun X Y => stpF_least (X ++ Y) 1 _ (Nat.one_dvd _) fun a b h => (stpF_dvd (Y ++ X) 1).2 a b (List.mem_append.mpr ((List.mem_append.mp h).symm))
  have e : stp (rs ++ ss) = stp (ss ++ rs) := Nat.dvd_antisymm (le rs ss) (le ss rs)
  unfold enN
  rw [e, Nat.max_comm, Nat.add_comm rs.length]
theorem jp_comm {rs ss : List Rd} (hr : ∀ r ∈ rs, r.ok) (hs : ∀ r ∈ ss, r.ok) (h : jp rs ss ≠ samO (enN rs ss)) (h' : jp ss rs ≠ samO (enN ss rs)) : jp rs ss = jp ss rs := by
  obtain ⟨n, b, p, e, n1, n2, b1, p1, ne, l, lb, lp⟩ := jp_unl hr hs h
  obtain ⟨n', b', p', e', n1', n2', b1', p1', ne', l', lb', lp'⟩ := jp_unl hs hr h'
  have d1 : ¬ Like rs ss n := fun z => ne (z b b1 p p1)
  have d2 : ¬ Like ss rs n' := fun z => ne' (z b' b1' p' p1')
  have hn : n = n' := by
    rcases Nat.lt_trichotomy n n' with q | q | q
    · exact absurd (fun b hb i hi => (l' n n1 q b hb i hi).symm) d1
    · exact q
    · exact absurd (fun b hb i hi => (l n' n1' q b hb i hi).symm) d2
  subst hn
  have hb : b = b' := by
    rcases Nat.lt_trichotomy b b' with q | q | q
    · exact absurd (lb' b q p p1).symm ne
    · exact q
    · exact absurd (lb b' q p' p1').symm ne'
  subst hb
  have hp : p = p' := by
    rcases Nat.lt_trichotomy p p' with q | q | q
    · exact absurd (lp' p q).symm ne
    · exact q
    · exact absurd (lp p' q).symm ne'
  subst hp
  rw [e, e']
end PM
end
section
set_option Elab.async false
set_option linter.all false
set_option maxRecDepth 100000
set_option maxHeartbeats 2000000
namespace PM
open PySem L2
end PM
end
section
set_option Elab.async false
set_option linter.all false
set_option maxRecDepth 100000
set_option maxHeartbeats 2000000
set_option exponentiation.threshold 10000
namespace PM
open PySem L2
def ptf (n : Nat) (es : List Int) (b : Nat) : Int × Int := ((prts n es).filter (fun p => decide (p.1 ≤ (b : Int)) && decide ((b : Int) < p.2))).headD (0, 0)
abbrev dp (p : Int × Int) : D := .tup [.int p.1, .int p.2]
/-- the places that are not even behind k laps -/
def plc (n : Nat) (ws es : List Int) (b k : Nat) : List Int := (rng (ptf n es b).1 (ptf n es b).2).filter fun i => !decide ((lapQ ws (unQ n b) k).getD i.toNat 0 = 1 / (((ptf n es b).2 - (ptf n es b).1 : Int) : Rat))
/-- how many of the numbers of laps leave something -/
def cnt (n : Nat) (ws es : List Int) (b : Nat) : Nat := ((List.range (n + 1)).filter fun k => !(plc n ws es b k).isEmpty).length
end PM
end
section
set_option Elab.async false
set_option linter.all false
set_option maxRecDepth 100000
set_option maxHeartbeats 2000000
set_option exponentiation.threshold 10000
namespace PM
open PySem L2
def Sm (B : Nat) (q : Rat) : Prop := q.den < 2 ^ B ∧ q.num.natAbs < 2 ^ B
theorem Sm.le {B C : Nat} {q : Rat} (h : Sm B q) (hc : B ≤ C) : Sm C q := ⟨Nat.lt_of_lt_of_le h.1 (Nat.pow_le_pow_right (by decide) hc), Nat.lt_of_lt_of_le h.2 (Nat.pow_le_pow_right (by decide) hc)⟩
end PM
end
section
set_option Elab.async false
set_option linter.all false
set_option maxRecDepth 100000
set_option maxHeartbeats 2000000
set_option exponentiation.threshold 10000
namespace PM
open PySem L2
def maxL0 (ns : List Int) : Int := match ns with
  | [] => 0
  | n :: ns => maxI n ns
/-- the off of a basin, in whole numbers -/
def offI (t : List Int) (Z : Int) (p : Int × Int) : List Int := (rng p.1 p.2).map fun i => if t.getD i.toNat 0 * (p.2 - p.1) - Z < 0 then -(t.getD i.toNat 0 * (p.2 - p.1) - Z) else t.getD i.toNat 0 * (p.2 - p.1) - Z
def mB (t : List Int) (Z : Int) (p : Int × Int) : Rat := ((maxL0 (offI t Z p) : Int) : Rat) / ((Z * (p.2 - p.1) : Int) : Rat)
end PM
end
section
set_option Elab.async false
set_option linter.all false
set_option maxRecDepth 100000
set_option maxHeartbeats 2000000
set_option exponentiation.threshold 10000
namespace PM
open PySem L2
end PM
end
section
set_option Elab.async false
set_option linter.all false
set_option maxRecDepth 100000
set_option maxHeartbeats 2000000
set_option exponentiation.threshold 10000
namespace PM
open PySem L2
end PM
end
section
set_option Elab.async false
set_option linter.all false
set_option maxRecDepth 100000
set_option maxHeartbeats 4000000
namespace PM
open PySem L2
end PM
end
section
set_option Elab.async false
set_option linter.all false
set_option maxRecDepth 100000
set_option maxHeartbeats 4000000
set_option exponentiation.threshold 10000
namespace EJ
open PySem L2 PM
theorem lcGo_flt {α : Type} {tg : D → PM.Env → Option PM.Env} {t : PM.Env → M Bool} {m : PM.Env → M D} {e0 : PM.Env} (enc : α → D) (b : α → Bool) (f : α → D) : ∀ (xs : List α), (∀ x ∈ xs, ∃ e1, tg (enc x) e0 = some e1 ∧ (∀ S, ∃ T, t e1 S = .ok (b x) (S ++ T)) ∧ (b x = true → ∀ S, m e1 S = .ok (f x) S)) → ∀ S, ∃ T, lcGo [] tg t m e0 (xs.map enc) S = .ok ((xs.filter b).map f) (S ++ T)
  | [], _, S => ⟨[], by rw [List.append_nil]; rfl⟩
  | x :: xs, h, S => by
    obtain ⟨e1, h1, h2, h3⟩ := h x (by simp)
    obtain ⟨T, hT⟩ := h2 S
    obtain ⟨T2, hT2⟩ := lcGo_flt enc b f xs (fun y hy => h y (List.mem_cons_of_mem _ hy)) (S ++ T)
    refine ⟨T ++ T2, ?_⟩
    rw [List.map_cons]
    show (oM (tg (enc x) e0) _ : M _) S = _
    rw [h1]
    show ((t e1 S).then _) = _
    rw [hT]
    show (if b x = true then _ else _ : M _) (S ++ T) = _
    cases hb : b x with
    | true =>
      simp only [if_true]
      show ((m e1 (S ++ T)).then _) = _
      rw [h3 hb]
      show ((lcGo [] tg t m e0 (xs.map enc) (S ++ T)).then _) = _
      rw [hT2, List.filter_cons_of_pos hb, List.append_assoc]
      rfl
    | false =>
      simp only [Bool.false_eq_true, if_false]
      rw [hT2, List.filter_cons_of_neg (by rw [hb]; decide), List.append_assoc]
open Classical in
noncomputable def unl (rs ss : List PM.Rd) (n most : Nat) : Bool := decide (¬ likeTo rs ss n (min n most))
theorem unl_false {rs ss : List PM.Rd} {n most : Nat} : unl rs ss n most = false ↔ likeTo rs ss n (min n most) := by
  unfold unl
  by_cases h : likeTo rs ss n (min n most)
  · simp [h]
  · simp [h]
theorem unl_full {rs ss : List PM.Rd} {n : Nat} : unl rs ss n n = false ↔ Like rs ss n := by
  rw [unl_false, Nat.min_self]
  exact Iff.rfl
def la (s : Int) (ds : List D) : D := .obj "Later" [("step", .int s), ("rests", .lst ds)]
theorem mk_la (s : Int) {ds : List D} (h : ds.length ≤ 100000) (S : Sto) : mkObj false "Later" m_Later___init__ [.int s, .lst ds] S = .ok (la s ds) (S ++ [.dead]) := by
  simp [mkObj_ap, m_Later___init__, b_Later___init__, la, h]
theorem bool_la (s : Int) {ds : List D} (h : ds.length ≤ 100000) (S : Sto) : dBoolO "Later" m_Later___bool__ [la s ds] S = .ok (.bl (decide ((ds.length : Int) = s))) S := by
  have c : (ds.length : Int) < 9223372036854775808 := by omega
  have e : insOf S "Later" "" (la s ds) = true := rfl
  simp only [la] at e ⊢
  simp -implicitDefEqProofs [dBoolO, e, m_Later___bool__, b_Later___bool__, dBoolB, c, noE]
/-- the rests of those of c numbers from a on for which q says so -/
def mods (q : Nat → Bool) (a c s : Nat) : List Nat := ((List.range c).filter fun k => q (a + k)).map fun k => (a + k) % s
theorem mem_mods {q : Nat → Bool} {a c s r : Nat} : r ∈ mods q a c s ↔ ∃ n, a ≤ n ∧ n < a + c ∧ q n = true ∧ n % s = r := by
  unfold mods
  constructor
  · intro h
    obtain ⟨k, hk, rfl⟩ := List.mem_map.mp h
    obtain ⟨h1, h2⟩ := List.mem_filter.mp hk
    have := List.mem_range.mp h1
    exact ⟨a + k, by omega, by omega, h2, rfl⟩
  · rintro ⟨n, h1, h2, h3, rfl⟩
    refine List.mem_map.mpr ⟨n - a, List.mem_filter.mpr ⟨List.mem_range.mpr (by omega), ?_⟩, ?_⟩
    · rw [show a + (n - a) = n by omega]
      exact h3
    · rw [show a + (n - a) = n by omega]
def dN (l : List Nat) : List D := l.map fun k : Nat => D.int (k : Int)
theorem dN_fit (l : List Nat) (n : Nat) : (D.lst (dN l)).fit (n + 1) = true := by
  rw [fit_lst]
  simp [dN]
theorem mem_dN {r : Nat} {l : List Nat} : (D.int (r : Int) ∈ dN l) = (r ∈ l) := propext ⟨fun h => by
  obtain ⟨k, hk, e⟩ := List.mem_map.mp h
  injection e with e
  rwa [← Int.ofNat.inj e], fun h => List.mem_map.mpr ⟨r, h, rfl⟩⟩
theorem dN_len (l : List Nat) : (dN l).length = l.length := by unfold dN; rw [List.length_map]
/-- the rests below s that are not told -/
def left (s : Nat) (U : List Nat) : List Nat := (List.range s).filter fun r => !decide (r ∈ U)
theorem left_len (s : Nat) (U : List Nat) : (left s U).length ≤ s := by
  have := List.length_filter_le (fun r => !decide (r ∈ U)) (List.range s)
  rwa [List.length_range] at this
def more (rs ss : List PM.Rd) : Nat := stp (rs ++ ss) * (rs.length + ss.length + max rs.length ss.length)
noncomputable def unU (rs ss : List PM.Rd) : List Nat := mods (fun n => unl rs ss n n) (enN rs ss) (more rs ss + 1) (stp (rs ++ ss))
noncomputable def laO (rs ss : List PM.Rd) : D := la (stp (rs ++ ss)) (dN (left (stp (rs ++ ss)) (unU rs ss)))
theorem m_judge_later_ok {rs ss : List PM.Rd} (hm : mxd (rs ++ ss) = false) (hr : ∀ r ∈ rs, r.ok) (hs : ∀ r ∈ ss, r.ok) (hl : rs.length ≤ 12) (hl' : ss.length ≤ 12) (hN : enN rs ss + more rs ss ≤ 400) : Ext m_judge_later [prog rs, prog ss] (laO rs ss) := fun S => by
  have em : (if rs.length < ss.length then (ss.length : Int) else (rs.length : Int)) = ((max rs.length ss.length : Nat) : Int) := by split <;> omega
  have l1 := fun S => lenO_ok rs hl S
  have l2 := fun S => lenO_ok ss hl' S
  have cp := fun S => m_check_pair_ok hm hl hl' S
  have en := fun S => m_enough_ok hr hs hl hl' S
  have cs := fun S => m_common_step_ok hr hs hl hl' S
  obtain ⟨p1, p2⟩ := stp_pos (rs ++ ss) (fun r h => (List.mem_append.mp h).elim (hr r) (hs r))
  have e0 : more rs ss = stp (rs ++ ss) * (rs.length + ss.length + max rs.length ss.length) := rfl
  have en1 : 1 ≤ enN rs ss := by unfold enN; omega
  have sb : stp (rs ++ ss) ≤ 400 := by
    have : stp (rs ++ ss) ≤ enN rs ss := by
      unfold enN
      have := Nat.le_mul_of_pos_right (stp (rs ++ ss)) (show 0 < rs.length + ss.length + max rs.length ss.length + 1 by omega)
      omega
    omega
  have eu : laO rs ss = la (stp (rs ++ ss)) (dN (left (stp (rs ++ ss)) (unU rs ss))) := rfl
  have eU : unU rs ss = mods (fun n => unl rs ss n n) (enN rs ss) (more rs ss + 1) (stp (rs ++ ss)) := rfl
  rw [eu]
  generalize unU rs ss = U at *
  generalize enN rs ss = N at *
  generalize hs' : stp (rs ++ ss) = s at *
  generalize hM : more rs ss = M at *
  have eM : (s : Int) * ((rs.length : Int) + (ss.length : Int) + ((max rs.length ss.length : Nat) : Int)) = (M : Int) := by
    rw [e0]
    simp only [Int.natCast_add, Int.natCast_mul, Int.natCast_one]
  have lg : s.log2 + ((rs.length : Int) + (ss.length : Int) + ((max rs.length ss.length : Nat) : Int)).natAbs.log2 < 1000000 := by
    have := Nat.log2_le_self s
    have := Nat.log2_le_self ((rs.length : Int) + (ss.length : Int) + ((max rs.length ss.length : Nat) : Int)).natAbs
    omega
  generalize max rs.length ss.length = m at *
  have s0 : 0 < s := by omega
  have rA : rangeD (N : Int) ((N : Int) + (M : Int) + 1) = (List.range (M + 1)).map fun k : Nat => D.int ((N + k : Nat) : Int) := by
    unfold rangeD
    rw [show ((N : Int) + (M : Int) + 1 - (N : Int)).toNat = M + 1 by omega]
    refine List.map_congr_left fun k _ => ?_
    rw [Int.natCast_add]
  have lc1 : ∀ S, ∃ T, lcGo [] (gN 6) (tOf (e2 (dIsN true) (eA m_first_unlike (aCons (eVar 0) (aCons (eVar 1) (aCons (eVar 6) aNil)))) (eC .non))) (e2 dMod (eVar 6) (eVar 2)) ⟨[some (prog rs), some (prog ss), some (.int s), some (.int N), some (.int M), none, none, none], none⟩ ((List.range (M + 1)).map fun k : Nat => D.int ((N + k : Nat) : Int)) S = .ok (dN U) (S ++ T) := fun S => by
    obtain ⟨T, h⟩ := lcGo_flt (tg := gN 6) (t := tOf (e2 (dIsN true) (eA m_first_unlike (aCons (eVar 0) (aCons (eVar 1) (aCons (eVar 6) aNil)))) (eC .non))) (m := e2 dMod (eVar 6) (eVar 2)) (e0 := ⟨[some (prog rs), some (prog ss), some (.int s), some (.int N), some (.int M), none, none, none], none⟩) (fun k : Nat => D.int ((N + k : Nat) : Int)) (fun k => unl rs ss (N + k) (N + k)) (fun k => D.int (((N + k) % s : Nat) : Int)) (List.range (M + 1)) (fun k hk => by
      have hk := List.mem_range.mp hk
      refine ⟨_, rfl, fun S => ?_, fun _ S => ?_⟩
      · obtain ⟨T, fe⟩ := m_first_unlike_ok hl hr hl' hs (n := N + k) (by omega) (by omega) S
        have fe : m_first_unlike [prog rs, prog ss, .int ((N + k : Nat) : Int)] S = .ok (fuV rs ss (N + k)) (S ++ T) := fe
        refine ⟨T, ?_⟩
        have nn : (!(fuV rs ss (N + k)).isNon) = unl rs ss (N + k) (N + k) := by
          cases w : unl rs ss (N + k) (N + k) with
          | false =>
            rw [(fuV_non hr hs (N + k)).mpr (unl_full.mp w)]
            rfl
          | true =>
            rcases fuV_cases rs ss (N + k) with z | ⟨a, b, z⟩
            · rw [unl_full.mpr ((fuV_non hr hs (N + k)).mp z)] at w
              cases w
            · rw [z]
              rfl
        rw [← nn]
        generalize ((N + k : Nat) : Int) = x at *
        simp -implicitDefEqProofs [fe]
      · have : ((N + k : Nat) : Int) % (s : Int) = (((N + k) % s : Nat) : Int) := by omega
        generalize ((N + k : Nat) : Int) = x at *
        simp -implicitDefEqProofs [s0, this]) S
    refine ⟨T, ?_⟩
    rw [h, eU]
    unfold dN mods
    rw [List.map_map]
    rfl
  have rB := rangeD_nat s
  have c1 : (-1000000 : Int) ≤ N ∧ (N : Int) ≤ 1000000 ∧ (-1000000 : Int) ≤ (N : Int) + (M : Int) + 1 ∧ (N : Int) + (M : Int) + 1 ≤ 1000000 := by omega
  have c2 : (-1000000 : Int) ≤ s ∧ (s : Int) ≤ 1000000 := by omega
  have lc2 := fun S => lcGo_map (tg := gN 7) (t := tOf (e2 dNotInF (eVar 7) (eVar 5))) (m := eVar 7) (e0 := ⟨[some (prog rs), some (prog ss), some (.int s), some (.int N), some (.int M), some (.lst (dN U)), none, none], none⟩) (S := S) (fun k : Nat => D.int (k : Int)) (fun k => !decide (k ∈ U)) (fun k : Nat => D.int (k : Int)) (List.range s) fun k hk => by
    refine ⟨_, rfl, ?_, fun _ => by simp⟩
    have d := dNotInF_lst (a := .int (k : Int)) (ds := dN U) S (by simp) (dN_fit U 11)
    simp only [mem_dN] at d
    simp -implicitDefEqProofs [d]
  have mk := fun S => mk_la (s : Int) (ds := dN (left s U)) (by rw [dN_len]; have := left_len s U; omega) S
  obtain ⟨T, hT⟩ := lc1 S
  refine ⟨T ++ [.dead], ?_⟩
  have el : (List.filter (fun k => !decide (k ∈ U)) (List.range s)).map (fun k : Nat => D.int (k : Int)) = dN (left s U) := rfl
  rw [el] at lc2
  have hX : ((List.range (M + 1)).map fun k : Nat => D.int ((N + k : Nat) : Int)).length ≤ 100000 := by rw [List.length_map, List.length_range]; omega
  have c3 : s ≤ 100000 := by omega
  generalize dN (left s U) = R at *
  generalize dN U = U' at *
  generalize (List.range (M + 1)).map (fun k : Nat => D.int ((N + k : Nat) : Int)) = X at *
  generalize prog rs = P at *
  generalize prog ss = Q at *
  simp -implicitDefEqProofs [m_judge_later, b_judge_later, cp, cs, en, l1, l2, em, lg, eM, rA, rB, c1, c2, hX, c3, hT, lc2, mk]
theorem same_U {rs ss : List PM.Rd} (h : Same rs ss) (r : Nat) : r ∉ unU rs ss := fun z => by
  obtain ⟨n, _, _, n3, _⟩ := mem_mods.mp (show r ∈ mods _ _ _ _ from z)
  rw [unl_full.mpr (h n)] at n3
  cases n3
theorem same_left {rs ss : List PM.Rd} (h : Same rs ss) (s : Nat) : (left s (unU rs ss)).length = s := by
  unfold left
  rw [List.filter_eq_self.mpr fun r _ => by rw [decide_eq_false (same_U h r)]; rfl, List.length_range]
end EJ
end
section
set_option Elab.async false
set_option linter.all false
set_option maxRecDepth 100000
set_option maxHeartbeats 4000000
set_option exponentiation.threshold 10000
namespace Lk14
open PySem L2 PM EJ
def G (o : SO) : Prop := ∃ S', toOut o = .ok (.bl true) S'
structure JC (X Y : List PM.Rd) : Prop where
  mx : mxd (X ++ Y) = false
  hr : ∀ r ∈ X, r.ok
  hs : ∀ r ∈ Y, r.ok
  l1 : X.length ≤ 5
  l2 : Y.length ≤ 5
variable {X Y : List PM.Rd}
theorem JC.of (h : In3 X) (g : In3 Y) (l1 : X.length ≤ 5) (l2 : Y.length ≤ 5) : JC X Y := ⟨(h.app g).mx, h.ok, g.ok, l1, l2⟩
theorem tb_noR (h : In3 X) : PM.Rd.right ∉ tb X := fun z => by
  obtain ⟨x, hx, e⟩ := List.mem_map.mp z
  have := h x (List.mem_reverse.mp hx)
  simp [K3] at this
  rcases this with rfl | rfl | rfl <;> cases e
theorem JC.tb (h : In3 X) (g : In3 Y) (l1 : X.length ≤ 5) (l2 : Y.length ≤ 5) : JC (PM.tb X) (PM.tb Y) := ⟨by
  have a := tb_noR h
  have b := tb_noR g
  simp [mxd, a, b], tb_ok h.ok, tb_ok g.ok, by rw [tb_len]; exact l1, by rw [tb_len]; exact l2⟩
theorem JC.ext (c : JC X Y) : Ext m_judge_programs [prog X, prog Y] (jp X Y) := m_judge_programs_ok c.mx c.hr c.hs (by have := c.l1; omega) (by have := c.l2; omega) (enN_le5 c.hr c.hs c.l1 c.l2)
theorem JC.sam (c : JC X Y) (s : Same X Y) : jp X Y = samO (enN X Y) := (sam_same c.mx c.hr c.hs).mpr s
theorem JC.nsam (c : JC X Y) (s : ¬ Same X Y) : jp X Y ≠ samO (enN X Y) := fun h => s ((sam_same c.mx c.hr c.hs).mp h)
theorem b_sam (n : Nat) (S : Sto) : dBoolO "SameAlways" m_SameAlways___bool__ [samO n] S = .ok (.bl true) S := by
  have pe : ∀ S, insOf S "SameAlways" "" (samO n) = true := fun S => rfl
  have eo : ∀ S, m_SameAlways___bool__ [samO n] S = .ok (.bl true) S := fun S => by
    simp -implicitDefEqProofs [m_SameAlways___bool__, b_SameAlways___bool__]
  generalize samO n = J at *
  simp -implicitDefEqProofs [dBoolO, pe, eo, noE]
theorem b_unl1 (n : Nat) (a b : D) (S : Sto) : dBoolO "SameAlways" m_SameAlways___bool__ [unlO n a b] S = .no := by
  have pn : ∀ S, insOf S "SameAlways" "" (unlO n a b) = false := fun S => rfl
  generalize unlO n a b = J at *
  simp -implicitDefEqProofs [dBoolO, pn]
theorem b_unl2 (n : Nat) (a b : D) (S : Sto) : dBoolO "FirstUnlike" m_FirstUnlike___bool__ [unlO n a b] S = .ok (.bl false) S := by
  have pe : ∀ S, insOf S "FirstUnlike" "" (unlO n a b) = true := fun S => rfl
  generalize unlO n a b = J at *
  simp -implicitDefEqProofs [dBoolO, pe, m_FirstUnlike___bool__, b_FirstUnlike___bool__, noE]
theorem JC.bs (c : JC X Y) (s : Same X Y) (S : Sto) : dBoolO "SameAlways" m_SameAlways___bool__ [jp X Y] S = .ok (.bl true) S := by rw [c.sam s]; exact b_sam _ _
theorem JC.bn (c : JC X Y) (s : ¬ Same X Y) : (∀ S, dBoolO "SameAlways" m_SameAlways___bool__ [jp X Y] S = .no) ∧ ∀ S, dBoolO "FirstUnlike" m_FirstUnlike___bool__ [jp X Y] S = .ok (.bl false) S := by
  obtain ⟨n, b, p, e, _⟩ := jp_unl c.hr c.hs (c.nsam s)
  rw [e]
  exact ⟨fun S => b_unl1 _ _ _ S, fun S => b_unl2 _ _ _ S⟩
theorem ne_sam (n : Nat) (S : Sto) : dEqO true "SameAlways" m_SameAlways___eq__ (samO n) (samO n) S = .ok (.bl false) S := by
  have i2 : ∀ S, dIs ["SameAlways", "FirstUnlike"] sameC [.inr "SameAlways"] (samO n) S = .ok (.bl true) S := fun S => by
    rw [dIs_ap _ _ (samO n) S (k := .inr "SameAlways") rfl rfl]
    rfl
  simp only [samO] at i2 ⊢
  simp -implicitDefEqProofs [dEqO, m_SameAlways___eq__, b_SameAlways___eq__, i2, noE]
theorem ne_unl1 (n m : Nat) (a b a' b' : D) (S : Sto) : dEqO true "SameAlways" m_SameAlways___eq__ (unlO n a b) (unlO m a' b') S = .no := by
  have pn : ∀ S, insOf S "SameAlways" "" (unlO n a b) = false := fun S => rfl
  generalize unlO n a b = J at *
  simp -implicitDefEqProofs [dEqO, pn]
theorem ne_unl (n b p : Nat) (S : Sto) : dEqO true "FirstUnlike" m_FirstUnlike___eq__ (unlO n (.int b) (.int p)) (unlO n (.int b) (.int p)) S = .ok (.bl false) S := by
  have i2 : ∀ S, dIs ["SameAlways", "FirstUnlike"] sameC [.inr "FirstUnlike"] (unlO n (.int b) (.int p)) S = .ok (.bl true) S := fun S => by
    rw [dIs_ap _ _ (unlO n (.int b) (.int p)) S (k := .inr "FirstUnlike") rfl rfl]
    rfl
  simp only [unlO] at i2 ⊢
  simp -implicitDefEqProofs [dEqO, m_FirstUnlike___eq__, b_FirstUnlike___eq__, i2, noE]
theorem Gd1.tidy_ext {rs : List PM.Rd} (h : Gd1 rs) (hl : rs.length ≤ 5) : Ext m_tidy_program [prog rs] (prog (tdy rs rs.length)) :=
  m_tidy_ok h.mx (by omega) h.ok fun k hk => by
    have s := tdy_sub rs k
    refine enN_le5 (fun r hr => h.ok r (s.2 r hr)) (fun r hr => h.ok r (s.2 r (cut_mem hr))) (by omega) ?_
    have := cut_len (tdy rs k) (rs.length - 1 - k)
    omega
theorem eq_prog_ne (rs ss : List PM.Rd) (S : Sto) : dEqO true "Program" m_Program___eq__ (prog rs) (prog ss) S = .ok (.bl (!decide (rs = ss))) S := by
  have e := eq_prog rs ss S
  unfold dEqO at e ⊢
  have i1 : insOf S "Program" "" (prog rs) = true := rfl
  have i2 : insOf S "Program" "" (prog ss) = true := rfl
  rw [i1, i2] at e ⊢
  simp only [Bool.and_self, if_true] at e ⊢
  cases q : noE (m_Program___eq__ [prog rs, prog ss] S) with
  | no => rw [q] at e; cases e
  | er x s => rw [q] at e; cases e
  | ok d s =>
    rw [q] at e
    simp only [then_ok] at e ⊢
    cases d with
    | bl b =>
      simp at e
      obtain ⟨rfl, rfl⟩ := e
      simp
    | _ => cases e
structure Cn (a b m : List PM.Rd) : Prop where
  ha : In3 a
  hb : In3 b
  hm : In3 m
  la : a.length ≤ 2
  lb : b.length ≤ 1
  lm : m.length ≤ 2
def E (ns : List Int) (a b m : List PM.Rd) (x4 x5 x6 x7 x8 x9 x10 x11 x12 x13 x14 x15 : Option D) : PM.Env := ⟨[some (.scr ns), some (prog a), some (prog b), some (prog m), x4, x5, x6, x7, x8, x9, x10, x11, x12, x13, x14, x15], none⟩
variable {ns : List Int} {a b m : List PM.Rd}
theorem c2 (C : Cn a b m) (x4 x5 x6 x7 x8 x9 x10 x11 x12 x13 : Option D) (S : Sto) : G (b_law_c2 (E ns a b m x4 x5 x6 x7 x8 x9 x10 x11 x12 x13 (some (.lst (K3.map Rd.d))) none) S) := by
  obtain ⟨v, v0, v1, dv⟩ := draw_ok ns 30 3 (by decide) (by decide) (by decide)
  have g1 : Gd1 a := ⟨C.ha.ok, C.ha.mx⟩
  have la := C.la
  have few := fun S => few_ok C.ha (by omega) S
  have td := fun S => (Gd1.tidy_ext g1 (by omega)).eq S
  obtain ⟨d1, d2⟩ := tdy_sub a a.length
  have l1 := fun S => lenO_ok (tdy a a.length) (by omega) S
  unfold G E
  generalize eK : D.lst (K3.map Rd.d) = K at *
  by_cases hv : v = 0
  · subst hv
    obtain ⟨t, aw, S1, t1, t2, t3, ts, fw⟩ := few S
    have jc : JC t a := JC.of t1 C.ha (by omega) (by omega)
    have bs := fun S => jc.bs ts.symm S
    have jj := fun S => jc.ext.eq S
    have mk := fun S => mk_Program (rs := t) (x := tp t) IsSeq.tup (by omega) t1.ok S
    have fl : ∀ S, dFldC ["FewRounds"] "rounds" (fewO t aw) S = .ok (tp t) S := fun S => by unfold fewO; simp -implicitDefEqProofs
    have ln : ∀ S, dLen (tp t) S = .ok (.int t.length) S := fun S => by
      have : (t.map Rd.d).length ≤ 100000 := by rw [List.length_map]; omega
      unfold tp
      simp -implicitDefEqProofs [this]
    have nn : ∀ S, dIsN true (fewO t aw) .non S = .ok (.bl true) S := fun S => by unfold fewO; simp -implicitDefEqProofs
    have le : ((t.length : Int) ≤ ((tdy a a.length).length : Int)) := by omega
    generalize jp t a = J at *
    generalize fewO t aw = F at *
    generalize tp t = T at *
    generalize prog t = Pt at *
    generalize tdy a a.length = A2 at *
    generalize prog A2 = P2 at *
    generalize prog a = P at *
    simp -implicitDefEqProofs [b_law_c2, dv, b_law_c1, fw, b_law_c0, nn, fl, ln, td, l1, le, mk, jj, bs]
  · have : 0 < v := by omega
    generalize prog a = P at *
    simp -implicitDefEqProofs [b_law_c2, dv, this]
end Lk14
end
section
set_option Elab.async false
set_option linter.all false
set_option maxRecDepth 100000
set_option maxHeartbeats 4000000
set_option exponentiation.threshold 10000
namespace Lk14
open PySem L2 PM EJ
variable {ns : List Int} {a b m : List PM.Rd}
theorem k3 : D.lst [.tup [.str "right"], .tup [.str "every", .int 2, .int 1], .tup [.str "every", .int 2, .int 0]] = .lst (K3.map Rd.d) := rfl
theorem c5 (C : Cn a b m) (x4 x5 x6 x7 x8 x9 x10 x11 x12 x13 : Option D) (S : Sto) : G (b_law_c5 (E ns a b m x4 x5 x6 x7 x8 x9 x10 x11 x12 x13 none none) S) := by
  have fin := fun x13 S => c2 (ns := ns) C x4 x5 x6 x7 x8 x9 x10 x11 x12 x13 S
  have hab := C.ha.app C.hb
  have la := C.la
  have lb := C.lb
  have ll : (a ++ b).length ≤ 3 := by rw [List.length_append]; omega
  have g : Gd1 (a ++ b) := ⟨hab.ok, hab.mx⟩
  have s := tdy_sub (a ++ b) (a ++ b).length
  have g2 : Gd1 (tdy (a ++ b) (a ++ b).length) := g.sub s.2
  have in2 : In3 (tdy (a ++ b) (a ++ b).length) := fun r hr => hab r (s.2 r hr)
  have irr := tdy_tidy g ll
  have idem : tdy (tdy (a ++ b) (a ++ b).length) (tdy (a ++ b) (a ++ b).length).length = tdy (a ++ b) (a ++ b).length := tdy_irr g2 irr _ (Nat.le_refl _)
  have td1 := fun S => (Gd1.tidy_ext g (by omega)).eq S
  have td2 := fun S => (Gd1.tidy_ext g2 (by omega)).eq S
  rw [idem] at td2
  have sam := tdy_same g (a ++ b).length
  have jc : JC (tdy (a ++ b) (a ++ b).length) (a ++ b) := JC.of in2 hab (by omega) (by omega)
  have bs := fun S => jc.bs sam S
  have jj := fun S => jc.ext.eq S
  have ad := fun S => add_ok (rs := a) (ss := b) (by omega) C.ha.ok C.hb.ok S
  have l1 := fun S => lenO_ok (tdy (a ++ b) (a ++ b).length) (by omega) S
  have l2 := fun S => lenO_ok a (by omega) S
  have l3 := fun S => lenO_ok b (by omega) S
  have lab : (a ++ b).length = a.length + b.length := List.length_append
  have le : ¬ ((a.length : Int) + (b.length : Int) < ((tdy (a ++ b) (a ++ b).length).length : Int)) := by
    have := s.1
    omega
  have q := fun S => eq_prog_ne (tdy (a ++ b) (a ++ b).length) (tdy (a ++ b) (a ++ b).length) S
  simp only [decide_eq_true (rfl : tdy (a ++ b) (a ++ b).length = tdy (a ++ b) (a ++ b).length)] at q
  unfold E at fin ⊢
  rw [← k3] at fin
  generalize jp (tdy (a ++ b) (a ++ b).length) (a ++ b) = J at *
  generalize tdy (a ++ b) (a ++ b).length = T at *
  generalize prog T = PT at *
  generalize prog (a ++ b) = PAB at *
  generalize prog a = PA at *
  generalize prog b = PB at *
  generalize prog m = PM' at *
  simp -implicitDefEqProofs [b_law_c5, td1, ad, b_law_c4, jj, bs, l1, l2, l3, le, td2, q, b_law_c3, fin]
theorem later_ok (C : Cn a b m) (s : Same a m) (S : Sto) : ∃ T, m_judge_later [prog a, prog m] S = .ok (laO a m) T ∧ ∀ S, dBoolO "Later" m_Later___bool__ [laO a m] S = .ok (.bl true) S := by
  have la := C.la
  have lm := C.lm
  obtain ⟨p1, p2⟩ := stp_pos (a ++ m) (fun r h => (List.mem_append.mp h).elim (C.ha.ok r) (C.hm.ok r))
  have hN : enN a m + more a m ≤ 400 := by
    unfold enN more
    have h1 := Nat.mul_le_mul p2 (show a.length + m.length + max a.length m.length + 1 ≤ 7 by omega)
    have h2 := Nat.mul_le_mul p2 (show a.length + m.length + max a.length m.length ≤ 6 by omega)
    omega
  refine ⟨_, (m_judge_later_ok (C.ha.app C.hm).mx C.ha.ok C.hm.ok (by omega) (by omega) hN).eq S, fun S => ?_⟩
  have bl := bool_la (stp (a ++ m) : Int) (ds := dN (left (stp (a ++ m)) (unU a m))) (by rw [dN_len]; have := left_len (stp (a ++ m)) (unU a m); omega) S
  rw [dN_len, same_left s (stp (a ++ m)), decide_eq_true rfl] at bl
  exact bl
theorem c7 (C : Cn a b m) (kd : Int) (x4 x5 x6 x10 x11 x12 : Option D) (S : Sto) (f : Bool) (hf : f = true ↔ Same a m) : G (b_law_c7 (E ns a b m x4 x5 x6 (some (.int kd)) (some (jp a m)) (some (.bl f)) x10 x11 x12 none none none) S) := by
  have fin := fun S => c5 (ns := ns) C x4 x5 x6 (some (.int kd)) (some (jp a m)) (some (.bl f)) x10 x11 x12 none S
  have la := C.la
  have lb := C.lb
  have lm := C.lm
  by_cases hk : kd = 3
  · subst hk
    cases f with
    | false =>
      have ns' : ¬ Same a m := fun z => by cases hf.mpr z
      have jc : JC a m := JC.of C.ha C.hm (by omega) (by omega)
      have jt : JC (tb a) (tb m) := JC.tb C.ha C.hm (by omega) (by omega)
      have nt : ¬ Same (tb a) (tb m) := fun z => ns' fun n => (like_tb C.ha.ok C.hm.ok n).mpr (z n)
      obtain ⟨n, b1, p1, b2, p2, e1, e2⟩ := unl_first C.ha.ok C.hm.ok jt.hr jt.hs (fun n => like_tb C.ha.ok C.hm.ok n) (jc.nsam ns') (jt.nsam nt)
      have jj := fun S => jt.ext.eq S
      have t1 := fun S => m_turned_back_ok (rs := a) (by omega) C.ha.ok S
      have t2 := fun S => m_turned_back_ok (rs := m) (by omega) C.hm.ok S
      have f1 : ∀ S, dFldC ["FirstUnlike"] "many" (unlO n (.int b1) (.int p1)) S = .ok (.int n) S := fun S => by simp [unlO]
      have f2 : ∀ S, dFldC ["FirstUnlike"] "many" (unlO n (.int b2) (.int p2)) S = .ok (.int n) S := fun S => by simp [unlO]
      rw [e2] at jj
      rw [e1]
      unfold E
      clear fin e1 e2
      generalize unlO n (.int b1) (.int p1) = J1 at *
      generalize unlO n (.int b2) (.int p2) = J2 at *
      generalize prog (tb a) = TA at *
      generalize prog (tb m) = TM at *
      generalize prog a = PA at *
      generalize prog b = PB at *
      generalize prog m = PM' at *
      unfold G
      simp -implicitDefEqProofs [b_law_c7, t1, t2, jj, f1, f2]
    | true =>
      have s : Same a m := hf.mp rfl
      have jc : JC (b ++ a) (b ++ m) := JC.of (C.hb.app C.ha) (C.hb.app C.hm) (by rw [List.length_append]; omega) (by rw [List.length_append]; omega)
      have bs := fun S => jc.bs (Same.app (Same.refl b) s) S
      have jj := fun S => jc.ext.eq S
      have a1 := fun S => add_ok (rs := b) (ss := a) (by omega) C.hb.ok C.ha.ok S
      have a2 := fun S => add_ok (rs := b) (ss := m) (by omega) C.hb.ok C.hm.ok S
      have lt := fun S => later_ok C s S
      obtain ⟨T0, _, lb2⟩ := later_ok C s S
      obtain ⟨L, hL⟩ : ∃ L : Sto → Sto, ∀ S, m_judge_later [prog a, prog m] S = .ok (laO a m) (L S) := ⟨fun S => Classical.choose (later_ok C s S), fun S => (Classical.choose_spec (later_ok C s S)).1⟩
      unfold E
      clear fin lt
      generalize laO a m = LA at *
      generalize jp (b ++ a) (b ++ m) = J at *
      generalize jp a m = J1 at *
      generalize prog (b ++ a) = BA at *
      generalize prog (b ++ m) = BM at *
      generalize prog a = PA at *
      generalize prog b = PB at *
      generalize prog m = PM' at *
      unfold G
      simp -implicitDefEqProofs [b_law_c7, b_law_c6, a1, a2, jj, bs, hL, lb2]
  · unfold E at fin ⊢
    generalize jp a m = J at *
    simp -implicitDefEqProofs [b_law_c7, hk, fin]
end Lk14
end
section
set_option Elab.async false
set_option linter.all false
set_option maxRecDepth 100000
set_option maxHeartbeats 4000000
set_option exponentiation.threshold 10000
namespace Lk14
open PySem L2 PM EJ
variable {ns : List Int} {a b m : List PM.Rd}
def Rtn (o : SO) : Prop := ∃ S', o = .rt (.bl true) S'
theorem c9 (C : Cn a b m) (x4 x5 x6 x7 x8 x10 x13 x14 x15 : Option D) (S : Sto) (f : Bool) (hf : f = true ↔ Same a m) : Rtn (b_law_c9 (E ns a b m x4 x5 x6 x7 x8 (some (.bl f)) x10 none none x13 x14 x15) S) := by
  have la := C.la
  have lb := C.lb
  have lm := C.lm
  have j1 : JC m b := JC.of C.hm C.hb (by omega) (by omega)
  have j2 : JC a b := JC.of C.ha C.hb (by omega) (by omega)
  have e1 := fun S => j1.ext.eq S
  have e2 := fun S => j2.ext.eq S
  unfold E Rtn
  by_cases s1 : Same m b
  · have b1 := fun S => j1.bs s1 S
    by_cases s2 : Same a b
    · have b2 := fun S => j2.bs s2 S
      clear s1 s2 j1 j2 hf
      generalize jp m b = J1 at *
      generalize jp a b = J2 at *
      generalize prog a = PA at *
      generalize prog b = PB at *
      generalize prog m = PM' at *
      cases f <;> simp -implicitDefEqProofs [b_law_c9, b_law_c8, e1, e2, b1, b2]
    · have b2 := (j2.bn s2).1
      have b3 := (j2.bn s2).2
      have : f = false := by
        cases f with
        | false => rfl
        | true => exact absurd ((hf.mp rfl).trans s1) s2
      subst this
      clear s1 s2 j1 j2 hf
      generalize jp m b = J1 at *
      generalize jp a b = J2 at *
      generalize prog a = PA at *
      generalize prog b = PB at *
      generalize prog m = PM' at *
      simp -implicitDefEqProofs [b_law_c9, b_law_c8, e1, e2, b1, b2, b3]
  · have b1 := (j1.bn s1).1
    have b1' := (j1.bn s1).2
    by_cases s2 : Same a b
    · have b2 := fun S => j2.bs s2 S
      have : f = false := by
        cases f with
        | false => rfl
        | true => exact absurd ((hf.mp rfl).symm.trans s2) s1
      subst this
      clear s1 s2 j1 j2 hf
      generalize jp m b = J1 at *
      generalize jp a b = J2 at *
      generalize prog a = PA at *
      generalize prog b = PB at *
      generalize prog m = PM' at *
      simp -implicitDefEqProofs [b_law_c9, b_law_c8, e1, e2, b1, b1', b2]
    · have b2 := (j2.bn s2).1
      have b3 := (j2.bn s2).2
      clear s1 s2 j1 j2 hf
      generalize jp m b = J1 at *
      generalize jp a b = J2 at *
      generalize prog a = PA at *
      generalize prog b = PB at *
      generalize prog m = PM' at *
      cases f <;> simp -implicitDefEqProofs [b_law_c9, b_law_c8, e1, e2, b1, b1', b2, b3]
theorem c9' (C : Cn a b m) (x4 x5 x6 x7 x8 x10 x13 x14 x15 : Option D) (S : Sto) (f : Bool) (hf : f = true ↔ Same a m) (k : Stm) : G ((b_law_c9 (E ns a b m x4 x5 x6 x7 x8 (some (.bl f)) x10 none none x13 x14 x15) S).andThen k) := by
  obtain ⟨S', h⟩ := c9 (ns := ns) C x4 x5 x6 x7 x8 x10 x13 x14 x15 S f hf
  rw [h]
  exact ⟨S', rfl⟩
theorem c11 (C : Cn a b m) (kd : Int) (x4 x5 x6 : Option D) (S : Sto) (f : Bool) (hf : f = true ↔ Same a m) : G (b_law_c11 (E ns a b m x4 x5 x6 (some (.int kd)) (some (jp a m)) (some (.bl f)) none none none none none none) S) := by
  have fin := fun S => c7 (ns := ns) C kd x4 x5 x6 none none none S f hf
  have fin2 := fun x10 S k => c9' (ns := ns) C x4 x5 x6 (some (.int kd)) (some (jp a m)) x10 none none none S f hf k
  have la := C.la
  have lm := C.lm
  by_cases hk : kd = 2
  · subst hk
    have j1 : JC a m := JC.of C.ha C.hm (by omega) (by omega)
    have j2 : JC m a := JC.of C.hm C.ha (by omega) (by omega)
    have e2 := fun S => j2.ext.eq S
    cases f with
    | true =>
      have s : Same a m := hf.mp rfl
      have q1 := j1.sam s
      have q2 := j2.sam s.symm
      rw [enN_comm] at q2
      rw [q2] at e2
      rw [q1] at fin2 ⊢
      have bb := fun S => b_sam (enN a m) S
      have nn := fun S => ne_sam (enN a m) S
      clear fin q1 q2 j1 j2
      unfold E at fin2 ⊢
      generalize samO (enN a m) = J at *
      generalize prog a = PA at *
      generalize prog b = PB at *
      generalize prog m = PM' at *
      simp -implicitDefEqProofs [b_law_c11, e2, b_law_c10, bb, nn, fin2]
    | false =>
      have s : ¬ Same a m := fun z => by cases hf.mpr z
      have q := jp_comm C.ha.ok C.hm.ok (j1.nsam s) (j2.nsam fun z => s z.symm)
      rw [← q] at e2
      obtain ⟨n, bb, p, e, _⟩ := jp_unl C.ha.ok C.hm.ok (j1.nsam s)
      rw [e] at e2 fin2 ⊢
      have b1 := fun S => b_unl1 n (.int bb) (.int p) S
      have b2 := fun S => b_unl2 n (.int bb) (.int p) S
      have n1 := fun S => ne_unl1 n n (.int bb) (.int p) (.int bb) (.int p) S
      have n2 := fun S => ne_unl n bb p S
      clear fin q j1 j2 e
      unfold E at fin2 ⊢
      generalize unlO n (.int bb) (.int p) = J at *
      generalize prog a = PA at *
      generalize prog b = PB at *
      generalize prog m = PM' at *
      simp -implicitDefEqProofs [b_law_c11, e2, b_law_c10, b1, b2, n1, n2, fin2]
  · unfold E at fin ⊢
    generalize jp a m = J at *
    simp -implicitDefEqProofs [b_law_c11, hk, fin]
theorem c13 (C : Cn a b m) (kd : Int) (x4 x5 : Option D) (S : Sto) : G (b_law_c13 (E ns a b m x4 x5 (some (prog (dbl a))) (some (.int kd)) none none none none none none none none) S) := by
  have fin := fun S f hf => c11 (ns := ns) C kd x4 x5 (some (prog (dbl a))) S f hf
  have la := C.la
  have lb := C.lb
  have lm := C.lm
  have ld := dbl_len a
  have hd := dbl_in C.ha
  have sd := dbl_same C.ha
  by_cases hk : kd = 1
  · subst hk
    have j1 : JC (tb a) (tb (dbl a)) := JC.tb C.ha hd (by omega) (by omega)
    have j2 : JC (tb (a ++ b)) (tb b ++ tb a) := by
      have := JC.tb (C.ha.app C.hb) (C.ha.app C.hb) (by rw [List.length_append]; omega) (by rw [List.length_append]; omega)
      rw [tb_app] at this ⊢
      exact this
    have b1 := fun S => j1.bs (Same.tb' C.ha.ok hd.ok sd) S
    have b2 := fun S => j2.bs (by rw [tb_app]; exact Same.refl _) S
    have e1 := fun S => j1.ext.eq S
    have e2 := fun S => j2.ext.eq S
    have t1 := fun S => m_turned_back_ok (rs := a) (by omega) C.ha.ok S
    have t2 := fun S => m_turned_back_ok (rs := dbl a) (by omega) hd.ok S
    have t3 := fun S => m_turned_back_ok (rs := a ++ b) (by rw [List.length_append]; omega) (C.ha.app C.hb).ok S
    have t4 := fun S => m_turned_back_ok (rs := b) (by omega) C.hb.ok S
    have a1 := fun S => add_ok (rs := a) (ss := b) (by omega) C.ha.ok C.hb.ok S
    have a2 := fun S => add_ok (rs := tb b) (ss := tb a) (by rw [tb_len, tb_len]; omega) (tb_ok C.hb.ok) (tb_ok C.ha.ok) S
    clear fin j1 j2
    unfold E G
    generalize jp (tb a) (tb (dbl a)) = J1 at *
    generalize jp (tb (a ++ b)) (tb b ++ tb a) = J2 at *
    generalize prog (tb b ++ tb a) = P1 at *
    generalize prog (tb (a ++ b)) = P2 at *
    generalize prog (tb (dbl a)) = P3 at *
    generalize prog (dbl a) = P4 at *
    generalize prog (tb a) = P5 at *
    generalize prog (tb b) = P6 at *
    generalize prog (a ++ b) = P7 at *
    generalize prog a = PA at *
    generalize prog b = PB at *
    generalize prog m = PM' at *
    simp -implicitDefEqProofs [b_law_c13, t1, t2, t3, t4, a1, a2, e1, e2, b1, b2]
  · have j : JC a m := JC.of C.ha C.hm (by omega) (by omega)
    have e1 := fun S => j.ext.eq S
    by_cases s : Same a m
    · have fin := fun S => fin S true ⟨fun _ => s, fun _ => rfl⟩
      have b1 := fun S => j.bs s S
      clear j
      unfold E at fin ⊢
      generalize jp a m = J at *
      generalize prog (dbl a) = P4 at *
      generalize prog a = PA at *
      generalize prog b = PB at *
      generalize prog m = PM' at *
      simp -implicitDefEqProofs [b_law_c13, hk, b_law_c12, e1, b1, fin]
    · have fin := fun S => fin S false ⟨fun z => (by cases z), fun z => absurd z s⟩
      have b1 := (j.bn s).1
      have b2 := (j.bn s).2
      clear j
      unfold E at fin ⊢
      generalize jp a m = J at *
      generalize prog (dbl a) = P4 at *
      generalize prog a = PA at *
      generalize prog b = PB at *
      generalize prog m = PM' at *
      simp -implicitDefEqProofs [b_law_c13, hk, b_law_c12, e1, b1, b2, fin]
theorem c14 (C : Cn a b m) (kd : Int) (x4 x5 : Option D) (S : Sto) : G (b_law_c14 (E ns a b m x4 x5 (some (prog (dbl a))) (some (.int kd)) none none none none none none none none) S) := by
  have fin := fun S => c13 (ns := ns) C kd x4 x5 S
  have la := C.la
  have lb := C.lb
  have ld := dbl_len a
  have hd := dbl_in C.ha
  have sd := dbl_same C.ha
  by_cases hk : kd = 0
  · subst hk
    have j1 : JC (b ++ a) (b ++ dbl a) := JC.of (C.hb.app C.ha) (C.hb.app hd) (by rw [List.length_append]; omega) (by rw [List.length_append]; omega)
    have j2 : JC (a ++ b) (dbl a ++ b) := JC.of (C.ha.app C.hb) (hd.app C.hb) (by rw [List.length_append]; omega) (by rw [List.length_append]; omega)
    have b1 := fun S => j1.bs (Same.app (Same.refl b) sd) S
    have b2 := fun S => j2.bs (Same.app sd (Same.refl b)) S
    have e1 := fun S => j1.ext.eq S
    have e2 := fun S => j2.ext.eq S
    have a1 := fun S => add_ok (rs := b) (ss := a) (by omega) C.hb.ok C.ha.ok S
    have a2 := fun S => add_ok (rs := b) (ss := dbl a) (by omega) C.hb.ok hd.ok S
    have a3 := fun S => add_ok (rs := a) (ss := b) (by omega) C.ha.ok C.hb.ok S
    have a4 := fun S => add_ok (rs := dbl a) (ss := b) (by omega) hd.ok C.hb.ok S
    clear fin j1 j2
    unfold E G
    generalize jp (b ++ a) (b ++ dbl a) = J1 at *
    generalize jp (a ++ b) (dbl a ++ b) = J2 at *
    generalize prog (b ++ dbl a) = P1 at *
    generalize prog (dbl a ++ b) = P2 at *
    generalize prog (dbl a) = P4 at *
    generalize prog (a ++ b) = P7 at *
    generalize prog (b ++ a) = P8 at *
    generalize prog a = PA at *
    generalize prog b = PB at *
    generalize prog m = PM' at *
    simp -implicitDefEqProofs [b_law_c14, a1, a2, a3, a4, e1, e2, b1, b2]
  · unfold E at fin ⊢
    generalize prog (dbl a) = P4 at *
    simp -implicitDefEqProofs [b_law_c14, hk, fin]
end Lk14
end
section
set_option Elab.async false
set_option linter.all false
set_option maxRecDepth 100000
set_option maxHeartbeats 4000000
set_option exponentiation.threshold 10000
namespace Lk14
open PySem L2 PM EJ
variable {ns : List Int} {a b m : List PM.Rd}
theorem rounds_x (ns : List Int) (at_ most : Int) (h0 : 0 ≤ at_) (h1 : at_ ≤ 1000) (m0 : 0 ≤ most) (m1 : most ≤ 20) : ∃ rs : List PM.Rd, In3 rs ∧ (rs.length : Int) ≤ most ∧ ∀ S, m__law_rounds_x [.scr ns, .int at_, .int most] S = .ok (.lst (rs.map Rd.d)) S := by
  obtain ⟨v, v0, v1, dv⟩ := draw_ok ns at_ (most + 1) h0 (by omega) (by omega)
  obtain ⟨n, rfl⟩ : ∃ n : Nat, v = n := ⟨v.toNat, by omega⟩
  have hk : ∀ k : Nat, ∃ r, r ∈ K3 ∧ (k < 100 → ∀ S, e2 dIx (eVar 3) (eA m__law_draw (aCons (eVar 0) (aCons (e2 dAdd (e2 dAdd (eVar 1) (eC (.int 1))) (eVar 4)) (aCons (eC (.int 3)) aNil)))) ⟨[some (.scr ns), some (.int at_), some (.int most), some (.lst (K3.map Rd.d)), some (.int (k : Int))], none⟩ S = .ok r.d S) := fun k => by
    by_cases hk : k < 100
    · obtain ⟨v, v0, v1, dv⟩ := draw_ok ns (at_ + 1 + k) 3 (by omega) (by omega) (by decide)
      have hv : v = 0 ∨ v = 1 ∨ v = 2 := by omega
      have kk : K3.map Rd.d = [Rd.right.d, (Rd.ev 2 1).d, (Rd.ev 2 0).d] := rfl
      rw [kk]
      rcases hv with rfl | rfl | rfl
      · exact ⟨.right, by simp [K3], fun _ S => by simp -implicitDefEqProofs [dv, Rd.d]⟩
      · exact ⟨.ev 2 1, by simp [K3], fun _ S => by simp -implicitDefEqProofs [dv, Rd.d]⟩
      · exact ⟨.ev 2 0, by simp [K3], fun _ S => by simp -implicitDefEqProofs [dv, Rd.d]⟩
    · exact ⟨.right, by simp [K3], fun z => absurd z hk⟩
  let g : Nat → PM.Rd := fun k => Classical.choose (hk k)
  have hg : ∀ k, g k ∈ K3 ∧ (k < 100 → ∀ S, e2 dIx (eVar 3) (eA m__law_draw (aCons (eVar 0) (aCons (e2 dAdd (e2 dAdd (eVar 1) (eC (.int 1))) (eVar 4)) (aCons (eC (.int 3)) aNil)))) ⟨[some (.scr ns), some (.int at_), some (.int most), some (.lst (K3.map Rd.d)), some (.int (k : Int))], none⟩ S = .ok (g k).d S) := fun k => Classical.choose_spec (hk k)
  clear_value g
  have lc := fun S => lcGo_all (tg := gN 4) (m := e2 dIx (eVar 3) (eA m__law_draw (aCons (eVar 0) (aCons (e2 dAdd (e2 dAdd (eVar 1) (eC (.int 1))) (eVar 4)) (aCons (eC (.int 3)) aNil))))) (e0 := ⟨[some (.scr ns), some (.int at_), some (.int most), some (.lst (K3.map Rd.d)), none], none⟩) (S := S) (fun k : Nat => D.int (k : Int)) (fun k => (g k).d) (List.range n) fun k hk => ⟨_, rfl, (hg k).2 (by have := List.mem_range.mp hk; omega) S⟩
  have rB := rangeD_nat n
  have c1 : (n : Int) ≤ 1000000 := by omega
  have c2 : (-1000000 : Int) ≤ (n : Int) := by omega
  have c3 : n ≤ 100000 := by omega
  refine ⟨(List.range n).map g, fun r hr => ?_, by rw [List.length_map, List.length_range]; omega, fun S => ?_⟩
  · obtain ⟨k, _, rfl⟩ := List.mem_map.mp hr
    exact (hg k).1
  · rw [List.map_map]
    have e : (List.range n).map (Rd.d ∘ g) = (List.range n).map fun k => (g k).d := rfl
    rw [e]
    rw [← k3] at lc
    have ll : ((List.range n).map fun k : Nat => D.int (k : Int)).length ≤ 100000 := by rw [List.length_map, List.length_range]; exact c3
    generalize ((List.range n).map fun k : Nat => D.int (k : Int)) = X at *
    generalize ((List.range n).map fun k => (g k).d) = Y at *
    simp -implicitDefEqProofs [m__law_rounds_x, b__law_rounds_x, dv, rB, c1, c2, ll, lc]
theorem c15 (C : Cn a b m) (x5 : Option D) (S : Sto) : G (b_law_c15 (E ns a b m (some (.lst ((dbl a).map Rd.d))) x5 none none none none none none none none none none) S) := by
  obtain ⟨v, v0, v1, dv⟩ := draw_ok ns 31 5 (by decide) (by decide) (by decide)
  have fin := fun x4 S => c14 (ns := ns) C v x4 x5 S
  have la := C.la
  have ld := dbl_len a
  have mk := fun S => mk_Program (rs := dbl a) (x := .lst ((dbl a).map Rd.d)) IsSeq.lst (by omega) (dbl_in C.ha).ok S
  unfold E at fin ⊢
  generalize D.lst ((dbl a).map Rd.d) = L at *
  generalize prog (dbl a) = P4 at *
  simp -implicitDefEqProofs [b_law_c15, dv, mk, fin]
theorem c17 (C : Cn a b m) (S : Sto) : G (b_law_c17 (E ns a b m none none none none none none none none none none none none) S) := by
  have fin := fun x5 S => c15 (ns := ns) C x5 S
  have la := C.la
  have fl : ∀ S, dFldC ["Program"] "rounds" (prog a) S = .ok (.tup (a.map Rd.d)) S := fun S => by unfold prog; simp -implicitDefEqProofs
  unfold E at fin ⊢
  generalize prog a = PA at *
  generalize prog b = PB at *
  generalize prog m = PM' at *
  simp -implicitDefEqProofs [b_law_c17, b_law_c16, fl]
  refine forGo_rule (G := fun o => G (o.andThen b_law_c15)) (fun i e S' => ∃ x5, e = ⟨[some (.scr ns), some PA, some PB, some PM', some (.lst ((dbl (a.take i)).map Rd.d)), x5, none, none, none, none, none, none, none, none, none, none], none⟩) ⟨none, rfl⟩ ?_ ?_
  · rintro i d e S' hi ⟨x5, rfl⟩
    rw [List.getElem?_map] at hi
    obtain ⟨r, hr, rfl⟩ := Option.map_eq_some_iff.mp hi
    have tk : a.take (i + 1) = a.take i ++ [r] := by rw [List.take_add_one, hr]; rfl
    have dd : dbl (a.take (i + 1)) = dbl (a.take i) ++ dbr r := by rw [tk]; unfold dbl; rw [List.flatMap_append, List.flatMap_singleton]
    have ll : ((dbl (a.take i)).map Rd.d).length ≤ 4 := by
      have := dbl_len (a.take i)
      rw [List.length_take] at this
      rw [List.length_map]
      omega
    rw [dd, List.map_append]
    refine ⟨rfl, _, rfl, ?_⟩
    generalize (dbl (a.take i)).map Rd.d = L at *
    have l1 : L.length + 1 ≤ 100000 := by omega
    have l2 : L.length + 2 ≤ 100000 := by omega
    cases r with
    | right => simp -implicitDefEqProofs [Rd.d, dbr, l1, l2]
    | left => simp -implicitDefEqProofs [Rd.d, dbr, l1, l2]
    | ev p q => simp -implicitDefEqProofs [Rd.d, dbr, l1, l2]
  · rintro e S' ⟨x5, rfl⟩
    refine ⟨rfl, ?_⟩
    rw [List.length_map, List.take_length]
    exact fin x5 S'
theorem law_true (ns : List Int) (h : ns.length ≤ 63) : ∃ S', m_law [.scr ns] [] = .ok (.bl true) S' := by
  obtain ⟨a, a1, a2, a3⟩ := rounds_x ns 0 2 (by decide) (by decide) (by decide) (by decide)
  obtain ⟨b, b1, b2, b3⟩ := rounds_x ns 10 1 (by decide) (by decide) (by decide) (by decide)
  obtain ⟨m, m1, m2, m3⟩ := rounds_x ns 20 2 (by decide) (by decide) (by decide) (by decide)
  have C : Cn a b m := ⟨a1, b1, m1, by omega, by omega, by omega⟩
  have fin := fun S => c17 (ns := ns) C S
  have k1 := fun S => mk_Program (rs := a) (x := .lst (a.map Rd.d)) IsSeq.lst (by omega) a1.ok S
  have k2 := fun S => mk_Program (rs := b) (x := .lst (b.map Rd.d)) IsSeq.lst (by omega) b1.ok S
  have k3 := fun S => mk_Program (rs := m) (x := .lst (m.map Rd.d)) IsSeq.lst (by omega) m1.ok S
  unfold E G at fin
  generalize prog a = PA at *
  generalize prog b = PB at *
  generalize prog m = PM' at *
  generalize D.lst (a.map Rd.d) = L1 at *
  generalize D.lst (b.map Rd.d) = L2 at *
  generalize D.lst (m.map Rd.d) = L3 at *
  simp -implicitDefEqProofs [m_law, b_law, a3, b3, m3, k1, k2, k3, sPar3, fin]
end Lk14
end
section
set_option Elab.async false
set_option linter.all false
set_option maxRecDepth 100000
set_option maxHeartbeats 4000000
namespace Lk14
open PySem PySem.Spec PyProof.Rows L2 Evl PM
open WD (pe_tyN pe_clsN cr_lcm call_lenS call_listS call_tupS call_absS call_maxS call_minS call_intS)
section
variable {P : Program} {w : World} {K : PySem.W.Frag} {mg : Str → Option Value} {base : Heap}
theorem ok_law (T : Tx P w K mg) {fd : FuncData} (F : FunD K "law" "law" (defArgs s_law) (defBody s_law) (defScope s_law) [] [] (He.ga K "law") fd) : FnOk P w K mg base (L2.CX P w) 7 (He.ga K "law") fd ["script"] (lawSp K) := by
  refine law_fn (N := ["script", "one", "other", "more", "twice", "told", "same", "kind", "found", "first", "back", "second", "third", "less", "kinds", "few"]) (st := s_law) (m := PM.b_law) F sc_law (by decide) rfl (fun cdv A outer s H E hr => ⟨_, by
  unfold PM.b_law PM.b_law_c17 PM.b_law_c16 PM.b_law_c15 PM.b_law_c14 PM.b_law_c13 PM.b_law_c12 PM.b_law_c11 PM.b_law_c10 PM.b_law_c9 PM.b_law_c8 PM.b_law_c7 PM.b_law_c6 PM.b_law_c5 PM.b_law_c4 PM.b_law_c3 PM.b_law_c2 PM.b_law_c1 PM.b_law_c0
  exact (css_cons (cs_par3 (i := 1) (j := 2) (l := 3) (by rfl) sc_law.nd rfl rfl rfl (by decide) (by decide) (by decide) rfl rfl rfl (ca_cons (ce_make false T.k_Program (ok_Program___init__ T) (hr.mono (by decide)) (by rfl) T.m_Program (ca_cons (ce_call (ok__law_rounds T) (hr.mono (by decide)) (by rfl) T.m__law_rounds (ca_cons (ce_var 0 rfl (by first | exact Or.inl rfl | exact Or.inr (Or.inl rfl) | exact Or.inr (Or.inr rfl))) (ca_cons ce_int (ca_cons ce_int ca_nil)))) ca_nil)) (ca_cons (ce_make false T.k_Program (ok_Program___init__ T) (hr.mono (by decide)) (by rfl) T.m_Program (ca_cons (ce_call (ok__law_rounds T) (hr.mono (by decide)) (by rfl) T.m__law_rounds (ca_cons (ce_var 0 rfl (by first | exact Or.inl rfl | exact Or.inr (Or.inl rfl) | exact Or.inr (Or.inr rfl))) (ca_cons ce_int (ca_cons ce_int ca_nil)))) ca_nil)) (ca_cons (ce_make false T.k_Program (ok_Program___init__ T) (hr.mono (by decide)) (by rfl) T.m_Program (ca_cons (ce_call (ok__law_rounds T) (hr.mono (by decide)) (by rfl) T.m__law_rounds (ca_cons (ce_var 0 rfl (by first | exact Or.inl rfl | exact Or.inr (Or.inl rfl) | exact Or.inr (Or.inr rfl))) (ca_cons ce_int (ca_cons ce_int ca_nil)))) ca_nil)) ca_nil))) (by rfl)) (css_cons (cs_asg (ce_lst ca_nil) (cg_name (i := 4) sc_law.nd rfl (.inl rfl))) (css_cons (cs_for rfl (ci_seq (ce_fld ["Program"] (fo_cons T.c_Program T.n_Program_rounds fo_nil) (ce_var 1 rfl (by first | exact Or.inl rfl | exact Or.inr (Or.inl rfl) | exact Or.inr (Or.inr rfl))) rfl)) (cg_name (i := 5) sc_law.nd rfl (.inl rfl)) (css_one (cs_asg (ce_add (ce_var 4 rfl (by first | exact Or.inl rfl | exact Or.inr (Or.inl rfl) | exact Or.inr (Or.inr rfl))) (ce_mul (ce_lst (ca_cons (ce_var 5 rfl (by first | exact Or.inl rfl | exact Or.inr (Or.inl rfl) | exact Or.inr (Or.inr rfl))) ca_nil)) (ce_if (ct_eq hr.units (ce_ix (ce_var 5 rfl (by first | exact Or.inl rfl | exact Or.inr (Or.inl rfl) | exact Or.inr (Or.inr rfl))) ce_int (fun _ _ => rfl)) ce_str) ce_int ce_int))) (cg_name (i := 4) sc_law.nd rfl (.inl rfl))))) (css_cons (cs_par (i := 6) (j := 7) (by rfl) sc_law.nd rfl rfl (by decide) rfl rfl (ca_cons (ce_make false T.k_Program (ok_Program___init__ T) (hr.mono (by decide)) (by rfl) T.m_Program (ca_cons (ce_var 4 rfl (by first | exact Or.inl rfl | exact Or.inr (Or.inl rfl) | exact Or.inr (Or.inr rfl))) ca_nil)) (ca_cons (ce_call (ok__law_draw T) (hr.mono (by decide)) (by rfl) T.m__law_draw (ca_cons (ce_var 0 rfl (by first | exact Or.inl rfl | exact Or.inr (Or.inl rfl) | exact Or.inr (Or.inr rfl))) (ca_cons ce_int (ca_cons ce_int ca_nil)))) ca_nil)) (by rfl)) (css_cons (cs_if (ct_eq hr.units (ce_var 7 rfl (by first | exact Or.inl rfl | exact Or.inr (Or.inl rfl) | exact Or.inr (Or.inr rfl))) ce_int) (css_one (cs_ret (ce_and (ce_or2 (ce_boolO (ok_SameAlways___bool__ T) T.x_SameAlways___bool__ (hr.mono (by decide)) (by rfl) T.z_bool (ca_cons (ce_call (ok_judge_programs T) (hr.mono (by decide)) (by rfl) T.m_judge_programs (ca_cons (ce_addO (ok_Program___add__ T) T.x_Program___add__ T.sf_Program (hr.mono (by decide)) (ce_var 2 rfl (by first | exact Or.inl rfl | exact Or.inr (Or.inl rfl) | exact Or.inr (Or.inr rfl))) (ce_var 1 rfl (by first | exact Or.inl rfl | exact Or.inr (Or.inl rfl) | exact Or.inr (Or.inr rfl)))) (ca_cons (ce_addO (ok_Program___add__ T) T.x_Program___add__ T.sf_Program (hr.mono (by decide)) (ce_var 2 rfl (by first | exact Or.inl rfl | exact Or.inr (Or.inl rfl) | exact Or.inr (Or.inr rfl))) (ce_var 6 rfl (by first | exact Or.inl rfl | exact Or.inr (Or.inl rfl) | exact Or.inr (Or.inr rfl)))) ca_nil))) ca_nil)) (ce_boolO (ok_FirstUnlike___bool__ T) T.x_FirstUnlike___bool__ (hr.mono (by decide)) (by rfl) T.z_bool (ca_cons (ce_call (ok_judge_programs T) (hr.mono (by decide)) (by rfl) T.m_judge_programs (ca_cons (ce_addO (ok_Program___add__ T) T.x_Program___add__ T.sf_Program (hr.mono (by decide)) (ce_var 2 rfl (by first | exact Or.inl rfl | exact Or.inr (Or.inl rfl) | exact Or.inr (Or.inr rfl))) (ce_var 1 rfl (by first | exact Or.inl rfl | exact Or.inr (Or.inl rfl) | exact Or.inr (Or.inr rfl)))) (ca_cons (ce_addO (ok_Program___add__ T) T.x_Program___add__ T.sf_Program (hr.mono (by decide)) (ce_var 2 rfl (by first | exact Or.inl rfl | exact Or.inr (Or.inl rfl) | exact Or.inr (Or.inr rfl))) (ce_var 6 rfl (by first | exact Or.inl rfl | exact Or.inr (Or.inl rfl) | exact Or.inr (Or.inr rfl)))) ca_nil))) ca_nil))) (ce_one (ce_or2 (ce_boolO (ok_SameAlways___bool__ T) T.x_SameAlways___bool__ (hr.mono (by decide)) (by rfl) T.z_bool (ca_cons (ce_call (ok_judge_programs T) (hr.mono (by decide)) (by rfl) T.m_judge_programs (ca_cons (ce_addO (ok_Program___add__ T) T.x_Program___add__ T.sf_Program (hr.mono (by decide)) (ce_var 1 rfl (by first | exact Or.inl rfl | exact Or.inr (Or.inl rfl) | exact Or.inr (Or.inr rfl))) (ce_var 2 rfl (by first | exact Or.inl rfl | exact Or.inr (Or.inl rfl) | exact Or.inr (Or.inr rfl)))) (ca_cons (ce_addO (ok_Program___add__ T) T.x_Program___add__ T.sf_Program (hr.mono (by decide)) (ce_var 6 rfl (by first | exact Or.inl rfl | exact Or.inr (Or.inl rfl) | exact Or.inr (Or.inr rfl))) (ce_var 2 rfl (by first | exact Or.inl rfl | exact Or.inr (Or.inl rfl) | exact Or.inr (Or.inr rfl)))) ca_nil))) ca_nil)) (ce_boolO (ok_FirstUnlike___bool__ T) T.x_FirstUnlike___bool__ (hr.mono (by decide)) (by rfl) T.z_bool (ca_cons (ce_call (ok_judge_programs T) (hr.mono (by decide)) (by rfl) T.m_judge_programs (ca_cons (ce_addO (ok_Program___add__ T) T.x_Program___add__ T.sf_Program (hr.mono (by decide)) (ce_var 1 rfl (by first | exact Or.inl rfl | exact Or.inr (Or.inl rfl) | exact Or.inr (Or.inr rfl))) (ce_var 2 rfl (by first | exact Or.inl rfl | exact Or.inr (Or.inl rfl) | exact Or.inr (Or.inr rfl)))) (ca_cons (ce_addO (ok_Program___add__ T) T.x_Program___add__ T.sf_Program (hr.mono (by decide)) (ce_var 6 rfl (by first | exact Or.inl rfl | exact Or.inr (Or.inl rfl) | exact Or.inr (Or.inr rfl))) (ce_var 2 rfl (by first | exact Or.inl rfl | exact Or.inr (Or.inl rfl) | exact Or.inr (Or.inr rfl)))) ca_nil))) ca_nil))))))) css_nil) (css_cons (cs_if (ct_eq hr.units (ce_var 7 rfl (by first | exact Or.inl rfl | exact Or.inr (Or.inl rfl) | exact Or.inr (Or.inr rfl))) ce_int) (css_one (cs_ret (ce_and (ce_or2 (ce_boolO (ok_SameAlways___bool__ T) T.x_SameAlways___bool__ (hr.mono (by decide)) (by rfl) T.z_bool (ca_cons (ce_call (ok_judge_programs T) (hr.mono (by decide)) (by rfl) T.m_judge_programs (ca_cons (ce_call (ok_turned_back T) (hr.mono (by decide)) (by rfl) T.m_turned_back (ca_cons (ce_var 1 rfl (by first | exact Or.inl rfl | exact Or.inr (Or.inl rfl) | exact Or.inr (Or.inr rfl))) ca_nil)) (ca_cons (ce_call (ok_turned_back T) (hr.mono (by decide)) (by rfl) T.m_turned_back (ca_cons (ce_var 6 rfl (by first | exact Or.inl rfl | exact Or.inr (Or.inl rfl) | exact Or.inr (Or.inr rfl))) ca_nil)) ca_nil))) ca_nil)) (ce_boolO (ok_FirstUnlike___bool__ T) T.x_FirstUnlike___bool__ (hr.mono (by decide)) (by rfl) T.z_bool (ca_cons (ce_call (ok_judge_programs T) (hr.mono (by decide)) (by rfl) T.m_judge_programs (ca_cons (ce_call (ok_turned_back T) (hr.mono (by decide)) (by rfl) T.m_turned_back (ca_cons (ce_var 1 rfl (by first | exact Or.inl rfl | exact Or.inr (Or.inl rfl) | exact Or.inr (Or.inr rfl))) ca_nil)) (ca_cons (ce_call (ok_turned_back T) (hr.mono (by decide)) (by rfl) T.m_turned_back (ca_cons (ce_var 6 rfl (by first | exact Or.inl rfl | exact Or.inr (Or.inl rfl) | exact Or.inr (Or.inr rfl))) ca_nil)) ca_nil))) ca_nil))) (ce_one (ce_or2 (ce_boolO (ok_SameAlways___bool__ T) T.x_SameAlways___bool__ (hr.mono (by decide)) (by rfl) T.z_bool (ca_cons (ce_call (ok_judge_programs T) (hr.mono (by decide)) (by rfl) T.m_judge_programs (ca_cons (ce_call (ok_turned_back T) (hr.mono (by decide)) (by rfl) T.m_turned_back (ca_cons (ce_addO (ok_Program___add__ T) T.x_Program___add__ T.sf_Program (hr.mono (by decide)) (ce_var 1 rfl (by first | exact Or.inl rfl | exact Or.inr (Or.inl rfl) | exact Or.inr (Or.inr rfl))) (ce_var 2 rfl (by first | exact Or.inl rfl | exact Or.inr (Or.inl rfl) | exact Or.inr (Or.inr rfl)))) ca_nil)) (ca_cons (ce_addO (ok_Program___add__ T) T.x_Program___add__ T.sf_Program (hr.mono (by decide)) (ce_call (ok_turned_back T) (hr.mono (by decide)) (by rfl) T.m_turned_back (ca_cons (ce_var 2 rfl (by first | exact Or.inl rfl | exact Or.inr (Or.inl rfl) | exact Or.inr (Or.inr rfl))) ca_nil)) (ce_call (ok_turned_back T) (hr.mono (by decide)) (by rfl) T.m_turned_back (ca_cons (ce_var 1 rfl (by first | exact Or.inl rfl | exact Or.inr (Or.inl rfl) | exact Or.inr (Or.inr rfl))) ca_nil))) ca_nil))) ca_nil)) (ce_boolO (ok_FirstUnlike___bool__ T) T.x_FirstUnlike___bool__ (hr.mono (by decide)) (by rfl) T.z_bool (ca_cons (ce_call (ok_judge_programs T) (hr.mono (by decide)) (by rfl) T.m_judge_programs (ca_cons (ce_call (ok_turned_back T) (hr.mono (by decide)) (by rfl) T.m_turned_back (ca_cons (ce_addO (ok_Program___add__ T) T.x_Program___add__ T.sf_Program (hr.mono (by decide)) (ce_var 1 rfl (by first | exact Or.inl rfl | exact Or.inr (Or.inl rfl) | exact Or.inr (Or.inr rfl))) (ce_var 2 rfl (by first | exact Or.inl rfl | exact Or.inr (Or.inl rfl) | exact Or.inr (Or.inr rfl)))) ca_nil)) (ca_cons (ce_addO (ok_Program___add__ T) T.x_Program___add__ T.sf_Program (hr.mono (by decide)) (ce_call (ok_turned_back T) (hr.mono (by decide)) (by rfl) T.m_turned_back (ca_cons (ce_var 2 rfl (by first | exact Or.inl rfl | exact Or.inr (Or.inl rfl) | exact Or.inr (Or.inr rfl))) ca_nil)) (ce_call (ok_turned_back T) (hr.mono (by decide)) (by rfl) T.m_turned_back (ca_cons (ce_var 1 rfl (by first | exact Or.inl rfl | exact Or.inr (Or.inl rfl) | exact Or.inr (Or.inr rfl))) ca_nil))) ca_nil))) ca_nil))))))) css_nil) (css_cons (cs_par (i := 8) (j := 9) (by rfl) sc_law.nd rfl rfl (by decide) rfl rfl (ca_cons (ce_call (ok_judge_programs T) (hr.mono (by decide)) (by rfl) T.m_judge_programs (ca_cons (ce_var 1 rfl (by first | exact Or.inl rfl | exact Or.inr (Or.inl rfl) | exact Or.inr (Or.inr rfl))) (ca_cons (ce_var 3 rfl (by first | exact Or.inl rfl | exact Or.inr (Or.inl rfl) | exact Or.inr (Or.inr rfl))) ca_nil))) (ca_cons (ce_or2 (ce_boolO (ok_SameAlways___bool__ T) T.x_SameAlways___bool__ (hr.mono (by decide)) (by rfl) T.z_bool (ca_cons (ce_call (ok_judge_programs T) (hr.mono (by decide)) (by rfl) T.m_judge_programs (ca_cons (ce_var 1 rfl (by first | exact Or.inl rfl | exact Or.inr (Or.inl rfl) | exact Or.inr (Or.inr rfl))) (ca_cons (ce_var 3 rfl (by first | exact Or.inl rfl | exact Or.inr (Or.inl rfl) | exact Or.inr (Or.inr rfl))) ca_nil))) ca_nil)) (ce_boolO (ok_FirstUnlike___bool__ T) T.x_FirstUnlike___bool__ (hr.mono (by decide)) (by rfl) T.z_bool (ca_cons (ce_call (ok_judge_programs T) (hr.mono (by decide)) (by rfl) T.m_judge_programs (ca_cons (ce_var 1 rfl (by first | exact Or.inl rfl | exact Or.inr (Or.inl rfl) | exact Or.inr (Or.inr rfl))) (ca_cons (ce_var 3 rfl (by first | exact Or.inl rfl | exact Or.inr (Or.inl rfl) | exact Or.inr (Or.inr rfl))) ca_nil))) ca_nil))) ca_nil)) (by rfl)) (css_cons (cs_if (ct_eq hr.units (ce_var 7 rfl (by first | exact Or.inl rfl | exact Or.inr (Or.inl rfl) | exact Or.inr (Or.inr rfl))) ce_int) (css_cons (cs_asg (ce_call (ok_judge_programs T) (hr.mono (by decide)) (by rfl) T.m_judge_programs (ca_cons (ce_var 3 rfl (by first | exact Or.inl rfl | exact Or.inr (Or.inl rfl) | exact Or.inr (Or.inr rfl))) (ca_cons (ce_var 1 rfl (by first | exact Or.inl rfl | exact Or.inr (Or.inl rfl) | exact Or.inr (Or.inr rfl))) ca_nil))) (cg_name (i := 10) sc_law.nd rfl (.inl rfl))) (css_cons (cs_if (cw_t (cw_or (ct_ne hr.units (ce_or2 (ce_boolO (ok_SameAlways___bool__ T) T.x_SameAlways___bool__ (hr.mono (by decide)) (by rfl) T.z_bool (ca_cons (ce_var 10 rfl (by first | exact Or.inl rfl | exact Or.inr (Or.inl rfl) | exact Or.inr (Or.inr rfl))) ca_nil)) (ce_boolO (ok_FirstUnlike___bool__ T) T.x_FirstUnlike___bool__ (hr.mono (by decide)) (by rfl) T.z_bool (ca_cons (ce_var 10 rfl (by first | exact Or.inl rfl | exact Or.inr (Or.inl rfl) | exact Or.inr (Or.inr rfl))) ca_nil))) (ce_var 9 rfl (by first | exact Or.inl rfl | exact Or.inr (Or.inl rfl) | exact Or.inr (Or.inr rfl)))) (cw_or (cw_t (cw_and (ct_val (ce_var 9 rfl (by first | exact Or.inl rfl | exact Or.inr (Or.inl rfl) | exact Or.inr (Or.inr rfl)))) (cw_and1 (ct_or2 (ct_neO (ok_SameAlways___eq__ T) T.x_SameAlways___eq__ T.ne_SameAlways T.ob_SameAlways (hr.mono (by decide)) (ce_var 10 rfl (by first | exact Or.inl rfl | exact Or.inr (Or.inl rfl) | exact Or.inr (Or.inr rfl))) (ce_var 8 rfl (by first | exact Or.inl rfl | exact Or.inr (Or.inl rfl) | exact Or.inr (Or.inr rfl)))) (ct_neO (ok_FirstUnlike___eq__ T) T.x_FirstUnlike___eq__ T.ne_FirstUnlike T.ob_FirstUnlike (hr.mono (by decide)) (ce_var 10 rfl (by first | exact Or.inl rfl | exact Or.inr (Or.inl rfl) | exact Or.inr (Or.inr rfl))) (ce_var 8 rfl (by first | exact Or.inl rfl | exact Or.inr (Or.inl rfl) | exact Or.inr (Or.inr rfl)))))))) (cw_or1 (cw_t (cw_and (ct_not (ct_val (ce_var 9 rfl (by first | exact Or.inl rfl | exact Or.inr (Or.inl rfl) | exact Or.inr (Or.inr rfl))))) (cw_and1 (ct_or2 (ct_neO (ok_SameAlways___eq__ T) T.x_SameAlways___eq__ T.ne_SameAlways T.ob_SameAlways (hr.mono (by decide)) (ce_var 10 rfl (by first | exact Or.inl rfl | exact Or.inr (Or.inl rfl) | exact Or.inr (Or.inr rfl))) (ce_var 8 rfl (by first | exact Or.inl rfl | exact Or.inr (Or.inl rfl) | exact Or.inr (Or.inr rfl)))) (ct_neO (ok_FirstUnlike___eq__ T) T.x_FirstUnlike___eq__ T.ne_FirstUnlike T.ob_FirstUnlike (hr.mono (by decide)) (ce_var 10 rfl (by first | exact Or.inl rfl | exact Or.inr (Or.inl rfl) | exact Or.inr (Or.inr rfl))) (ce_var 8 rfl (by first | exact Or.inl rfl | exact Or.inr (Or.inl rfl) | exact Or.inr (Or.inr rfl)))))))))))) (css_one (cs_ret ce_bl)) css_nil) (css_cons (cs_par (i := 11) (j := 12) (by rfl) sc_law.nd rfl rfl (by decide) rfl rfl (ca_cons (ce_or2 (ce_boolO (ok_SameAlways___bool__ T) T.x_SameAlways___bool__ (hr.mono (by decide)) (by rfl) T.z_bool (ca_cons (ce_call (ok_judge_programs T) (hr.mono (by decide)) (by rfl) T.m_judge_programs (ca_cons (ce_var 3 rfl (by first | exact Or.inl rfl | exact Or.inr (Or.inl rfl) | exact Or.inr (Or.inr rfl))) (ca_cons (ce_var 2 rfl (by first | exact Or.inl rfl | exact Or.inr (Or.inl rfl) | exact Or.inr (Or.inr rfl))) ca_nil))) ca_nil)) (ce_boolO (ok_FirstUnlike___bool__ T) T.x_FirstUnlike___bool__ (hr.mono (by decide)) (by rfl) T.z_bool (ca_cons (ce_call (ok_judge_programs T) (hr.mono (by decide)) (by rfl) T.m_judge_programs (ca_cons (ce_var 3 rfl (by first | exact Or.inl rfl | exact Or.inr (Or.inl rfl) | exact Or.inr (Or.inr rfl))) (ca_cons (ce_var 2 rfl (by first | exact Or.inl rfl | exact Or.inr (Or.inl rfl) | exact Or.inr (Or.inr rfl))) ca_nil))) ca_nil))) (ca_cons (ce_or2 (ce_boolO (ok_SameAlways___bool__ T) T.x_SameAlways___bool__ (hr.mono (by decide)) (by rfl) T.z_bool (ca_cons (ce_call (ok_judge_programs T) (hr.mono (by decide)) (by rfl) T.m_judge_programs (ca_cons (ce_var 1 rfl (by first | exact Or.inl rfl | exact Or.inr (Or.inl rfl) | exact Or.inr (Or.inr rfl))) (ca_cons (ce_var 2 rfl (by first | exact Or.inl rfl | exact Or.inr (Or.inl rfl) | exact Or.inr (Or.inr rfl))) ca_nil))) ca_nil)) (ce_boolO (ok_FirstUnlike___bool__ T) T.x_FirstUnlike___bool__ (hr.mono (by decide)) (by rfl) T.z_bool (ca_cons (ce_call (ok_judge_programs T) (hr.mono (by decide)) (by rfl) T.m_judge_programs (ca_cons (ce_var 1 rfl (by first | exact Or.inl rfl | exact Or.inr (Or.inl rfl) | exact Or.inr (Or.inr rfl))) (ca_cons (ce_var 2 rfl (by first | exact Or.inl rfl | exact Or.inr (Or.inl rfl) | exact Or.inr (Or.inr rfl))) ca_nil))) ca_nil))) ca_nil)) (by rfl)) (css_one (cs_ret (ce_or (ce_not (ce_var 9 rfl (by first | exact Or.inl rfl | exact Or.inr (Or.inl rfl) | exact Or.inr (Or.inr rfl)))) (ce_one (ce_eq hr.units (ce_var 11 rfl (by first | exact Or.inl rfl | exact Or.inr (Or.inl rfl) | exact Or.inr (Or.inr rfl))) (ce_var 12 rfl (by first | exact Or.inl rfl | exact Or.inr (Or.inl rfl) | exact Or.inr (Or.inr rfl))))))))))) css_nil) (css_cons (cs_if (ct_eq hr.units (ce_var 7 rfl (by first | exact Or.inl rfl | exact Or.inr (Or.inl rfl) | exact Or.inr (Or.inr rfl))) ce_int) (css_cons (cs_if (ct_not (ct_val (ce_var 9 rfl (by first | exact Or.inl rfl | exact Or.inr (Or.inl rfl) | exact Or.inr (Or.inr rfl))))) (css_one (cs_ret (ce_eq hr.units (ce_fld ["FirstUnlike"] (fo_cons T.c_FirstUnlike T.n_FirstUnlike_many fo_nil) (ce_call (ok_judge_programs T) (hr.mono (by decide)) (by rfl) T.m_judge_programs (ca_cons (ce_call (ok_turned_back T) (hr.mono (by decide)) (by rfl) T.m_turned_back (ca_cons (ce_var 1 rfl (by first | exact Or.inl rfl | exact Or.inr (Or.inl rfl) | exact Or.inr (Or.inr rfl))) ca_nil)) (ca_cons (ce_call (ok_turned_back T) (hr.mono (by decide)) (by rfl) T.m_turned_back (ca_cons (ce_var 3 rfl (by first | exact Or.inl rfl | exact Or.inr (Or.inl rfl) | exact Or.inr (Or.inr rfl))) ca_nil)) ca_nil))) rfl) (ce_fld ["FirstUnlike"] (fo_cons T.c_FirstUnlike T.n_FirstUnlike_many fo_nil) (ce_var 8 rfl (by first | exact Or.inl rfl | exact Or.inr (Or.inl rfl) | exact Or.inr (Or.inr rfl))) rfl)))) css_nil) (css_one (cs_ret (ce_and (ce_or2 (ce_boolO (ok_SameAlways___bool__ T) T.x_SameAlways___bool__ (hr.mono (by decide)) (by rfl) T.z_bool (ca_cons (ce_call (ok_judge_programs T) (hr.mono (by decide)) (by rfl) T.m_judge_programs (ca_cons (ce_addO (ok_Program___add__ T) T.x_Program___add__ T.sf_Program (hr.mono (by decide)) (ce_var 2 rfl (by first | exact Or.inl rfl | exact Or.inr (Or.inl rfl) | exact Or.inr (Or.inr rfl))) (ce_var 1 rfl (by first | exact Or.inl rfl | exact Or.inr (Or.inl rfl) | exact Or.inr (Or.inr rfl)))) (ca_cons (ce_addO (ok_Program___add__ T) T.x_Program___add__ T.sf_Program (hr.mono (by decide)) (ce_var 2 rfl (by first | exact Or.inl rfl | exact Or.inr (Or.inl rfl) | exact Or.inr (Or.inr rfl))) (ce_var 3 rfl (by first | exact Or.inl rfl | exact Or.inr (Or.inl rfl) | exact Or.inr (Or.inr rfl)))) ca_nil))) ca_nil)) (ce_boolO (ok_FirstUnlike___bool__ T) T.x_FirstUnlike___bool__ (hr.mono (by decide)) (by rfl) T.z_bool (ca_cons (ce_call (ok_judge_programs T) (hr.mono (by decide)) (by rfl) T.m_judge_programs (ca_cons (ce_addO (ok_Program___add__ T) T.x_Program___add__ T.sf_Program (hr.mono (by decide)) (ce_var 2 rfl (by first | exact Or.inl rfl | exact Or.inr (Or.inl rfl) | exact Or.inr (Or.inr rfl))) (ce_var 1 rfl (by first | exact Or.inl rfl | exact Or.inr (Or.inl rfl) | exact Or.inr (Or.inr rfl)))) (ca_cons (ce_addO (ok_Program___add__ T) T.x_Program___add__ T.sf_Program (hr.mono (by decide)) (ce_var 2 rfl (by first | exact Or.inl rfl | exact Or.inr (Or.inl rfl) | exact Or.inr (Or.inr rfl))) (ce_var 3 rfl (by first | exact Or.inl rfl | exact Or.inr (Or.inl rfl) | exact Or.inr (Or.inr rfl)))) ca_nil))) ca_nil))) (ce_one (ce_boolO (ok_Later___bool__ T) T.x_Later___bool__ (hr.mono (by decide)) (by rfl) T.z_bool (ca_cons (ce_call (ok_judge_later T) (hr.mono (by decide)) (by rfl) T.m_judge_later (ca_cons (ce_var 1 rfl (by first | exact Or.inl rfl | exact Or.inr (Or.inl rfl) | exact Or.inr (Or.inr rfl))) (ca_cons (ce_var 3 rfl (by first | exact Or.inl rfl | exact Or.inr (Or.inl rfl) | exact Or.inr (Or.inr rfl))) ca_nil))) ca_nil))))))) css_nil) (css_cons (cs_asg (ce_call (ok_tidy_program T) (hr.mono (by decide)) (by rfl) T.m_tidy_program (ca_cons (ce_addO (ok_Program___add__ T) T.x_Program___add__ T.sf_Program (hr.mono (by decide)) (ce_var 1 rfl (by first | exact Or.inl rfl | exact Or.inr (Or.inl rfl) | exact Or.inr (Or.inr rfl))) (ce_var 2 rfl (by first | exact Or.inl rfl | exact Or.inr (Or.inl rfl) | exact Or.inr (Or.inr rfl)))) ca_nil)) (cg_name (i := 13) sc_law.nd rfl (.inl rfl))) (css_cons (cs_if (cw_t (cw_or (ct_not (ct_val (ce_or2 (ce_boolO (ok_SameAlways___bool__ T) T.x_SameAlways___bool__ (hr.mono (by decide)) (by rfl) T.z_bool (ca_cons (ce_call (ok_judge_programs T) (hr.mono (by decide)) (by rfl) T.m_judge_programs (ca_cons (ce_var 13 rfl (by first | exact Or.inl rfl | exact Or.inr (Or.inl rfl) | exact Or.inr (Or.inr rfl))) (ca_cons (ce_addO (ok_Program___add__ T) T.x_Program___add__ T.sf_Program (hr.mono (by decide)) (ce_var 1 rfl (by first | exact Or.inl rfl | exact Or.inr (Or.inl rfl) | exact Or.inr (Or.inr rfl))) (ce_var 2 rfl (by first | exact Or.inl rfl | exact Or.inr (Or.inl rfl) | exact Or.inr (Or.inr rfl)))) ca_nil))) ca_nil)) (ce_boolO (ok_FirstUnlike___bool__ T) T.x_FirstUnlike___bool__ (hr.mono (by decide)) (by rfl) T.z_bool (ca_cons (ce_call (ok_judge_programs T) (hr.mono (by decide)) (by rfl) T.m_judge_programs (ca_cons (ce_var 13 rfl (by first | exact Or.inl rfl | exact Or.inr (Or.inl rfl) | exact Or.inr (Or.inr rfl))) (ca_cons (ce_addO (ok_Program___add__ T) T.x_Program___add__ T.sf_Program (hr.mono (by decide)) (ce_var 1 rfl (by first | exact Or.inl rfl | exact Or.inr (Or.inl rfl) | exact Or.inr (Or.inr rfl))) (ce_var 2 rfl (by first | exact Or.inl rfl | exact Or.inr (Or.inl rfl) | exact Or.inr (Or.inr rfl)))) ca_nil))) ca_nil))))) (cw_or (ct_gt (ce_lenO (ok_Program___len__ T) T.x_Program___len__ (hr.mono (by decide)) (by rfl) T.z_len (ca_cons (ce_var 13 rfl (by first | exact Or.inl rfl | exact Or.inr (Or.inl rfl) | exact Or.inr (Or.inr rfl))) ca_nil)) (ce_add (ce_lenO (ok_Program___len__ T) T.x_Program___len__ (hr.mono (by decide)) (by rfl) T.z_len (ca_cons (ce_var 1 rfl (by first | exact Or.inl rfl | exact Or.inr (Or.inl rfl) | exact Or.inr (Or.inr rfl))) ca_nil)) (ce_lenO (ok_Program___len__ T) T.x_Program___len__ (hr.mono (by decide)) (by rfl) T.z_len (ca_cons (ce_var 2 rfl (by first | exact Or.inl rfl | exact Or.inr (Or.inl rfl) | exact Or.inr (Or.inr rfl))) ca_nil)))) (cw_or1 (ct_neO (ok_Program___eq__ T) T.x_Program___eq__ T.ne_Program T.ob_Program (hr.mono (by decide)) (ce_call (ok_tidy_program T) (hr.mono (by decide)) (by rfl) T.m_tidy_program (ca_cons (ce_var 13 rfl (by first | exact Or.inl rfl | exact Or.inr (Or.inl rfl) | exact Or.inr (Or.inr rfl))) ca_nil)) (ce_var 13 rfl (by first | exact Or.inl rfl | exact Or.inr (Or.inl rfl) | exact Or.inr (Or.inr rfl)))))))) (css_one (cs_ret ce_bl)) css_nil) (css_cons (cs_asg (ce_lst (ca_cons (ce_tup (ca_cons ce_str ca_nil)) (ca_cons (ce_tup (ca_cons ce_str (ca_cons ce_int (ca_cons ce_int ca_nil)))) (ca_cons (ce_tup (ca_cons ce_str (ca_cons ce_int (ca_cons ce_int ca_nil)))) ca_nil)))) (cg_name (i := 14) sc_law.nd rfl (.inl rfl))) (css_cons (cs_if (ct_gt (ce_call (ok__law_draw T) (hr.mono (by decide)) (by rfl) T.m__law_draw (ca_cons (ce_var 0 rfl (by first | exact Or.inl rfl | exact Or.inr (Or.inl rfl) | exact Or.inr (Or.inr rfl))) (ca_cons ce_int (ca_cons ce_int ca_nil)))) ce_int) (css_one (cs_ret ce_bl)) css_nil) (css_cons (cs_asg (ce_call (ok_few_rounds T) (hr.mono (by decide)) (by rfl) T.m_few_rounds (ca_cons (ce_var 1 rfl (by first | exact Or.inl rfl | exact Or.inr (Or.inl rfl) | exact Or.inr (Or.inr rfl))) (ca_cons (ce_var 14 rfl (by first | exact Or.inl rfl | exact Or.inr (Or.inl rfl) | exact Or.inr (Or.inr rfl))) ca_nil))) (cg_name (i := 15) sc_law.nd rfl (.inl rfl))) (css_one (cs_ret (ce_and (ce_notN (ce_var 15 rfl (by first | exact Or.inl rfl | exact Or.inr (Or.inl rfl) | exact Or.inr (Or.inr rfl))) ce_non) (ce_and (ce_le (ce_callBK (fun K => rLenS K) call_lenS calls_len (by rfl) T.z_len PySem.boot_len (ca_cons (ce_fld ["FewRounds"] (fo_cons T.c_FewRounds T.n_FewRounds_rounds fo_nil) (ce_var 15 rfl (by first | exact Or.inl rfl | exact Or.inr (Or.inl rfl) | exact Or.inr (Or.inr rfl))) rfl) ca_nil)) (ce_lenO (ok_Program___len__ T) T.x_Program___len__ (hr.mono (by decide)) (by rfl) T.z_len (ca_cons (ce_call (ok_tidy_program T) (hr.mono (by decide)) (by rfl) T.m_tidy_program (ca_cons (ce_var 1 rfl (by first | exact Or.inl rfl | exact Or.inr (Or.inl rfl) | exact Or.inr (Or.inr rfl))) ca_nil)) ca_nil))) (ce_one (ce_or2 (ce_boolO (ok_SameAlways___bool__ T) T.x_SameAlways___bool__ (hr.mono (by decide)) (by rfl) T.z_bool (ca_cons (ce_call (ok_judge_programs T) (hr.mono (by decide)) (by rfl) T.m_judge_programs (ca_cons (ce_make false T.k_Program (ok_Program___init__ T) (hr.mono (by decide)) (by rfl) T.m_Program (ca_cons (ce_fld ["FewRounds"] (fo_cons T.c_FewRounds T.n_FewRounds_rounds fo_nil) (ce_var 15 rfl (by first | exact Or.inl rfl | exact Or.inr (Or.inl rfl) | exact Or.inr (Or.inr rfl))) rfl) ca_nil)) (ca_cons (ce_var 1 rfl (by first | exact Or.inl rfl | exact Or.inr (Or.inl rfl) | exact Or.inr (Or.inr rfl))) ca_nil))) ca_nil)) (ce_boolO (ok_FirstUnlike___bool__ T) T.x_FirstUnlike___bool__ (hr.mono (by decide)) (by rfl) T.z_bool (ca_cons (ce_call (ok_judge_programs T) (hr.mono (by decide)) (by rfl) T.m_judge_programs (ca_cons (ce_make false T.k_Program (ok_Program___init__ T) (hr.mono (by decide)) (by rfl) T.m_Program (ca_cons (ce_fld ["FewRounds"] (fo_cons T.c_FewRounds T.n_FewRounds_rounds fo_nil) (ce_var 15 rfl (by first | exact Or.inl rfl | exact Or.inr (Or.inl rfl) | exact Or.inr (Or.inr rfl))) rfl) ca_nil)) (ca_cons (ce_var 1 rfl (by first | exact Or.inl rfl | exact Or.inr (Or.inl rfl) | exact Or.inr (Or.inr rfl))) ca_nil))) ca_nil))))))))))))))))))))))⟩) law_true
end
end Lk14
end
section
set_option Elab.async false
set_option linter.all false
set_option maxRecDepth 100000
set_option maxHeartbeats 0
namespace Lk14
open PySem PySem.Spec PyProof.Rows L2
theorem facts {P : Program} {w : World} {K : PySem.W.Frag} {h : Heap} {mg : Str → Option Value} {f : Addr} (hp : P.main.file = fileS) (ht : (P.main.scope.names.lookup ("super" : Str)).isSome = false) (X : K.In h) (G : h.Ns mainGlobals mg) (hfa : mg ("law" : Str) = some (.ref f)) (c : SupX.SaysX fa fn xs fileS exB tabs w K) :
    ∃ fd : FuncData, (∀ (s : Shared) (v : Value), BindsTo s fd ⟨[v], []⟩ [("script", v)]) ∧ (∀ (H : Hp) (a : Addr) (ns : List Int), ns.length ≤ 63 → SqL K H a (ns.map V.int) → PM.lawSp K [.ref a] H (fun v _ => v = .bl true) fun _ _ _ => False) ∧ ∀ base : Heap, K.In base → base.Ns mainGlobals mg → FnOk P w K mg base (L2.CX P w) 7 f fd ["script"] (PM.lawSp K) := by
  have T : Tx P w K mg := ⟨⟨⟨_, X, G⟩, c.s⟩, hp, ht, fun i t h => c.tab i h⟩
  obtain ⟨fd, F⟩ := T.f_law
  have F' : FunD K "law" "law" (defArgs s_law) (defBody s_law) (defScope s_law) [] [] (He.ga K "law") fd := F
  have e := hfa.symm.trans T.m_law
  cases e
  have b := FunD.bindsA (ps := ["script"]) F' fun _ _ _ _ _ _ us hl => match us, hl with | [_], _ => rfl
  exact ⟨fd, fun s v => b s [v] rfl, fun H a ns hl hS => ⟨a, ns, rfl, hl, WD.rd_of T.noL hS, fun _ => rfl⟩, fun base _ _ => ok_law T F'⟩
end Lk14
open PySem PySem.W PySem.Calls PyProof.Rows
theorem PySem.Challenge.cw_weirlines_k14_whole_program_relations_holds : PySem.Challenge.rw_weirlines_k14_whole_program_relations.Holds := by
  w_on; o_law
  refine HandSHeadRun.head_imp (r := OpenLaw.row PySem.Challenge.rw_weirlines_k14_whole_program_relations) (q := view (OpenLaw.row PySem.Challenge.rw_weirlines_k14_whole_program_relations).prog [0, 56]) (H := Lk14.hk) (ob := Lk14.ob) (M := 12000) (loose := Lk14.loose) (d := HandSHeadRun.topDef (OpenLaw.row PySem.Challenge.rw_weirlines_k14_whole_program_relations).prog 56) (kwd := []) Lk14.ob_eq
    Lk14.run (by kernel_rfl) (by kernel_rfl) (by kernel_rfl) (by rfl) (by first | assumption | decide +kernel) (by decide +kernel) ⟨rfl, rfl, rfl, rfl, rfl, by decide +kernel⟩ ?hw ?hc
  case hw => w_witness2
  case hc =>
    refine LamX.walk_ofTsE (l := PySem.Challenge.rw_weirlines_k14_whole_program_relations) (n := 63) (k := 7) (x := "script") (CX := fun w => L2.CX PySem.Challenge.rw_weirlines_k14_whole_program_relations.prog w) rfl (by decide) (by kernel_rfl) ⟨rfl, by decide, by decide⟩ ?F ?CX
    case CX =>
      intro w H s e s' z
      obtain ⟨_, _, _, _, _, _, _, _, _, _, _, _, z⟩ := z
      exact z
    case F =>
      intro w mg fa h Y G hmg0
      obtain ⟨K, KX, c⟩ := Y
      have hmg : mg ("law" : PySem.Str) = some (.ref fa) := by
        have e : (HandSHeadRun.topDef (OpenLaw.row PySem.Challenge.rw_weirlines_k14_whole_program_relations).prog 56).name = ("law" : PySem.Str) := by kernel_rfl
        rw [← e]
        exact hmg0
      obtain ⟨fd, hb, hS, hF⟩ := Lk14.facts (P := PySem.Challenge.rw_weirlines_k14_whole_program_relations.prog) (w := w) (by rfl) (by rfl) KX G hmg c
      exact ⟨K, KX, fd, [], PM.lawSp K, (fun p hp => nomatch hp), (fun p hp => nomatch hp), (fun p hp => nomatch hp), hb, fun H a ns hl _ _ hq => hS H a ns hl hq, fun base hK hN _ => hF base hK hN⟩
end
