import PyProof.Rows.All
import Wide.All
import OpenK.AllK
import Wide.FinOn
import KE.KStateDown
import HandS.Head0
import HandS.Head1
import HandS.Head2
import HandS.Words
import Open.Seg
import HandS.ForMost
import HandS.ForExc
import HandS.Lambda
import HandS.IsInst
import HandS.ExcIs
import HandS.DeepEq
import HandS.TupAny
import HandS.TupMul
import HandS.Deep
import HandS.Small
import HandS.CallSlots
import HandS.ExcOwn
import HandS.Style
import KE.KDflt
import KE.KExcIs
import HandS.EndOwn
import HandS.Zip
import HandS.Strs
import HandS.HeadHook3
import HandS.TupLe
import HandS.GenList
import HandS.AnyAll
import KE.GoesMore
import HandS.ExcInit
import KE.GoesComp2
import HandS.SetFor
import HandS.Conv
import HandS.SortRule
import KE.KDictZip
import KE.GoesZip
import HandS.DictComp
import HandS.Text
import HandS.FStr
import HandS.RaiseMore
import PyProof.CollectIter
import PyProof.WalksMore
import HandS.Star
import PyProof.StrBlock2
import KE.KSortTupAny
import KE.KDictKeyed
import KE.DatumOrd
import HandS.TupSets
import HandS.DictTup
import KE.GoesEnum
import HandS.ExcField
import HandS.Rev
import PyProof.AssignAttr
import PyProof.EnumMake
import HandS.Property
import PyProof.SumAny
import HandS.DictSubView
import HandS.SetBool
import PySem.Challenge.RW_stagebelt_k10_whole_entries_told
set_option Elab.async false
set_option linter.all false
set_option maxRecDepth 100000
set_option maxHeartbeats 4000000
set_option autoImplicit false
noncomputable section
namespace DH
open PySem PySem.W PySem.Calls PyProof.Rows HandSHeadRun
section
variable (st : SharedT → Thread → Option (SharedT × Thread)) (n0 : Nat) (ann : Option Value) (b : Nat)
def goS : Nat → SharedT → Thread → Option (Flow × SharedT × Code × Pos)
  | 0, _, _ => none
  | m + 1, s, t => match endAt b t with
    | some f => some (f, s, t.code, t.pos)
    | none => match stepOk n0 ann t with
      | false => none
      | true => match st s t with
        | some (s', t') => frS s' fun s' => goS m s' t'
        | none => none
end
theorem goS_ok {tb : String → Option Builtin} {p : Program} {w : World} {n0 : Nat} {ann : Option Value} {b : Nat} : ∀ {m : Nat} {s s' : SharedT} {t : Thread} {f : Flow} {c : Code} {q : Pos},
    goS (stepT (denote tb) p w) n0 ann b m s t = some (f, s', c, q) → segRun tb p w n0 ann b m s.abs t = some (f, s'.abs, c, q)
  | 0, _, _, _, _, _, _, h => by cases h
  | m + 1, s, s', t, f, c, q, h => by
    unfold goS at h
    unfold segRun
    cases he : endAt b t with
    | some g =>
      rw [he] at h
      cases h
      rfl
    | none =>
      rw [he] at h
      cases hk : stepOk n0 ann t with
      | false => rw [hk] at h; cases h
      | true =>
        rw [hk] at h
        cases hs : stepT (denote tb) p w s t with
        | none => rw [hs] at h; cases h
        | some r =>
          obtain ⟨s2, t2⟩ := r
          rw [hs] at h
          have h3 : (frS s2 fun s' => goS (stepT (denote tb) p w) n0 ann b m s' t2) = some (f, s', c, q) := h
          rw [frS_eq] at h3
          show (match step (denote tb) p w s.abs t with
            | .go s' t' => segRun tb p w n0 ann b m s' t'
            | .halt _ _ => none) = some (f, s'.abs, c, q)
          rw [stepT_spec hs]
          exact goS_ok h3
section
variable {tb : String → Option Builtin} {p : Program} {w : World} {n0 : Nat} {ann : Option Value} {q : Pos}
theorem part {α : Type} {x : Sem α} (res : α → Flow) {K : α → Sem Fin} {H : Value → Sem Fin} {gd : Bool → Bool} {lv : List Value → List Value} {n N : Nat} {s s' r : Shared} {c c' : Code} {pos pos' : Pos} {f : Flow}
    (h : segRun tb p w n0 ann 1 n s ⟨x.wrap (fun a => .pure (.done (res a))) deadEnd gd lv, c, pos, [topFrame q]⟩ = some (f, s', c', pos'))
    (k : ∀ a, res a = f → topRun tb p w n0 ann N s' ⟨K a, c', pos', [topFrame q]⟩ = some r) :
    topRun tb p w n0 ann (n + N) s ⟨x.wrap K H gd lv, c, pos, [topFrame q]⟩ = some r := by
  obtain ⟨a, ha, hN⟩ := seg_top (res := res) (K' := K) (H' := H) (B := [topFrame q]) rfl n s ⟨x.wrap (fun a => .pure (.done (res a))) deadEnd gd lv, c, pos, [topFrame q]⟩ ⟨x.wrap K H gd lv, c, pos, [topFrame q]⟩ _ _ _ _ ⟨rfl, rfl, .inl ⟨rfl, rfl, _, rfl, rfl⟩⟩ h
  exact hN N r (k a ha)
end
theorem bindW {α β γ : Type} (x : Sem α) (f : α → Sem β) (K : β → Sem γ) (H : Value → Sem γ) (gd : Bool → Bool) (lv : List Value → List Value) :
    (x >>= f).wrap K H gd lv = x.wrap (fun a => (f a).wrap K H gd lv) H gd lv := by
  rw [Sem.bind_eq_wrap', Sem.wrap_wrap]
  exact Sem.wrap_congr _ _ _ (fun _ => rfl) fun _ => rfl
theorem keepW {α γ : Type} (vs : List Value) (x : Sem α) (K : α → Sem γ) (H : Value → Sem γ) (gd : Bool → Bool) (lv : List Value → List Value) :
    (x.keep vs).wrap K H gd lv = x.wrap K H gd (fun l => lv (vs ++ l)) := by
  rw [Sem.keep_eq_wrap, Sem.wrap_wrap]
  exact Sem.wrap_congr _ _ _ (fun _ => rfl) fun _ => rfl
noncomputable def bodyF (d a : Addr) (h : Int) : { B : Array DictEntry → Sem (Option Nat) // dictFind d (.ref a) h = (dictEntries d (keyPart (.ref a)) >>= B).keep [.ref a] } := by
  refine ⟨?B, ?h⟩
  case h =>
    unfold dictFind
    exact rfl
noncomputable def bodyG (d a : Addr) (h : Int) (es : Array DictEntry) (I : BEq Int) (pl : List Nat) :
    { x : Sem (Option Nat) // ∀ (_ : instBEqOfDecidableEq = I) (_ : placesWithHash es.size (fun i => es[i]?.map (·.hash)) h = pl), (bodyF d a h).1 es = x } := by
  refine ⟨?x, ?h⟩
  case h =>
    intro hI hp
    unfold bodyF
    dsimp only
    rw [hp, hI]
noncomputable def TT (d a : Addr) (h : Int) (es : Array DictEntry) (I : BEq Int) (pl : List Nat) : Sem (Option Nat) := (bodyG d a h es I pl).1
theorem forIn_mem {β : Type} {f g : Nat → β → Sem (ForInStep β)} : ∀ {l : List Nat} {b : β}, (∀ i ∈ l, ∀ b, f i b = g i b) → forIn l b f = forIn l b g
  | [], _, _ => rfl
  | i :: l, b, h => by
    rw [List.forIn_cons, List.forIn_cons, h i List.mem_cons_self]
    refine congrArg (fun k => g i b >>= k) (funext fun r => ?_)
    cases r with
    | done b => rfl
    | yield b => exact forIn_mem fun j hj => h j (List.mem_cons_of_mem _ hj)
theorem bindL {α β : Type} {x y : Sem α} {k : α → Sem β} (h : x = y) : (x >>= k) = (y >>= k) := congrArg (fun x => x >>= k) h
abbrev anyB : BEq Int := ⟨fun _ _ => true⟩
theorem TT_eq {d a : Addr} {h : Int} {es : Array DictEntry} {pl : List Nat} (hk : (es.any fun e => e.key == .ref a) = false) (hc : ∀ i ∈ pl, ∀ e, es[i]? = some e → (e.hash == h) = true) :
    TT d a h es instBEqOfDecidableEq pl = TT d a h es anyB pl := by
  have n0 : ∀ I : BEq Int, ¬ (es.any fun e => e.key == Value.ref a && @bne Int I e.hash h) = true := by
    intro I q
    obtain ⟨i, hi, q⟩ := Array.any_eq_true.mp q
    have : (es.any fun e => e.key == .ref a) = true := Array.any_eq_true.mpr ⟨i, hi, (Bool.and_eq_true_iff.mp q).1⟩
    rw [hk] at this
    cases this
  unfold TT bodyG
  dsimp only
  refine ite_congr rfl (fun _ => rfl) fun _ => ?_
  rw [if_neg (n0 _), if_neg (n0 _)]
  refine ite_congr rfl (fun _ => ?_) fun _ => ?_ <;> refine bind_congr fun tl => ite_congr rfl (fun _ => rfl) fun _ => bindL (forIn_mem fun i hi b => ?_)
  all_goals
    cases e : es[i]? with
    | none => rfl
    | some x => exact (if_pos (hc i hi x e)).trans (if_pos (show @BEq.beq Int anyB x.hash h = true from rfl)).symm
theorem find_TT {d a : Addr} {h : Int} : dictFind d (.ref a) h = (dictEntries d (keyPart (.ref a)) >>= fun es => TT d a h es instBEqOfDecidableEq (placesWithHash es.size (fun i => es[i]?.map (·.hash)) h)).keep [.ref a] :=
  (bodyF d a h).2.trans (congrArg (fun k => (dictEntries d (keyPart (.ref a)) >>= k).keep [.ref a]) (funext fun es => (bodyG d a h es _ _).2 rfl rfl))
section
variable (st : SharedT → Thread → Option (SharedT × Thread)) (n0 : Nat) (ann : Option Value) (b : Nat)
noncomputable def goM : Nat → SharedT → Thread → Option (SharedT × Thread)
  | 0, s, t => some (s, t)
  | m + 1, s, t => match endAt b t with
    | some _ => none
    | none => match stepOk n0 ann t with
      | false => none
      | true => match st s t with
        | some (s', t') => frS s' fun s' => goM m s' t'
        | none => none
end
theorem goM_ok {tb : String → Option Builtin} {p : Program} {w : World} {n0 : Nat} {ann : Option Value} {b : Nat} : ∀ {m : Nat} {s s' : SharedT} {t t' : Thread}, goM (stepT (denote tb) p w) n0 ann b m s t = some (s', t') → segGo tb p w n0 ann b m s.abs t = some (s'.abs, t')
  | 0, _, _, _, _, h => by
    cases h
    rfl
  | m + 1, s, s', t, t', h => by
    unfold goM at h
    unfold segGo
    cases he : endAt b t with
    | some g => rw [he] at h; cases h
    | none =>
      rw [he] at h
      cases hk : stepOk n0 ann t with
      | false => rw [hk] at h; cases h
      | true =>
        rw [hk] at h
        cases hs : stepT (denote tb) p w s t with
        | none => rw [hs] at h; cases h
        | some r =>
          obtain ⟨s2, t2⟩ := r
          rw [hs] at h
          have h3 : (frS s2 fun s' => goM (stepT (denote tb) p w) n0 ann b m s' t2) = some (s', t') := h
          rw [frS_eq] at h3
          show (match step (denote tb) p w s.abs t with
            | .go s' t' => segGo tb p w n0 ann b m s' t'
            | .halt _ _ => none) = some (s'.abs, t')
          rw [stepT_spec hs]
          exact goM_ok h3
theorem seg_red {tb : String → Option Builtin} {p : Program} {w : World} {n0 : Nat} {ann : Option Value} {q : Pos} {i : Int} {s : Shared} {gd : Bool → Bool} {lv : List Value → List Value} {c : Code} {pos : Pos} :
    ∃ j : Int, segRun tb p w n0 ann 1 3 s ⟨(pyHashByItsType.reduced i).wrap (fun i => .pure (.done (.ret (.int i 0)))) deadEnd gd lv, c, pos, [topFrame q]⟩ = some (.ret (.int j 0), s, c, pos) := by
  unfold pyHashByItsType.reduced
  split
  · exact ⟨_, rfl⟩
  · exact ⟨_, rfl⟩
end DH
noncomputable section
namespace DH
open PySem PySem.W PySem.Calls PyProof.Rows HandSHeadRun
section
variable {tb : String → Option Builtin} {p : Program} {w : World} {n0 : Nat} {ann : Option Value} {q : Pos}
theorem seg_load {b n : Nat} {s : Shared} {a : Addr} {part : Option Value} {k : Obj → Sem Fin} {c : Code} {pos : Pos} {B : List Frame} {o : Obj} (h : s.heap.get? a = some o) :
    segRun tb p w n0 ann b (n + 1) s ⟨.load a part k, c, pos, B⟩ = segRun tb p w n0 ann b n s ⟨k o, c, pos, B⟩ := by
  have e : endAt b ⟨.load a part k, c, pos, B⟩ = none := by
    unfold endAt
    cases (B.length == b) <;> rfl
  have ok : stepOk n0 ann ⟨.load a part k, c, pos, B⟩ = true := rfl
  have st : step (denote tb) p w s ⟨.load a part k, c, pos, B⟩ = .go s ⟨k o, c, pos, B⟩ := by
    obtain ⟨heap, gens, drawn, toks, os⟩ := s
    show (match heap.get? a with | some o => _ | none => _) = _
    rw [show heap.get? a = some o from h]
  show (match endAt b ⟨.load a part k, c, pos, B⟩ with | some f => _ | none => _) = _
  rw [e, ok, st]
theorem find_part {D a : Addr} {h : Int} {K : Option Nat → Sem Fin} {H : Value → Sem Fin} {gd : Bool → Bool} {lv : List Value → List Value} {n N : Nat} {s r : Shared} {c : Code} {pos : Pos} {o : Obj} {es : Array DictEntry} {ep : Nat}
    (ho : s.heap.get? D = some o) (hd : o.data = .dict es ep) (hk : (es.any fun e => e.key == .ref a) = false)
    (hp : segRun tb p w n0 ann 1 n s ⟨(TT D a h es anyB (placesWithHash es.size (fun i => es[i]?.map (·.hash)) h)).wrap (fun r => .pure (.done (match r with | none => .next | some _ => .brk))) deadEnd gd (fun l => lv ([.ref a] ++ l)), c, pos, [topFrame q]⟩ = some (.next, s, c, pos))
    (k : topRun tb p w n0 ann N s ⟨K none, c, pos, [topFrame q]⟩ = some r) : topRun tb p w n0 ann (n + 1 + N) s ⟨(dictFind D (.ref a) h).wrap K H gd lv, c, pos, [topFrame q]⟩ = some r := by
  refine part (fun r : Option Nat => match r with | none => .next | some _ => .brk) (f := .next) (s' := s) (c' := c) (pos' := pos) ?_ fun x hx => ?_
  · rw [find_TT, keepW, bindW]
    unfold dictEntries
    rw [bindW]
    show segRun tb p w n0 ann 1 (n + 1) s ⟨.load D _ fun o => _, c, pos, [topFrame q]⟩ = _
    rw [seg_load ho]
    obtain ⟨cl, dc, dt, sl⟩ := o
    have hd : dt = .dict es ep := hd
    subst hd
    show segRun tb p w n0 ann 1 n s ⟨(TT D a h es instBEqOfDecidableEq (placesWithHash es.size (fun i => es[i]?.map (·.hash)) h)).wrap _ _ _ _, c, pos, [topFrame q]⟩ = _
    rw [TT_eq hk fun i hi x hx => ?_]
    · exact hp
    · have : (es[i]?.map (·.hash) == some h) = true := (List.mem_filter.mp hi).2
      rw [hx] at this
      simpa using this
  · cases x with
    | none => exact k
    | some i => cases hx
abbrev lvA (a b : Addr) (lv : List Value → List Value) : List Value → List Value := fun l => lv ([.ref a, .ref b] ++ l)
abbrev setIn (D a b : Addr) (h : Int) : Sem Unit := rule "dict.set.new-key-at-the-end" >>= fun _ => updateDictKeys D (·.push ⟨h, .ref a, .ref b⟩) (keyPart (.ref a))
abbrev resO : Option Nat → Sem Fin := fun r => .pure (.done (match r with | none => .next | some _ => .brk))
theorem put_part {D a b : Addr} {h : Int} {K : Unit → Sem Fin} {H : Value → Sem Fin} {gd : Bool → Bool} {lv : List Value → List Value} {n1 n2 n3 N : Nat} {s s1 s2 r : Shared} {c c1 c2 : Code} {pos pos1 pos2 : Pos} {o : Obj} {es : Array DictEntry} {ep : Nat}
    (h1 : segRun tb p w n0 ann 1 n1 s ⟨(pyHash (.ref a)).wrap (fun i => .pure (.done (.ret (.int i 0)))) deadEnd gd (lvA a b lv), c, pos, [topFrame q]⟩ = some (.ret (.int h 0), s1, c1, pos1))
    (ho : s1.heap.get? D = some o) (hd : o.data = .dict es ep) (hk : (es.any fun e => e.key == .ref a) = false)
    (hp : segRun tb p w n0 ann 1 n2 s1 ⟨(TT D a h es anyB (placesWithHash es.size (fun i => es[i]?.map (·.hash)) h)).wrap resO deadEnd gd (fun l => lvA a b (lvA a b lv) ([.ref a] ++ l)), c1, pos1, [topFrame q]⟩ = some (.next, s1, c1, pos1))
    (h3 : segRun tb p w n0 ann 1 n3 s1 ⟨(setIn D a b h).wrap (fun _ => .pure (.done .next)) deadEnd gd (lvA a b (lvA a b lv)), c1, pos1, [topFrame q]⟩ = some (.next, s2, c2, pos2))
    (k : topRun tb p w n0 ann N s2 ⟨K (), c2, pos2, [topFrame q]⟩ = some r) :
    topRun tb p w n0 ann (n1 + (n2 + 1 + (n3 + N))) s ⟨(dictSet D (.ref a) (.ref b)).wrap K H gd lv, c, pos, [topFrame q]⟩ = some r := by
  have e : dictSet D (.ref a) (.ref b) = (pyHash (.ref a) >>= fun h => dictSetHashed D (.ref a) h (.ref b)).keep [.ref a, .ref b] := rfl
  rw [e, keepW, bindW]
  refine part (fun i : Int => .ret (.int i 0)) h1 fun i hi => ?_
  have hi : i = h := by
    injection hi with hi
    injection hi
  subst hi
  have e2 : dictSetHashed D (.ref a) i (.ref b) = (dictFind D (.ref a) i >>= fun r => match r with
    | some j => (do rule "dict.set.replace-value-keep-key"; updateDict D (·.modify j fun e => { e with val := .ref b }) (keyPart (.ref a)); point)
    | none => setIn D a b i).keep [.ref a, .ref b] := rfl
  rw [e2, keepW, bindW]
  refine find_part ho hd hk hp ?_
  exact part (fun _ : Unit => .next) h3 fun _ _ => k
end
end DH
noncomputable section
namespace DH
open PySem PySem.W PySem.Calls PyProof.Rows HandSHeadRun
def loopD (d : Addr) (vs : List (Value × Value)) : Sem Unit := do
  for (k, v) in vs do dictSet d k v
theorem loop_cons (d : Addr) (k v : Value) (vs : List (Value × Value)) : loopD d ((k, v) :: vs) = (dictSet d k v >>= fun _ => loopD d vs) := by
  unfold loopD
  rw [List.forIn_cons]
  rw [Sem.bind_eq_wrap', Sem.bind_eq_wrap', Sem.wrap_wrap]
  show Sem.wrap _ _ _ _ (dictSet d k v >>= fun _ => (pure (ForInStep.yield PUnit.unit) : Sem (ForInStep PUnit))) = _
  rw [bindW, Sem.bind_eq_wrap']
  refine Sem.wrap_congr _ _ _ (fun a => ?_) fun _ => rfl
  rw [Sem.bind_eq_wrap']
  rfl
def subs : List Nat → List (List Nat)
  | [] => [[]]
  | a :: l => (subs l).map (a :: ·) ++ subs l
theorem subs_filter (S : Nat → Bool) : ∀ l : List Nat, l.filter S ∈ subs l
  | [] => List.mem_cons_self
  | a :: l => by
    rw [List.filter_cons]
    split
    · exact List.mem_append_left _ (List.mem_map.mpr ⟨_, subs_filter S l, rfl⟩)
    · exact List.mem_append_right _ (subs_filter S l)
theorem places_subs (n : Nat) (f : Nat → Option Int) (h : Int) : placesWithHash n f h ∈ subs (List.range n) := subs_filter _ _
section
variable (tb : String → Option Builtin) (p : Program) (w : World) (n0 : Nat) (ann : Option Value) (q : Pos)
abbrev runT (n : Nat) (s : SharedT) (t : Thread) : Option (Flow × SharedT × Code × Pos) := goS (stepT (denote tb) p w) n0 ann 1 n s t
abbrev tHash (a b : Addr) (lv : List Value → List Value) (c : Code) (pos : Pos) : Thread := ⟨(pyHash (.ref a)).wrap (fun i => .pure (.done (.ret (.int i 0)))) deadEnd id (lvA a b lv), c, pos, [topFrame q]⟩
abbrev tFind (D a b : Addr) (lv : List Value → List Value) (h : Int) (es : Array DictEntry) (c : Code) (pos : Pos) (pl : List Nat) : Thread := ⟨(TT D a h es anyB pl).wrap resO deadEnd id (fun l => lvA a b (lvA a b lv) ([.ref a] ++ l)), c, pos, [topFrame q]⟩
abbrev tSet (D a b : Addr) (lv : List Value → List Value) (h : Int) (c : Code) (pos : Pos) : Thread := ⟨(setIn D a b h).wrap (fun _ => .pure (.done .next)) deadEnd id (lvA a b (lvA a b lv)), c, pos, [topFrame q]⟩
inductive Puts (D : Addr) (lv : List Value → List Value) : List (Addr × Addr) → SharedT → Code → Pos → SharedT → Code → Pos → Nat → Prop
  | nil {s c pos} : Puts D lv [] s c pos s c pos 0
  | cons {a b l h s s1 s2 s' c c1 c2 c' pos pos1 pos2 pos' n1 n2 n3 N es ep}
      (h1 : segRun tb p w n0 ann 1 n1 s.abs (tHash q a b lv c pos) = some (.ret (.int h 0), s1.abs, c1, pos1))
      (ho : (getT s1 D).map (·.data) = some (.dict es ep)) (hk : (es.any fun e => e.key == .ref a) = false)
      (hp : (subs (List.range es.size)).map (fun pl => runT tb p w n0 ann n2 s1 (tFind q D a b lv h es c1 pos1 pl)) = (subs (List.range es.size)).map (fun _ => some (.next, s1, c1, pos1)))
      (h3 : runT tb p w n0 ann n3 s1 (tSet q D a b lv h c1 pos1) = some (.next, s2, c2, pos2))
      (rest : Puts D lv l s2 c2 pos2 s' c' pos' N) : Puts D lv ((a, b) :: l) s c pos s' c' pos' (n1 + (n2 + 1 + (n3 + N)))
end
section
variable {tb : String → Option Builtin} {p : Program} {w : World} {n0 : Nat} {ann : Option Value} {q : Pos}
abbrev prs (l : List (Addr × Addr)) : List (Value × Value) := l.map fun x => (Value.ref x.1, Value.ref x.2)
theorem puts_run {D : Addr} {lv : List Value → List Value} {l : List (Addr × Addr)} {s s' : SharedT} {c c' : Code} {pos pos' : Pos} {n : Nat} (hP : Puts tb p w n0 ann q D lv l s c pos s' c' pos' n) :
    ∀ {K : Unit → Sem Fin} {H : Value → Sem Fin} {N : Nat} {r : Shared}, topRun tb p w n0 ann N s'.abs ⟨K (), c', pos', [topFrame q]⟩ = some r → topRun tb p w n0 ann (n + N) s.abs ⟨(loopD D (prs l)).wrap K H id lv, c, pos, [topFrame q]⟩ = some r := by
  induction hP with
  | nil =>
    intro K H N r k
    rw [Nat.zero_add]
    exact k
  | @cons a b l h s s1 s2 s' c c1 c2 c' pos pos1 pos2 pos' n1 n2 n3 M es ep h1 ho hk hp h3 _ ih =>
    intro K H N r k
    have k2 := ih (H := H) k
    have e : n1 + (n2 + 1 + (n3 + M)) + N = n1 + (n2 + 1 + (n3 + (M + N))) := by omega
    rw [e, show prs ((a, b) :: l) = (Value.ref a, Value.ref b) :: prs l from rfl, loop_cons, bindW]
    obtain ⟨o, go, hd⟩ := Option.map_eq_some_iff.mp ho
    rw [getT_eq] at go
    exact put_part h1 go hd hk (goS_ok (List.map_inj_left.mp hp _ (places_subs _ _ _))) (goS_ok h3) k2
theorem subDict_eq {pairs : List (Sem Value × Sem Value)} (h : pairs.length ≤ 15) : subDict pairs = (alloc { cls := .type "dict", data := .dict #[] } >>= fun d => ((evalPairs pairs >>= fun vs => holding (vs.flatMap fun x => [x.1, x.2]) (loopD d vs)).keep [.ref d]) >>= fun _ => pure d) := by
  unfold subDict
  refine congrArg (fun f => alloc { cls := .type "dict", data := .dict #[] } >>= f) (funext fun d => ?_)
  rw [if_pos h]
  rfl
end
end DH
noncomputable section
namespace DH
open PySem PySem.W PySem.Calls PyProof.Rows HandSHeadRun
def pre (p1 p2 : Pos) : Sem Addr := standAt p1 >>= fun _ => standAt p2 >>= fun _ => alloc { cls := .type "dict", data := .dict #[] }
abbrev fill (env : Env) (x : Str) (xp : Pos) (pairs : List (Sem Value × Sem Value)) (d : Addr) : Sem Flow :=
  ((evalPairs pairs >>= fun vs => holding (vs.flatMap fun x => [x.1, x.2]) (loopD d vs)).keep [.ref d]) >>= fun _ => assignStores env (.ref d) none [assign (.Name x xp) env]
theorem exec_dict {x : Str} {xp p1 p2 : Pos} {keys : List (Option Expr)} {values : List Expr} {env : Env} (hall : keys.all (·.isSome) = true) (hl : keys.length = values.length) (h0 : keys ≠ []) (hn : keys.length ≤ 15) :
    exec (.Assign [.Name x xp] (.Dict keys values p2) p1) env = pre p1 p2 >>= fill env x xp (pairTrees keys values env p2) := by
  have hp := pairTrees_length keys values env p2 hall hl
  have hp0 : pairTrees keys values env p2 ≠ [] := by
    intro he
    rw [he] at hp
    exact h0 (List.length_eq_zero_iff.mp hp.symm)
  have e : eval (.Dict keys values p2) env = standAt p2 >>= fun _ => subDict (pairTrees keys values env p2) >>= fun d => pure (.ref d) := by
    rw [arm_eval_Dict, zip_pairTrees keys values env p2 hall hl, dictDisplay_pairs _ hp0 (by omega)]
  rw [arm_exec_Assign, e, subDict_eq (by omega)]
  unfold pre fill
  show (standAt p1 >>= fun _ => _) = _
  simp only [bind_assoc, pure_bind]
  rfl
def isP : List (Value × Value) → List (Addr × Addr) → Bool
  | [], [] => true
  | (.ref a, .ref b) :: vs, (c, d) :: l => match Nat.beq a c, Nat.beq b d with
    | true, true => isP vs l
    | _, _ => false
  | _, _ => false
theorem isP_eq : ∀ {vs : List (Value × Value)} {l : List (Addr × Addr)}, isP vs l = true → vs = prs l
  | [], [], _ => rfl
  | (.ref a, .ref b) :: vs, (c, d) :: l, h => by
    unfold isP at h
    split at h
    · rename_i h1 h2
      obtain rfl := Nat.eq_of_beq_eq_true h1
      obtain rfl := Nat.eq_of_beq_eq_true h2
      rw [isP_eq h]
      rfl
    · cases h
abbrev flP (l : List (Addr × Addr)) (vs : List (Value × Value)) : Flow := match isP vs l with
  | true => .next
  | false => .brk
section
variable {tb : String → Option Builtin} {p : Program} {w : World} {n0 : Nat} {ann : Option Value} {q : Pos}
abbrev tPre (q p1 p2 : Pos) (c : Code) (pos : Pos) : Thread := ⟨(pre p1 p2).wrap (fun d => .pure (.done (.ret (.ref d)))) deadEnd id id, c, pos, [topFrame q]⟩
abbrev tPairs (q : Pos) (D : Addr) (pairs : List (Sem Value × Sem Value)) (l : List (Addr × Addr)) (c : Code) (pos : Pos) : Thread :=
  ⟨(evalPairs pairs).wrap (fun vs => .pure (.done (flP l vs))) deadEnd id (fun l => [.ref D] ++ l), c, pos, [topFrame q]⟩
abbrev tStore (q : Pos) (env : Env) (x : Str) (xp : Pos) (D : Addr) (c : Code) (pos : Pos) : Thread := ⟨(assignStores env (.ref D) none [assign (.Name x xp) env]).wrap doneF deadEnd id id, c, pos, [topFrame q]⟩
abbrev lvP (D : Addr) (L : List Value) : List Value → List Value := fun l => [.ref D] ++ (L ++ l)
theorem using_run {env : Env} {x : Str} {xp p1 p2 : Pos} {keys : List (Option Expr)} {values : List Expr} {rest : List Stmt} {D : Addr} {l : List (Addr × Addr)} {L : List Value}
    (hall : keys.all (·.isSome) = true) (hl : keys.length = values.length) (h0 : keys ≠ []) (hn : keys.length ≤ 15)
    (hL : ∀ m : Sem Unit, holding ((prs l).flatMap fun x => [x.1, x.2]) m = m.keep L)
    {nA nB nP nS N : Nat} {s s1 s2 s3 s4 : SharedT} {c c1 c2 c3 : Code} {pos pos1 pos2 pos3 pos4 : Pos} {r : Shared}
    (hA : runT tb p w n0 ann nA s (tPre q p1 p2 c pos) = some (.ret (.ref D), s1, c1, pos1))
    (hB : runT tb p w n0 ann nB s1 (tPairs q D (pairTrees keys values env p2) l c1 pos1) = some (.next, s2, c2, pos2))
    (hP : Puts tb p w n0 ann q D (lvP D L) l s2 c2 pos2 s3 c3 pos3 nP)
    (hS : runT tb p w n0 ann nS s3 (tStore q env x xp D c3 pos3) = some (.next, s4, c, pos4))
    (k : topRun tb p w n0 ann N s4.abs (restOf rest env c pos4 [topFrame q]) = some r) :
    topRun tb p w n0 ann (nA + (nB + (nP + (nS + N)))) s.abs (restOf (.Assign [.Name x xp] (.Dict keys values p2) p1 :: rest) env c pos [topFrame q]) = some r := by
  unfold restOf
  rw [execs_cons_wrap, exec_dict hall hl h0 hn, bindW]
  refine part (fun d : Addr => .ret (.ref d)) (goS_ok hA) fun d hd => ?_
  have hd : d = D := by
    injection hd with hd
    injection hd
  subst hd
  unfold fill
  rw [bindW, keepW, bindW]
  refine part (fun vs : List (Value × Value) => flP l vs) (goS_ok hB) fun vs hv => ?_
  have hv : vs = prs l := by
    unfold flP at hv
    cases e : isP vs l with
    | true => exact isP_eq e
    | false =>
      rw [e] at hv
      cases hv
  subst hv
  rw [hL, keepW]
  refine puts_run hP ?_
  refine part (id : Flow → Flow) (goS_ok hS) fun f hf => ?_
  have hf : f = .next := hf
  subst hf
  exact k
end
end DH
noncomputable section
namespace DH
open PySem PySem.W PySem.Calls PyProof.Rows HandSHeadRun
section
variable (st : SharedT → Thread → Option (SharedT × Thread)) (n0 : Nat) (ann : Option Value)
def goB : Nat → SharedT → Thread → Option (SharedT × Thread)
  | 0, s, t => some (s, t)
  | m + 1, s, t => match through t with
    | true => none
    | false => match stepOk n0 ann t with
      | false => none
      | true => match st s t with
        | some (s', t') => frS s' fun s' => goB m s' t'
        | none => none
end
theorem goB_ok {tb : String → Option Builtin} {p : Program} {w : World} {n0 : Nat} {ann : Option Value} : ∀ {m : Nat} {s s' : SharedT} {t t' : Thread}, goB (stepT (denote tb) p w) n0 ann m s t = some (s', t') → topGo tb p w n0 ann m s.abs t = some (s'.abs, t')
  | 0, _, _, _, _, h => by
    cases h
    rfl
  | m + 1, s, s', t, t', h => by
    unfold goB at h
    unfold topGo
    cases ht : through t with
    | true => rw [ht] at h; cases h
    | false =>
      rw [ht] at h
      cases hk : stepOk n0 ann t with
      | false => rw [hk] at h; cases h
      | true =>
        rw [hk] at h
        cases hs : stepT (denote tb) p w s t with
        | none => rw [hs] at h; cases h
        | some r =>
          obtain ⟨s2, t2⟩ := r
          rw [hs] at h
          have h3 : (frS s2 fun s' => goB (stepT (denote tb) p w) n0 ann m s' t2) = some (s', t') := h
          rw [frS_eq] at h3
          show (match step (denote tb) p w s.abs t with
            | .go s' t' => topGo tb p w n0 ann m s' t'
            | .halt _ _ => none) = some (s'.abs, t')
          rw [stepT_spec hs]
          exact goB_ok h3
section
variable {tb : String → Option Builtin} {p : Program} {w : World} {n0 : Nat} {ann : Option Value} {q : Pos}
theorem chain_run {b pr suf : List Stmt} {env : Env} {x : Str} {xp p1 p2 : Pos} {keys : List (Option Expr)} {values : List Expr} {D : Addr} {l : List (Addr × Addr)} {L : List Value}
    (hb : b = pr ++ .Assign [.Name x xp] (.Dict keys values p2) p1 :: suf)
    (hall : keys.all (·.isSome) = true) (hl : keys.length = values.length) (h0 : keys ≠ []) (hn : keys.length ≤ 15)
    (hL : ∀ m : Sem Unit, holding ((prs l).flatMap fun x => [x.1, x.2]) m = m.keep L)
    {m0 m1 m2 nA nB nP nS m5 m6 : Nat} {sI sA sB s s1 s2 s3 s4 s5 s6 : SharedT} {c1 c2 c3 : Code} {posA posB pos pos1 pos2 pos3 pos4 pos5 : Pos}
    (e0 : goB (stepT (denote tb) p w) n0 ann m0 sI (topStub p) = some (sA, ⟨denote tb (.body b env), .body b env, posA, [topFrame q]⟩))
    (e1 : runT tb p w n0 ann m1 sA (blockOf b env (.body b env) posA [topFrame q]) = some (.next, sB, .body b env, posB))
    (e2 : runT tb p w n0 ann m2 sB (piecesOf pr env (.body b env) posB [topFrame q]) = some (.next, s, .body b env, pos))
    (hA : runT tb p w n0 ann nA s (tPre q p1 p2 (.body b env) pos) = some (.ret (.ref D), s1, c1, pos1))
    (hB : runT tb p w n0 ann nB s1 (tPairs q D (pairTrees keys values env p2) l c1 pos1) = some (.next, s2, c2, pos2))
    (hP : Puts tb p w n0 ann q D (lvP D L) l s2 c2 pos2 s3 c3 pos3 nP)
    (hS : runT tb p w n0 ann nS s3 (tStore q env x xp D c3 pos3) = some (.next, s4, .body b env, pos4))
    (e5 : runT tb p w n0 ann m5 s4 (piecesOf suf env (.body b env) pos4 [topFrame q]) = some (.next, s5, .body b env, pos5))
    (e6 : goF (stepT (denote tb) p w) n0 ann m6 s5 ⟨doneF .next, .body b env, pos5, [topFrame q]⟩ = some s6) :
    topRun tb p w n0 ann (m0 + (m1 + (m2 + (nA + (nB + (nP + (nS + (m5 + m6)))))))) sI.abs (topStub p) = some s6.abs := by
  refine go_top (goB_ok e0) (piece_block (goS_ok e1) ?_)
  have k5 := piece_app (rest := []) (goS_ok e5) (piece_nil (goF_ok e6))
  rw [List.append_nil] at k5
  have k := piece_app (goS_ok e2) (using_run hall hl h0 hn hL hA hB hP hS k5)
  rw [← hb] at k
  exact k
end
theorem left_two {p q : Program} {loose : List Str} {Xt : Shared → Bool} {α : Type} {Yf : Shared → α} {Ya : World → α} {N M : Nat}
    (e : opening p = plainProg p.main.scope.names) (hN : Nat.ble 600 N = true) (f : ∀ s, fenceModules? p s = some s) (le : Nat.ble M N = true)
    (run : ∀ (w : World) (os : OsState), ∃ s : Shared, topRun treeTable p w (boot_heap w.params).objs.size (bootAnn w) M ⟨boot_heap w.params, #[], boot_drawn, boot_toks, os⟩ (topStub p) = some s ∧
      (looksF p (boot_heap w.params) s, openSeen q loose (importedModules p.main.body) Xt true s, Yf s) = (true, openGood q loose, Ya w)) :
    LeftO p q loose Xt Yf Ya N true := fun w => by
  obtain ⟨⟨h, gs, d, k, os⟩, a, a'⟩ := Option.map_eq_some_iff.mp (boot_open e hN f w)
  obtain ⟨rfl, rfl, rfl, rfl⟩ : h = boot_heap w.params ∧ gs = Array.mk [] ∧ d = boot_drawn ∧ k = boot_toks := by simpa using a'
  obtain ⟨s, hs, hv⟩ := run w os
  obtain ⟨l1, l2, l3⟩ : _ ∧ _ ∧ _ := by simpa only [Prod.mk.injEq] using hv
  have r := topRun_mono (N - M) _ _ _ _ hs
  rw [show M + (N - M) = N by have := Nat.le_of_ble_eq_true le; omega] at r
  have l1' : (staticsOk (importedModules p.main.body) (boot_heap w.params) s.heap && namesBound p s.heap && gensDone s && laidKept (boot_heap w.params) s.heap) = true := l1
  have t : topFrom treeTable p w N ⟨boot_heap w.params, Array.mk [], boot_drawn, boot_toks, os⟩ = some s := by
    unfold topFrom
    dsimp only
    rw [boot_ns]
    show (topRun treeTable p w (boot_heap w.params).objs.size (bootAnn w) N ⟨boot_heap w.params, #[], boot_drawn, boot_toks, os⟩ (topStub p)).bind _ = _
    rw [r]
    show (match staticsOk (importedModules p.main.body) (boot_heap w.params) s.heap && namesBound p s.heap && gensDone s && laidKept (boot_heap w.params) s.heap with | true => some s | false => none) = _
    rw [l1']
  unfold openEnds
  rw [a]
  show (topFrom treeTable p w N _).map _ = _
  rw [t]
  exact congrArg some (Prod.ext l2 l3)
def RunEq2 (r : OpenRow) (q : Program) (H : Hook) (ob : SharedT → H.α) (M : Nat) (loose : List PySem.Str) (w : World) : Prop :=
  ∀ os : OsState, ∃ s : SharedT, topRun treeTable r.prog w (boot_heap w.params).objs.size (bootAnn w) M ⟨boot_heap w.params, #[], boot_drawn, boot_toks, os⟩ (topStub r.prog) = some s.abs ∧
    (looksF r.prog (boot_heap w.params) s.abs, seenQ q loose (importedModules r.prog.main.body) (fun s => xlAt q [] s && recOk r.toRowW.records s) s.abs, ob s) = (true, openGood q loose, H.val w)
theorem head_two {r : OpenRow} {q : Program} {H : Hook} {ob : SharedT → H.α} {M : Nat} {loose : List PySem.Str} {d : DefRec} {kwd : List (PySem.Str × PySem.Expr)} (ho : ∀ s : SharedT, ob s = H.obs s.abs)
    (e : opening r.prog = plainProg r.prog.main.scope.names) (f : ∀ s, fenceModules? r.prog s = some s) (run : ∀ w, RunEq2 r q H ob M loose w)
    (hdef : defOf q r.name = some (d, kwd)) (hp : r.prog.theDef r.name = some (d.params, d.body, d.scope)) (hk : kwWritten? d.params.kwonlyargs d.params.kw_defaults = some kwd)
    (hwr : (!r.writes || r.records.isEmpty) = true) (k1 : r.wellSaid = true) (ok : (chainsOk q && opensWell r.prog && (frees r.toRowW && r.within.isEmpty)) = true) (hb : r.prog.bare) (hw : r.toRowW.promised)
    (call : WalkO q loose (XL q []) H.says r.toRowW d kwd fun f vs => PySem.call f vs) : r.Holds := by
  have left : LeftO r.prog q loose (fun s => xlAt q [] s && recOk r.toRowW.records s) H.obs H.val (M + 600) true :=
    left_two (M := M) e (Nat.ble_eq_true_of_le (by omega)) f (Nat.ble_eq_true_of_le (by omega)) fun w os => by
      obtain ⟨s, h1, h2⟩ := run w os
      refine ⟨s.abs, h1, ?_⟩
      rw [seenQ_eq]
      have h2' := h2
      rw [ho s] at h2'
      exact h2'
  exact holds_open (r := r) (q := q) (loose := loose) (XP := XL q []) (YP := H.says) (d := d) (kwd := kwd) left H.of H.keeps (fun s z => xl_of s (Bool.and_eq_true_iff.mp z).1) XL.keeps hdef hp hk (fun s z => recFacts_of (Bool.and_eq_true_iff.mp z).2) hwr k1 ok hb hw call
def bootS (w : World) (os : OsState) : SharedT := match putAll (boot_heap w.params).objs.toList .nil 0 with
  | some r => bootT w os r
  | none => bootT w os (.nil, 0)
theorem bootS_ok {w : World} {os : OsState} (h : (putAll (boot_heap w.params).objs.toList .nil 0).isSome = true) : (bootS w os).abs = ⟨boot_heap w.params, #[], boot_drawn, boot_toks, os⟩ := by
  obtain ⟨r, e⟩ := Option.isSome_iff_exists.mp h
  unfold bootS
  rw [e]
  obtain ⟨t, n⟩ := r
  show (⟨absHeap t n (boot_heap w.params).life, #[], boot_drawn, boot_toks, os⟩ : Shared) = _
  rw [putAll_heap e]
end DH
noncomputable section
namespace DH
open PySem PySem.W PySem.Calls PyProof.Rows HandSHeadRun
abbrev Run := Option (Flow × SharedT × Code × Pos)
noncomputable def q0 : Pos := ⟨0, 0, 0, 0⟩
noncomputable def zT : SharedT := ⟨.nil, 0, default, #[], boot_drawn, boot_toks, default⟩
noncomputable def sO (r : Run) : SharedT := match r with
  | some (_, s, _, _) => s
  | none => zT
noncomputable def pO (r : Run) : Pos := match r with
  | some (_, _, _, p) => p
  | none => q0
noncomputable def cO (r : Run) : Code := match r with
  | some (_, _, c, _) => c
  | none => .builtin "claim.caller" {}
noncomputable def iO (x : Option (SharedT × Thread)) : Int := match x with
  | some (_, ⟨.pure (.done (.ret (.int i _))), _, _, _⟩) => i
  | _ => 0
noncomputable def tRet (x : Option (SharedT × Thread)) (i : Int) : Thread := match x with
  | some (_, ⟨.pure (.done (.ret (.int _ k))), c, p, st⟩) => ⟨.pure (.done (.ret (.int i k))), c, p, st⟩
  | _ => ⟨.pure (.done .next), .builtin "claim.caller" {}, q0, []⟩
noncomputable def isD (x : Option (SharedT × Thread)) : Bool := match x with
  | some (_, ⟨.pure (.done (.ret (.int _ _))), _, _, _⟩) => true
  | _ => false
noncomputable def sT (x : Option (SharedT × Thread)) : SharedT := match x with
  | some (s, _) => s
  | none => zT
noncomputable def isN (r : Run) : Bool := match r with
  | some (.next, _) => true
  | _ => false
theorem isN_eq {r : Run} {c : Code} (h : isN r = true) (hc : cO r = c) : r = some (.next, sO r, c, pO r) := by
  subst hc
  unfold isN at h
  split at h
  · rfl
  · cases h
noncomputable def isA (D : Addr) (r : Run) : Bool := match r with
  | some (.ret (.ref a), _) => Nat.beq a D
  | _ => false
theorem isA_eq {D : Addr} {r : Run} (h : isA D r = true) : r = some (.ret (.ref D), sO r, cO r, pO r) := by
  unfold isA at h
  split at h
  · obtain rfl := Nat.eq_of_beq_eq_true h
    rfl
  · cases h
noncomputable def esT (s : SharedT) (D : Addr) : Array DictEntry := match getT s D with
  | some ⟨_, _, .dict es _, _⟩ => es
  | _ => #[]
noncomputable def epT (s : SharedT) (D : Addr) : Nat := match getT s D with
  | some ⟨_, _, .dict _ ep, _⟩ => ep
  | _ => 0
section
variable (st : SharedT → Thread → Option (SharedT × Thread)) (n0 : Nat) (ann : Option Value) (D : Addr) (lv : List Value → List Value)
noncomputable def rPre (a b : Addr) (s : SharedT) (c : Code) (pos : Pos) : Option (SharedT × Thread) := goM st n0 ann 1 24 s (tHash q0 a b lv c pos)
noncomputable def rHash (i : Int) (a b : Addr) (s : SharedT) (c : Code) (pos : Pos) : Option (SharedT × Thread) := goM st n0 ann 1 1 (sT (rPre st n0 ann lv a b s c pos)) (tRet (rPre st n0 ann lv a b s c pos) i)
abbrev tRed (i : Int) (a b : Addr) (lv : List Value → List Value) (c : Code) (pos : Pos) : Thread := ⟨(pyHashByItsType.reduced i).wrap (fun i => .pure (.done (.ret (.int i 0)))) deadEnd id (lvA a b lv), c, pos, [topFrame q0]⟩
noncomputable def sH (a b : Addr) (s : SharedT) (c : Code) (pos : Pos) : SharedT := sT (rHash st n0 ann lv 0 a b s c pos)
noncomputable def rSet (a b : Addr) (h : Int) (s : SharedT) (c : Code) (pos : Pos) : Run := goS st n0 ann 1 300 (sH st n0 ann lv a b s c pos) (tSet q0 D a b lv h c pos)
abbrev PF := Bool × Option (SharedT × Thread) × Option Data × Bool × List Run × Run
noncomputable def putL (a b : Addr) (h : Int) (s : SharedT) (c : Code) (pos : Pos) : PF :=
  (isD (rPre st n0 ann lv a b s c pos), rHash st n0 ann lv h a b s c pos, (getT (sH st n0 ann lv a b s c pos) D).map (·.data), (esT (sH st n0 ann lv a b s c pos) D).any (fun e => e.key == .ref a),
    (subs (List.range (esT (sH st n0 ann lv a b s c pos) D).size)).map (fun pl => goS st n0 ann 1 300 (sH st n0 ann lv a b s c pos) (tFind q0 D a b lv h (esT (sH st n0 ann lv a b s c pos) D) c pos pl)),
    rSet st n0 ann D lv a b h s c pos)
noncomputable def putR (a b : Addr) (h : Int) (s : SharedT) (c : Code) (pos : Pos) : PF :=
  (true, some (sH st n0 ann lv a b s c pos, tRed h a b lv c pos), some (.dict (esT (sH st n0 ann lv a b s c pos) D) (epT (sH st n0 ann lv a b s c pos) D)), false,
    (subs (List.range (esT (sH st n0 ann lv a b s c pos) D).size)).map (fun _ => some (.next, sH st n0 ann lv a b s c pos, c, pos)),
    some (.next, sO (rSet st n0 ann D lv a b h s c pos), c, pos))
noncomputable def putsL : List (Addr × Addr) → List Int → SharedT → Code → Pos → List PF
  | (a, b) :: l, h :: hs, s, c, pos => putL st n0 ann D lv a b h s c pos :: putsL l hs (sO (rSet st n0 ann D lv a b h s c pos)) c pos
  | _, _, _, _, _ => []
noncomputable def putsR : List (Addr × Addr) → List Int → SharedT → Code → Pos → List PF
  | (a, b) :: l, h :: hs, s, c, pos => putR st n0 ann D lv a b h s c pos :: putsR l hs (sO (rSet st n0 ann D lv a b h s c pos)) c pos
  | _, _, _, _, _ => []
noncomputable def putsE : List (Addr × Addr) → List Int → SharedT → Code → Pos → SharedT
  | (a, b) :: l, h :: hs, s, c, pos => putsE l hs (sO (rSet st n0 ann D lv a b h s c pos)) c pos
  | _, _, s, _, _ => s
noncomputable def putsN : List (Addr × Addr) → Nat
  | [] => 0
  | _ :: l => (24 + (1 + 3)) + (300 + 1 + (300 + putsN l))
end
theorem isD_eq {x : Option (SharedT × Thread)} (h : isD x = true) : x = some (sT x, tRet x (iO x)) := by
  unfold isD at h
  split at h
  · rfl
  · cases h
theorem puts_of {tb : String → Option Builtin} {p : Program} {w : World} {n0 : Nat} {ann : Option Value} {D : Addr} {lv : List Value → List Value} : ∀ {l : List (Addr × Addr)} {s : SharedT} {c : Code} {pos : Pos},
    (∀ hs : List Int, hs.length = l.length → putsL (stepT (denote tb) p w) n0 ann D lv l hs s c pos = putsR (stepT (denote tb) p w) n0 ann D lv l hs s c pos) →
    ∃ hs : List Int, hs.length = l.length ∧ Puts tb p w n0 ann q0 D lv l s c pos (putsE (stepT (denote tb) p w) n0 ann D lv l hs s c pos) c pos (putsN l)
  | [], _, _, _, _ => ⟨[], rfl, .nil⟩
  | (a, b) :: l, s, c, pos, h => by
    have first : ∀ (x : Int) (hs : List Int), hs.length = l.length → putL (stepT (denote tb) p w) n0 ann D lv a b x s c pos = putR (stepT (denote tb) p w) n0 ann D lv a b x s c pos ∧
        putsL (stepT (denote tb) p w) n0 ann D lv l hs (sO (rSet (stepT (denote tb) p w) n0 ann D lv a b x s c pos)) c pos = putsR (stepT (denote tb) p w) n0 ann D lv l hs (sO (rSet (stepT (denote tb) p w) n0 ann D lv a b x s c pos)) c pos := by
      intro x hs hl
      have e := h (x :: hs) (by rw [List.length_cons, List.length_cons, hl])
      unfold putsL putsR at e
      exact List.cons.inj e
    have e0 := (first (iO (rPre (stepT (denote tb) p w) n0 ann lv a b s c pos)) (List.replicate l.length 0) List.length_replicate).1
    unfold putL putR at e0
    obtain ⟨r0, e0⟩ := Prod.mk.inj e0
    have r1 := goM_ok (Prod.mk.inj e0).1
    have r0 := goM_ok (isD_eq r0)
    obtain ⟨j, rj⟩ := seg_red (tb := tb) (p := p) (w := w) (n0 := n0) (ann := ann) (q := q0) (i := iO (rPre (stepT (denote tb) p w) n0 ann lv a b s c pos)) (s := (sH (stepT (denote tb) p w) n0 ann lv a b s c pos).abs) (gd := id) (lv := lvA a b lv) (c := c) (pos := pos)
    have hh := seg_go r0 (seg_go r1 rj)
    obtain ⟨hs, hl, hP⟩ := puts_of (l := l) (s := sO (rSet (stepT (denote tb) p w) n0 ann D lv a b j s c pos)) (c := c) (pos := pos) fun hs hl => (first j hs hl).2
    have e1 := (first j hs hl).1
    unfold putL putR at e1
    obtain ⟨_, e1⟩ := Prod.mk.inj e1
    obtain ⟨_, e1⟩ := Prod.mk.inj e1
    obtain ⟨e2, e1⟩ := Prod.mk.inj e1
    obtain ⟨e3, e1⟩ := Prod.mk.inj e1
    obtain ⟨e4, e5⟩ := Prod.mk.inj e1
    refine ⟨j :: hs, by rw [List.length_cons, List.length_cons, hl], ?_⟩
    exact .cons hh e2 e3 e4 e5 hP
structure Par where
  pp : Program
  cv : Value
  fr : Addr
  k : Nat
  D : Addr
  l : List (Addr × Addr)
  n0 : Nat
  ann : Option Value
noncomputable def nmO (s : Stmt) : Str := match s with
  | .Assign [.Name x _] _ _ => x
  | _ => ""
noncomputable def npO (s : Stmt) : Pos := match s with
  | .Assign [.Name _ p] _ _ => p
  | _ => q0
noncomputable def kyO (s : Stmt) : List (Option Expr) := match s with
  | .Assign _ (.Dict k _ _) _ => k
  | _ => []
noncomputable def vlO (s : Stmt) : List Expr := match s with
  | .Assign _ (.Dict _ v _) _ => v
  | _ => []
noncomputable def dpO (s : Stmt) : Pos := match s with
  | .Assign _ (.Dict _ _ p) _ => p
  | _ => q0
noncomputable def spO (s : Stmt) : Pos := match s with
  | .Assign _ _ p => p
  | _ => q0
section
variable (P : Par) (w : World) (os : OsState) (hs : List Int)
noncomputable def Par.body : List Stmt := behindTheImports P.pp
noncomputable def Par.env : Env := { scope := P.pp.main.scope, locals := mainNs, globals := mainNs, cells := [], code := P.cv, frame := some P.fr }
noncomputable def Par.cb : Code := .body P.body P.env
noncomputable def Par.pr : List Stmt := P.body.take P.k
noncomputable def Par.suf : List Stmt := P.body.drop (P.k + 1)
noncomputable def Par.sm : Stmt := P.body.getD P.k (.Pass q0)
noncomputable def Par.L : List Value := (prs P.l).flatMap fun x => [x.1, x.2]
noncomputable def Par.den : Code → Sem Fin := denQ tabQ
noncomputable def Par.st : SharedT → Thread → Option (SharedT × Thread) := stepQ (denQ tabQ) P.pp w
noncomputable def Par.go (n : Nat) (s : SharedT) (t : Thread) : Run := goS (P.st w) P.n0 P.ann 1 n s t
noncomputable def Par.r0 : Option (SharedT × Thread) := goB (P.st w) P.n0 P.ann 12 (bootS w os) (topStub P.pp)
noncomputable def Par.s0 : SharedT := match P.r0 w os with
  | some (s, _) => s
  | none => zT
noncomputable def Par.r1 : Run := P.go w 10 (P.s0 w os) (blockOf P.body P.env P.cb q0 [topFrame q0])
noncomputable def Par.r2 : Run := P.go w 20000 (sO (P.r1 w os)) (piecesOf P.pr P.env P.cb (pO (P.r1 w os)) [topFrame q0])
noncomputable def Par.rA : Run := P.go w 20 (sO (P.r2 w os)) (tPre q0 (spO P.sm) (dpO P.sm) P.cb (pO (P.r2 w os)))
noncomputable def Par.rB : Run := P.go w 2000 (sO (P.rA w os)) (tPairs q0 P.D (pairTrees (kyO P.sm) (vlO P.sm) P.env (dpO P.sm)) P.l (cO (P.rA w os)) (pO (P.rA w os)))
noncomputable def Par.pL := putsL (P.st w) P.n0 P.ann P.D (lvP P.D P.L) P.l hs (sO (P.rB w os)) (cO (P.rB w os)) (pO (P.rB w os))
noncomputable def Par.pR := putsR (P.st w) P.n0 P.ann P.D (lvP P.D P.L) P.l hs (sO (P.rB w os)) (cO (P.rB w os)) (pO (P.rB w os))
noncomputable def Par.pE : SharedT := putsE (P.st w) P.n0 P.ann P.D (lvP P.D P.L) P.l hs (sO (P.rB w os)) (cO (P.rB w os)) (pO (P.rB w os))
noncomputable def Par.rS : Run := P.go w 100 (P.pE w os hs) (tStore q0 P.env (nmO P.sm) (npO P.sm) P.D (cO (P.rB w os)) (pO (P.rB w os)))
noncomputable def Par.r5 : Run := P.go w 20000 (sO (P.rS w os hs)) (piecesOf P.suf P.env P.cb (pO (P.rS w os hs)) [topFrame q0])
noncomputable def Par.r6 : Option SharedT := goF (P.st w) P.n0 P.ann 10 (sO (P.r5 w os hs)) ⟨doneF .next, P.cb, pO (P.r5 w os hs), [topFrame q0]⟩
noncomputable def Par.s6 : SharedT := match P.r6 w os hs with
  | some s => s
  | none => zT
noncomputable def Par.lhs := (P.r0 w os, isN (P.r1 w os), cO (P.r1 w os), isN (P.r2 w os), cO (P.r2 w os), isA P.D (P.rA w os), isN (P.rB w os), P.pL w os hs, isN (P.rS w os hs), cO (P.rS w os hs), isN (P.r5 w os hs), cO (P.r5 w os hs), (P.r6 w os hs).isSome)
noncomputable def Par.rhs := ((some (P.s0 w os, ⟨denQ tabQ P.cb, P.cb, q0, [topFrame q0]⟩) : Option (SharedT × Thread)), true, P.cb, true, P.cb, true, true, P.pR w os hs, true, P.cb, true, P.cb, true)
noncomputable def Par.M : Nat := 12 + (10 + (20000 + (20 + (2000 + (putsN P.l + (100 + (20000 + 10)))))))
noncomputable def Par.Fits : Prop := P.body = P.pr ++ .Assign [.Name (nmO P.sm) (npO P.sm)] (.Dict (kyO P.sm) (vlO P.sm) (dpO P.sm)) (spO P.sm) :: P.suf
end
theorem holding_refs {l : List (Addr × Addr)} (h : l ≠ []) (m : Sem Unit) : holding ((prs l).flatMap fun x => [x.1, x.2]) m = m.keep ((prs l).flatMap fun x => [x.1, x.2]) := by
  have e : ∀ l : List (Addr × Addr), ((prs l).flatMap fun x => [x.1, x.2]).filter (fun | .ref _ => true | _ => false) = (prs l).flatMap fun x => [x.1, x.2] := by
    intro l
    rw [List.filter_eq_self]
    intro v hv
    obtain ⟨x, hx, hv⟩ := List.mem_flatMap.mp hv
    obtain ⟨y, _, rfl⟩ := List.mem_map.mp hx
    simp only [List.mem_cons, List.not_mem_nil, or_false] at hv
    rcases hv with rfl | rfl <;> rfl
  unfold holding
  split
  · rename_i e1
    have e2 := (e l).symm.trans e1
    cases l with
    | nil => exact absurd rfl h
    | cons x l => cases e2
  · exact congrArg (fun r => m.keep r) (e l)
theorem Par.run {P : Par} {w : World} {os : OsState} (hf : P.Fits) (hl : P.l ≠ []) (hall : (kyO P.sm).all (·.isSome) = true) (hk : (kyO P.sm).length = (vlO P.sm).length) (h0 : kyO P.sm ≠ []) (hn : (kyO P.sm).length ≤ 15)
    (hb : (putAll (boot_heap w.params).objs.toList .nil 0).isSome = true) (hs : (boot_heap w.params).objs.size = P.n0) (ha : bootAnn w = P.ann) (hH : ∀ hs : List Int, hs.length = P.l.length → P.lhs w os hs = P.rhs w os hs) :
    ∃ hs : List Int, hs.length = P.l.length ∧ topRun treeTable P.pp w (boot_heap w.params).objs.size (bootAnn w) P.M ⟨boot_heap w.params, #[], boot_drawn, boot_toks, os⟩ (topStub P.pp) = some (P.s6 w os hs).abs := by
  rw [hs, ha, ← bootS_ok hb]
  have es : P.st w = stepT (denote treeTable) P.pp w := by
    unfold Par.st
    rw [stepQ_eq, denQ_eq, tabQ_eq]
  have eP' : ∀ hs : List Int, hs.length = P.l.length → putsL (stepT (denote treeTable) P.pp w) P.n0 P.ann P.D (lvP P.D P.L) P.l hs (sO (P.rB w os)) (cO (P.rB w os)) (pO (P.rB w os)) = putsR (stepT (denote treeTable) P.pp w) P.n0 P.ann P.D (lvP P.D P.L) P.l hs (sO (P.rB w os)) (cO (P.rB w os)) (pO (P.rB w os)) := by
    intro hs hl
    have h := hH hs hl
    unfold Par.lhs Par.rhs at h
    rw [← es]
    exact (Prod.mk.inj (Prod.mk.inj (Prod.mk.inj (Prod.mk.inj (Prod.mk.inj (Prod.mk.inj (Prod.mk.inj (Prod.mk.inj h).2).2).2).2).2).2).2).1
  obtain ⟨hs, hhl, hP⟩ := puts_of eP'
  refine ⟨hs, hhl, ?_⟩
  have h := hH hs hhl
  unfold Par.lhs Par.rhs at h
  obtain ⟨e0, h⟩ := Prod.mk.inj h
  obtain ⟨e1, h⟩ := Prod.mk.inj h
  obtain ⟨c1, h⟩ := Prod.mk.inj h
  obtain ⟨e2, h⟩ := Prod.mk.inj h
  obtain ⟨c2, h⟩ := Prod.mk.inj h
  obtain ⟨eA, h⟩ := Prod.mk.inj h
  obtain ⟨eB, h⟩ := Prod.mk.inj h
  obtain ⟨eP, h⟩ := Prod.mk.inj h
  obtain ⟨eS, h⟩ := Prod.mk.inj h
  obtain ⟨cS, h⟩ := Prod.mk.inj h
  obtain ⟨e5, h⟩ := Prod.mk.inj h
  obtain ⟨c5, e6⟩ := Prod.mk.inj h
  have e1 := isN_eq e1 c1
  have e2 := isN_eq e2 c2
  have eA := isA_eq eA
  have eB := isN_eq eB rfl
  have eS := isN_eq eS cS
  have e5 := isN_eq e5 c5
  have e6 : P.r6 w os hs = some (P.s6 w os hs) := by
    unfold Par.s6
    cases e : P.r6 w os hs with
    | none =>
      rw [e] at e6
      cases e6
    | some s => rfl
  have ed : denQ tabQ P.cb = denote treeTable P.cb := by rw [denQ_eq, tabQ_eq]
  rw [ed] at e0
  have key : ∀ {n : Nat} {s : SharedT} {t : Thread} {r : Run}, P.go w n s t = r → runT treeTable P.pp w P.n0 P.ann n s t = r := by
    intro n s t r h
    have h : goS (P.st w) P.n0 P.ann 1 n s t = r := h
    rw [es] at h
    exact h
  have e0' : goB (stepT (denote treeTable) P.pp w) P.n0 P.ann 12 (bootS w os) (topStub P.pp) = some (P.s0 w os, ⟨denote treeTable P.cb, P.cb, q0, [topFrame q0]⟩) := by
    rw [← es]
    exact e0
  have e6' : goF (stepT (denote treeTable) P.pp w) P.n0 P.ann 10 (sO (P.r5 w os hs)) ⟨doneF .next, P.cb, pO (P.r5 w os hs), [topFrame q0]⟩ = some (P.s6 w os hs) := by
    rw [← es]
    exact e6
  rw [← es] at hP
  exact chain_run (env := P.env) hf hall hk h0 hn (holding_refs hl) e0' (key e1) (key e2) (key eA) (key eB) hP (key eS) (key e5) e6'
end DH
namespace HS
set_option maxHeartbeats 0
open PySem PySem.W PySem.Calls PyProof.Rows HandSHeadRun
abbrev R : OpenRow := OpenLaw.row PySem.Challenge.rw_stagebelt_k10_whole_entries_told
abbrev qv : Program := view R.prog [19, 21, 25, 26, 69]
def n0 : List PySem.Str := ["__name__", "BeltError", "BadDesign", "BadEntry", "NotMade", "__name__", "is_whole", "is_within", "__name__", "LAST_PLACE", "MOST_APART", "PLACES", "KINDS_OF_DESIGN", "EFFECTS", "WRITING", "JUMPS", "USES", "MEMORY", "WITH_EFFECT", "is_place", "in_order", "are_places", "is_path", "is_design", "check_design", "is_pair_told", "is_entry", "check_entry", "all_entries", "places_of_kinds"]
def n1 : List PySem.Str := ["use_place_among", "effect_place_among", "__name__", "ACTING", "ORDERED", "OF_MEMORY", "USING", "user_of", "pair_in_program", "__name__", "SHOWING_STATE", "sees", "path_sparing", "is_open_among", "open_in", "is_held_by_memory", "is_open", "missing", "showing", "shown", "__name__", "greatest_waits", "are_with_holes", "distance_told", "check_without_holes", "__name__", "distance", "__name__", "_law_taken", "_law_pick"]
def n2 : List PySem.Str := ["_law_alike", "_law_up", "_law_design", "_law_entries", "_law_bad"]
def names : List PySem.Str := n0 ++ n1 ++ n2
def top (i : Nat) : Stmt := PySem.Challenge.pw_stagebelt_k10_whole_entries_told.main.body.getD i (.Pass ⟨0, 0, 0, 0⟩)
def nmS (s : Stmt) : Str := match s with
  | .FunctionDef n _ _ _ _ _ _ _ _ _ => n
  | _ => ""
def e (P : Params) (k : Str) (t : Tok) (v : Value) : DictEntry := { hash := PySem.PyData.keyHash P k, key := .str k t, val := v }
def g (P : Params) (k : Str) (t : Tok) (a : Addr) : DictEntry := e P k t (.ref a)
def oT (x : Array Value) : Obj := { cls := .type "tuple", data := .seq x }
def oC (x : Array Value) : Obj := { cls := .type "code", data := .fields x }
def nr : Nat → Value
  | 0 => .none
  | a + 1 => .ref (a + 1)
def cq (n q : Str) (t u line : Nat) (ar fl : Int) (a b x y z d : Nat) : Obj := oC #[.str n t, .str q (t + 1), .str "/claim/cut.py" (t + 2), .int line 0, .int ar 0, .int 0 0, .int 0 0, .int fl 0, .ref a, .bool true, .int 181 0, .ref b, nr x, nr y, nr z, .ref d, .int u 0, .int line 0, .str "/claim/cut.py" (u + 1)]
def c (n : Str) (t u line : Nat) (ar fl : Int) (a b x y z d : Nat) : Obj := cq n n t u line ar fl a b x y z d
def oG (s : Stmt) (n q : Str) (dV kV doc pm : Value) (an : Option Addr) (cdv ct : Value) : Obj := { cls := .type "function", data := .func (PySem.W.fnOf n q (L2.defArgs s) (L2.defBody s) (L2.defScope s) dV kV doc pm an cdv ct) }
def oF (s : Stmt) (n q : Str) (m : Value) (c : Addr) : Obj := oG s n q .none .none .none m none (.ref c) .none
def f (m : Value) (i : Nat) (c : Addr) : Obj := oF (top i) (nmS (top i)) (nmS (top i)) m c
def m0 : Value := .str "stagebelt.checks" 255
def m1 : Value := .str "stagebelt.designs" 273
def m2 : Value := .str "stagebelt.pairs" 503
def m3 : Value := .str "stagebelt.rights" 650
def m4 : Value := .str "stagebelt.distances" 771
def m5 : Value := .str "stagebelt.speeds" 803
def m6 : Value := .str "law_stagebelt_k10_whole_entries_told" 813
def K0 (P : Params) : PySem.W.Frag := [
(2, { cls := .none, data := .dict #[] }),
(3, { cls := .type "dict", data := .dict #[e P "__name__" 165 (.str "law_stagebelt_k10_whole_entries_told" 813), e P "__doc__" 166 .none, e P "__package__" 167 .none, e P "__loader__" 168 (.builtin "__main__.__loader__#opaque"), e P "__spec__" 169 .none, g P "__annotations__" 170 6, g P "__builtins__" 171 4, e P "__file__" 173 (.str "/claim/cut.py" 172), e P "__cached__" 174 .none, g P "BeltError" 206 24, g P "BadDesign" 222 37, g P "BadEntry" 238 49, g P "NotMade" 254 61, g P "is_whole" 263 70, g P "is_within" 272 77, e P "LAST_PLACE" 276 (.int 7 275), e P "MOST_APART" 278 (.int 7 277), g P "PLACES" 314 78, g P "KINDS_OF_DESIGN" 323 87, g P "EFFECTS" 327 88, g P "WRITING" 332 89, g P "JUMPS" 335 90, g P "USES" 350 98, g P "MEMORY" 355 101, g P "WITH_EFFECT" 362 102, g P "are_ascending" 369 109, g P "is_place" 376 116, g P "is_row" 384 123, g P "in_order" 400 130, g P "are_places" 410 137, g P "is_path" 417 144, g P "are_paths" 424 151, g P "are_waits" 431 158, g P "is_design" 443 165, g P "check_design" 450 172, g P "is_pair_told" 460 179, g P "is_entry" 467 186, g P "check_entry" 474 193, g P "all_entries" 480 198, g P "places_of_kinds" 486 203, g P "use_place_among" 494 210, g P "effect_place_among" 502 217, g P "ACTING" 538 218, g P "ORDERED" 562 225, g P "OF_MEMORY" 575 230, g P "USING" 628 233, g P "user_of" 637 252, g P "pair_in_program" 649 259, g P "SHOWING_STATE" 676 263, g P "sees" 685 270, g P "path_sparing" 700 277, g P "is_open_among" 719 284, g P "open_in" 725 289, g P "is_held_by_memory" 733 296, g P "is_open" 741 303, g P "missing" 747 308, g P "showing" 762 315, g P "shown" 770 322, g P "greatest_waits" 778 327, g P "are_with_holes" 786 334, g P "distance_told" 795 341, g P "check_without_holes" 802 348, g P "distance" 812 355, g P "_law_taken" 824 362, g P "_law_pick" 832 369, g P "_law_alike" 838 374, g P "_law_up" 847 381, g P "_law_design" 864 388, g P "_law_entries" 870 393, g P "_law_bad" 878 400, g P "law" 894 407] 71 }),
(15, oT #[.type "ValueError"]),
(22, oT #[]),
(23, { cls := .type "dict", data := .dict #[e P "__module__" 196 (.str "stagebelt.errors" 187), e P "__firstlineno__" 200 (.int 2 199), g P "__static_attributes__" 201 22, g P "__weakref__" 203 25, e P "__doc__" 204 .none] 3 }),
(24, { cls := .type "type", data := .cls { name := "BeltError", bases := [.type "ValueError"], mro := [.ref 24, .type "ValueError", .type "Exception", .type "BaseException", .type "object"], ns := 23, qualname := "BeltError", subclasses := [.ref 37, .ref 49, .ref 61] }, slots := #[some (.ref 15), none, some (.str "BeltError" 189), some (.str "BeltError" 197), some (.builtin "ValueError.__new__"), some (.bool true)] }),
(25, { cls := .type "getset_descriptor", data := .fields #[.str "__weakref__" 202, .ref 24, .builtin "ExceptionGroup.__weakref__", .none] }),
(28, oT #[.ref 24]),
(35, oT #[]),
(36, { cls := .type "dict", data := .dict #[e P "__module__" 214 (.str "stagebelt.errors" 187), e P "__firstlineno__" 218 (.int 4 217), g P "__static_attributes__" 219 35, e P "__doc__" 220 .none] 2 }),
(37, { cls := .type "type", data := .cls { name := "BadDesign", bases := [.ref 24], mro := [.ref 37, .ref 24, .type "ValueError", .type "Exception", .type "BaseException", .type "object"], ns := 36, qualname := "BadDesign" }, slots := #[some (.ref 28), none, some (.str "BadDesign" 207), some (.str "BadDesign" 215), some (.builtin "ValueError.__new__"), some (.bool true)] }),
(40, oT #[.ref 24]),
(47, oT #[]),
(48, { cls := .type "dict", data := .dict #[e P "__module__" 230 (.str "stagebelt.errors" 187), e P "__firstlineno__" 234 (.int 6 233), g P "__static_attributes__" 235 47, e P "__doc__" 236 .none] 2 }),
(49, { cls := .type "type", data := .cls { name := "BadEntry", bases := [.ref 24], mro := [.ref 49, .ref 24, .type "ValueError", .type "Exception", .type "BaseException", .type "object"], ns := 48, qualname := "BadEntry" }, slots := #[some (.ref 40), none, some (.str "BadEntry" 223), some (.str "BadEntry" 231), some (.builtin "ValueError.__new__"), some (.bool true)] }),
(52, oT #[.ref 24]),
(59, oT #[]),
(60, { cls := .type "dict", data := .dict #[e P "__module__" 246 (.str "stagebelt.errors" 187), e P "__firstlineno__" 250 (.int 8 249), g P "__static_attributes__" 251 59, e P "__doc__" 252 .none] 2 }),
(61, { cls := .type "type", data := .cls { name := "NotMade", bases := [.ref 24], mro := [.ref 61, .ref 24, .type "ValueError", .type "Exception", .type "BaseException", .type "object"], ns := 60, qualname := "NotMade" }, slots := #[some (.ref 52), none, some (.str "NotMade" 239), some (.str "NotMade" 247), some (.builtin "ValueError.__new__"), some (.bool true)] }),
(69, c "is_whole" 257 261 11 1 3 64 65 0 66 67 68),
(70, f m0 6 69),
(76, c "is_within" 264 270 13 3 3 71 72 0 73 74 75),
(77, f m0 7 76),
(78, { cls := .type "dict", data := .dict #[g P "set" 279 79, g P "sum" 282 80, g P "mul" 286 81, g P "load" 290 82, g P "store" 294 83, g P "zero" 298 84, g P "go" 301 85, g P "out" 303 86] 8 }),
(79, oT #[.str "made" 280, .str "written" 281]),
(80, oT #[.str "used" 283, .str "made" 284, .str "written" 285]),
(81, oT #[.str "used" 287, .str "made" 288, .str "written" 289]),
(82, oT #[.str "used" 291, .str "fetched" 292, .str "written" 293]),
(83, oT #[.str "used a" 295, .str "used b" 296, .str "put" 297]),
(84, oT #[.str "used" 299, .str "decided" 300]),
(85, oT #[.str "decided" 302]),
(86, oT #[.str "used" 304, .str "shown" 305]),
(87, oT #[.str "set" 315, .str "sum" 316, .str "mul" 317, .str "load" 318, .str "store" 319, .str "zero" 320, .str "go" 321, .str "out" 322]),
(88, oT #[.str "written" 324, .str "put" 325, .str "shown" 326]),
(89, oT #[.str "set" 328, .str "sum" 329, .str "mul" 330, .str "load" 331]),
(90, oT #[.str "zero" 333, .str "go" 334]),
(91, oT #[.str "sum" 336, .str "a" 337]),
(92, oT #[.str "mul" 338, .str "a" 339]),
(93, oT #[.str "load" 340, .str "a" 341]),
(94, oT #[.str "store" 342, .str "a" 343]),
(95, oT #[.str "store" 344, .str "b" 345]),
(96, oT #[.str "zero" 346, .str "a" 347]),
(97, oT #[.str "out" 348, .str "a" 349]),
(98, oT #[.ref 91, .ref 92, .ref 93, .ref 94, .ref 95, .ref 96, .ref 97]),
(99, oT #[.str "store" 351, .str "load" 352]),
(100, oT #[.str "load" 353, .str "store" 354]),
(101, oT #[.ref 99, .ref 100]),
(102, oT #[.str "set" 356, .str "sum" 357, .str "mul" 358, .str "load" 359, .str "store" 360, .str "out" 361]),
(108, c "are_ascending" 363 367 26 1 3 103 104 0 105 106 107),
(109, f m1 19 108),
(115, c "is_place" 370 374 28 1 3 110 111 0 112 113 114),
(116, f m1 20 115),
(122, c "is_row" 377 382 30 2 3 117 118 0 119 120 121),
(123, f m1 21 122),
(129, c "in_order" 385 398 34 3 3 124 125 0 126 127 128),
(130, f m1 22 129),
(136, c "are_places" 401 408 48 2 3 131 132 0 133 134 135),
(137, f m1 23 136),
(143, c "is_path" 411 415 55 1 3 138 139 0 140 141 142),
(144, f m1 24 143),
(150, c "are_paths" 418 422 57 1 3 145 146 0 147 148 149),
(151, f m1 25 150),
(157, c "are_waits" 425 429 61 1 3 152 153 0 154 155 156),
(158, f m1 26 157),
(164, c "is_design" 432 441 65 1 3 159 160 0 161 162 163),
(165, f m1 27 164),
(171, c "check_design" 444 448 70 1 3 166 167 0 168 169 170),
(172, f m1 28 171),
(178, c "is_pair_told" 451 458 73 1 3 173 174 0 175 176 177),
(179, f m1 29 178),
(185, c "is_entry" 461 465 84 1 3 180 181 0 182 183 184),
(186, f m1 30 185),
(192, c "check_entry" 468 472 90 1 3 187 188 0 189 190 191),
(193, f m1 31 192),
(197, c "all_entries" 475 478 93 0 3 194 195 0 0 0 196),
(198, f m1 32 197),
(202, c "places_of_kinds" 481 484 99 1 3 199 200 0 0 0 201),
(203, f m1 33 202),
(209, c "use_place_among" 487 492 104 2 3 204 205 0 206 207 208),
(210, f m1 34 209),
(216, c "effect_place_among" 495 500 108 1 3 211 212 0 213 214 215),
(217, f m1 35 216),
(218, { cls := .type "dict", data := .dict #[g P "set" 505 219, g P "sum" 509 220, g P "mul" 514 221, g P "load" 519 222, g P "store" 524 223, g P "out" 529 224] 6 }),
(219, oT #[.str "set" 506, .int 0 507, .int 3 508]),
(220, oT #[.str "add" 510, .int 0 511, .int 1 512, .int 1 513]),
(221, oT #[.str "mul" 515, .int 0 516, .int 1 517, .int 1 518]),
(222, oT #[.str "load" 520, .int 0 521, .int 2 522, .int 1 523]),
(223, oT #[.str "store" 525, .int 3 526, .int 2 527, .int 0 528]),
(224, oT #[.str "out" 530, .int 1 531]),
(225, { cls := .type "dict", data := .dict #[g P "set" 539 226, g P "sum" 543 227, g P "mul" 548 228, g P "load" 553 229] 4 }),
(226, oT #[.str "set" 540, .int 0 541, .int 1 542]),
(227, oT #[.str "add" 544, .int 0 545, .int 3 546, .int 3 547]),
(228, oT #[.str "mul" 549, .int 0 550, .int 3 551, .int 3 552]),
(229, oT #[.str "load" 554, .int 0 555, .int 2 556, .int 5 557]),
(230, { cls := .type "dict", data := .dict #[g P "store" 563 231, g P "load" 568 232] 2 }),
(231, oT #[.str "store" 564, .int 3 565, .int 2 566, .int 0 567]),
(232, oT #[.str "load" 569, .int 5 570, .int 2 571, .int 0 572]),
(251, c "user_of" 629 635 118 3 3 246 247 0 248 249 250),
(252, f m2 41 251),
(258, c "pair_in_program" 638 647 120 1 3 253 254 0 255 256 257)]
def K1 (P : Params) : PySem.W.Frag := [
(259, f m2 42 258),
(260, oT #[.int 0 652, .int 2 653, .int 0 654, .int 5 655, .int 6 656, .int 0 657, .int 0 658, .int 0 659]),
(261, oT #[.int 7 660, .int 3 661, .int 9 662, .int 8 663, .int 1 664, .int 2 665, .int 11 666, .int 12 667, .int 13 668, .int 14 669, .int 15 670, .int 16 671, .int 17 672, .int 18 673, .int 19 674, .int 20 675]),
(262, oT #[]),
(263, oT #[.ref 260, .ref 261, .ref 262]),
(269, c "sees" 677 683 133 3 3 264 265 0 266 267 268),
(270, f m3 45 269),
(276, c "path_sparing" 686 698 135 2 3 271 272 0 273 274 275),
(277, f m3 46 276),
(283, c "is_open_among" 701 717 142 3 3 278 279 0 280 281 282),
(284, f m3 47 283),
(288, c "open_in" 720 723 157 1 3 285 286 0 0 0 287),
(289, f m3 48 288),
(295, c "is_held_by_memory" 726 731 160 2 3 290 291 0 292 293 294),
(296, f m3 49 295),
(302, c "is_open" 734 739 162 2 3 297 298 0 299 300 301),
(303, f m3 50 302),
(307, c "missing" 742 745 166 1 3 304 305 0 0 0 306),
(308, f m3 51 307),
(314, c "showing" 748 760 170 1 3 309 310 0 311 312 313),
(315, f m3 52 314),
(321, c "shown" 763 768 180 2 3 316 317 0 318 319 320),
(322, f m3 53 321),
(326, c "greatest_waits" 773 776 187 1 3 323 324 0 0 0 325),
(327, f m4 55 326),
(333, c "are_with_holes" 779 784 189 1 3 328 329 0 330 331 332),
(334, f m4 56 333),
(340, c "distance_told" 787 793 192 2 3 335 336 0 337 338 339),
(341, f m4 57 340),
(347, c "check_without_holes" 796 800 197 1 3 342 343 0 344 345 346),
(348, f m4 58 347),
(354, c "distance" 805 810 201 2 3 349 350 0 351 352 353),
(355, f m5 60 354),
(361, c "_law_taken" 815 822 207 2 3 356 357 0 358 359 360),
(362, f m6 62 361),
(368, c "_law_pick" 825 830 221 2 3 363 364 0 365 366 367),
(369, f m6 63 368),
(373, c "_law_alike" 833 836 223 2 3 370 371 0 0 0 372),
(374, f m6 64 373),
(380, c "_law_up" 839 845 233 3 3 375 376 0 377 378 379),
(381, f m6 65 380),
(387, c "_law_design" 848 862 235 1 3 382 383 0 384 385 386),
(388, f m6 66 387),
(392, c "_law_entries" 865 868 255 0 3 389 390 0 0 0 391),
(393, f m6 67 392),
(399, c "_law_bad" 871 876 266 1 3 394 395 0 396 397 398),
(400, f m6 68 399),
(406, c "law" 879 892 272 1 3 401 402 0 403 404 405),
(407, f m6 69 406)]
def KK (P : Params) : PySem.W.Frag := K0 P ++ (K1 P)
def aK : List Addr := [2, 3, 15, 22, 23, 24, 25, 28, 35, 36, 37, 40, 47, 48, 49, 52, 59, 60, 61, 69, 70, 76, 77, 78, 79, 80, 81, 82, 83, 84, 85, 86, 87, 88, 89, 90, 91, 92, 93, 94, 95, 96, 97, 98, 99, 100, 101, 102, 108, 109, 115, 116, 122, 123, 129, 130, 136, 137, 143, 144, 150, 151, 157, 158, 164, 165, 171, 172, 178, 179, 185, 186, 192, 193, 197, 198, 202, 203, 209, 210, 216, 217, 218, 219, 220, 221, 222, 223, 224, 225, 226, 227, 228, 229, 230, 231, 232, 251, 252, 258, 259, 260, 261, 262, 263, 269, 270, 276, 277, 283, 284, 288, 289, 295, 296, 302, 303, 307, 308, 314, 315, 321, 322, 326, 327, 333, 334, 340, 341, 347, 348, 354, 355, 361, 362, 368, 369, 373, 374, 380, 381, 387, 388, 392, 393, 399, 400, 406, 407]
theorem adr (P : Params) : aK = (KK P).map (·.1) := by kernel_rfl
def HH : Hook := kHook KK aK adr
def ob (s : SharedT) : HH.α := aK.map (HandSHeadRun.getT s)
theorem ob_eq (s : SharedT) : ob s = HH.obs s.abs := by
  show aK.map (HandSHeadRun.getT s) = aK.map s.abs.heap.get?
  rw [show HandSHeadRun.getT s = s.abs.heap.get? from funext (HandSHeadRun.getT_eq s)]
noncomputable def PA : DH.Par := ⟨R.prog, .ref 13, 14, 40, 233, [(234, 235), (236, 237), (238, 239), (240, 241), (242, 243), (244, 245)], 11, some (.ref 6)⟩
def Fct (w : World) (os : OsState) (hs : List Int) : Prop := (PA.lhs w os hs, looksF R.prog (boot_heap w.params) (PA.s6 w os hs).abs, seenQ qv names (importedModules R.prog.main.body) (fun s => xlAt qv [] s && recOk R.toRowW.records s) (PA.s6 w os hs).abs, ob (PA.s6 w os hs)) =
  (PA.rhs w os hs, true, openGood qv names, HH.val w)
theorem fits : PA.Fits := by
  unfold DH.Par.Fits
  kernel_rfl
theorem hb (w : World) : (putAll (boot_heap w.params).objs.toList .nil 0).isSome = true := by kernel_rfl
theorem hn (w : World) : (boot_heap w.params).objs.size = PA.n0 := by kernel_rfl
theorem ha (w : World) : bootAnn w = PA.ann := by kernel_rfl
theorem facts0 (w : World) (os : OsState) (h0 h1 h2 h3 h4 h5 : Int) : Fct (w.withFollow "special-get-raises" false) os [h0, h1, h2, h3, h4, h5] := by
  unfold Fct
  kernel_rfl
theorem facts1 (w : World) (os : OsState) (h0 h1 h2 h3 h4 h5 : Int) : Fct (w.withFollow "special-get-raises" true) os [h0, h1, h2, h3, h4, h5] := by
  unfold Fct
  kernel_rfl
theorem facts (w : World) (os : OsState) (h0 h1 h2 h3 h4 h5 : Int) : Fct w os [h0, h1, h2, h3, h4, h5] :=
  byRow2 "special-get-raises" (P := fun w => ∀ os h0 h1 h2 h3 h4 h5, Fct w os [h0, h1, h2, h3, h4, h5]) facts0 facts1 w os h0 h1 h2 h3 h4 h5
theorem run (w : World) : DH.RunEq2 R qv HH ob PA.M names w := by
  intro os
  have all : ∀ hs : List Int, hs.length = PA.l.length → Fct w os hs := fun hs hl => match hs, hl with
    | [h0, h1, h2, h3, h4, h5], _ => facts w os h0 h1 h2 h3 h4 h5
  obtain ⟨hs, hl, r⟩ := DH.Par.run (P := PA) (w := w) (os := os) fits (by decide) (by kernel_rfl) (by kernel_rfl) (by intro q; cases q) (by decide +kernel) (hb w) (hn w) (ha w) fun hs hl => (Prod.mk.inj (all hs hl)).1
  exact ⟨PA.s6 w os hs, r, (Prod.mk.inj (all hs hl)).2⟩
set_option maxHeartbeats 0 in
theorem head (F : WalkO qv names (XL qv []) HH.says R.toRowW (HandSHeadRun.topDef R.prog 69) [] fun f vs => PySem.call f vs) : PySem.Challenge.rw_stagebelt_k10_whole_entries_told.Holds := by
  w_on; o_law
  refine DH.head_two (r := OpenLaw.row PySem.Challenge.rw_stagebelt_k10_whole_entries_told) (q := qv) (H := HH) (ob := ob) (M := PA.M) (loose := names) (kwd := []) (d := HandSHeadRun.topDef R.prog 69) ob_eq (by kernel_rfl) (fun s => by kernel_rfl) run (by rfl) (by rfl) (by rfl) (by rfl) (by first | assumption | decide +kernel) (by decide +kernel) ⟨rfl, rfl, rfl, rfl, rfl, by decide +kernel⟩ ?hw ?hc
  case hw => w_witness2
  case hc => exact F
end HS
namespace DL
open PySem PySem.Spec PyProof.Rows L2
noncomputable def dec (p : Prop) : Bool := @decide p (Classical.propDecidable p)
theorem dec_iff {p : Prop} : dec p = true ↔ p := by
  unfold dec
  exact @decide_eq_true_iff p (Classical.propDecidable p)
inductive D where
  | non | bl (b : Bool) | int (i : Int) | str (x : Str) | tup (xs : List D) | lst (xs : List D) | rol (xs : List D) | mu (n : Nat) | clo (k : Nat) | fn (k : Nat) | ob (a : Addr) | obx (a dx : Addr) (fs : List (Str × D))
  | dk (kvs : List (L2.Key × D)) | ktu (ys : List Str) | ctu (xs : List D)
  deriving Inhabited
inductive MO where
  | lst (xs : List D) | dk (kvs : List (L2.Key × D)) | dt (kvs : List (List L2.Key × D)) | ins (c : Nat) (fs : List (Str × D))
  deriving Inhabited
abbrev Mem := List MO
structure XV where
  cls : Nat
  fs : List (Str × D)
inductive Out (α : Type) where
  | ok (a : α) (M : Mem) | exc (e : XV) (M : Mem) | undef
def Out.bind {α β : Type} : Out α → (α → Mem → Out β) → Out β
  | .ok a M, k => k a M
  | .exc e M, _ => .exc e M
  | .undef, _ => .undef
def Out.opt {α : Type} : Option α → Mem → Out α
  | some a, M => .ok a M
  | none, _ => .undef
abbrev DEnv := List (Option D)
abbrev E (α : Type) := DEnv → Mem → Out α
inductive SO where
  | nx (d : DEnv) (M : Mem) | rt (a : D) (M : Mem) | bk (d : DEnv) (M : Mem) | ct (d : DEnv) (M : Mem) | exc (e : XV) (d : DEnv) (M : Mem) | undef
abbrev S := DEnv → Mem → SO
structure Io where
  ix : List Addr
  wl : List Addr
def Io.has (ι : Io) (a : Addr) : Prop := a ∈ ι.ix ∨ a ∈ ι.wl
structure Sg where
  K : PySem.W.Frag
  /-- classes of exceptions, defs as values -/
  C : Nat → Addr
  F : Nat → Addr
  /-- a closure by its number: its object, its code's, its default's; the name of its code; its defaults -/
  cl : Nat → Addr → Addr → Addr → HO
  q : Str
  df : Nat → List V
  T : List (Addr × Str)
def SqF (K : PySem.W.Frag) (H : Hp) (ι : Io) (a : Addr) (vs : List V) : Prop :=
  (Rd H a (.lst vs) ∧ ¬ ι.has a) ∨ ∀ H', SqL K H' a vs
theorem SqF.sq {K : PySem.W.Frag} {H : Hp} {ι : Io} {a : Addr} {vs : List V} (h : SqF K H ι a vs) : SqL K H a vs := by
  rcases h with h | h
  · exact .inl h.1
  · exact h H
def PlainF (fs : List (Str × D)) (ws : List (Str × V)) : Prop := ∀ f, (∀ i, fs.lookup f = some (.int i) → ws.lookup f = some (.int i)) ∧ (fs.lookup f = some .non → ws.lookup f = some .non)
section
variable (G : Sg) (H : Hp) (ι : Io)
mutual
def R : D → V → Prop
  | .non, v => v = .non
  | .bl b, v => v = .bl b
  | .int i, v => v = .int i
  | .str x, v => v = .str x
  | .tup xs, v => ∃ a vs, v = .ref a ∧ H a = some (.tup vs) ∧ RA xs vs
  | .ctu xs, v => ∃ a vs, v = .ref a ∧ (∀ H', SqT G.K H' a vs) ∧ RA xs vs
  | .lst xs, v => ∃ a vs, v = .ref a ∧ (H a = some (.lst vs) ∧ ¬ ι.has a) ∧ RA xs vs
  | .rol xs, v => ∃ a vs, v = .ref a ∧ SqF G.K H ι a vs ∧ RA xs vs
  | .mu n, v => ∃ a, v = .ref a ∧ ι.ix[n]? = some a
  | .clo k, v => ∃ a c t, v = .ref a ∧ (H a = some (G.cl k a c t) ∧ ¬ ι.has a) ∧ (H c = some (LamX.CodeO c G.q) ∧ ¬ ι.has c) ∧ (G.df k = [] ∨ H t = some (.tup (G.df k)) ∧ ¬ ι.has t)
  | .fn k, v => v = .ref (G.F k)
  | .ktu ys, v => ∃ a, v = .ref a ∧ (∀ H', SqT G.K H' a (ys.map V.str)) ∧ ∃ o, G.K.lookup a = some o ∧ o.cls = .type "tuple" ∧ o.dict = none
  | .ob a, v => v = .ref a
  | .obx a dx fs, v => v = .ref a ∧ ∃ ws, H dx = some (.xd ws) ∧ ¬ ι.has dx ∧ PlainF fs ws
  | .dk kvs, v => ∃ a ws, v = .ref a ∧ (Rd H a (.dK ws) ∧ ¬ ι.has a) ∧ RD kvs ws
def RA : List D → List V → Prop
  | [], vs => vs = []
  | x :: xs, vs => ∃ v r, vs = v :: r ∧ R x v ∧ RA xs r
def RD : List (L2.Key × D) → List (L2.Key × V) → Prop
  | [], vs => vs = []
  | (k, x) :: xs, vs => ∃ v r, vs = (k, v) :: r ∧ R x v ∧ RD xs r
end
def RT : List (List L2.Key × D) → List (List L2.Key × V) → Prop
  | [], vs => vs = []
  | (k, x) :: xs, vs => ∃ v r, vs = (k, v) :: r ∧ R G H ι x v ∧ RT xs r
def RF : List (Str × D) → List (Str × V) → Prop
  | [], vs => vs = []
  | (k, x) :: xs, vs => ∃ v r, vs = (k, v) :: r ∧ R G H ι x v ∧ RF xs r
def MR : MO → Addr → Prop
  | .lst xs, a => ∃ vs, H a = some (.lst vs) ∧ RA G H ι xs vs
  | .dk kvs, a => ∃ ws, H a = some (.dK ws) ∧ RD G H ι kvs ws
  | .dt kvs, a => ∃ ws, H a = some (.dT ws) ∧ RT G H ι kvs ws
  | .ins c fs, a => ∃ dx ws, H a = some (.ins (G.C c) dx ws) ∧ RF G H ι fs ws
end
structure HRel (G : Sg) (H : Hp) (ι : Io) (M : Mem) : Prop where
  nd : ι.ix.Nodup
  len : ι.ix.length = M.length
  obj : ∀ (n : Nat) (a : Addr) (o : MO), ι.ix[n]? = some a → M[n]? = some o → MR G H ι o a
  wlo : ∀ a ∈ ι.wl, (∃ vs, H a = some (.lst vs)) ∧ a ∉ ι.ix
  tabs : LamX.Tabs G.T H
  clo : ∀ k a c t ps, G.cl k a c t ≠ .tbl ps
structure ExtW (H : Hp) (ι : Io) (H' : Hp) (ι' : Io) : Prop where
  pre : ∃ t, ι'.ix = ι.ix ++ t
  wl : ι'.wl = ι.wl
  new : ∀ a, a ∈ ι'.ix → a ∈ ι.ix ∨ H a = none
  keep : ∀ a o, ¬ ι.has a → (∀ ps, o ≠ .tbl ps) → H a = some o → H' a = some o
  there : ∀ a, H' a = none → H a = none
theorem ExtW.refl (H : Hp) (ι : Io) : ExtW H ι H ι := ⟨⟨[], by simp⟩, rfl, fun _ h => .inl h, fun _ _ _ _ h => h, fun _ h => h⟩
theorem ExtW.out {H H' : Hp} {ι ι' : Io} (x : ExtW H ι H' ι') {a : Addr} {o : HO} (hn : ¬ ι.has a) (h : H a = some o) : ¬ ι'.has a := fun z => by
  rcases z with z | z
  · rcases x.new a z with z | z
    · exact hn (.inl z)
    · rw [h] at z; cases z
  · rw [x.wl] at z; exact hn (.inr z)
theorem ExtW.trans {H H1 H2 : Hp} {ι ι1 ι2 : Io} (a : ExtW H ι H1 ι1) (b : ExtW H1 ι1 H2 ι2) : ExtW H ι H2 ι2 := by
  refine ⟨?_, b.wl.trans a.wl, fun c h => ?_, fun c o n t h => ?_, fun c h => a.there c (b.there c h)⟩
  · obtain ⟨t, e⟩ := a.pre
    obtain ⟨u, e'⟩ := b.pre
    exact ⟨t ++ u, by rw [e', e, List.append_assoc]⟩
  · rcases b.new c h with h | h
    · exact a.new c h
    · exact .inr (a.there c h)
  · exact b.keep c o (a.out n h) t (a.keep c o n t h)
theorem ExtW.get {H H' : Hp} {ι ι' : Io} (x : ExtW H ι H' ι') {n : Nat} {a : Addr} (h : ι.ix[n]? = some a) : ι'.ix[n]? = some a := by
  obtain ⟨t, e⟩ := x.pre
  rw [e, List.getElem?_append_left (List.getElem?_eq_some_iff.mp h).1, h]
theorem ExtW.rd {H H' : Hp} {ι ι' : Io} (x : ExtW H ι H' ι') {a : Addr} {u : HO} (hn : ¬ ι.has a) (ht : ∀ ps, u ≠ .tbl ps) (h : Rd H a u) : Rd H' a u := by
  rcases h with h | ⟨o, h⟩
  · exact .inl (x.keep a u hn ht h)
  · exact .inr ⟨o, x.keep a _ hn (fun _ z => by cases z) h⟩
theorem Rd.some {H : Hp} {a : Addr} {u : HO} (h : Rd H a u) : ∃ o, H a = some o := by
  rcases h with h | ⟨o, h⟩
  · exact ⟨_, h⟩
  · exact ⟨_, h⟩
theorem HRel.mutOf {G : Sg} {H : Hp} {ι : Io} {M : Mem} (h : HRel G H ι M) {a : Addr} (ha : ι.has a) : (∃ vs, H a = some (.lst vs)) ∨ (∃ ws, H a = some (.dK ws)) ∨ (∃ ws, H a = some (.dT ws)) ∨ ∃ C dx ws, H a = some (.ins C dx ws) := by
  rcases ha with ha | ha
  · obtain ⟨n, hn, e⟩ := List.mem_iff_getElem.mp ha
    have hm : n < M.length := by rw [← h.len]; exact hn
    have q := h.obj n a M[n] (by rw [List.getElem?_eq_getElem hn, e]) (List.getElem?_eq_getElem hm)
    cases e2 : M[n] with
    | lst xs => rw [e2] at q; obtain ⟨vs, q, _⟩ := q; exact .inl ⟨vs, q⟩
    | dk xs => rw [e2] at q; obtain ⟨vs, q, _⟩ := q; exact .inr (.inl ⟨vs, q⟩)
    | dt xs => rw [e2] at q; obtain ⟨vs, q, _⟩ := q; exact .inr (.inr (.inl ⟨vs, q⟩))
    | ins c fs => rw [e2] at q; obtain ⟨dx, vs, q, _⟩ := q; exact .inr (.inr (.inr ⟨_, dx, vs, q⟩))
  · exact .inl (h.wlo a ha).1
theorem HRel.tupOut {G : Sg} {H : Hp} {ι : Io} {M : Mem} (h : HRel G H ι M) {a : Addr} {vs : List V} (r : Rd H a (.tup vs)) : ¬ ι.has a := fun ha => by
  rcases h.mutOf ha with ⟨us, e⟩ | ⟨us, e⟩ | ⟨us, e⟩ | ⟨_, _, us, e⟩ <;> rcases r with r | ⟨o, r⟩ <;> rw [e] at r <;> cases r
theorem HRel.out {G : Sg} {H : Hp} {ι : Io} {M : Mem} (h : HRel G H ι M) {p : Addr} (n : H p = none) : ¬ ι.has p := fun z => by
  rcases h.mutOf z with ⟨_, e⟩ | ⟨_, e⟩ | ⟨_, e⟩ | ⟨_, _, _, e⟩ <;> rw [n] at e <;> cases e
theorem SqF.ext {K : PySem.W.Frag} {H H' : Hp} {ι ι' : Io} (x : ExtW H ι H' ι') {a : Addr} {vs : List V} (q : SqF K H ι a vs) : SqF K H' ι' a vs := by
  rcases q with ⟨q, n⟩ | q
  · obtain ⟨o, e⟩ := Rd.some q
    exact .inl ⟨x.rd n (fun _ z => by cases z) q, x.out n e⟩
  · exact .inr q
mutual
theorem R.extW {G : Sg} {H H' : Hp} {ι ι' : Io} {M : Mem} (h : HRel G H ι M) (x : ExtW H ι H' ι') : ∀ {d : D} {v : V}, R G H ι d v → R G H' ι' d v
  | .non, _, r => r
  | .bl _, _, r => r
  | .int _, _, r => r
  | .str _, _, r => r
  | .tup xs, _, ⟨a, vs, e, q, r⟩ => ⟨a, vs, e, x.keep a _ (h.tupOut (.inl q)) (fun _ z => by cases z) q, RA.extW h x r⟩
  | .ctu xs, _, ⟨a, vs, e, q, r⟩ => ⟨a, vs, e, q, RA.extW h x r⟩
  | .lst xs, _, ⟨a, vs, e, ⟨q, n⟩, r⟩ => ⟨a, vs, e, ⟨x.keep a _ n (fun _ z => by cases z) q, x.out n q⟩, RA.extW h x r⟩
  | .rol xs, _, ⟨a, vs, e, q, r⟩ => ⟨a, vs, e, q.ext x, RA.extW h x r⟩
  | .mu n, _, ⟨a, e, q⟩ => ⟨a, e, x.get q⟩
  | .clo k, _, ⟨a, c, t, e, ⟨q, n⟩, ⟨q1, n1⟩, z⟩ => ⟨a, c, t, e, ⟨x.keep a _ n (h.clo k a c t) q, x.out n q⟩, ⟨x.keep c _ n1 (fun _ z => LamX.codeO_ne _ z) q1, x.out n1 q1⟩, z.elim .inl fun ⟨q2, n2⟩ => .inr ⟨x.keep t _ n2 (fun _ z => by cases z) q2, x.out n2 q2⟩⟩
  | .fn a, _, r => r
  | .ktu a, _, r => r
  | .ob a, _, r => r
  | .obx a dx fs, _, ⟨e, ws, q, n, pf⟩ => ⟨e, ws, x.keep dx _ n (fun _ z => by cases z) q, x.out n q, pf⟩
  | .dk kvs, _, ⟨a, ws, e, ⟨q, n⟩, r⟩ => ⟨a, ws, e, ⟨x.rd n (fun _ z => by cases z) q, let ⟨_, e⟩ := Rd.some q; x.out n e⟩, RD.extW h x r⟩
theorem RA.extW {G : Sg} {H H' : Hp} {ι ι' : Io} {M : Mem} (h : HRel G H ι M) (x : ExtW H ι H' ι') : ∀ {d : List D} {v : List V}, RA G H ι d v → RA G H' ι' d v
  | [], _, r => r
  | _ :: _, _, ⟨v, r, e, q, t⟩ => ⟨v, r, e, R.extW h x q, RA.extW h x t⟩
theorem RD.extW {G : Sg} {H H' : Hp} {ι ι' : Io} {M : Mem} (h : HRel G H ι M) (x : ExtW H ι H' ι') : ∀ {d : List (L2.Key × D)} {v : List (L2.Key × V)}, RD G H ι d v → RD G H' ι' d v
  | [], _, r => r
  | (_, _) :: _, _, ⟨v, r, e, q, t⟩ => ⟨v, r, e, R.extW h x q, RD.extW h x t⟩
end
theorem RT.extW {G : Sg} {H H' : Hp} {ι ι' : Io} {M : Mem} (h : HRel G H ι M) (x : ExtW H ι H' ι') : ∀ {d : List (List L2.Key × D)} {v : List (List L2.Key × V)}, RT G H ι d v → RT G H' ι' d v
  | [], _, r => r
  | (_, _) :: _, _, ⟨v, r, e, q, t⟩ => ⟨v, r, e, R.extW h x q, RT.extW h x t⟩
theorem RF.extW {G : Sg} {H H' : Hp} {ι ι' : Io} {M : Mem} (h : HRel G H ι M) (x : ExtW H ι H' ι') : ∀ {d : List (Str × D)} {v : List (Str × V)}, RF G H ι d v → RF G H' ι' d v
  | [], _, r => r
  | (_, _) :: _, _, ⟨v, r, e, q, t⟩ => ⟨v, r, e, R.extW h x q, RF.extW h x t⟩
structure Ext (H : Hp) (ι : Io) (H' : Hp) (ι' : Io) : Prop extends ExtW H ι H' ι' where
  wk : ∀ a o, a ∈ ι.wl → H a = some o → H' a = some o
theorem Ext.refl (H : Hp) (ι : Io) : Ext H ι H ι := ⟨ExtW.refl H ι, fun _ _ _ h => h⟩
theorem Ext.trans {H H1 H2 : Hp} {ι ι1 ι2 : Io} (a : Ext H ι H1 ι1) (b : Ext H1 ι1 H2 ι2) : Ext H ι H2 ι2 := ⟨a.toExtW.trans b.toExtW, fun c o h e => b.wk c o (by rw [a.wl]; exact h) (a.wk c o h e)⟩
theorem R.ext {G : Sg} {H H' : Hp} {ι ι' : Io} {M : Mem} (h : HRel G H ι M) (x : Ext H ι H' ι') {d : D} {v : V} (r : R G H ι d v) : R G H' ι' d v := R.extW h x.toExtW r
theorem RA.ext {G : Sg} {H H' : Hp} {ι ι' : Io} {M : Mem} (h : HRel G H ι M) (x : Ext H ι H' ι') {d : List D} {v : List V} (r : RA G H ι d v) : RA G H' ι' d v := RA.extW h x.toExtW r
theorem RD.ext {G : Sg} {H H' : Hp} {ι ι' : Io} {M : Mem} (h : HRel G H ι M) (x : Ext H ι H' ι') {d : List (L2.Key × D)} {v : List (L2.Key × V)} (r : RD G H ι d v) : RD G H' ι' d v := RD.extW h x.toExtW r
theorem RA.len {G : Sg} {H : Hp} {ι : Io} : ∀ {d : List D} {v : List V}, RA G H ι d v → d.length = v.length
  | [], _, r => by have e : _ = [] := r; subst e; rfl
  | _ :: _, _, ⟨v, r, e, q, t⟩ => by subst e; simp [RA.len t]
theorem RA.get {G : Sg} {H : Hp} {ι : Io} : ∀ {d : List D} {v : List V} {i : Nat} {x : D}, RA G H ι d v → d[i]? = some x → ∃ u, v[i]? = some u ∧ R G H ι x u
  | [], _, _, _, r, e => by simp at e
  | _ :: _, _, 0, _, ⟨v, r, e, q, t⟩, h => by subst e; simp at h; subst h; exact ⟨v, rfl, q⟩
  | _ :: _, _, i + 1, _, ⟨v, r, e, q, t⟩, h => by subst e; simpa using RA.get (i := i) t (by simpa using h)
theorem RA.app {G : Sg} {H : Hp} {ι : Io} : ∀ {d e : List D} {v u : List V}, RA G H ι d v → RA G H ι e u → RA G H ι (d ++ e) (v ++ u)
  | [], _, _, _, r, s => by have q : _ = [] := r; subst q; simpa using s
  | x :: _, _, _, _, ⟨v, r, e, q, t⟩, s => by subst e; exact ⟨v, _, rfl, q, RA.app t s⟩
theorem RA.take {G : Sg} {H : Hp} {ι : Io} : ∀ {d : List D} {v : List V} (n : Nat), RA G H ι d v → RA G H ι (d.take n) (v.take n)
  | _, _, 0, _ => rfl
  | [], _, _ + 1, r => by have q : _ = [] := r; subst q; rfl
  | _ :: _, _, n + 1, ⟨v, r, e, q, t⟩ => by subst e; exact ⟨v, _, rfl, q, RA.take n t⟩
theorem RA.drop {G : Sg} {H : Hp} {ι : Io} : ∀ {d : List D} {v : List V} (n : Nat), RA G H ι d v → RA G H ι (d.drop n) (v.drop n)
  | _, _, 0, r => r
  | [], _, _ + 1, r => by have q : _ = [] := r; subst q; rfl
  | _ :: _, _, n + 1, ⟨v, r, e, q, t⟩ => by subst e; exact RA.drop n t
theorem RA.set {G : Sg} {H : Hp} {ι : Io} {x : D} {u : V} (q0 : R G H ι x u) : ∀ {d : List D} {v : List V} (i : Nat), RA G H ι d v → RA G H ι (d.set i x) (v.set i u)
  | [], _, _, r => by have q : _ = [] := r; subst q; rfl
  | _ :: _, _, 0, ⟨v, r, e, q, t⟩ => by subst e; exact ⟨u, _, rfl, q0, t⟩
  | _ :: _, _, i + 1, ⟨v, r, e, q, t⟩ => by subst e; exact ⟨v, _, rfl, q, RA.set q0 i t⟩
theorem RA.nil {G : Sg} {H : Hp} {ι : Io} : RA G H ι [] [] := rfl
theorem RA.strs {G : Sg} {H : Hp} {ι : Io} : ∀ ys : List Str, RA G H ι (ys.map D.str) (ys.map V.str)
  | [] => rfl
  | _ :: r => ⟨_, _, rfl, rfl, RA.strs r⟩
theorem RA.cons {G : Sg} {H : Hp} {ι : Io} {x : D} {u : V} {d : List D} {v : List V} (q : R G H ι x u) (t : RA G H ι d v) : RA G H ι (x :: d) (u :: v) := ⟨u, v, rfl, q, t⟩
theorem Ext.fresh {H : Hp} {ι : Io} {p : Addr} {o : HO} (n : H p = none) : Ext H ι (upd H p o) ι :=
  ⟨⟨⟨[], by simp⟩, rfl, fun _ h => .inl h, fun a u _ _ h => by rw [upd_ne (ne_of_none h n)]; exact h, fun a h => by
    by_cases e : a = p
    · rw [e, n]
    · rw [upd_ne e] at h; exact h⟩, fun a u _ h => by rw [upd_ne (ne_of_none h n)]; exact h⟩
theorem MR.ext {G : Sg} {H H' : Hp} {ι ι' : Io} {M : Mem} (h : HRel G H ι M) (x : ExtW H ι H' ι') {a : Addr} {o : MO} (k : ∀ u, H a = some u → H' a = some u) (q : MR G H ι o a) : MR G H' ι' o a := by
  cases o with
  | lst xs => obtain ⟨vs, q, r⟩ := q; exact ⟨vs, k _ q, r.extW h x⟩
  | dk xs => obtain ⟨vs, q, r⟩ := q; exact ⟨vs, k _ q, r.extW h x⟩
  | dt xs => obtain ⟨vs, q, r⟩ := q; exact ⟨vs, k _ q, r.extW h x⟩
  | ins c fs => obtain ⟨dx, vs, q, r⟩ := q; exact ⟨dx, vs, k _ q, r.extW h x⟩
theorem HRel.fresh {G : Sg} {H : Hp} {ι : Io} {M : Mem} (h : HRel G H ι M) {p : Addr} {o : HO} (n : H p = none) : HRel G (upd H p o) ι M := by
  have x : Ext H ι (upd H p o) ι := Ext.fresh n
  have k : ∀ b u, H b = some u → upd H p o b = some u := fun b u e => by rw [upd_ne (ne_of_none e n)]; exact e
  exact ⟨h.nd, h.len, fun m a u e1 e2 => (h.obj m a u e1 e2).ext h x.toExtW (k a), fun a ha => let ⟨⟨vs, e⟩, n2⟩ := h.wlo a ha; ⟨⟨vs, k _ _ e⟩, n2⟩, h.tabs.ext k, h.clo⟩
def ER (G : Sg) (H : Hp) (ι : Io) : DEnv → L2.St → Prop
  | [], σ => σ = []
  | none :: δ, σ => ∃ v r, σ = v :: r ∧ ER G H ι δ r
  | some d :: δ, σ => ∃ v r, σ = some v :: r ∧ R G H ι d v ∧ ER G H ι δ r
theorem ER.extW {G : Sg} {H H' : Hp} {ι ι' : Io} {M : Mem} (h : HRel G H ι M) (x : ExtW H ι H' ι') : ∀ {δ : DEnv} {σ : L2.St}, ER G H ι δ σ → ER G H' ι' δ σ
  | [], _, r => r
  | none :: _, _, ⟨v, r, e, t⟩ => ⟨v, r, e, ER.extW h x t⟩
  | some _ :: _, _, ⟨v, r, e, q, t⟩ => ⟨v, r, e, q.extW h x, ER.extW h x t⟩
theorem ER.ext {G : Sg} {H H' : Hp} {ι ι' : Io} {M : Mem} (h : HRel G H ι M) (x : Ext H ι H' ι') {δ : DEnv} {σ : L2.St} (r : ER G H ι δ σ) : ER G H' ι' δ σ := ER.extW h x.toExtW r
theorem ER.get {G : Sg} {H : Hp} {ι : Io} : ∀ {δ : DEnv} {σ : L2.St} {i : Nat} {d : D}, ER G H ι δ σ → δ[i]? = some (some d) → ∃ v, σ[i]? = some (some v) ∧ R G H ι d v
  | [], _, _, _, _, e => by simp at e
  | none :: _, _, 0, _, _, e => by simp at e
  | none :: _, _, i + 1, _, ⟨v, r, e, t⟩, h => by subst e; simpa using ER.get (i := i) t (by simpa using h)
  | some _ :: _, _, 0, _, ⟨v, r, e, q, t⟩, h => by subst e; simp at h; subst h; exact ⟨v, rfl, q⟩
  | some _ :: _, _, i + 1, _, ⟨v, r, e, q, t⟩, h => by subst e; simpa using ER.get (i := i) t (by simpa using h)
theorem ER.set {G : Sg} {H : Hp} {ι : Io} {d : D} {v : V} (q0 : R G H ι d v) : ∀ {δ : DEnv} {σ : L2.St} (i : Nat), ER G H ι δ σ → ER G H ι (δ.set i (some d)) (σ.set i (some v))
  | [], _, _, r => by have e : _ = [] := r; subst e; rfl
  | none :: _, _, 0, ⟨u, r, e, t⟩ => by subst e; exact ⟨v, r, rfl, q0, t⟩
  | some _ :: _, _, 0, ⟨u, r, e, q, t⟩ => by subst e; exact ⟨v, r, rfl, q0, t⟩
  | none :: _, _, i + 1, ⟨u, r, e, t⟩ => by subst e; exact ⟨u, _, rfl, ER.set q0 i t⟩
  | some _ :: _, _, i + 1, ⟨u, r, e, q, t⟩ => by subst e; exact ⟨u, _, rfl, q, ER.set q0 i t⟩
theorem ER.unset {G : Sg} {H : Hp} {ι : Io} : ∀ {δ : DEnv} {σ : L2.St} (i : Nat), ER G H ι δ σ → ER G H ι (δ.set i none) (σ.set i none)
  | [], _, _, r => by have e : _ = [] := r; subst e; rfl
  | none :: _, _, 0, ⟨u, r, e, t⟩ => by subst e; exact ⟨none, r, rfl, t⟩
  | some _ :: _, _, 0, ⟨u, r, e, q, t⟩ => by subst e; exact ⟨none, r, rfl, t⟩
  | none :: _, _, i + 1, ⟨u, r, e, t⟩ => by subst e; exact ⟨u, _, rfl, ER.unset i t⟩
  | some _ :: _, _, i + 1, ⟨u, r, e, q, t⟩ => by subst e; exact ⟨u, _, rfl, q, ER.unset i t⟩
theorem ER.start {G : Sg} {H : Hp} {ι : Io} {N : List Str} : ∀ {ds : List D} {vs : List V} (k : Nat), RA G H ι ds vs → ER G H ι (ds.map some ++ List.replicate k none) (vs.map some ++ List.replicate k none)
  | [], _, k, r => by
    have e : _ = [] := r
    subst e
    simp only [List.map_nil, List.nil_append]
    induction k with
    | zero => rfl
    | succ n ih => exact ⟨none, _, rfl, ih⟩
  | _ :: _, _, k, ⟨v, r, e, q, t⟩ => by subst e; exact ⟨v, _, rfl, q, ER.start (N := N) k t⟩
end DL
namespace DL
open PySem PySem.Spec PyProof.Rows L2
def FR (G : Sg) (H : Hp) (ι : Io) : List (Str × D) → List (Str × V) → Prop
  | [], _ => True
  | (f, x) :: r, ws => (∃ v, ws.lookup f = some v ∧ R G H ι x v) ∧ FR G H ι r ws
theorem FR.ext {G : Sg} {H H' : Hp} {ι ι' : Io} {M : Mem} (h : HRel G H ι M) (x : Ext H ι H' ι') : ∀ {fs : List (Str × D)} {ws : List (Str × V)}, FR G H ι fs ws → FR G H' ι' fs ws
  | [], _, _ => trivial
  | (_, _) :: _, _, ⟨⟨v, e, q⟩, r⟩ => ⟨⟨v, e, q.ext h x⟩, FR.ext h x r⟩
theorem FR.plain {G : Sg} {H : Hp} {ι : Io} : ∀ {fs : List (Str × D)} {ws : List (Str × V)}, FR G H ι fs ws → PlainF fs ws
  | [], _, _ => fun _ => And.intro (fun _ e => (by cases e)) (fun e => (by cases e))
  | (g, x) :: r, ws, ⟨⟨v, e, q⟩, t⟩ => fun f => by
    by_cases h : f = g
    · subst h
      simp only [List.lookup, beq_self_eq_true]
      refine ⟨fun i z => ?_, fun z => ?_⟩
      · injection z with z; subst z; obtain rfl : v = _ := q; exact e
      · injection z with z; subst z; obtain rfl : v = _ := q; exact e
    · have hb : (f == g) = false := by simpa using h
      simp only [List.lookup, hb]
      exact FR.plain t f
def XR (G : Sg) (H : Hp) (ι : Io) (e : XV) (c : Value) (d : Option Addr) : Prop :=
  c = .ref (G.C e.cls) ∧ ((e.fs = [] ∧ d = none) ∨ e.fs ≠ [] ∧ ∃ dx ws, d = some dx ∧ H dx = some (.xd ws) ∧ FR G H ι e.fs ws)
theorem XR.ext {G : Sg} {H H' : Hp} {ι ι' : Io} {M : Mem} (h : HRel G H ι M) (x : Ext H ι H' ι') {e : XV} {c : Value} {d : Option Addr} (r : XR G H ι e c d) : XR G H' ι' e c d := by
  obtain ⟨e1, r⟩ := r
  refine ⟨e1, ?_⟩
  rcases r with r | ⟨ne, dx, ws, e2, e3, r⟩
  · exact .inl r
  · refine .inr ⟨ne, dx, ws, e2, x.keep dx _ (fun z => ?_) (fun _ z => by cases z) e3, r.ext h x⟩
    rcases h.mutOf z with ⟨_, q⟩ | ⟨_, q⟩ | ⟨_, q⟩ | ⟨_, _, _, q⟩ <;> rw [q] at e3 <;> cases e3
abbrev Rel (α β : Type) := Sg → Hp → Io → α → β → Prop
def Fin {α β : Type} (rel : Rel α β) (G : Sg) (H : Hp) (ι : Io) (Q : β → Hp → Prop) (Ex : XK) : Out α → Prop
  | .ok a M => ∀ v H' ι', Ext H ι H' ι' → HRel G H' ι' M → rel G H' ι' a v → Q v H'
  | .exc e M => ∀ c d H' ι', Ext H ι H' ι' → HRel G H' ι' M → XR G H' ι' e c d → Ex c d H'
  | .undef => False
theorem Fin.ext {α β : Type} {rel : Rel α β} {G : Sg} {H H1 : Hp} {ι ι1 : Io} {Q : β → Hp → Prop} {Ex : XK} {o : Out α} (f : Fin rel G H ι Q Ex o) (x : Ext H ι H1 ι1) : Fin rel G H1 ι1 Q Ex o := by
  cases o with
  | ok a M => exact fun v H' ι' e => f v H' ι' (x.trans e)
  | exc a M => exact fun v d H' ι' e => f v d H' ι' (x.trans e)
  | undef => exact f
theorem Fin.mono {α β : Type} {rel : Rel α β} {G : Sg} {H : Hp} {ι : Io} {Q Q' : β → Hp → Prop} {Ex : XK} {o : Out α} (f : Fin rel G H ι Q Ex o) (h : ∀ v H', Q v H' → Q' v H') : Fin rel G H ι Q' Ex o := by
  cases o with
  | ok a M => exact fun v H' ι' e hr r => h _ _ (f v H' ι' e hr r)
  | exc a M => exact f
  | undef => exact f
def Then {α β : Type} (rel : Rel α β) (G : Sg) (H : Hp) (ι : Io) (K : α → Mem → Hp → Io → Prop) : β → Hp → Prop := fun v H1 => ∃ ι1 M1 a, Ext H ι H1 ι1 ∧ HRel G H1 ι1 M1 ∧ rel G H1 ι1 a v ∧ K a M1 H1 ι1
theorem Fin.bind {α β γ δ : Type} {rel : Rel α β} {rel2 : Rel γ δ} {G : Sg} {H : Hp} {ι : Io} {Q : δ → Hp → Prop} {Ex : XK} {o : Out α} {k : α → Mem → Out γ} (f : Fin rel2 G H ι Q Ex (o.bind k)) :
    Fin rel G H ι (Then rel G H ι fun a M1 H1 ι1 => Fin rel2 G H1 ι1 Q Ex (k a M1)) Ex o := by
  cases o with
  | ok a M => exact fun v H1 ι1 ex hr r => ⟨ι1, M, a, ex, hr, r, Fin.ext (show Fin rel2 G H ι Q Ex (k a M) from f) ex⟩
  | exc a M => exact f
  | undef => exact f
def rd {α β : Type} (rel : Rel α β) (G : Sg) (W : WX) (m : E α) : L2.St → Hp → (β → Hp → Prop) → Prop := fun σ H Q =>
  ∃ ι M δ, HRel G H ι M ∧ ER G H ι δ σ ∧ Fin rel G H ι Q (fun c d H' => W c d σ H') (m δ M)
theorem rd.bind {α β γ θ : Type} {rel : Rel α β} {rel2 : Rel γ θ} {G : Sg} {W : WX} {σ : L2.St} {H : Hp} {Q : θ → Hp → Prop} {m : E α} {k : α → E γ}
    (h : rd rel2 G W (fun δ M => (m δ M).bind fun a M1 => k a δ M1) σ H Q) :
    rd rel G W m σ H fun v H1 => ∃ ι1 M1 δ a, HRel G H1 ι1 M1 ∧ ER G H1 ι1 δ σ ∧ rel G H1 ι1 a v ∧ Fin rel2 G H1 ι1 Q (fun c d H' => W c d σ H') (k a δ M1) := by
  obtain ⟨ι, M, δ, hr, er, f⟩ := h
  exact ⟨ι, M, δ, hr, er, (Fin.bind f).mono fun v H1 ⟨ι1, M1, a, ex, hr1, r, f1⟩ => ⟨ι1, M1, δ, a, hr1, er.ext hr ex, r, f1⟩⟩
def relT : Rel Bool Bool := fun _ _ _ a b => a = b
def relD : Rel D V := fun G H ι d v => R G H ι d v
def relA : Rel (List D) (List V) := fun G H ι d v => RA G H ι d v
section
variable {G : Sg} {X : Cx} {W : WX}
theorem pe_imp {e : Expr} {t t' : TE} (h : PE X e t) (k : ∀ σ H Q, t' σ H Q → t σ H Q) : PE X e t' := ⟨fun pins s σ H Q I q => h.run pins s σ H Q I (k σ H Q q)⟩
theorem pt_imp {e : Expr} {t t' : TT} (h : PT X e t) (k : ∀ σ H Q, t' σ H Q → t σ H Q) : PT X e t' := ⟨fun pins s σ H Q I q => h.run pins s σ H Q I (k σ H Q q)⟩
theorem pw_imp {e : Expr} {t t' : TT} (h : PW X e t) (k : ∀ σ H Q, t' σ H Q → t σ H Q) : PW X e t' := ⟨fun wh pins s σ H Q I q => h.run wh pins s σ H Q I (k σ H Q q)⟩
theorem pa_imp {e : List Expr} {t t' : TA} (h : PA X e t) (k : ∀ σ H Q, t' σ H Q → t σ H Q) : PA X e t' := ⟨fun pos pins s σ H Q I q => h.run pos pins s σ H Q I (k σ H Q q)⟩
theorem ps_imp {e : Stmt} {t t' : TS} (h : PS X e t) (k : ∀ D σ H, t' D σ H → t D σ H) : PS X e t' := ⟨fun pins s σ H D I q => h.run pins s σ H D I (k D σ H q)⟩
theorem pss_imp {e : List Stmt} {t t' : TS} (h : PSs X e t) (k : ∀ D σ H, t' D σ H → t D σ H) : PSs X e t' := ⟨fun pins s σ H D I q => h.run pins s σ H D I (k D σ H q)⟩
end
abbrev JE (G : Sg) (X : Cx) (W : WX) (e : Expr) (m : E D) : Prop := PE X e (rd relD G W m)
abbrev JT (G : Sg) (X : Cx) (W : WX) (e : Expr) (m : E Bool) : Prop := PT X e (rd relT G W m)
abbrev JW (G : Sg) (X : Cx) (W : WX) (e : Expr) (m : E Bool) : Prop := PW X e (rd relT G W m)
abbrev JA (G : Sg) (X : Cx) (W : WX) (es : List Expr) (m : E (List D)) : Prop := PA X es (rd relA G W m)
def eV (i : Nat) : E D := fun δ M => Out.opt (δ[i]?.join) M
def eC (d : D) : E D := fun _ M => .ok d M
def Op2 := Mem → D → D → Option D
def eBin (op : Op2) (a b : E D) : E D := fun δ M => (a δ M).bind fun x M1 => (b δ M1).bind fun y M2 => Out.opt (op M2 x y) M2
def Op1 := Mem → D → Option D
def eUn (op : Op1) (a : E D) : E D := fun δ M => (a δ M).bind fun x M1 => Out.opt (op M1 x) M1
def tOf (a : E D) : E Bool := fun δ M => (a δ M).bind fun x M1 => match x with | .bl b => .ok b M1 | _ => .undef
def truth : Mem → D → Option Bool
  | _, .non => some false
  | _, .bl b => some b
  | _, .int i => some (i != 0)
  | _, .str y => if y.length ≤ sizeLine then some ((y.length : Int) != 0) else none
  | _, .tup xs => some (!xs.isEmpty)
  | _, .lst xs => some (!xs.isEmpty)
  | _, .rol xs => some (!xs.isEmpty)
  | M, .mu n => match M[n]? with | some (.lst xs) => some (!xs.isEmpty) | _ => none
  | _, _ => none
def tTr (a : E D) : E Bool := fun δ M => (a δ M).bind fun x M1 => Out.opt (truth M1 x) M1
def tNotE (a : E Bool) : E Bool := fun δ M => (a δ M).bind fun x M1 => .ok (!x) M1
def tAndE (a b : E Bool) : E Bool := fun δ M => (a δ M).bind fun x M1 => if x = true then b δ M1 else .ok false M1
def tOrE (a b : E Bool) : E Bool := fun δ M => (a δ M).bind fun x M1 => if x = true then .ok true M1 else b δ M1
def eAnd (a b : E D) : E D := fun δ M => (a δ M).bind fun x M1 => match x with | .bl c => if c = true then b δ M1 else .ok (.bl false) M1 | _ => .undef
def eOr (a b : E D) : E D := fun δ M => (a δ M).bind fun x M1 => match x with | .bl c => if c = true then .ok (.bl true) M1 else b δ M1 | _ => .undef
def eNot (a : E D) : E D := fun δ M => (a δ M).bind fun x M1 => match x with | .bl c => .ok (.bl (!c)) M1 | _ => .undef
def eIf (c : E Bool) (a b : E D) : E D := fun δ M => (c δ M).bind fun x M1 => if x = true then a δ M1 else b δ M1
def aNil : E (List D) := fun _ M => .ok [] M
def aCons (a : E D) (r : E (List D)) : E (List D) := fun δ M => (a δ M).bind fun x M1 => (r δ M1).bind fun xs M2 => .ok (x :: xs) M2
def eTup (a : E (List D)) : E D := fun δ M => (a δ M).bind fun xs M1 => .ok (.tup xs) M1
def eLst (a : E (List D)) : E D := fun δ M => (a δ M).bind fun xs M1 => .ok (.lst xs) M1
def eMut (a : E (List D)) : E D := fun δ M => (a δ M).bind fun xs M1 => .ok (.mu M1.length) (M1 ++ [.lst xs])
def Len (n : Nat) (a : E (List D)) : Prop := ∀ δ M xs M', a δ M = .ok xs M' → xs.length = n
theorem len_nil : Len 0 aNil := fun _ _ xs _ e => by
  have e : Out.ok [] _ = Out.ok xs _ := e
  injection e with e _
  rw [← e]; rfl
theorem len_cons {a : E D} {r : E (List D)} {n : Nat} (h : Len n r) : Len (n + 1) (aCons a r) := fun δ M xs M' e => by
  unfold aCons at e
  cases h1 : a δ M with
  | ok x M1 =>
    rw [h1] at e
    simp only [Out.bind] at e
    cases h2 : r δ M1 with
    | ok ys M2 =>
      rw [h2] at e
      simp only [Out.bind] at e
      injection e with e _
      rw [← e, List.length_cons, h _ _ _ _ h2]
    | exc _ _ => rw [h2] at e; cases e
    | undef => rw [h2] at e; cases e
  | exc _ _ => rw [h1] at e; cases e
  | undef => rw [h1] at e; cases e
def eCall (f : List D → Mem → Out D) (a : E (List D)) : E D := fun δ M => (a δ M).bind f
def rd2 (G : Sg) (op : Op2) : R2 := fun x y H Q => ∃ ι M a b r, HRel G H ι M ∧ R G H ι a x ∧ R G H ι b y ∧ op M a b = some r ∧ ∀ v H' ι', Ext H ι H' ι' → HRel G H' ι' M → R G H' ι' r v → Q v H'
def rd1 (G : Sg) (op : Op1) : V → Hp → VK → Prop := fun x H Q => ∃ ι M a r, HRel G H ι M ∧ R G H ι a x ∧ op M a = some r ∧ ∀ v H' ι', Ext H ι H' ι' → HRel G H' ι' M → R G H' ι' r v → Q v H'
abbrev JO (G : Sg) (X : Cx) (f : Value → Value → Sem Value) (op : Op2) : Prop := OpR X f (rd2 G op)
section
variable {G : Sg} {X : Cx} {W : WX} {a b c : Expr} {ma mb mc : E D} {pos : Pos}
theorem Fin.opt {α β : Type} {rel : Rel α β} {H : Hp} {ι : Io} {Q : β → Hp → Prop} {Ex : XK} {o : Option α} {M : Mem} (f : Fin rel G H ι Q Ex (Out.opt o M)) : ∃ r, o = some r ∧ ∀ v H' ι', Ext H ι H' ι' → HRel G H' ι' M → rel G H' ι' r v → Q v H' := by
  cases o with
  | none => exact f.elim
  | some r => exact ⟨r, rfl, f⟩
theorem je_var {i : Nat} {x : Str} (hN : X.N[i]? = some x) (hv : Vis X.env.scope x) (hd : (x == ("__debug__" : Str)) = false := by decide) (hcd : (x == ("__classdict__" : Str)) = false := by decide) : JE G X W (.Name x pos) (eV i) :=
  pe_imp (pe_var hN hv hd hcd) fun σ H Q ⟨ι, M, δ, hr, er, f⟩ => by
    obtain ⟨r, e, f⟩ := Fin.opt f
    cases e2 : δ[i]? with
    | none => rw [e2] at e; cases e
    | some o =>
      rw [e2] at e
      have e3 : o = some r := e
      subst e3
      obtain ⟨v, h1, h2⟩ := er.get e2
      exact ⟨v, h1, f v H ι (Ext.refl H ι) hr h2⟩
theorem je_const {e : Expr} {v : V} {d : D} (h : PE X e (tC v)) (hR : ∀ H ι, R G H ι d v) : JE G X W e (eC d) :=
  pe_imp h fun σ H Q ⟨ι, M, δ, hr, er, f⟩ => f v H ι (Ext.refl H ι) hr (hR H ι)
theorem je_int {i : Int} {j} : JE G X W (.Constant (.int i) j pos) (eC (.int i)) := je_const pe_int fun _ _ => rfl
theorem je_bl {b : Bool} {j} : JE G X W (.Constant (.bool b) j pos) (eC (.bl b)) := je_const pe_bl fun _ _ => rfl
theorem je_non {j} : JE G X W (.Constant .none j pos) (eC .non) := je_const pe_non fun _ _ => rfl
theorem je_str {x : Str} {j} : JE G X W (.Constant (.str x) j pos) (eC (.str x)) := je_const pe_str fun _ _ => rfl
theorem je_glob {x : Str} {v : V} {u : Value} {d : D} (hg : Gl X x) (hm : X.mg x = some u) (r : RelV v u) (hR : ∀ H ι, R G H ι d v) (hd : (x == ("__debug__" : Str)) = false := by decide) : JE G X W (.Name x pos) (eC d) := je_const (pe_glob hg hm r hd) hR
theorem rd_bin {op : Op2} {σ : L2.St} {H : Hp} {Q : VK} (h : rd relD G W (eBin op ma mb) σ H Q) : tOp (rd2 G op) (rd relD G W ma) (rd relD G W mb) σ H Q := by
  obtain ⟨ι, M, δ, hr, er, f⟩ := h
  refine ⟨ι, M, δ, hr, er, (Fin.bind f).mono fun x H1 ⟨ι1, M1, d1, ex1, hr1, r1, f1⟩ => ⟨ι1, M1, δ, hr1, er.ext hr ex1, (Fin.bind f1).mono fun y H2 ⟨ι2, M2, d2, ex2, hr2, r2, f2⟩ => ?_⟩⟩
  obtain ⟨r, e, f3⟩ := Fin.opt f2
  exact ⟨ι2, M2, d1, d2, r, hr2, R.ext hr1 ex2 r1, r2, e, f3⟩
theorem je_bin {op : Operator} {o : Op2} (ho : JO G X (binaryOp op) o) (ha : JE G X W a ma) (hb : JE G X W b mb) : JE G X W (.BinOp a op b pos) (eBin o ma mb) :=
  pe_imp (pe_op ho ha hb) fun _ _ _ h => rd_bin h
theorem je_cmp {op : CmpOp} {o : Op2} (ho : JO G X (compareOp op) o) (ha : JE G X W a ma) (hb : JE G X W b mb) (hm : behindInMarks op b = false) : JE G X W (.Compare a [op] [b] pos) (eBin o ma mb) :=
  pe_imp (pe_cmpR ho ha hb hm) fun _ _ _ h => rd_bin h
theorem rd_tOf {m : E D} {σ : L2.St} {H : Hp} {Q : Bool → Hp → Prop} (h : rd relT G W (tOf m) σ H Q) : tTest (rd relD G W m) σ H Q := by
  obtain ⟨ι, M, δ, hr, er, f⟩ := h
  refine ⟨ι, M, δ, hr, er, (Fin.bind f).mono fun x H1 ⟨ι1, M1, d1, ex1, hr1, r1, f1⟩ => ?_⟩
  cases d1 <;> first
    | exact f1.elim
    | skip
  rename_i k
  have e : x = .bl k := r1
  exact ⟨k, e, f1 k H1 ι1 (Ext.refl _ _) hr1 rfl⟩
theorem tTest_imp {t t' : TE} {σ : L2.St} {H : Hp} {Q : Bool → Hp → Prop} (k : ∀ σ H Q, t' σ H Q → t σ H Q) (h : tTest t' σ H Q) : tTest t σ H Q := k _ _ _ h
theorem jt_cmp {op : CmpOp} {o : Op2} (ho : JO G X (compareOp op) o) (ha : JE G X W a ma) (hb : JE G X W b mb) (hm : behindInMarks op b = false) : JT G X W (.Compare a [op] [b] pos) (tOf (eBin o ma mb)) :=
  pt_imp (pt_cmpR ho ha hb hm) fun _ _ _ h => tTest_imp (fun _ _ _ q => rd_bin q) (rd_tOf h)
def eChain (o o' : Op2) (a b c : E D) : E D := fun δ M => (a δ M).bind fun x M1 => (b δ M1).bind fun y M2 => match o M2 x y with
  | some (.bl true) => (c δ M2).bind fun z M3 => Out.opt (o' M3 y z) M3
  | some (.bl false) => .ok (.bl false) M2
  | _ => .undef
theorem rd_chain {o o' : Op2} {σ : L2.St} {H : Hp} {Q : VK} (h : rd relD G W (eChain o o' ma mb mc) σ H Q) : tChain (rd2 G o) (rd2 G o') (rd relD G W ma) (rd relD G W mb) (rd relD G W mc) σ H Q := by
  obtain ⟨ι, M, δ, hr, er, f⟩ := h
  refine ⟨ι, M, δ, hr, er, (Fin.bind f).mono fun x H1 ⟨ι1, M1, d1, ex1, hr1, r1, f1⟩ => ⟨ι1, M1, δ, hr1, er.ext hr ex1, (Fin.bind f1).mono fun y H2 ⟨ι2, M2, d2, ex2, hr2, r2, f2⟩ => ?_⟩⟩
  dsimp only at f2
  cases e : o M2 d1 d2 with
  | none => rw [e] at f2; exact f2.elim
  | some r =>
    rw [e] at f2
    refine ⟨ι2, M2, d1, d2, r, hr2, R.ext hr1 ex2 r1, r2, e, fun v H' ι' ex hr' rv => ?_⟩
    cases r <;> first
      | exact f2.elim
      | skip
    rename_i k
    have e4 : v = .bl k := rv
    subst e4
    refine ⟨k, rfl, ?_⟩
    cases k with
    | true =>
      have f3 := Fin.bind (rel := relD) (f2.ext ex)
      rw [if_pos rfl]
      exact ⟨ι', M2, δ, hr', ((er.ext hr ex1).ext hr1 ex2).ext hr2 ex, f3.mono fun z H3 ⟨ι3, M3, d3, ex3, hr3, r3, f4⟩ => by
        obtain ⟨r', e', f5⟩ := Fin.opt f4
        exact ⟨ι3, M3, d2, d3, r', hr3, (R.ext hr2 ex r2).ext hr' ex3, r3, e', f5⟩⟩
    | false =>
      rw [if_neg Bool.false_ne_true]
      exact f2 _ H' ι' ex hr' rfl
theorem je_chain {op op' : CmpOp} {o o' : Op2} (ho : JO G X (compareOp op) o) (ho' : JO G X (compareOp op') o') (ha : JE G X W a ma) (hb : JE G X W b mb) (hc : JE G X W c mc) (hm : lastMarks [op, op'] [b, c] = false := by with_unfolding_all rfl) :
    JE G X W (.Compare a [op, op'] [b, c] pos) (eChain o o' ma mb mc) := pe_imp (pe_chain ho ho' ha hb hc hm) fun _ _ _ h => rd_chain h
theorem tru_R {H : Hp} {ι : Io} {M : Mem} {d : D} {v : V} {k : Bool} (hr : HRel G H ι M) (r : R G H ι d v) (e : truth M d = some k) : TruV G.K v H k := by
  have emp : ∀ {xs : List D} {vs : List V}, RA G H ι xs vs → xs.isEmpty = vs.isEmpty := fun {xs vs} q => by
    have l := q.len
    cases xs <;> cases vs <;> first | rfl | (simp at l)
  cases d with
  | non => have e' : v = _ := r; subst e'; exact (Option.some.inj e).symm
  | bl b => have e' : v = _ := r; subst e'; exact (Option.some.inj e).symm
  | int i => have e' : v = _ := r; subst e'; exact (Option.some.inj e).symm
  | str y =>
    have e' : v = _ := r
    subst e'
    simp only [truth] at e
    split at e
    · rename_i q
      exact ⟨q, (Option.some.inj e).symm⟩
    · cases e
  | tup xs =>
    obtain ⟨p, vs, e1, q, ra⟩ := r
    subst e1
    exact .inr (.inl ⟨vs, .of q, by rw [← emp ra]; exact (Option.some.inj e).symm⟩)
  | ctu xs => cases e
  | lst xs =>
    obtain ⟨p, vs, e1, q, ra⟩ := r
    subst e1
    exact .inl ⟨vs, .inl (.inl q.1), by rw [← emp ra]; exact (Option.some.inj e).symm⟩
  | rol xs =>
    obtain ⟨p, vs, e1, q, ra⟩ := r
    subst e1
    exact .inl ⟨vs, q.sq, by rw [← emp ra]; exact (Option.some.inj e).symm⟩
  | mu n =>
    obtain ⟨p, e1, q⟩ := r
    subst e1
    cases e2 : M[n]? with
    | none => simp only [truth, e2] at e; cases e
    | some o =>
      cases o with
      | dk _ => simp only [truth, e2] at e; cases e
      | ins _ _ => simp only [truth, e2] at e; cases e
      | dt _ => simp only [truth, e2] at e; cases e
      | lst xs =>
        simp only [truth, e2] at e
        obtain ⟨vs, q', ra⟩ := hr.obj n p _ q e2
        exact .inl ⟨vs, .inl (.inl q'), by rw [← emp ra]; exact (Option.some.inj e).symm⟩
  | clo _ => cases e
  | fn _ => cases e
  | ktu _ => cases e
  | ob _ => cases e
  | obx _ _ _ => cases e
  | dk _ => cases e
theorem jt_val {e : Expr} {m : E D} (hK : X.K = G.K) (h : JE G X W e m) (he : ∀ whole, isTrue e X.env whole = (do let v ← whole; standAt e.pos; holding [v] (truthy v)) := by intro _; rfl) : JT G X W e (tTr m) := by
  have := pt_truth h he
  refine pt_imp this fun σ H Q h => ?_
  obtain ⟨ι, M, δ, hr, er, f⟩ := h
  refine ⟨ι, M, δ, hr, er, (Fin.bind f).mono fun x H1 ⟨ι1, M1, d1, ex1, hr1, r1, f1⟩ => ?_⟩
  obtain ⟨k, e2, f2⟩ := Fin.opt f1
  exact ⟨k, by rw [hK]; exact tru_R hr1 r1 e2, f2 k H1 ι1 (Ext.refl _ _) hr1 rfl⟩
theorem jt_not {m : E Bool} (h : JT G X W a m) : JT G X W (.UnaryOp .Not a pos) (tNotE m) := pt_imp (pt_not h) fun σ H Q ⟨ι, M, δ, hr, er, f⟩ =>
  ⟨ι, M, δ, hr, er, (Fin.bind f).mono fun x H1 ⟨ι1, M1, d1, ex1, hr1, r1, f1⟩ => f1 (!x) H1 ι1 (Ext.refl _ _) hr1 (by have r1 : d1 = x := r1; rw [r1]; rfl)⟩
theorem jw_or1 {m : E Bool} (h : JT G X W a m) : JW G X W (.BoolOp .Or [a] pos) m := pw_or1 h
theorem jw_or {rest : List Expr} {m n : E Bool} (h : JT G X W a m) (h' : JW G X W (.BoolOp .Or (b :: rest) pos) n) : JW G X W (.BoolOp .Or (a :: b :: rest) pos) (tOrE m n) := pw_imp (pw_or h h') fun σ H Q ⟨ι, M, δ, hr, er, f⟩ =>
  ⟨ι, M, δ, hr, er, (Fin.bind f).mono fun x H1 ⟨ι1, M1, d1, ex1, hr1, r1, f1⟩ => by
    have r1 : d1 = x := r1
    subst r1
    cases d1 with
    | true => exact f1 true H1 ι1 (Ext.refl _ _) hr1 rfl
    | false => exact ⟨ι1, M1, δ, hr1, er.ext hr ex1, f1⟩⟩
theorem jw_pt {m : E Bool} (h : JW G X W a m) : JT G X W a m := PW.pt h
theorem je_one {op} {m : E D} (h : JE G X W a m) : JE G X W (.BoolOp op [a] pos) m := pe_one h
theorem je_and {rest : List Expr} (h : JE G X W a ma) (h' : JE G X W (.BoolOp .And (b :: rest) pos) mb) : JE G X W (.BoolOp .And (a :: b :: rest) pos) (eAnd ma mb) := pe_imp (pe_and h h') fun σ H Q ⟨ι, M, δ, hr, er, f⟩ =>
  ⟨ι, M, δ, hr, er, (Fin.bind f).mono fun x H1 ⟨ι1, M1, d1, ex1, hr1, r1, f1⟩ => by
    cases d1 <;> first
      | exact f1.elim
      | skip
    rename_i k
    refine ⟨k, r1, ?_⟩
    cases k with
    | true => exact ⟨ι1, M1, δ, hr1, er.ext hr ex1, f1⟩
    | false => exact f1 _ H1 ι1 (Ext.refl _ _) hr1 rfl⟩
theorem je_not (h : JE G X W a ma) : JE G X W (.UnaryOp .Not a pos) (eNot ma) := pe_imp (pe_not h) fun σ H Q ⟨ι, M, δ, hr, er, f⟩ =>
  ⟨ι, M, δ, hr, er, (Fin.bind f).mono fun x H1 ⟨ι1, M1, d1, ex1, hr1, r1, f1⟩ => by
    cases d1 <;> first
      | exact f1.elim
      | skip
    rename_i k
    exact ⟨k, r1, f1 _ H1 ι1 (Ext.refl _ _) hr1 rfl⟩⟩
theorem ja_nil : JA G X W [] aNil := pa_imp pa_nil fun σ H Q ⟨ι, M, δ, hr, er, f⟩ => f [] H ι (Ext.refl _ _) hr rfl
theorem ja_cons {es : List Expr} {mr : E (List D)} (ha : JE G X W a ma) (hr : JA G X W es mr) (hs : starEach (a :: es) X.env = (false, eval a X.env) :: starEach es X.env := by rfl) : JA G X W (a :: es) (aCons ma mr) :=
  pa_imp (pa_cons ha hr hs) fun σ H Q ⟨ι, M, δ, hr, er, f⟩ =>
    ⟨ι, M, δ, hr, er, (Fin.bind f).mono fun x H1 ⟨ι1, M1, d1, ex1, hr1, r1, f1⟩ => ⟨ι1, M1, δ, hr1, er.ext hr ex1, (Fin.bind f1).mono fun xs H2 ⟨ι2, M2, d2, ex2, hr2, r2, f2⟩ =>
      f2 (x :: xs) H2 ι2 (Ext.refl _ _) hr2 (RA.cons (R.ext hr1 ex2 r1) r2)⟩⟩
theorem len_of {ι : Io} {M : Mem} {δ : DEnv} {H : Hp} {Q : List V → Hp → Prop} {Ex : XK} {n : Nat} {m : E (List D)} (hl : Len n m) (f : Fin relA G H ι Q Ex (m δ M)) : Fin relA G H ι (fun vs H' => vs.length = n ∧ Q vs H') Ex (m δ M) := by
  cases e : m δ M with
  | ok xs M' =>
    rw [e] at f
    exact fun v H' ι' x h r => ⟨by rw [← RA.len r, hl _ _ _ _ e], f v H' ι' x h r⟩
  | exc a M' => rw [e] at f; exact f
  | undef => rw [e] at f; exact f
theorem je_tup {es : List Expr} {m : E (List D)} {x1} {n : Nat} (h : JA G X W es m) (hl : Len n m) (hn : n ≤ sizeLine := by decide) : JE G X W (.Tuple es x1 pos) (eTup m) := pe_imp (pe_tup h) fun σ H Q ⟨ι, M, δ, hr, er, f⟩ =>
  ⟨ι, M, δ, hr, er, (len_of hl (Fin.bind f)).mono fun xs H1 ⟨hlen, ι1, M1, d1, ex1, hr1, r1, f1⟩ => ⟨by rw [hlen]; exact hn, fun p np => f1 _ _ ι1 (Ext.fresh np) (hr1.fresh np) ⟨p, xs, rfl, upd_same, RA.ext hr1 (Ext.fresh np) r1⟩⟩⟩
theorem je_lst {es : List Expr} {m : E (List D)} {n : Nat} (h : JA G X W es m) (hl : Len n m) (hn : n ≤ sizeLine := by decide) : JE G X W (.List es pos) (eLst m) := pe_imp (pe_lst h) fun σ H Q ⟨ι, M, δ, hr, er, f⟩ =>
  ⟨ι, M, δ, hr, er, (len_of hl (Fin.bind f)).mono fun xs H1 ⟨hlen, ι1, M1, d1, ex1, hr1, r1, f1⟩ => ⟨by rw [hlen]; exact hn, fun p np => f1 _ _ ι1 (Ext.fresh np) (hr1.fresh np) ⟨p, xs, rfl, ⟨upd_same, hr1.out np⟩, RA.ext hr1 (Ext.fresh np) r1⟩⟩⟩
def Io.add (ι : Io) (p : Addr) : Io := ⟨ι.ix ++ [p], ι.wl⟩
theorem Ext.add {H : Hp} {ι : Io} {p : Addr} {o : HO} (n : H p = none) : Ext H ι (upd H p o) (ι.add p) :=
  ⟨⟨⟨[p], rfl⟩, rfl, fun a h => (List.mem_append.mp h).elim .inl fun z => .inr (by rw [List.mem_singleton.mp z]; exact n), fun a u _ _ h => by rw [upd_ne (ne_of_none h n)]; exact h, fun a h => by
    by_cases e : a = p
    · rw [e, n]
    · rw [upd_ne e] at h; exact h⟩, fun a u _ h => by rw [upd_ne (ne_of_none h n)]; exact h⟩
theorem HRel.add {H : Hp} {ι : Io} {M : Mem} (h : HRel G H ι M) {p : Addr} {o : HO} {mo : MO} (n : H p = none) (q : MR G (upd H p o) (ι.add p) mo p) : HRel G (upd H p o) (ι.add p) (M ++ [mo]) := by
  have x : Ext H ι (upd H p o) (ι.add p) := Ext.add n
  have k : ∀ b u, H b = some u → upd H p o b = some u := fun b u e => by rw [upd_ne (ne_of_none e n)]; exact e
  have np : p ∉ ι.ix := fun z => h.out n (.inl z)
  refine ⟨List.nodup_append.mpr ⟨h.nd, by simp, fun a ha b hb => by have hb : b = p := by simpa using hb
                                                                    subst hb; exact fun z => np (z ▸ ha)⟩, by simp [Io.add, h.len], fun m a u e1 e2 => ?_, fun a ha => ?_, h.tabs.ext k, h.clo⟩
  · by_cases hm : m < ι.ix.length
    · have hm2 : m < M.length := by rw [← h.len]; exact hm
      have e1' : ι.ix[m]? = some a := by simpa [Io.add, List.getElem?_append_left hm] using e1
      have e2' : M[m]? = some u := by simpa [List.getElem?_append_left hm2] using e2
      exact (h.obj m a u e1' e2').ext h x.toExtW (k a)
    · have e1' : (ι.ix ++ [p])[m]? = some a := e1
      rw [List.getElem?_append_right (by omega)] at e1'
      rw [List.getElem?_append_right (by rw [← h.len]; omega)] at e2
      have e0 : m - ι.ix.length = 0 := by
        rcases Nat.eq_zero_or_pos (m - ι.ix.length) with z | z
        · exact z
        · rw [List.getElem?_eq_none (by simp; omega)] at e1'; cases e1'
      rw [← h.len, e0] at e2
      rw [e0] at e1'
      simp at e1' e2
      subst e1' e2
      exact q
  · obtain ⟨⟨vs, e⟩, n2⟩ := h.wlo a ha
    exact ⟨⟨vs, k _ _ e⟩, fun z => (List.mem_append.mp z).elim n2 fun z => by
      have z : a = p := by simpa using z
      rw [z, n] at e; cases e⟩
theorem je_mut {es : List Expr} {m : E (List D)} {n : Nat} (h : JA G X W es m) (hl : Len n m) (hn : n ≤ sizeLine := by decide) : JE G X W (.List es pos) (eMut m) := pe_imp (pe_lst h) fun σ H Q ⟨ι, M, δ, hr, er, f⟩ =>
  ⟨ι, M, δ, hr, er, (len_of hl (Fin.bind f)).mono fun xs H1 ⟨hlen, ι1, M1, d1, ex1, hr1, r1, f1⟩ => ⟨by rw [hlen]; exact hn, fun p np =>
    f1 _ _ (ι1.add p) (Ext.add np) (hr1.add np ⟨xs, upd_same, RA.ext hr1 (Ext.add np) r1⟩) ⟨p, rfl, by simp [Io.add, hr1.len]⟩⟩⟩
end
end DL
namespace DL
open PySem PySem.Spec PyProof.Rows L2
def seqL (M : Mem) : D → Option (List D)
  | .lst xs => some xs
  | .rol xs => some xs
  | .mu n => match M[n]? with | some (.lst xs) => some xs | _ => none
  | _ => none
def seqT : D → Option (List D)
  | .tup xs => some xs
  | .ktu ys => some (ys.map D.str)
  | .ctu xs => some xs
  | _ => none
def seqA (M : Mem) (d : D) : Option (List D) := match seqT d with | some xs => some xs | none => seqL M d
section
variable {G : Sg} {X : Cx} {W : WX} {H : Hp} {ι : Io} {M : Mem} {d : D} {v : V} {xs : List D}
theorem seqL_ok (hr : HRel G H ι M) (r : R G H ι d v) (e : seqL M d = some xs) : ∃ a vs, v = .ref a ∧ SqL G.K H a vs ∧ RA G H ι xs vs := by
  cases d with
  | lst ys => cases e; obtain ⟨a, vs, e1, q, ra⟩ := r; exact ⟨a, vs, e1, .inl (.inl q.1), ra⟩
  | rol ys => cases e; obtain ⟨a, vs, e1, q, ra⟩ := r; exact ⟨a, vs, e1, q.sq, ra⟩
  | mu n =>
    obtain ⟨a, e1, q⟩ := r
    cases e2 : M[n]? with
    | none => simp only [seqL, e2] at e; cases e
    | some o =>
      cases o with
      | dk _ => simp only [seqL, e2] at e; cases e
      | ins _ _ => simp only [seqL, e2] at e; cases e
      | dt _ => simp only [seqL, e2] at e; cases e
      | lst ys =>
        simp only [seqL, e2] at e
        cases e
        obtain ⟨vs, q', ra⟩ := hr.obj n a _ q e2
        exact ⟨a, vs, e1, .inl (.inl q'), ra⟩
  | _ => cases e
theorem seqT_ok (r : R G H ι d v) (e : seqT d = some xs) : ∃ a vs, v = .ref a ∧ SqT G.K H a vs ∧ RA G H ι xs vs := by
  cases d with
  | tup ys =>
    cases e
    obtain ⟨a, vs, e1, q, ra⟩ := r
    exact ⟨a, vs, e1, .of q, ra⟩
  | ktu ys =>
    cases e
    obtain ⟨a, e1, q, _⟩ := r
    exact ⟨a, _, e1, q H, RA.strs ys⟩
  | ctu ys =>
    cases e
    obtain ⟨a, vs, e1, q, ra⟩ := r
    exact ⟨a, vs, e1, q H, ra⟩
  | _ => cases e
theorem seqA_ok (hr : HRel G H ι M) (r : R G H ι d v) (e : seqA M d = some xs) : ∃ a vs, v = .ref a ∧ (SqL G.K H a vs ∨ SqT G.K H a vs) ∧ RA G H ι xs vs := by
  unfold seqA at e
  cases e1 : seqT d with
  | some ys =>
    rw [e1] at e
    cases e
    obtain ⟨a, vs, h1, h2, h3⟩ := seqT_ok r e1
    exact ⟨a, vs, h1, .inr h2, h3⟩
  | none =>
    rw [e1] at e
    obtain ⟨a, vs, h1, h2, h3⟩ := seqL_ok hr r e
    exact ⟨a, vs, h1, .inl h2, h3⟩
theorem opr_imp {f : Value → Value → Sem Value} {r r' : R2} (h : OpR X f r) (k : ∀ x y H Q, r' x y H Q → r x y H Q) : OpR X f r' :=
  fun pins s σ H x y v u Q I rx ry q => h pins s σ H x y v u Q I rx ry (k x y H Q q)
def dAdd : Op2 := fun _ a b => match a, b with
  | .int i, .int j => some (.int (i + j))
  | .int i, .bl k => some (.int (i + b2i k))
  | .str x, .str y => if x.length + y.length ≤ sizeLine then some (.str (x ++ y)) else none
  | .tup xs, .tup ys => if xs.length + ys.length ≤ sizeLine then some (.tup (xs ++ ys)) else none
  | .lst xs, .lst ys => if xs.length + ys.length ≤ sizeLine then some (.lst (xs ++ ys)) else none
  | .tup xs, .ctu ys => if xs.length + ys.length ≤ sizeLine ∧ xs.isEmpty = false ∧ ys.isEmpty = false then some (.tup (xs ++ ys)) else none
  | _, _ => none
theorem jo_add (hK : X.K = G.K) : JO G X (binaryOp .Add) dAdd := by
  refine opr_imp (op_add.or (op_add_ib.or (op_add_str.or (op_catA.or op_cat)))) fun x y H Q ⟨ι, M, a, b, r, hr, ra, rb, e, q⟩ => ?_
  have go : ∀ v, R G H ι r v → Q v H := fun v rv => q v H ι (Ext.refl _ _) hr rv
  cases a <;> cases b <;> first
    | (cases e; done)
    | skip
  · obtain rfl : x = _ := ra
    obtain rfl : y = _ := rb
    cases e
    exact .inr (.inl ⟨_, _, rfl, rfl, go _ rfl⟩)
  · obtain rfl : x = _ := ra
    obtain rfl : y = _ := rb
    cases e
    exact .inl ⟨_, _, rfl, rfl, go _ rfl⟩
  · obtain rfl : x = _ := ra
    obtain rfl : y = _ := rb
    simp only [dAdd] at e
    split at e
    · rename_i hl
      cases e
      exact .inr (.inr (.inl ⟨_, _, rfl, rfl, hl, go _ rfl⟩))
    · cases e
  · simp only [dAdd] at e
    split at e
    · rename_i hl
      cases e
      obtain ⟨p1, us, rfl, q1, ra⟩ := ra
      obtain ⟨p2, ws, rfl, q2, rb⟩ := rb
      have l1 := ra.len
      have l2 := rb.len
      refine .inr (.inr (.inr (.inl ⟨p1, p2, us, ws, rfl, rfl, .of q1, .of q2, by omega, fun e0 => ?_, fun h1 h2 => ?_, fun h1 h2 p np => ?_⟩)))
      · subst e0
        refine go _ ⟨p2, ws, rfl, q2, ?_⟩
        have e3 : _ = ([] : List D) := List.length_eq_zero_iff.mp l1
        rw [e3]
        exact rb
      · subst h2
        refine go _ ⟨p1, us, rfl, q1, ?_⟩
        have e3 : _ = ([] : List D) := List.length_eq_zero_iff.mp l2
        rw [e3, List.append_nil]
        exact ra
      · exact q _ _ ι (Ext.fresh np) (hr.fresh np) ⟨p, _, rfl, upd_same, RA.ext hr (Ext.fresh np) (ra.app rb)⟩
    · cases e
  · simp only [dAdd] at e
    split at e
    · rename_i hl
      cases e
      obtain ⟨p1, us, rfl, q1, ra⟩ := ra
      obtain ⟨p2, ws, rfl, q2, rb⟩ := rb
      have q2 := q2 H
      rw [← hK] at q2
      have l1 := ra.len
      have l2 := rb.len
      refine .inr (.inr (.inr (.inl ⟨p1, p2, us, ws, rfl, rfl, .of q1, q2, by omega, fun e0 => ?_, fun h1 h2 => ?_, fun h1 h2 p np => ?_⟩)))
      · subst e0
        have e3 : _ = ([] : List D) := List.length_eq_zero_iff.mp l1
        have := hl.2.1
        rw [e3] at this
        cases this
      · subst h2
        have e3 : _ = ([] : List D) := List.length_eq_zero_iff.mp l2
        have := hl.2.2
        rw [e3] at this
        cases this
      · exact q _ _ ι (Ext.fresh np) (hr.fresh np) ⟨p, _, rfl, upd_same, RA.ext hr (Ext.fresh np) (ra.app rb)⟩
    · cases e
  · simp only [dAdd] at e
    split at e
    · rename_i hl
      cases e
      obtain ⟨p1, us, rfl, q1, ra⟩ := ra
      obtain ⟨p2, ws, rfl, q2, rb⟩ := rb
      have l1 := ra.len
      have l2 := rb.len
      exact .inr (.inr (.inr (.inr ⟨p1, p2, us, ws, rfl, rfl, q1.1, q2.1, by omega, fun p np => q _ _ ι (Ext.fresh np) (hr.fresh np) ⟨p, _, rfl, ⟨upd_same, hr.out np⟩, RA.ext hr (Ext.fresh np) (ra.app rb)⟩⟩)))
    · cases e
def dI (C : Int → Int → Bool) (g : Int → Int → D) : Op2 := fun _ a b => match a, b with
  | .int i, .int j => if C i j = true then some (g i j) else none
  | _, _ => none
def dI0 (g : Int → Int → D) : Op2 := fun _ a b => match a, b with
  | .int i, .int j => some (g i j)
  | _, _ => none
theorem jo_I {f : Value → Value → Sem Value} {C : Int → Int → Prop} {c : Int → Int → Bool} {g : Int → Int → V} {g' : Int → Int → D} (h : OpR X f (rI C g)) (hc : ∀ i j, c i j = true → C i j) (hg : ∀ H ι i j, R G H ι (g' i j) (g i j)) : JO G X f (dI c g') := by
  refine opr_imp h fun x y H Q ⟨ι, M, a, b, r, hr, ra, rb, e, q⟩ => ?_
  cases a <;> cases b <;> first
    | (cases e; done)
    | skip
  obtain rfl : x = _ := ra
  obtain rfl : y = _ := rb
  simp only [dI] at e
  split at e
  · rename_i h1
    cases e
    exact ⟨_, _, rfl, rfl, hc _ _ h1, q _ H ι (Ext.refl _ _) hr (hg H ι _ _)⟩
  · cases e
theorem jo_I0 {f : Value → Value → Sem Value} {g : Int → Int → V} {g' : Int → Int → D} (h : OpR X f (rI0 g)) (hg : ∀ H ι i j, R G H ι (g' i j) (g i j)) : JO G X f (dI0 g') := by
  refine opr_imp h fun x y H Q ⟨ι, M, a, b, r, hr, ra, rb, e, q⟩ => ?_
  cases a <;> cases b <;> first
    | (cases e; done)
    | skip
  obtain rfl : x = _ := ra
  obtain rfl : y = _ := rb
  cases e
  exact ⟨_, _, rfl, rfl, q _ H ι (Ext.refl _ _) hr (hg H ι _ _)⟩
def dSub : Op2 := dI0 fun i j => .int (i - j)
theorem jo_sub : JO G X (binaryOp .Sub) dSub := jo_I0 op_sub fun _ _ _ _ => rfl
def dMod : Op2 := dI (fun _ j => decide (0 < j)) fun i j => .int (i % j)
theorem jo_mod : JO G X (binaryOp .Mod) dMod := jo_I op_mod (fun _ _ h => of_decide_eq_true h) fun _ _ _ _ => rfl
noncomputable def dFdiv : Op2 := dI (fun _ j => dec (0 < j ∧ j < 1073741824)) fun i j => .int (i / j)
theorem jo_fdiv : JO G X (binaryOp .FloorDiv) dFdiv := jo_I op_fdiv (fun _ _ h => dec_iff.mp h) fun _ _ _ _ => rfl
noncomputable def dPow : Op2 := dI (fun i j => dec (0 ≤ j ∧ j ≤ 1000000 ∧ i.natAbs < 2 ^ 64)) fun i j => .int (i ^ j.toNat)
theorem jo_pow : JO G X (binaryOp .Pow) dPow := jo_I op_pow (fun _ _ h => dec_iff.mp h) fun _ _ _ _ => rfl
def dAndB : Op2 := dI0 fun i j => .int (Builtin.bitAnd i j)
noncomputable def cMul (i j : Int) : Bool := dec (CMul i j)
noncomputable def dMul : Op2 := fun _ a b => match a, b with
  | .int i, .int j => if cMul i j = true then some (.int (i * j)) else none
  | .tup xs, .int k => if dec (xs ≠ [] ∧ 2 ≤ k ∧ k ≤ 1000 ∧ xs.length ≤ 1000) = true then some (.tup (List.replicate k.toNat xs).flatten) else none
  | .lst xs, .int k => if dec (-(2 ^ 63) ≤ k ∧ k < 2 ^ 63 ∧ xs.length * k.toNat ≤ sizeLine) = true then some (.lst (List.replicate k.toNat xs).flatten) else none
  | _, _ => none
theorem RA.rep {us : List V} (r : RA G H ι xs us) : ∀ k : Nat, RA G H ι (List.replicate k xs).flatten (List.replicate k us).flatten
  | 0 => rfl
  | k + 1 => by rw [List.replicate_succ, List.replicate_succ, List.flatten_cons, List.flatten_cons]; exact r.app (RA.rep r k)
theorem jo_mul (hK : X.K = G.K) : JO G X (binaryOp .Mult) dMul := by
  refine opr_imp (op_mul.or (op_repT.or op_rep)) fun x y H Q ⟨ι, M, a, b, r, hr, ra, rb, e, q⟩ => ?_
  cases a <;> cases b <;> first
    | (cases e; done)
    | skip
  · simp only [dMul] at e
    split at e
    · rename_i h1
      cases e
      obtain rfl : x = _ := ra
      obtain rfl : y = _ := rb
      exact .inl ⟨_, _, rfl, rfl, dec_iff.mp h1, q _ H ι (Ext.refl _ _) hr rfl⟩
    · cases e
  · simp only [dMul] at e
    split at e
    · rename_i h1
      cases e
      obtain ⟨p1, us, rfl, q1, ra⟩ := ra
      obtain rfl : y = _ := rb
      obtain ⟨h1, h2, h3, h4⟩ := dec_iff.mp h1
      have l1 := ra.len
      exact .inr (.inl ⟨p1, _, us, rfl, rfl, .of q1, fun z => h1 (List.length_eq_zero_iff.mp (by rw [l1, z]; rfl)), h2, h3, by omega, fun p np => q _ _ ι (Ext.fresh np) (hr.fresh np) ⟨p, _, rfl, upd_same, RA.ext hr (Ext.fresh np) (ra.rep _)⟩⟩)
    · cases e
  · simp only [dMul] at e
    split at e
    · rename_i h1
      cases e
      obtain ⟨p1, us, rfl, q1, ra⟩ := ra
      obtain rfl : y = _ := rb
      obtain ⟨h1, h2, h3⟩ := dec_iff.mp h1
      have l1 := ra.len
      exact .inr (.inr ⟨p1, _, us, rfl, rfl, q1.1, h1, h2, by rw [← l1]; exact h3, fun p np => q _ _ ι (Ext.fresh np) (hr.fresh np) ⟨p, _, rfl, ⟨upd_same, hr.out np⟩, RA.ext hr (Ext.fresh np) (ra.rep _)⟩⟩)
    · cases e
def dNeg : Op1 := fun _ a => match a with | .int i => some (.int (-i)) | _ => none
theorem je_neg {a : Expr} {ma : E D} {pos : Pos} (h : JE G X W a ma) : JE G X W (.UnaryOp .USub a pos) (eUn dNeg ma) :=
  pe_imp (pe_un un_neg h) fun σ H Q ⟨ι, M, δ, hr, er, f⟩ => ⟨ι, M, δ, hr, er, (Fin.bind f).mono fun x H1 ⟨ι1, M1, d1, ex1, hr1, r1, f1⟩ => by
    obtain ⟨r, e, f2⟩ := Fin.opt f1
    cases d1 <;> first
      | (cases e; done)
      | skip
    cases e
    exact ⟨_, r1, f2 _ H1 ι1 (Ext.refl _ _) hr1 rfl⟩⟩
def dLt : Op2 := dI0 fun i j => .bl (decide (i < j))
def dLe : Op2 := dI0 fun i j => .bl (decide (i ≤ j))
def dGt : Op2 := dI0 fun i j => .bl (decide (j < i))
def dGe : Op2 := dI0 fun i j => .bl (decide (j ≤ i))
theorem jo_lt : JO G X (compareOp .Lt) dLt := jo_I0 op_lt fun _ _ _ _ => rfl
theorem jo_le : JO G X (compareOp .LtE) dLe := jo_I0 op_le fun _ _ _ _ => rfl
theorem jo_gt : JO G X (compareOp .Gt) dGt := jo_I0 op_gt fun _ _ _ _ => rfl
theorem jo_ge : JO G X (compareOp .GtE) dGe := jo_I0 op_ge fun _ _ _ _ => rfl
mutual
def toP : D → Option PyData
  | .non => some .none
  | .bl b => some (.bool b)
  | .int i => some (.int i)
  | .str x => some (.str x)
  | .tup xs => (toPs xs).map .tuple
  | .lst xs => (toPs xs).map .list
  | .rol xs => (toPs xs).map .list
  | .ctu xs => (toPs xs).map .tuple
  | _ => none
def toPs : List D → Option (List PyData)
  | [] => some []
  | x :: xs => match toP x, toPs xs with | some p, some ps => some (p :: ps) | _, _ => none
end
mutual
theorem toP_ok : ∀ {d : D} {v : V} {p : PyData}, R G H ι d v → toP d = some p → Dp G.K H v p
  | .non, v, p, r, e => by have r : v = _ := r; subst r; cases e; exact .non
  | .bl b, v, p, r, e => by have r : v = _ := r; subst r; cases e; exact .bl b
  | .int i, v, p, r, e => by have r : v = _ := r; subst r; cases e; exact .int i
  | .str x, v, p, r, e => by have r : v = _ := r; subst r; cases e; exact .str x
  | .tup xs, v, p, ⟨a, vs, e1, q, r⟩, e => by
    subst e1
    simp only [toP, Option.map_eq_some_iff] at e
    obtain ⟨ps, e2, e3⟩ := e
    subst e3
    exact .tup (.of q) (toPs_ok r e2)
  | .ctu xs, v, p, ⟨a, vs, e1, q, r⟩, e => by
    subst e1
    simp only [toP, Option.map_eq_some_iff] at e
    obtain ⟨ps, e2, e3⟩ := e
    subst e3
    exact .tup (q H) (toPs_ok r e2)
  | .lst xs, v, p, ⟨a, vs, e1, q, r⟩, e => by
    subst e1
    simp only [toP, Option.map_eq_some_iff] at e
    obtain ⟨ps, e2, e3⟩ := e
    subst e3
    exact .lst (.inl (.inl q.1)) (toPs_ok r e2)
  | .rol xs, v, p, ⟨a, vs, e1, q, r⟩, e => by
    subst e1
    simp only [toP, Option.map_eq_some_iff] at e
    obtain ⟨ps, e2, e3⟩ := e
    subst e3
    exact .lst q.sq (toPs_ok r e2)
  | .mu _, _, _, _, e => by cases e
  | .clo _, _, _, _, e => by cases e
  | .fn _, _, _, _, e => by cases e
  | .ktu _, _, _, _, e => by cases e
  | .ob _, _, _, _, e => by cases e
  | .obx _ _ _, _, _, _, e => by cases e
  | .dk _, _, _, _, e => by cases e
theorem toPs_ok : ∀ {d : List D} {v : List V} {p : List PyData}, RA G H ι d v → toPs d = some p → DpAll G.K H v p
  | [], v, p, r, e => by have r : v = _ := r; subst r; cases e; exact .nil
  | x :: xs, v, p, ⟨u, w, e1, r1, r2⟩, e => by
    subst e1
    simp only [toPs] at e
    split at e
    · rename_i p1 ps e2 e3
      cases e
      exact .cons (toP_ok r1 e2) (toPs_ok r2 e3)
    · cases e
end
def dEqB (a b : D) : Option Bool := match toP a, toP b with
  | some p, some q => if SeqAt.shaped p = true ∧ SeqAt.shaped q = true then some (PyData.eqv p q) else none
  | _, _ => none
def dEq : Op2 := fun _ a b => (dEqB a b).map .bl
def dNe : Op2 := fun _ a b => (dEqB a b).map fun k => .bl (!k)
theorem dEqB_ok {a b : D} {x y : V} {k : Bool} (ra : R G H ι a x) (rb : R G H ι b y) (e : dEqB a b = some k) : ∃ d e, Dp G.K H x d ∧ Dp G.K H y e ∧ SeqAt.shaped d = true ∧ SeqAt.shaped e = true ∧ PyData.eqv d e = k := by
  unfold dEqB at e
  split at e
  · rename_i p q e1 e2
    split at e
    · rename_i h
      cases e
      exact ⟨p, q, toP_ok ra e1, toP_ok rb e2, h.1, h.2, rfl⟩
    · cases e
  · cases e
theorem jo_eq (hK : X.K = G.K) (hu : X.A.units + 64 < cLine) : JO G X (compareOp .Eq) dEq := by
  refine opr_imp (op_eqD hu) fun x y H Q ⟨ι, M, a, b, r, hr, ra, rb, e, q⟩ => ?_
  simp only [dEq, Option.map_eq_some_iff] at e
  obtain ⟨k, e1, e2⟩ := e
  subst e2
  obtain ⟨d, e, h1, h2, h3, h4, h5⟩ := dEqB_ok ra rb e1
  exact ⟨d, e, by rw [hK]; exact h1, by rw [hK]; exact h2, h3, h4, q _ H ι (Ext.refl _ _) hr (by rw [h5]; rfl)⟩
theorem jo_ne (hK : X.K = G.K) (hu : X.A.units + 64 < cLine) : JO G X (compareOp .NotEq) dNe := by
  refine opr_imp (op_neD hu) fun x y H Q ⟨ι, M, a, b, r, hr, ra, rb, e, q⟩ => ?_
  simp only [dNe, Option.map_eq_some_iff] at e
  obtain ⟨k, e1, e2⟩ := e
  subst e2
  obtain ⟨d, e, h1, h2, h3, h4, h5⟩ := dEqB_ok ra rb e1
  exact ⟨d, e, by rw [hK]; exact h1, by rw [hK]; exact h2, h3, h4, q _ H ι (Ext.refl _ _) hr (by rw [h5]; rfl)⟩
def isNonD : D → Bool
  | .non => true
  | _ => false
def dIs : Op2 := fun _ a b => match b with | .non => some (.bl (isNonD a)) | _ => none
def dIsNot : Op2 := fun _ a b => match b with | .non => some (.bl (!isNonD a)) | _ => none
theorem isNon_ok {a : D} {x : V} (r : R G H ι a x) : decide (x = .non) = isNonD a := by
  cases a <;> first
    | (obtain rfl : x = _ := r; rfl)
    | (obtain ⟨_, _, rfl, _⟩ := r; rfl)
    | (obtain ⟨_, rfl, _⟩ := r; rfl)
    | (obtain ⟨_, _, _, rfl, _⟩ := r; rfl)
    | (obtain ⟨rfl, _⟩ := r; rfl)
theorem jo_is : JO G X (compareOp .Is) dIs := by
  refine opr_imp op_isN fun x y H Q ⟨ι, M, a, b, r, hr, ra, rb, e, q⟩ => ?_
  cases b <;> first
    | (cases e; done)
    | skip
  cases e
  exact ⟨rb, q _ H ι (Ext.refl _ _) hr (by rw [isNon_ok ra]; rfl)⟩
def flatD : D → Bool
  | .non => true
  | .bl _ => true
  | .int _ => true
  | .str _ => true
  | _ => false
def eqvD (a b : D) : Bool := match a, b with
  | .non, .non => true
  | .bl a, .bl b => a == b
  | .bl a, .int b => (if a then 1 else 0) == b
  | .int a, .bl b => a == (if b then 1 else 0)
  | .int a, .int b => a == b
  | .str x, .str y => x == y
  | _, _ => false
theorem flat_ok {a : D} {x : V} (r : R G H ι a x) (f : flatD a = true) : flatV x = true := by
  cases a <;> first
    | (cases f; done)
    | (obtain rfl : x = _ := r; rfl)
theorem eqv_ok {a b : D} {x y : V} (ra : R G H ι a x) (rb : R G H ι b y) (fa : flatD a = true) (fb : flatD b = true) : eqV x y = eqvD a b := by
  cases a <;> cases b <;> first
    | (cases fa; done)
    | (cases fb; done)
    | (obtain rfl : x = _ := ra; obtain rfl : y = _ := rb; rfl)
theorem flats_ok : ∀ {xs : List D} {vs : List V}, RA G H ι xs vs → xs.all flatD = true → vs.all flatV = true
  | [], _, r, _ => by have r : _ = [] := r; subst r; rfl
  | _ :: _, _, ⟨v, w, e, r, t⟩, h => by
    subst e
    simp only [List.all_cons, Bool.and_eq_true] at h ⊢
    exact ⟨flat_ok r h.1, flats_ok t h.2⟩
theorem any_ok {a : D} {x : V} (ra : R G H ι a x) (fa : flatD a = true) : ∀ {xs : List D} {vs : List V}, RA G H ι xs vs → xs.all flatD = true → inV x vs = xs.any fun y => eqvD y a
  | [], _, r, _ => by have r : _ = [] := r; subst r; rfl
  | y :: _, _, ⟨v, w, e, r, t⟩, h => by
    subst e
    simp only [List.all_cons, Bool.and_eq_true] at h
    have ih := any_ok ra fa t h.2
    unfold inV at ih ⊢
    rw [List.any_cons, List.any_cons, ih, eqv_ok r ra h.1 fa]
def dInB (M : Mem) (a b : D) : Option Bool := match seqA M b with
  | some xs => if flatD a = true ∧ xs.all flatD = true then some (xs.any fun y => eqvD y a) else none
  | none => none
def dIn : Op2 := fun M a b => (dInB M a b).map .bl
def dNotIn : Op2 := fun M a b => (dInB M a b).map fun k => .bl (!k)
theorem dInB_ok {a b : D} {x y : V} {k : Bool} (hr : HRel G H ι M) (ra : R G H ι a x) (rb : R G H ι b y) (e : dInB M a b = some k) :
    ∃ p xs, y = .ref p ∧ (SqL G.K H p xs ∨ SqT G.K H p xs) ∧ flatV x = true ∧ xs.all flatV = true ∧ inV x xs = k := by
  unfold dInB at e
  split at e
  · rename_i xs e1
    split at e
    · rename_i h
      cases e
      obtain ⟨p, vs, h1, h2, h3⟩ := seqA_ok hr rb e1
      exact ⟨p, vs, h1, h2, flat_ok ra h.1, flats_ok h3 h.2, any_ok ra h.1 h3 h.2⟩
    · cases e
  · cases e
theorem jo_in (hK : X.K = G.K) : JO G X (compareOp .In) dIn := by
  refine opr_imp op_in_seq fun x y H Q ⟨ι, M, a, b, r, hr, ra, rb, e, q⟩ => ?_
  simp only [dIn, Option.map_eq_some_iff] at e
  obtain ⟨k, e1, e2⟩ := e
  subst e2
  obtain ⟨p, xs, h1, h2, h3, h4, h5⟩ := dInB_ok hr ra rb e1
  exact ⟨p, xs, h1, by rw [hK]; exact h2, h3, h4, q _ H ι (Ext.refl _ _) hr (by rw [h5]; rfl)⟩
theorem atI_RA {xs : List D} {vs : List V} {i : Int} {x : D} (r : RA G H ι xs vs) (e : atI xs i = some x) : ∃ u, atI vs i = some u ∧ R G H ι x u := by
  unfold atI at e ⊢
  rw [← r.len]
  cases h : ixN xs.length i with
  | none => rw [h] at e; cases e
  | some j => rw [h] at e; exact RA.get r e
def dIx : Op2 := fun M a b => match b with
  | .int i => match seqA M a with
    | some xs => atI xs i
    | none => match a with
      | .str z => if z.length ≤ sizeLine then (atI z.cps.toList i).map fun c => .str ⟨#[c]⟩ else none
      | _ => none
  | _ => none
theorem je_ix {a b : Expr} {ma mb : E D} {pos : Pos} (hK : X.K = G.K) (ha : JE G X W a ma) (hb : JE G X W b mb) (hs : PlainIx b) : JE G X W (.Subscript a b pos) (eBin dIx ma mb) :=
  pe_imp (pe_ix ix_seq ha hb hs) fun σ H Q h => by
    have h := rd_bin h
    obtain ⟨ι, M, δ, hr, er, f⟩ := h
    refine ⟨ι, M, δ, hr, er, f.mono fun x H1 f1 => ?_⟩
    obtain ⟨ι1, M1, δ1, hr1, er1, f1⟩ := f1
    refine ⟨ι1, M1, δ1, hr1, er1, f1.mono fun y H2 ⟨ι2, M2, a, b, r, hr2, ra, rb, e, q⟩ => ?_⟩
    rw [hK]
    cases b <;> first
      | (cases e; done)
      | skip
    obtain rfl : y = _ := rb
    simp only [dIx] at e
    cases e1 : seqA M2 a with
    | some xs =>
      rw [e1] at e
      obtain ⟨p, vs, h1, h2, h3⟩ := seqA_ok hr2 ra e1
      obtain ⟨u, h4, h5⟩ := atI_RA h3 e
      have q1 := q u H2 ι2 (Ext.refl _ _) hr2 h5
      rcases h2 with h2 | h2
      · exact .inl ⟨p, vs, _, u, h1, rfl, h2, h4, q1⟩
      · exact .inr (.inl ⟨p, vs, _, u, h1, rfl, h2, h4, q1⟩)
    | none =>
      rw [e1] at e
      cases a <;> first
        | (cases e; done)
        | skip
      dsimp only at e
      split at e
      · rename_i hl
        simp only [Option.map_eq_some_iff] at e
        obtain ⟨c, e2, e3⟩ := e
        subst e3
        exact .inr (.inr ⟨_, _, c, ra, rfl, hl, e2, q _ H2 ι2 (Ext.refl _ _) hr2 rfl⟩)
      · cases e
def cutD (xs : List D) (lo hi : Option Int) : List D := (xs.drop (HT.sIx xs.length 0 lo)).take (HT.sIx xs.length xs.length hi - HT.sIx xs.length 0 lo)
def eO := DEnv → Mem → Out (Option Int)
def oNone : eO := fun _ M => .ok none M
def oSome (a : E D) : eO := fun δ M => (a δ M).bind fun x M1 => match x with | .int i => .ok (some i) M1 | _ => .undef
def relO : Rel (Option Int) (Option Int) := fun _ _ _ a b => a = b
abbrev JOp (G : Sg) (X : Cx) (W : WX) (o : Option Expr) (m : eO) : Prop := PO X o (rd relO G W m)
theorem po_imp {o : Option Expr} {t t' : TO} (h : PO X o t) (k : ∀ σ H Q, t' σ H Q → t σ H Q) : PO X o t' := ⟨fun pins s σ H Q I q => h.run pins s σ H Q I (k σ H Q q)⟩
theorem jop_none : JOp G X W none oNone := po_imp po_none fun σ H Q ⟨ι, M, δ, hr, er, f⟩ => f none H ι (Ext.refl _ _) hr rfl
theorem jop_some {a : Expr} {m : E D} (h : JE G X W a m) : JOp G X W (some a) (oSome m) := po_imp (po_some h) fun σ H Q ⟨ι, M, δ, hr, er, f⟩ =>
  ⟨ι, M, δ, hr, er, (Fin.bind f).mono fun x H1 ⟨ι1, M1, d1, ex1, hr1, r1, f1⟩ => by
    cases d1 <;> first
      | exact f1.elim
      | skip
    exact ⟨_, r1, f1 _ H1 ι1 (Ext.refl _ _) hr1 rfl⟩⟩
def dCut (M : Mem) (a : D) (lo hi : Option Int) : Option D := match a with
  | .tup xs => some (.tup (cutD xs lo hi))
  | _ => (seqL M a).map fun xs => .lst (cutD xs lo hi)
def eSl (a : E D) (l h : eO) : E D := fun δ M => (a δ M).bind fun x M1 => (l δ M1).bind fun lo M2 => (h δ M2).bind fun hi M3 => Out.opt (dCut M3 x lo hi) M3
theorem cut_RA {xs : List D} {vs : List V} (r : RA G H ι xs vs) (lo hi : Option Int) : RA G H ι (cutD xs lo hi) (cutV vs lo hi) := by
  unfold cutD cutV
  rw [r.len]
  exact (r.drop _).take _
theorem je_sl {a : Expr} {lo hi : Option Expr} {ma : E D} {ml mh : eO} {p2 pos : Pos} (hK : X.K = G.K) (ha : JE G X W a ma) (hl : JOp G X W lo ml) (hh : JOp G X W hi mh) : JE G X W (.Subscript a (.Slice lo hi none p2) pos) (eSl ma ml mh) :=
  pe_imp (pe_slice (sl_tupA.or sl_list) ha hl hh) fun σ H Q ⟨ι, M, δ, hr, er, f⟩ =>
    ⟨ι, M, δ, hr, er, (Fin.bind f).mono fun x H1 ⟨ι1, M1, d1, ex1, hr1, r1, f1⟩ => ⟨ι1, M1, δ, hr1, er.ext hr ex1, (Fin.bind f1).mono fun lo H2 ⟨ι2, M2, l2, ex2, hr2, r2, f2⟩ =>
      ⟨ι2, M2, δ, hr2, (er.ext hr ex1).ext hr1 ex2, (Fin.bind f2).mono fun hi H3 ⟨ι3, M3, l3, ex3, hr3, r3, f3⟩ => by
        obtain ⟨r, e, f4⟩ := Fin.opt f3
        have r2 : l2 = lo := r2
        have r3 : l3 = hi := r3
        subst r2 r3
        have rx := (R.ext hr1 ex2 r1).ext hr2 ex3
        rw [hK]
        have lis : ∀ {xs}, seqL M3 d1 = some xs → r = .lst (cutD xs l2 l3) → rSlL G.K x l2 l3 H3 Q := fun {xs} e1 e2 => by
          subst e2
          obtain ⟨p, vs, h1, h2, h3⟩ := seqL_ok hr3 rx e1
          exact ⟨p, vs, h1, h2, fun p np => f4 _ _ ι3 (Ext.fresh np) (hr3.fresh np) ⟨p, _, rfl, ⟨upd_same, hr3.out np⟩, RA.ext hr3 (Ext.fresh np) (cut_RA h3 _ _)⟩⟩
        cases d1 with
        | tup xs =>
          cases e
          obtain ⟨p, vs, h1, h2, h3⟩ := rx
          refine .inl ⟨p, vs, h1, .of h2, fun hw => ?_, fun _ p np => f4 _ _ ι3 (Ext.fresh np) (hr3.fresh np) ⟨p, _, rfl, upd_same, RA.ext hr3 (Ext.fresh np) (cut_RA h3 _ _)⟩⟩
          refine f4 _ _ ι3 (Ext.refl _ _) hr3 ⟨p, vs, rfl, h2, ?_⟩
          have : cutD xs l2 l3 = xs := by
            unfold cutD
            rw [h3.len, hw.1, hw.2, ← h3.len]
            simp
          rw [this]
          exact h3
        | _ =>
          simp only [dCut, Option.map_eq_some_iff] at e
          obtain ⟨xs, e1, e2⟩ := e
          exact .inr (lis e1 e2.symm)⟩⟩⟩
theorem rd_call {m : E (List D)} {f : List D → Mem → Out D} {σ : L2.St} {Q : VK} {r : List V → Hp → VK → Prop} (h : rd relD G W (eCall f m) σ H Q)
    (k : ∀ (vs : List V) (H1 : Hp) (ι1 : Io) (M1 : Mem) (ds : List D), HRel G H1 ι1 M1 → RA G H1 ι1 ds vs → Fin relD G H1 ι1 Q (fun c d H' => W c d σ H') (f ds M1) → r vs H1 Q) : tCB r (rd relA G W m) σ H Q := by
  obtain ⟨ι, M, δ, hr, er, f⟩ := h
  exact ⟨ι, M, δ, hr, er, (Fin.bind f).mono fun vs H1 ⟨ι1, M1, d1, ex1, hr1, r1, f1⟩ => k vs H1 ι1 M1 d1 hr1 r1 f1⟩
def fLen : List D → Mem → Out D := fun ds M => match ds with
  | [d] => match seqA M d with
    | some xs => .ok (.int xs.length) M
    | none => match d with
      | .str y => if y.length ≤ sizeLine then .ok (.int y.length) M else .undef
      | _ => .undef
  | _ => .undef
theorem RA.one {d : D} {vs : List V} (r : RA G H ι [d] vs) : ∃ v, vs = [v] ∧ R G H ι d v := by
  obtain ⟨v, w, e, r, t⟩ := r
  have t : w = [] := t
  subst t
  exact ⟨v, e, r⟩
theorem RA.two {d e : D} {vs : List V} (r : RA G H ι [d, e] vs) : ∃ v w, vs = [v, w] ∧ R G H ι d v ∧ R G H ι e w := by
  obtain ⟨v, w, e1, r, t⟩ := r
  obtain ⟨w2, e2, t2⟩ := RA.one t
  subst e2
  exact ⟨v, w2, e1, r, t2⟩
theorem ok_fin {α β : Type} {rel : Rel α β} {Q : β → Hp → Prop} {Ex : XK} {a : α} {M : Mem} {v : β} (hr : HRel G H ι M) (f : Fin rel G H ι Q Ex (.ok a M)) (r : rel G H ι a v) : Q v H := f v H ι (Ext.refl _ _) hr r
theorem je_len {e : Expr} {m : E (List D)} {p pos : Pos} (hK : X.K = G.K) (hg : Gl X "len") (hm : X.mg "len" = none) (ha : JA G X W [e] m) (he : starEach [e] X.env = (false, eval e X.env) :: starEach [] X.env := by rfl) :
    JE G X W (.Call (.Name "len" p) [e] [] pos) (eCall fLen m) :=
  pe_imp (pe_callB call_len hg hm boot_len ha (by decide) (by decide) he) fun σ H Q h => rd_call h fun vs H1 ι1 M1 ds hr r f => by
    rcases ds with _ | ⟨d, _ | ⟨d2, ds⟩⟩
    · exact f.elim
    rotate_left
    · exact f.elim
    · obtain ⟨v, e1, rv⟩ := r.one
      clear r
      subst e1
      have r := rv
      simp only [fLen] at f
      rw [hK]
      cases e2 : seqA M1 d with
      | some xs =>
        rw [e2] at f
        obtain ⟨p, ws, h1, h2, h3⟩ := seqA_ok hr r e2
        subst h1
        refine ⟨_, xs.length, rfl, ?_, ok_fin hr f rfl⟩
        rcases h2 with h2 | h2
        · exact .inl ⟨ws, h2, h3.len⟩
        · exact .inr ⟨ws, h2, h3.len⟩
      | none =>
        rw [e2] at f
        cases d <;> first
          | exact f.elim
          | skip
        dsimp only at f
        split at f
        · rename_i hl
          obtain rfl : v = _ := r
          exact ⟨_, _, rfl, ⟨hl, rfl⟩, ok_fin hr f rfl⟩
        · exact f.elim
def fInt : List D → Mem → Out D := fun ds M => match ds with
  | [.int i] => .ok (.int i) M
  | [.bl k] => .ok (.int (if k then 1 else 0)) M
  | _ => .undef
theorem je_intc {e : Expr} {m : E (List D)} {p pos : Pos} (hg : Gl X "int") (hm : X.mg "int" = none) (ha : JA G X W [e] m) (he : starEach [e] X.env = (false, eval e X.env) :: starEach [] X.env := by rfl) :
    JE G X W (.Call (.Name "int" p) [e] [] pos) (eCall fInt m) :=
  pe_imp (pe_callTy call_int1 hg hm boot_int ha (by decide) (by decide) he) fun σ H Q h => rd_call h fun vs H1 ι1 M1 ds hr r f => by
    rcases ds with _ | ⟨d, _ | ⟨d2, ds⟩⟩
    · exact f.elim
    rotate_left
    · cases d <;> exact f.elim
    · obtain ⟨v, e1, rv⟩ := r.one
      clear r
      subst e1
      have r := rv
      cases d <;> first
        | exact f.elim
        | (obtain rfl : v = _ := r)
      · exact .inr ⟨_, rfl, ok_fin hr f rfl⟩
      · exact .inl ⟨_, rfl, ok_fin hr f rfl⟩
def intD : D → Option Int
  | .int i => some i
  | _ => none
def fSum : List D → Mem → Out D := fun ds M => match ds with
  | [d] => match seqL M d with
    | some xs => match xs.mapM intD with
      | some ns => .ok (.int ns.sum) M
      | none => .undef
    | none => .undef
  | _ => .undef
def fList : List D → Mem → Out D := fun ds M => match ds with
  | [d] => match seqA M d with
    | some xs => .ok (.lst xs) M
    | none => .undef
  | _ => .undef
def tupL (M : Mem) : Option (List D) → Out D
  | some xs => .ok (.tup xs) M
  | none => .undef
def fTuple : List D → Mem → Out D := fun ds M => match ds with
  | [.tup xs] => .ok (.tup xs) M
  | [d] => tupL M (seqL M d)
  | _ => .undef
theorem je_list {e : Expr} {m : E (List D)} {p pos : Pos} (hK : X.K = G.K) (hg : Gl X "list") (hm : X.mg "list" = none) (ha : JA G X W [e] m) (he : starEach [e] X.env = (false, eval e X.env) :: starEach [] X.env := by rfl) :
    JE G X W (.Call (.Name "list" p) [e] [] pos) (eCall fList m) :=
  pe_imp (pe_callTy call_list_of hg hm boot_list ha (by decide) (by decide) he) fun σ H Q h => rd_call h fun vs H1 ι1 M1 ds hr r f => by
    rcases ds with _ | ⟨d, _ | ⟨d2, ds⟩⟩
    · exact f.elim
    rotate_left
    · exact f.elim
    · obtain ⟨v, e1, rv⟩ := r.one
      clear r
      subst e1
      have r := rv
      simp only [fList] at f
      rw [hK]
      cases e2 : seqA M1 d with
      | none => rw [e2] at f; exact f.elim
      | some xs =>
        rw [e2] at f
        obtain ⟨p, ws, h1, h2, h3⟩ := seqA_ok hr r e2
        subst h1
        exact ⟨p, ws, rfl, h2, fun l nl => f _ _ ι1 (Ext.fresh nl) (hr.fresh nl) ⟨l, ws, rfl, ⟨upd_same, hr.out nl⟩, RA.ext hr (Ext.fresh nl) h3⟩⟩
theorem je_tuple {e : Expr} {m : E (List D)} {p pos : Pos} (hK : X.K = G.K) (hg : Gl X "tuple") (hm : X.mg "tuple" = none) (ha : JA G X W [e] m) (he : starEach [e] X.env = (false, eval e X.env) :: starEach [] X.env := by rfl) :
    JE G X W (.Call (.Name "tuple" p) [e] [] pos) (eCall fTuple m) :=
  pe_imp (pe_callTy call_tuple_of hg hm (by decide +kernel) ha (by decide) (by decide) he) fun σ H Q h => rd_call h fun vs H1 ι1 M1 ds hr r f => by
    rcases ds with _ | ⟨d, _ | ⟨d2, ds⟩⟩
    · exact f.elim
    rotate_left
    · cases d <;> exact f.elim
    · obtain ⟨v, e1, rv⟩ := r.one
      clear r
      subst e1
      have r := rv
      rw [hK]
      have lis : Fin relD G H1 ι1 Q (fun c d H' => W c d σ H') (tupL M1 (seqL M1 d)) → ∃ a xs, [v] = [.ref a] ∧ ((SqL G.K H1 a xs ∧ ∀ l, H1 l = none → Q (.ref l) (upd H1 l (.tup xs))) ∨ (SqT G.K H1 a xs ∧ Q (.ref a) H1)) := fun f => by
        cases e2 : seqL M1 d with
        | none => rw [e2] at f; exact f.elim
        | some xs =>
          rw [e2] at f
          obtain ⟨p, ws, h1, h2, h3⟩ := seqL_ok hr r e2
          subst h1
          exact ⟨p, ws, rfl, .inl ⟨h2, fun l nl => f _ _ ι1 (Ext.fresh nl) (hr.fresh nl) ⟨l, ws, rfl, upd_same, RA.ext hr (Ext.fresh nl) h3⟩⟩⟩
      cases d with
      | tup xs =>
        obtain ⟨p, ws, h1, h2, h3⟩ := r
        subst h1
        exact ⟨p, ws, rfl, .inr ⟨.of h2, ok_fin hr f ⟨p, ws, rfl, h2, h3⟩⟩⟩
      | _ => exact lis f
def tyN (M : Mem) : D → Option String
  | .non => some "NoneType"
  | .bl _ => some "bool"
  | .int _ => some "int"
  | .str _ => some "str"
  | .tup _ => some "tuple"
  | .ctu _ => some "tuple"
  | .lst _ => some "list"
  | .dk _ => some "dict"
  | .mu n => match M[n]? with | some (.lst _) => some "list" | some (.dk _) => some "dict" | some (.dt _) => some "dict" | _ => none
  | _ => none
theorem tyN_ok {d : D} {v : V} {n : String} (hr : HRel G H ι M) (r : R G H ι d v) (e : tyN M d = some n) : TyX G.K H v (.type n) := by
  cases d with
  | non => obtain rfl : v = _ := r; cases e; exact .base .non
  | bl b => obtain rfl : v = _ := r; cases e; exact .base (.bl b)
  | int b => obtain rfl : v = _ := r; cases e; exact .base (.int b)
  | str b => obtain rfl : v = _ := r; cases e; exact .base (.str b)
  | tup xs =>
    cases e
    obtain ⟨p, ws, rfl, q, _⟩ := r
    exact .base (.tup q)
  | ctu xs =>
    cases e
    obtain ⟨p, ws, rfl, q, _⟩ := r
    rcases q H with (q | ⟨o, q⟩) | ⟨o, its, m, hk, hc, _⟩
    · exact .base (.tup q)
    · exact .fTuple q
    · exact .kTuple hk hc
  | lst xs => cases e; obtain ⟨p, ws, rfl, q, _⟩ := r; exact .base (.lst q.1)
  | dk xs =>
    cases e
    obtain ⟨p, ws, rfl, ⟨q, _⟩, _⟩ := r
    rcases q with q | ⟨o, q⟩
    · exact .base (.dK q)
    · exact .fDict q
  | mu m =>
    obtain ⟨a, rfl, q⟩ := r
    simp only [tyN] at e
    split at e
    · rename_i xs e1
      cases e
      obtain ⟨vs, h1, _⟩ := hr.obj m a _ q e1
      exact .base (.lst h1)
    · rename_i xs e1
      cases e
      obtain ⟨vs, h1, _⟩ := hr.obj m a _ q e1
      exact .base (.dK h1)
    · rename_i xs e1
      cases e
      obtain ⟨vs, h1, _⟩ := hr.obj m a _ q e1
      exact .base (.dT h1)
    · cases e
  | _ => cases e
def isaT : List (String × String × Bool) :=
  (["NoneType", "bool", "int", "str", "tuple", "list", "dict"].flatMap fun a => ["bool", "int", "str", "tuple", "list", "dict"].map fun b => (a, b, a == b || (a == "bool" && b == "int")))
def isa (a b : String) : Option Bool := (isaT.find? fun p => p.1 == a && p.2.1 == b).map (·.2.2)
theorem isa_all : isaT.all (fun p => kitB p.1 p.2.1 == some p.2.2) = true := by decide +kernel
theorem isa_ok {a b : String} {r : Bool} (e : isa a b = some r) : kitB a b = some r := by
  unfold isa at e
  simp only [Option.map_eq_some_iff] at e
  obtain ⟨p, e1, e2⟩ := e
  have h1 := List.mem_of_find?_eq_some e1
  have h2 := List.find?_some e1
  simp only [Bool.and_eq_true, beq_iff_eq] at h2
  have h3 := List.all_eq_true.mp isa_all p h1
  rw [← h2.1, ← h2.2, ← e2]
  simpa using h3
def fIsi (T : String) (M : Mem) (d : D) : Option D := match tyN M d with | some n => (isa n T).map .bl | none => none
def eIsi (T : String) (a : E D) : E D := fun δ M => (a δ M).bind fun x M1 => Out.opt (fIsi T M1 x) M1
theorem je_isi {e : Expr} {T : String} {x : Str} {m : E D} {p p2 pos : Pos} (hK : X.K = G.K) (hg : Gl X "isinstance") (hm : X.mg "isinstance" = none) (hg2 : Gl X x) (hm2 : X.mg x = none) (hb2 : bootBuiltins x = some (.type T)) (ha : JE G X W e m)
    (hn : x ≠ "__name__" := by decide) (hd : (x == ("__debug__" : Str)) = false := by decide)
    (he : starEach [e, .Name x p2] X.env = (false, eval e X.env) :: starEach [.Name x p2] X.env := by rfl) (he2 : starEach [.Name x p2] X.env = (false, eval (.Name x p2) X.env) :: starEach [] X.env := by rfl)
    (hpl : (backTo pos (starEach [.Name x p2] X.env)).any (·.1) = false := by rfl) :
    JE G X W (.Call (.Name "isinstance" p) [e, .Name x p2] [] pos) (eIsi T m) :=
  pe_imp (pe_callB call_isi hg hm (by decide +kernel) (pa_cons ha (pa_cons (pe_bltn (v := .ty T) hg2 hm2 hb2 rfl hn hd) pa_nil he2) he) (by decide) (by decide) he hpl) fun σ H Q ⟨ι, M, δ, hr, er, f⟩ =>
    ⟨ι, M, δ, hr, er, (Fin.bind f).mono fun x H1 ⟨ι1, M1, d1, ex1, hr1, r1, f1⟩ => by
      obtain ⟨r, e1, f2⟩ := Fin.opt f1
      simp only [fIsi] at e1
      split at e1
      · rename_i n e2
        simp only [Option.map_eq_some_iff] at e1
        obtain ⟨k, e3, e4⟩ := e1
        subst e4
        exact ⟨x, _, .type n, .type T, k, rfl, .ty T, by rw [hK]; exact tyN_ok hr1 r1 e2, kit_ty (isa_ok e3), f2 _ H1 ι1 (Ext.refl _ _) hr1 rfl⟩
      · cases e1⟩
def fIsi2 (T U : String) (M : Mem) (d : D) : Option D := match tyN M d with
  | some n => match isa n T, isa n U with | some a, some b => some (.bl (a || b)) | _, _ => none
  | none => none
def eIsi2 (T U : String) (a : E D) : E D := fun δ M => (a δ M).bind fun x M1 => Out.opt (fIsi2 T U M1 x) M1
theorem je_isi2 {e : Expr} {T U : String} {x y : Str} {m : E D} {x1} {p p2 p3 p4 pos : Pos} (hK : X.K = G.K) (hg : Gl X "isinstance") (hm : X.mg "isinstance" = none) (hg2 : Gl X x) (hm2 : X.mg x = none) (hb2 : bootBuiltins x = some (.type T))
    (hg3 : Gl X y) (hm3 : X.mg y = none) (hb3 : bootBuiltins y = some (.type U)) (ha : JE G X W e m)
    (hn : x ≠ "__name__" := by decide) (hd : (x == ("__debug__" : Str)) = false := by decide) (hn3 : y ≠ "__name__" := by decide) (hd3 : (y == ("__debug__" : Str)) = false := by decide)
    (he : starEach [e, .Tuple [.Name x p2, .Name y p3] x1 p4] X.env = (false, eval e X.env) :: starEach [.Tuple [.Name x p2, .Name y p3] x1 p4] X.env := by rfl)
    (he2 : starEach [.Tuple [.Name x p2, .Name y p3] x1 p4] X.env = (false, eval (.Tuple [.Name x p2, .Name y p3] x1 p4) X.env) :: starEach [] X.env := by rfl)
    (he3 : starEach [.Name x p2, .Name y p3] X.env = (false, eval (.Name x p2) X.env) :: starEach [.Name y p3] X.env := by rfl)
    (he4 : starEach [.Name y p3] X.env = (false, eval (.Name y p3) X.env) :: starEach [] X.env := by rfl)
    (hpl : (backTo pos (starEach [.Tuple [.Name x p2, .Name y p3] x1 p4] X.env)).any (·.1) = false := by rfl) :
    JE G X W (.Call (.Name "isinstance" p) [e, .Tuple [.Name x p2, .Name y p3] x1 p4] [] pos) (eIsi2 T U m) :=
  pe_imp (pe_callB call_isiT hg hm (by decide +kernel) (pa_cons ha (pa_cons (pe_tup (pa_cons (pe_bltn (v := .ty T) hg2 hm2 hb2 rfl hn hd) (pa_cons (pe_bltn (v := .ty U) hg3 hm3 hb3 rfl hn3 hd3) pa_nil he4) he3)) pa_nil he2) he) (by decide) (by decide) he hpl) fun σ H Q ⟨ι, M, δ, hr, er, f⟩ =>
    ⟨ι, M, δ, hr, er, (Fin.bind f).mono fun x H1 ⟨ι1, M1, d1, ex1, hr1, r1, f1⟩ => by
      obtain ⟨r, e1, f2⟩ := Fin.opt f1
      simp only [fIsi2] at e1
      split at e1
      · rename_i n e2
        split at e1
        · rename_i a b e3 e4
          cases e1
          refine ⟨(by decide : 2 ≤ sizeLine), fun p np => ?_⟩
          refine ⟨x, p, [.ty T, .ty U], .type n, [.type T, .type U], a || b, rfl, upd_same, .cons (.ty T) (.cons (.ty U) .nil), ?_, ?_, f2 _ _ ι1 (Ext.fresh np) (hr1.fresh np) rfl⟩
          · rw [hK]
            exact tyN_ok (hr1.fresh np) (R.ext hr1 (Ext.fresh np) r1) e2
          · exact kitAny_cons (kit_ty (isa_ok e3)) (fun ha => kitAny_cons (kit_ty (isa_ok e4)) (fun hb => by rw [ha, hb]; exact kitAny_nil) (fun hb => by rw [hb, Bool.or_true])) (fun ha => by rw [ha, Bool.true_or])
        · cases e1
      · cases e1⟩
end
end DL
namespace DL
open PySem PySem.Spec PyProof.Rows L2
theorem ExtW.updM {H : Hp} {ι : Io} {a : Addr} {o o' : HO} (ha : ι.has a) (e : H a = some o) : ExtW H ι (upd H a o') ι :=
  ⟨⟨[], by simp⟩, rfl, fun _ h => .inl h, fun b u hb _ h => by rw [upd_ne (fun z => hb (by rw [z]; exact ha))]; exact h, fun b h => by
    by_cases hb : b = a
    · rw [hb, upd_same] at h; cases h
    · rw [upd_ne hb] at h; exact h⟩
theorem Ext.updM {H : Hp} {ι : Io} {a : Addr} {o o' : HO} (ha : a ∈ ι.ix) (hw : a ∉ ι.wl) (e : H a = some o) : Ext H ι (upd H a o') ι :=
  ⟨ExtW.updM (.inl ha) e, fun b u hb h => by rw [upd_ne (fun z => hw (by rw [← z]; exact hb))]; exact h⟩
def Io.pushW (ι : Io) (p : Addr) : Io := ⟨ι.ix, p :: ι.wl⟩
section
variable {G : Sg} {H : Hp} {ι : Io} {p : Addr}
theorem has_drop {a : Addr} (h : ¬ (ι.pushW p).has a) : ¬ ι.has a := fun z => h (z.elim .inl fun z => .inr (List.mem_cons_of_mem _ z))
mutual
theorem R.drop : ∀ {d : D} {v : V}, R G H (ι.pushW p) d v → R G H ι d v
  | .non, _, r => r
  | .bl _, _, r => r
  | .int _, _, r => r
  | .str _, _, r => r
  | .tup xs, _, ⟨a, vs, e, q, r⟩ => ⟨a, vs, e, q, RA.drop0 r⟩
  | .ctu xs, _, ⟨a, vs, e, q, r⟩ => ⟨a, vs, e, q, RA.drop0 r⟩
  | .lst xs, _, ⟨a, vs, e, ⟨q, n⟩, r⟩ => ⟨a, vs, e, ⟨q, has_drop n⟩, RA.drop0 r⟩
  | .rol xs, _, ⟨a, vs, e, q, r⟩ => ⟨a, vs, e, q.elim (fun z => .inl ⟨z.1, has_drop z.2⟩) .inr, RA.drop0 r⟩
  | .mu n, _, ⟨a, e, q⟩ => ⟨a, e, q⟩
  | .clo k, _, ⟨a, c, t, e, ⟨q, n⟩, ⟨q1, n1⟩, z⟩ => ⟨a, c, t, e, ⟨q, has_drop n⟩, ⟨q1, has_drop n1⟩, z.elim .inl fun ⟨q2, n2⟩ => .inr ⟨q2, has_drop n2⟩⟩
  | .fn a, _, r => r
  | .ktu a, _, r => r
  | .ob a, _, r => r
  | .obx a dx fs, _, ⟨e, ws, q, n, pf⟩ => ⟨e, ws, q, has_drop n, pf⟩
  | .dk kvs, _, ⟨a, ws, e, ⟨q, n⟩, r⟩ => ⟨a, ws, e, ⟨q, has_drop n⟩, RD.drop0 r⟩
theorem RA.drop0 : ∀ {d : List D} {v : List V}, RA G H (ι.pushW p) d v → RA G H ι d v
  | [], _, r => r
  | _ :: _, _, ⟨v, r, e, q, t⟩ => ⟨v, r, e, R.drop q, RA.drop0 t⟩
theorem RD.drop0 : ∀ {d : List (L2.Key × D)} {v : List (L2.Key × V)}, RD G H (ι.pushW p) d v → RD G H ι d v
  | [], _, r => r
  | (_, _) :: _, _, ⟨v, r, e, q, t⟩ => ⟨v, r, e, R.drop q, RD.drop0 t⟩
end
theorem RT.drop0 : ∀ {d : List (List L2.Key × D)} {v : List (List L2.Key × V)}, RT G H (ι.pushW p) d v → RT G H ι d v
  | [], _, r => r
  | (_, _) :: _, _, ⟨v, r, e, q, t⟩ => ⟨v, r, e, R.drop q, RT.drop0 t⟩
theorem RF.drop0 : ∀ {d : List (Str × D)} {v : List (Str × V)}, RF G H (ι.pushW p) d v → RF G H ι d v
  | [], _, r => r
  | (_, _) :: _, _, ⟨v, r, e, q, t⟩ => ⟨v, r, e, R.drop q, RF.drop0 t⟩
theorem has_push {a : Addr} {o : HO} {u : HO} (hn : H p = none) (h : ¬ ι.has a) (e : H a = some o) : ¬ (ι.pushW p).has a := fun z => z.elim (fun z => h (.inl z)) fun z => (List.mem_cons.mp z).elim (fun z => by rw [z, hn] at e; cases e) fun z => h (.inr z)
mutual
theorem R.push {o : HO} (hr : ∀ a vs, Rd H a (.tup vs) → ¬ ι.has a) (hc : ∀ k a c t ps, G.cl k a c t ≠ .tbl ps) (hn : H p = none) : ∀ {d : D} {v : V}, R G H ι d v → R G (upd H p o) (ι.pushW p) d v
  | .non, _, r => r
  | .bl _, _, r => r
  | .int _, _, r => r
  | .str _, _, r => r
  | .tup xs, _, ⟨a, vs, e, q, r⟩ => ⟨a, vs, e, by rw [upd_ne (ne_of_none q hn)]; exact q, RA.push hr hc hn r⟩
  | .ctu xs, _, ⟨a, vs, e, q, r⟩ => ⟨a, vs, e, q, RA.push hr hc hn r⟩
  | .lst xs, _, ⟨a, vs, e, ⟨q, n⟩, r⟩ => ⟨a, vs, e, ⟨by rw [upd_ne (ne_of_none q hn)]; exact q, has_push (u := o) hn n q⟩, RA.push hr hc hn r⟩
  | .rol xs, _, ⟨a, vs, e, q, r⟩ => ⟨a, vs, e, q.elim (fun z => .inl ⟨z.1.elim (fun q => .inl (by rw [upd_ne (ne_of_none q hn)]; exact q)) fun ⟨u, q⟩ => .inr ⟨u, by rw [upd_ne (ne_of_none q hn)]; exact q⟩, let ⟨_, e⟩ := Rd.some z.1; has_push (u := o) hn z.2 e⟩) .inr, RA.push hr hc hn r⟩
  | .mu n, _, ⟨a, e, q⟩ => ⟨a, e, q⟩
  | .clo k, _, ⟨a, c, t, e, ⟨q, n⟩, ⟨q1, n1⟩, z⟩ => ⟨a, c, t, e, ⟨by rw [upd_ne (ne_of_none q hn)]; exact q, has_push (u := o) hn n q⟩, ⟨by rw [upd_ne (ne_of_none q1 hn)]; exact q1, has_push (u := o) hn n1 q1⟩, z.elim .inl fun ⟨q2, n2⟩ => .inr ⟨by rw [upd_ne (ne_of_none q2 hn)]; exact q2, has_push (u := o) hn n2 q2⟩⟩
  | .fn a, _, r => r
  | .ktu a, _, r => r
  | .ob a, _, r => r
  | .obx a dx fs, _, ⟨e, ws, q, n, pf⟩ => ⟨e, ws, by rw [upd_ne (ne_of_none q hn)]; exact q, has_push (u := o) hn n q, pf⟩
  | .dk kvs, _, ⟨a, ws, e, ⟨q, n⟩, r⟩ => ⟨a, ws, e, ⟨q.elim (fun q => .inl (by rw [upd_ne (ne_of_none q hn)]; exact q)) fun ⟨u, q⟩ => .inr ⟨u, by rw [upd_ne (ne_of_none q hn)]; exact q⟩, let ⟨_, e⟩ := Rd.some q; has_push (u := o) hn n e⟩, RD.push hr hc hn r⟩
theorem RA.push {o : HO} (hr : ∀ a vs, Rd H a (.tup vs) → ¬ ι.has a) (hc : ∀ k a c t ps, G.cl k a c t ≠ .tbl ps) (hn : H p = none) : ∀ {d : List D} {v : List V}, RA G H ι d v → RA G (upd H p o) (ι.pushW p) d v
  | [], _, r => r
  | _ :: _, _, ⟨v, r, e, q, t⟩ => ⟨v, r, e, R.push hr hc hn q, RA.push hr hc hn t⟩
theorem RD.push {o : HO} (hr : ∀ a vs, Rd H a (.tup vs) → ¬ ι.has a) (hc : ∀ k a c t ps, G.cl k a c t ≠ .tbl ps) (hn : H p = none) : ∀ {d : List (L2.Key × D)} {v : List (L2.Key × V)}, RD G H ι d v → RD G (upd H p o) (ι.pushW p) d v
  | [], _, r => r
  | (_, _) :: _, _, ⟨v, r, e, q, t⟩ => ⟨v, r, e, R.push hr hc hn q, RD.push hr hc hn t⟩
end
theorem ER.push {o : HO} (hr : ∀ a vs, Rd H a (.tup vs) → ¬ ι.has a) (hc : ∀ k a c t ps, G.cl k a c t ≠ .tbl ps) (hn : H p = none) : ∀ {δ : DEnv} {σ : L2.St}, ER G H ι δ σ → ER G (upd H p o) (ι.pushW p) δ σ
  | [], _, r => r
  | none :: _, _, ⟨v, r, e, t⟩ => ⟨v, r, e, ER.push hr hc hn t⟩
  | some _ :: _, _, ⟨v, r, e, q, t⟩ => ⟨v, r, e, R.push hr hc hn q, ER.push hr hc hn t⟩
theorem RT.push {o : HO} (hr : ∀ a vs, Rd H a (.tup vs) → ¬ ι.has a) (hc : ∀ k a c t ps, G.cl k a c t ≠ .tbl ps) (hn : H p = none) : ∀ {d : List (List L2.Key × D)} {v : List (List L2.Key × V)}, RT G H ι d v → RT G (upd H p o) (ι.pushW p) d v
  | [], _, r => r
  | (_, _) :: _, _, ⟨v, r, e, q, t⟩ => ⟨v, r, e, R.push hr hc hn q, RT.push hr hc hn t⟩
theorem RF.push {o : HO} (hr : ∀ a vs, Rd H a (.tup vs) → ¬ ι.has a) (hc : ∀ k a c t ps, G.cl k a c t ≠ .tbl ps) (hn : H p = none) : ∀ {d : List (Str × D)} {v : List (Str × V)}, RF G H ι d v → RF G (upd H p o) (ι.pushW p) d v
  | [], _, r => r
  | (_, _) :: _, _, ⟨v, r, e, q, t⟩ => ⟨v, r, e, R.push hr hc hn q, RF.push hr hc hn t⟩
theorem HRel.pushW {M : Mem} {vs : List V} (h : HRel G H ι M) (hn : H p = none) : HRel G (upd H p (.lst vs)) (ι.pushW p) M := by
  have k : ∀ b u, H b = some u → upd H p (.lst vs) b = some u := fun b u e => by rw [upd_ne (ne_of_none e hn)]; exact e
  have ht : ∀ a vs, Rd H a (.tup vs) → ¬ ι.has a := fun a vs r => h.tupOut r
  refine ⟨h.nd, h.len, fun m a u e1 e2 => ?_, fun a ha => ?_, h.tabs.ext k, h.clo⟩
  · have q := h.obj m a u e1 e2
    cases u with
    | lst xs => obtain ⟨us, q, r⟩ := q; exact ⟨us, k _ _ q, RA.push ht h.clo hn r⟩
    | dk xs => obtain ⟨us, q, r⟩ := q; exact ⟨us, k _ _ q, RD.push ht h.clo hn r⟩
    | dt xs => obtain ⟨us, q, r⟩ := q; exact ⟨us, k _ _ q, RT.push ht h.clo hn r⟩
    | ins c fs => obtain ⟨dx, us, q, r⟩ := q; exact ⟨dx, us, k _ _ q, RF.push ht h.clo hn r⟩
  · rcases List.mem_cons.mp ha with rfl | ha
    · exact ⟨⟨vs, upd_same⟩, fun z => h.out hn (.inl z)⟩
    · obtain ⟨⟨us, e⟩, n⟩ := h.wlo a ha
      exact ⟨⟨us, k _ _ e⟩, n⟩
theorem HRel.dropW {M : Mem} (h : HRel G H (ι.pushW p) M) : HRel G H ι M := by
  refine ⟨h.nd, h.len, fun m a u e1 e2 => ?_, fun a ha => h.wlo a (List.mem_cons_of_mem _ ha), h.tabs, h.clo⟩
  have q := h.obj m a u e1 e2
  cases u with
  | lst xs => obtain ⟨us, q, r⟩ := q; exact ⟨us, q, RA.drop0 r⟩
  | dk xs => obtain ⟨us, q, r⟩ := q; exact ⟨us, q, RD.drop0 r⟩
  | dt xs => obtain ⟨us, q, r⟩ := q; exact ⟨us, q, RT.drop0 r⟩
  | ins c fs => obtain ⟨dx, us, q, r⟩ := q; exact ⟨dx, us, q, RF.drop0 r⟩
theorem HRel.updW {M : Mem} {vs ws : List V} (h : HRel G H (ι.pushW p) M) (e : H p = some (.lst vs)) : HRel G (upd H p (.lst ws)) (ι.pushW p) M := by
  have mem : (ι.pushW p).has p := .inr List.mem_cons_self
  have x : ExtW H (ι.pushW p) (upd H p (.lst ws)) (ι.pushW p) := ExtW.updM mem e
  have np : p ∉ ι.ix := (h.wlo p List.mem_cons_self).2
  refine ⟨h.nd, h.len, fun m a u e1 e2 => ?_, fun a ha => ?_, fun q hq => ?_, h.clo⟩
  · have hap : a ≠ p := fun z => np (z ▸ List.mem_of_getElem? e1)
    exact (h.obj m a u e1 e2).ext h x fun u q => by rw [upd_ne hap]; exact q
  · obtain ⟨⟨us, e1⟩, n⟩ := h.wlo a ha
    by_cases hap : a = p
    · exact ⟨⟨ws, by rw [hap, upd_same]⟩, n⟩
    · exact ⟨⟨us, by rw [upd_ne hap]; exact e1⟩, n⟩
  · obtain ⟨ps, q1, q2, q3⟩ := h.tabs q hq
    refine ⟨ps, by rw [upd_ne (ne_of q1 e fun z => by cases z)]; exact q1, q2, fun pos cv hc => ?_⟩
    obtain ⟨c, q4, q5⟩ := q3 pos cv hc
    exact ⟨c, q4, by rw [upd_ne (ne_of q5 e fun z => by cases z)]; exact q5⟩
def Ext2 (H1 : Hp) (ι1 : Io) (H : Hp) (ι : Io) : Prop := ExtW H1 ι1 H ι ∨ ∃ p vs, H1 p = none ∧ ExtW (upd H1 p (.lst vs)) (ι1.pushW p) H ι
theorem R.ext2 {H1 : Hp} {ι1 : Io} {M : Mem} (h : HRel G H1 ι1 M) (x : Ext2 H1 ι1 H ι) {d : D} {v : V} (r : R G H1 ι1 d v) : R G H ι d v := by
  rcases x with x | ⟨p, vs, hn, x⟩
  · exact r.extW h x
  · exact (R.push (fun _ _ z => h.tupOut z) h.clo hn r).extW (h.pushW hn) x
end
end DL
namespace DL
open PySem PySem.Spec PyProof.Rows L2
def FinS (G : Sg) (H : Hp) (ι : Io) (Z : Ends) (W : WX) : SO → Prop
  | .nx δ M => ∀ σ' H' ι', Ext H ι H' ι' → HRel G H' ι' M → ER G H' ι' δ σ' → Z.nx σ' H'
  | .bk δ M => ∀ σ' H' ι', Ext H ι H' ι' → HRel G H' ι' M → ER G H' ι' δ σ' → Z.bk σ' H'
  | .ct δ M => ∀ σ' H' ι', Ext H ι H' ι' → HRel G H' ι' M → ER G H' ι' δ σ' → Z.ct σ' H'
  | .rt d M => ∀ v H' ι', Ext H ι H' ι' → HRel G H' ι' M → R G H' ι' d v → Z.rt v H'
  | .exc e δ M => ∀ c d σ' H' ι', Ext H ι H' ι' → HRel G H' ι' M → ER G H' ι' δ σ' → XR G H' ι' e c d → W c d σ' H'
  | .undef => False
theorem FinS.ext {G : Sg} {H H1 : Hp} {ι ι1 : Io} {Z : Ends} {W : WX} {o : SO} (f : FinS G H ι Z W o) (x : Ext H ι H1 ι1) : FinS G H1 ι1 Z W o := by
  cases o with
  | nx δ M => exact fun v H' ι' e => f v H' ι' (x.trans e)
  | bk δ M => exact fun v H' ι' e => f v H' ι' (x.trans e)
  | ct δ M => exact fun v H' ι' e => f v H' ι' (x.trans e)
  | rt δ M => exact fun v H' ι' e => f v H' ι' (x.trans e)
  | exc a δ M => exact fun c d v H' ι' e => f c d v H' ι' (x.trans e)
  | undef => exact f
def rdS (G : Sg) (W : WX) (m : S) : TS := fun Z σ H => ∃ ι M δ, HRel G H ι M ∧ ER G H ι δ σ ∧ FinS G H ι Z W (m δ M)
abbrev JS (G : Sg) (X : Cx) (W : WX) (st : Stmt) (m : S) : Prop := PS X st (rdS G W m)
abbrev JSs (G : Sg) (X : Cx) (W : WX) (st : List Stmt) (m : S) : Prop := PSs X st (rdS G W m)
def sE {α : Type} (o : Out α) (δ : DEnv) (k : α → Mem → SO) : SO := match o with
  | .ok a M => k a M
  | .exc e M => .exc e δ M
  | .undef => .undef
theorem FinS.bindE {α β : Type} {rel : Rel α β} {G : Sg} {H : Hp} {ι : Io} {M0 : Mem} {Z : Ends} {W : WX} {δ : DEnv} {σ : L2.St} {o : Out α} {k : α → Mem → SO} (hr : HRel G H ι M0) (er : ER G H ι δ σ) (f : FinS G H ι Z W (sE o δ k)) :
    Fin rel G H ι (Then rel G H ι fun a M1 H1 ι1 => FinS G H1 ι1 Z W (k a M1)) (fun c d H' => W c d σ H') o := by
  cases o with
  | ok a M => exact fun v H1 ι1 ex hr1 r => ⟨ι1, M, a, ex, hr1, r, FinS.ext (show FinS G H ι Z W (k a M) from f) ex⟩
  | exc a M => exact fun c d H' ι' ex hr1 x => f c d σ H' ι' ex hr1 (er.ext hr ex) x
  | undef => exact f
def sNx : S := fun δ M => .nx δ M
def sBk : S := fun δ M => .bk δ M
def sCt : S := fun δ M => .ct δ M
def sThen (o : SO) (b : S) : SO := match o with
  | .nx δ1 M1 => b δ1 M1
  | .rt d M1 => .rt d M1
  | .bk δ1 M1 => .bk δ1 M1
  | .ct δ1 M1 => .ct δ1 M1
  | .exc e δ1 M1 => .exc e δ1 M1
  | .undef => .undef
def sSeq (a b : S) : S := fun δ M => sThen (a δ M) b
def sSet (i : Nat) (m : E D) : S := fun δ M => sE (m δ M) δ fun d M1 => .nx (δ.set i (some d)) M1
def sRet (m : E D) : S := fun δ M => sE (m δ M) δ fun d M1 => .rt d M1
def sRetN : S := fun _ M => .rt .non M
def sEx (m : E D) : S := fun δ M => sE (m δ M) δ fun _ M1 => .nx δ M1
def sIf (c : E Bool) (a b : S) : S := fun δ M => sE (c δ M) δ fun k M1 => if k = true then a δ M1 else b δ M1
abbrev TGD := D → DEnv → Mem → Option DEnv
abbrev TGDs := List D → DEnv → Mem → Option DEnv
theorem wipe_get {σ : L2.St} {j : Nat} : ∀ {vs : List Nat}, (wipe σ vs)[j]? = if j ∈ vs then (σ[j]?).map fun _ => none else σ[j]?
  | [] => by simp [wipe]
  | v :: vs => by
    unfold wipe
    by_cases h : v = j
    · subst h
      have hl := wipe_length σ vs
      by_cases hv : v < σ.length
      · rw [List.getElem?_set_self (by rw [hl]; exact hv), if_pos List.mem_cons_self, List.getElem?_eq_getElem hv]
        rfl
      · rw [List.getElem?_eq_none (by rw [List.length_set, hl]; omega), if_pos List.mem_cons_self, List.getElem?_eq_none (by omega)]
        rfl
    · rw [List.getElem?_set_ne h, wipe_get (vs := vs)]
      have : (j ∈ v :: vs) ↔ j ∈ vs := by simp [Ne.symm h]
      simp only [this]
theorem wipe_set {σ : L2.St} {i : Nat} {v : Option V} {vs : List Nat} (h : i ∈ vs) : wipe (σ.set i v) vs = wipe σ vs := by
  apply List.ext_getElem?
  intro j
  rw [wipe_get, wipe_get]
  by_cases e : i = j
  · subst e
    rw [if_pos h, if_pos h]
    by_cases hl : i < σ.length
    · rw [List.getElem?_set_self hl, List.getElem?_eq_getElem hl]
      rfl
    · rw [List.getElem?_eq_none (by rw [List.length_set]; omega), List.getElem?_eq_none (by omega)]
  · rw [List.getElem?_set_ne e]
def SameOut (ks : List Nat) (σ σ' : L2.St) : Prop := ∀ vs : List Nat, (∀ k ∈ ks, k ∈ vs) → wipe σ' vs = wipe σ vs
def rdG (G : Sg) (ks : List Nat) (m : TGD) : TG := fun v σ H Q => ∃ ι M δ d δ', HRel G H ι M ∧ ER G H ι δ σ ∧ R G H ι d v ∧ m d δ M = some δ' ∧ ∀ σ', ER G H ι δ' σ' → SameOut ks σ σ' → Q σ' H
def rdGs (G : Sg) (ks : List Nat) (m : TGDs) : TGs := fun vs σ H Q => ∃ ι M δ ds δ', HRel G H ι M ∧ ER G H ι δ σ ∧ RA G H ι ds vs ∧ m ds δ M = some δ' ∧ ∀ σ', ER G H ι δ' σ' → SameOut ks σ σ' → Q σ' H
abbrev JG (G : Sg) (X : Cx) (e : Expr) (ks : List Nat) (m : TGD) : Prop := PG X e (rdG G ks m)
abbrev JGs (G : Sg) (X : Cx) (e : List Expr) (ks : List Nat) (m : TGDs) : Prop := PGs X e (rdGs G ks m)
def gN (i : Nat) : TGD := fun d δ _ => some (δ.set i (some d))
def gNil0 : TGDs := fun ds δ _ => match ds with | [] => some δ | _ => none
def gCons0 (a : TGD) (r : TGDs) : TGDs := fun ds δ M => match ds with | d :: ds => (a d δ M).bind fun δ1 => r ds δ1 M | [] => none
def gTupD (n : Nat) (r : TGDs) : TGD := fun d δ M => match seqA M d with | some ds => if ds.length = n then r ds δ M else none | none => none
def sAsg (m : E D) (g : TGD) : S := fun δ M => sE (m δ M) δ fun d M1 => match g d δ M1 with | some δ1 => .nx δ1 M1 | none => .undef
section
variable {G : Sg} {X : Cx} {W : WX} {pos : Pos}
theorem jss_nil : JSs G X W [] sNx := pss_imp pss_nil fun Z σ H ⟨ι, M, δ, hr, er, f⟩ => f σ H ι (Ext.refl _ _) hr er
theorem fin_seq {H : Hp} {ι : Io} {Z : Ends} {o : SO} {n : S} (f : FinS G H ι Z W (sThen o n)) : FinS G H ι { Z with nx := rdS G W n Z } W o := by
  cases o with
  | nx δ1 M1 => exact fun σ' H' ι' ex hr' er' => ⟨ι', M1, δ1, hr', er', FinS.ext (show FinS G H ι Z W (n δ1 M1) from f) ex⟩
  | bk δ1 M1 => exact f
  | ct δ1 M1 => exact f
  | rt d M1 => exact f
  | exc e δ1 M1 => exact f
  | undef => exact f
theorem jss_cons {st : Stmt} {rest : List Stmt} {m n : S} (h : JS G X W st m) (h' : JSs G X W rest n) : JSs G X W (st :: rest) (sSeq m n) := pss_imp (pss_cons h h') fun Z σ H ⟨ι, M, δ, hr, er, f⟩ =>
  ⟨ι, M, δ, hr, er, fin_seq f⟩
theorem jss_one {st : Stmt} {m : S} (h : JS G X W st m) : JSs G X W [st] m := pss_one h
theorem js_set {i : Nat} {x : Str} {e : Expr} {m : E D} {pos' : Pos} (hN : X.N.Nodup) (hi : X.N[i]? = some x) (hx : Loc X.env.scope x) (he : JE G X W e m) (hs : swapsWith e (some (.Name x pos')) pos.line X.env = pure false := by rfl)
    (hf : X.fn x = true ∨ X.env.scope.names.lookup x = some .local := by first | exact .inl rfl | exact .inr rfl | assumption) : JS G X W (.Assign [.Name x pos'] e pos) (sSet i m) :=
  ps_imp (ps_set hN hi hx he hs hf) fun Z σ H ⟨ι, M, δ, hr, er, f⟩ => ⟨ι, M, δ, hr, er, (FinS.bindE hr er f).mono fun v H1 ⟨ι1, M1, d, ex, hr1, r, f1⟩ =>
    f1 _ H1 ι1 (Ext.refl _ _) hr1 ((er.ext hr ex).set r i)⟩
theorem js_ret {e : Expr} {m : E D} (he : JE G X W e m) : JS G X W (.Return (some e) pos) (sRet m) :=
  ps_imp (ps_ret he) fun Z σ H ⟨ι, M, δ, hr, er, f⟩ => ⟨ι, M, δ, hr, er, (FinS.bindE hr er f).mono fun v H1 ⟨ι1, M1, d, ex, hr1, r, f1⟩ => f1 v H1 ι1 (Ext.refl _ _) hr1 r⟩
theorem js_expr {e : Expr} {m : E D} (he : JE G X W e m) (hs : swapsWith e none pos.line X.env = pure false := by rfl) : JS G X W (.Expr e pos) (sEx m) :=
  ps_imp (ps_expr he hs) fun Z σ H ⟨ι, M, δ, hr, er, f⟩ => ⟨ι, M, δ, hr, er, (FinS.bindE hr er f).mono fun v H1 ⟨ι1, M1, d, ex, hr1, r, f1⟩ => f1 σ H1 ι1 (Ext.refl _ _) hr1 (er.ext hr ex)⟩
theorem js_if {c : Expr} {a b : List Stmt} {m : E Bool} {n k : S} (hc : JT G X W c m) (ha : JSs G X W a n) (hb : JSs G X W b k) : JS G X W (.If c a b pos) (sIf m n k) :=
  ps_imp (ps_if hc ha hb) fun Z σ H ⟨ι, M, δ, hr, er, f⟩ => ⟨ι, M, δ, hr, er, (FinS.bindE hr er f).mono fun v H1 ⟨ι1, M1, d, ex, hr1, r, f1⟩ => by
    have r : d = v := r
    subst r
    cases d with
    | true => exact ⟨ι1, M1, δ, hr1, er.ext hr ex, f1⟩
    | false => exact ⟨ι1, M1, δ, hr1, er.ext hr ex, f1⟩⟩
theorem pg_imp {e : Expr} {t t' : TG} (h : PG X e t) (k : ∀ v σ H Q, t' v σ H Q → t v σ H Q) : PG X e t' := ⟨fun pins s σ H v u Q I r q => h.run pins s σ H v u Q I r (k v σ H Q q)⟩
theorem pgs_imp {e : List Expr} {t t' : TGs} (h : PGs X e t) (k : ∀ v σ H Q, t' v σ H Q → t v σ H Q) : PGs X e t' := ⟨fun pins s σ H v u Q I r q => h.run pins s σ H v u Q I r (k v σ H Q q)⟩
theorem pg_or {e : Expr} {t t' : TG} (h : PG X e t) (h' : PG X e t') : PG X e (fun v σ H Q => t v σ H Q ∨ t' v σ H Q) := ⟨fun pins s σ H v u Q I r q => q.elim (h.run pins s σ H v u Q I r) (h'.run pins s σ H v u Q I r)⟩
theorem jg_name {i : Nat} {x : Str} (hN : X.N.Nodup) (hi : X.N[i]? = some x) (hx : Loc X.env.scope x) (hf : X.fn x = true ∨ X.env.scope.names.lookup x = some .local := by first | exact .inl rfl | exact .inr rfl | assumption) : JG G X (.Name x pos) [i] (gN i) :=
  pg_imp (pg_name hN hi hx hf) fun v σ H Q ⟨ι, M, δ, d, δ', hr, er, r, e, q⟩ => by
    cases e
    exact q _ (er.set r i) fun vs h => wipe_set (h i List.mem_cons_self)
theorem jgs_nil : JGs G X [] [] gNil0 := pgs_imp pgs_nil fun v σ H Q ⟨ι, M, δ, ds, δ', hr, er, r, e, q⟩ => by
  cases ds with
  | cons _ _ => cases e
  | nil => cases e; exact ⟨r, q _ er fun _ _ => rfl⟩
theorem jgs_cons {e : Expr} {es : List Expr} {k1 k2 : List Nat} {m : TGD} {ms : TGDs} (h1 : JG G X e k1 m) (h2 : JGs G X es k2 ms) (hs : (assignEach (e :: es) X.env).map (·.2) = assign e X.env :: (assignEach es X.env).map (·.2) := by rfl) : JGs G X (e :: es) (k1 ++ k2) (gCons0 m ms) :=
  pgs_imp (pgs_cons h1 h2 hs) fun vs σ H Q ⟨ι, M, δ, ds, δ', hr, er, r, e, q⟩ => by
    cases ds with
    | nil => cases e
    | cons d ds =>
      obtain ⟨v, w, e1, r1, r2⟩ := r
      simp only [gCons0, Option.bind_eq_some_iff] at e
      obtain ⟨δ1, e2, e3⟩ := e
      exact ⟨v, w, e1, ι, M, δ, d, δ1, hr, er, r1, e2, fun σ1 er1 s1 => ⟨ι, M, δ1, ds, δ', hr, er1, r2, e3, fun σ2 er2 s2 => q σ2 er2 fun vs h => (s2 vs fun k hk => h k (List.mem_append_right _ hk)).trans (s1 vs fun k hk => h k (List.mem_append_left _ hk))⟩⟩
theorem jg_tup {es : List Expr} {k n : Nat} {ks : List Nat} {ms : TGDs} (hK : X.K = G.K) (hc : X.calm = true) (h : JGs G X es ks ms) (hn : (assignEach es X.env).length = n := by rfl) (hst : (assignEach es X.env).findIdx? (·.1) = none := by rfl) : JG G X (.Tuple es k pos) ks (gTupD n ms) :=
  pg_imp (pg_or (pg_tup hc h hn hst) (pg_lst hc h hn hst)) fun v σ H Q ⟨ι, M, δ, d, δ', hr, er, r, e, q⟩ => by
    simp only [gTupD] at e
    split at e
    · rename_i ds e1
      split at e
      · rename_i hl
        obtain ⟨a, vs, h1, h2, h3⟩ := seqA_ok hr r e1
        have l := h3.len
        rcases h2 with h2 | h2
        · exact .inr ⟨a, vs, h1, by rw [hK]; exact h2, by omega, ι, M, δ, ds, δ', hr, er, h3, e, q⟩
        · exact .inl ⟨a, vs, h1, by rw [hK]; exact h2, by omega, ι, M, δ, ds, δ', hr, er, h3, e, q⟩
      · cases e
    · cases e
theorem js_asg {tg e : Expr} {ks : List Nat} {m : E D} {g : TGD} (he : JE G X W e m) (hg : JG G X tg ks g) (hs : swapsWithSole [tg] e pos.line X.env = pure false := by rfl) (hw : swappedStores [tg] e X.env = pure none := by rfl)
    (h1 : (assignEach [tg] X.env).map (·.2) = [assign tg X.env] := by rfl) : JS G X W (.Assign [tg] e pos) (sAsg m g) :=
  ps_imp (ps_asg he hg hs hw h1) fun Z σ H ⟨ι, M, δ, hr, er, f⟩ => ⟨ι, M, δ, hr, er, (FinS.bindE hr er f).mono fun v H1 ⟨ι1, M1, d, ex, hr1, r, f1⟩ => by
    cases e2 : g d δ M1 with
    | none => dsimp only at f1; rw [e2] at f1; exact f1.elim
    | some δ1 =>
      dsimp only at f1
      rw [e2] at f1
      exact ⟨ι1, M1, δ, d, δ1, hr1, er.ext hr ex, r, e2, fun σ' er' _ => f1 σ' H1 ι1 (Ext.refl _ _) hr1 er'⟩⟩
def sPar (i j : Nat) (m : E (List D)) : S := fun δ M => sE (m δ M) δ fun ds M1 => match ds with | [d, e] => .nx ((δ.set i (some d)).set j (some e)) M1 | _ => .undef
theorem js_par {i j : Nat} {x y : Str} {a b : Expr} {m : E (List D)} {px py pt : Pos} {kt k2 pt2} (hc : X.calm = true) (hN : X.N.Nodup) (hi : X.N[i]? = some x) (hj : X.N[j]? = some y) (hij : i ≠ j)
    (hx : X.env.scope.names.lookup x = some .local) (hy : X.env.scope.names.lookup y = some .local) (ha : JA G X W [a, b] m)
    (hw : swappedStores [.Tuple [.Name x px, .Name y py] kt pt] (.Tuple [a, b] k2 pt2) X.env = pure (some [x, y]))
    (hs : swapsWithSole [.Tuple [.Name x px, .Name y py] kt pt] (.Tuple [a, b] k2 pt2) pos.line X.env = pure false := by rfl) :
    JS G X W (.Assign [.Tuple [.Name x px, .Name y py] kt pt] (.Tuple [a, b] k2 pt2) pos) (sPar i j m) :=
  ps_imp (ps_par hc hN hi hj hij hx hy ha hw hs) fun Z σ H ⟨ι, M, δ, hr, er, f⟩ => ⟨ι, M, δ, hr, er, (FinS.bindE hr er f).mono fun vs H1 ⟨ι1, M1, ds, ex, hr1, r, f1⟩ => by
    rcases ds with _ | ⟨d, _ | ⟨e, _ | ⟨_, _⟩⟩⟩ <;> first
      | exact f1.elim
      | skip
    obtain ⟨v, w, e1, r1, r2⟩ := RA.two r
    exact ⟨v, w, e1, f1 _ H1 ι1 (Ext.refl _ _) hr1 (((er.ext hr ex).set r1 i).set r2 j)⟩⟩
theorem HRel.updM {H : Hp} {ι : Io} {M : Mem} {n : Nat} {a : Addr} {xs ys : List D} {vs ws : List V} (h : HRel G H ι M) (ha : ι.ix[n]? = some a) (e : H a = some (.lst vs)) (r : RA G H ι ys ws) : HRel G (upd H a (.lst ws)) ι (M.set n (.lst ys)) := by
  have x : ExtW H ι (upd H a (.lst ws)) ι := ExtW.updM (.inl (List.mem_of_getElem? ha)) e
  refine ⟨h.nd, by rw [List.length_set]; exact h.len, fun m b o e1 e2 => ?_, fun b hb => ?_, fun p hp => ?_, h.clo⟩
  · by_cases hb : b = a
    · have e3 : m = n := by
        rw [hb] at e1
        exact (List.getElem?_inj (List.getElem?_eq_some_iff.mp e1).1 h.nd).mp (e1.trans ha.symm)
      subst e3
      have hm : m < M.length := by rw [← h.len]; exact (List.getElem?_eq_some_iff.mp e1).1
      rw [List.getElem?_set_self hm] at e2
      cases e2
      rw [hb]
      exact ⟨ws, upd_same, RA.extW h x r⟩
    · have e3 : m ≠ n := fun z => by
        rw [z, ha] at e1
        exact hb (Option.some.inj e1).symm
      rw [List.getElem?_set_ne (Ne.symm e3)] at e2
      exact (h.obj m b o e1 e2).ext h x fun u q => by rw [upd_ne hb]; exact q
  · obtain ⟨⟨us, e1⟩, n1⟩ := h.wlo b hb
    refine ⟨⟨us, ?_⟩, n1⟩
    rw [upd_ne (fun z => n1 (by rw [z]; exact List.mem_of_getElem? ha))]
    exact e1
  · obtain ⟨ps, q1, q2, q3⟩ := h.tabs p hp
    refine ⟨ps, by rw [upd_ne (ne_of q1 e fun z => by cases z)]; exact q1, q2, fun pos cv hc => ?_⟩
    obtain ⟨c, q4, q5⟩ := q3 pos cv hc
    exact ⟨c, q4, by rw [upd_ne (ne_of q5 e fun z => by cases z)]; exact q5⟩
def sPut (o i v : E D) : S := fun δ M => sE (v δ M) δ fun d M1 => sE (o δ M1) δ fun p M2 => sE (i δ M2) δ fun k M3 => match p, k with
  | .mu n, .int j => match M3[n]? with
    | some (.lst xs) => match ixN xs.length j with
      | some t => .nx δ (M3.set n (.lst (xs.set t d)))
      | none => .undef
    | _ => .undef
  | _, _ => .undef
theorem js_put {o i e : Expr} {mo mi me : E D} {p1 : Pos} (ho : JE G X W o mo) (hi : JE G X W i mi) (he : JE G X W e me)
    (ha : ∀ v, assign (.Subscript o i p1) X.env v = (do
      let ov ← holding [v] (eval o X.env)
      let iv ← holding [v, ov] (eval i X.env)
      standAt p1
      holding [v, ov, iv] (setItem ov iv v)
      release [v, ov, iv] []) := by intro _; rfl)
    (hs : swapsWithSole [.Subscript o i p1] e pos.line X.env = pure false := by rfl) (hw : swappedStores [.Subscript o i p1] e X.env = pure none := by rfl)
    (h1 : (assignEach [.Subscript o i p1] X.env).map (·.2) = [assign (.Subscript o i p1) X.env] := by rfl) : JS G X W (.Assign [.Subscript o i p1] e pos) (sPut mo mi me) :=
  ps_imp (ps_asg he (pg_sub ho hi set_list ha) hs hw h1) fun Z σ H ⟨ι, M, δ, hr, er, f⟩ => ⟨ι, M, δ, hr, er, (FinS.bindE hr er f).mono fun v H1 ⟨ι1, M1, d, ex, hr1, r, f1⟩ =>
    have er1 := er.ext hr ex
    ⟨ι1, M1, δ, hr1, er1, (FinS.bindE hr1 er1 f1).mono fun p H2 ⟨ι2, M2, dp, ex2, hr2, r2, f2⟩ =>
      have er2 := er1.ext hr1 ex2
      ⟨ι2, M2, δ, hr2, er2, (FinS.bindE hr2 er2 f2).mono fun k H3 ⟨ι3, M3, dk, ex3, hr3, r3, f3⟩ => by
        have er3 := er2.ext hr2 ex3
        have rp := R.ext hr2 ex3 r2
        have rv := (R.ext hr1 ex2 r).ext hr2 ex3
        cases dp <;> first
          | (exact f3.elim; done)
          | skip
        cases dk <;> first
          | (exact f3.elim; done)
          | skip
        rename_i n z j
        obtain ⟨a, rfl, qa⟩ := rp
        obtain rfl : k = _ := r3
        dsimp only at f3
        cases e1 : M3[n]? with
        | none => rw [e1] at f3; exact f3.elim
        | some mo =>
          cases mo with
          | dk _ => rw [e1] at f3; exact f3.elim
          | ins _ _ => rw [e1] at f3; exact f3.elim
          | dt _ => rw [e1] at f3; exact f3.elim
          | lst xs =>
            rw [e1] at f3
            dsimp only at f3
            cases e2 : ixN xs.length j with
            | none => rw [e2] at f3; exact f3.elim
            | some t =>
              rw [e2] at f3
              obtain ⟨vs, q1, q2⟩ := hr3.obj n a _ qa e1
              have mem : a ∈ ι3.ix := List.mem_of_getElem? qa
              have x : Ext H3 ι3 (upd H3 a (.lst (vs.set t v))) ι3 := Ext.updM mem (fun z => (hr3.wlo a z).2 mem) q1
              exact ⟨a, vs, j, t, rfl, rfl, q1, by rw [← q2.len]; exact e2, f3 σ _ ι3 x (hr3.updM (xs := xs) qa q1 (q2.set rv t)) (er3.ext hr3 x)⟩⟩⟩⟩
def sApp (o v : E D) : S := fun δ M => sE (o δ M) δ fun p M1 => match p with
  | .mu n => match M1[n]? with
    | some (.lst _) => sE (v δ M1) δ fun d M2 => match M2[n]? with
      | some (.lst xs) => if xs.length < sizeLine then .nx δ (M2.set n (.lst (xs ++ [d]))) else .undef
      | _ => .undef
    | _ => .undef
  | _ => .undef
def dFor (g : TGD) (body : S) : List D → S
  | [], δ, M => .nx δ M
  | x :: xs, δ, M => match g x δ M with
    | none => .undef
    | some δ1 => match body δ1 M with
      | .nx δ2 M2 => dFor g body xs δ2 M2
      | .ct δ2 M2 => dFor g body xs δ2 M2
      | .bk δ2 M2 => .nx δ2 M2
      | .rt d M2 => .rt d M2
      | .exc e δ2 M2 => .exc e δ2 M2
      | .undef => .undef
def sFor (mi : E (List D)) (g : TGD) (body : S) : S := fun δ M => sE (mi δ M) δ fun xs M1 => dFor g body xs δ M1
def Walk : Rel (List D) It := fun G H0 ι0 xs J => ∀ i H ι M, Ext2 H0 ι0 H ι → HRel G H ι M →
  (∀ d, xs[i]? = some d → J.go i H ∧ ∀ x H', J.yld i H x H' → ∃ ι', Ext H ι H' ι' ∧ HRel G H' ι' M ∧ R G H' ι' d x) ∧ (xs.length ≤ i → J.stop i H)
abbrev JI (G : Sg) (X : Cx) (W : WX) (tg iter : Expr) (m : E (List D)) : Prop := PI X tg iter (rd Walk G W m)
theorem pi_imp {tg e : Expr} {t t' : TI} (h : PI X tg e t) (k : ∀ σ H Q, t' σ H Q → t σ H Q) : PI X tg e t' := ⟨fun pins s σ H R I q => h.run pins s σ H R I (k σ H R q)⟩
theorem pi_or {tg e : Expr} {t t' : TI} (h : PI X tg e t) (h' : PI X tg e t') : PI X tg e (fun σ H R => t σ H R ∨ t' σ H R) := ⟨fun pins s σ H R I q => q.elim (h.run pins s σ H R I) (h'.run pins s σ H R I)⟩
theorem js_for {tg iter : Expr} {body : List Stmt} {ks : List Nat} {mi : E (List D)} {g : TGD} {mb : S} (hp : PassesOwn (model X.prog X.w) X.A X.env X.xe) (hc : X.calm = true) (hi : JI G X W tg iter mi) (hg : JG G X tg ks g) (hb : JSs G X W body mb)
    (hs : ∀ x, foldedSetIterable iter X.env x = pure x := by intro _; rfl) : JS G X W (.For tg iter body [] pos) (sFor mi g mb) :=
  ps_imp (ps_for hp hc hi hg hb hs) fun Z σ H ⟨ι, M, δ, hr, er, f⟩ => ⟨ι, M, δ, hr, er, (FinS.bindE hr er f).mono fun J H1 ⟨ι1, M1, xs, ex, hr1, r, f1⟩ => by
    refine ⟨fun i m σ H => ∃ ι M δ, m + i = xs.length ∧ Ext H1 ι1 H ι ∧ HRel G H ι M ∧ ER G H ι δ σ ∧ FinS G H ι Z W (dFor g mb (xs.drop i) δ M), ⟨xs.length, ι1, M1, δ, by omega, Ext.refl _ _, hr1, er.ext hr ex, f1⟩, ?_⟩
    rintro i m σ H ⟨ι, M, δ, hm, ex2, hr2, er2, f2⟩
    obtain ⟨w1, w2⟩ := r i H ι M (.inl ex2.toExtW) hr2
    cases e : xs[i]? with
    | none =>
      have hl : xs.length ≤ i := List.getElem?_eq_none_iff.mp e
      rw [List.drop_eq_nil_of_le hl] at f2
      exact .inl ⟨w2 hl, f2 σ H ι (Ext.refl _ _) hr2 er2⟩
    | some d =>
      have hl : i < xs.length := (List.getElem?_eq_some_iff.mp e).1
      have ed : xs.drop i = d :: xs.drop (i + 1) := by rw [List.drop_eq_getElem_cons hl, (List.getElem?_eq_some_iff.mp e).2]
      rw [ed] at f2
      simp only [dFor] at f2
      refine .inr ⟨(w1 d e).1, fun σ' H' => ∃ m', m' < m ∧ ∃ ι M δ, m' + (i + 1) = xs.length ∧ Ext H1 ι1 H' ι ∧ HRel G H' ι M ∧ ER G H' ι δ σ' ∧ FinS G H' ι Z W (dFor g mb (xs.drop (i + 1)) δ M), fun _ _ z => z, fun x H' y => ?_⟩
      obtain ⟨ι', ex3, hr3, r3⟩ := (w1 d e).2 x H' y
      cases e2 : g d δ M with
      | none => rw [e2] at f2; exact f2.elim
      | some δ1 =>
        rw [e2] at f2
        dsimp only at f2
        refine ⟨ι', M, δ, d, δ1, hr3, er2.ext hr2 ex3, r3, e2, fun σ1 er1 _ => ⟨ι', M, δ1, hr3, er1, ?_⟩⟩
        have ex4 := ex2.trans ex3
        have f3 := f2
        cases e3 : mb δ1 M with
        | nx δ2 M2 => rw [e3] at f2; exact fun σ' H' ι'' ex5 hr5 er5 => ⟨m - 1, by omega, ι'', M2, δ2, by omega, ex4.trans ex5, hr5, er5, FinS.ext (FinS.ext f2 ex3) ex5⟩
        | ct δ2 M2 => rw [e3] at f2; exact fun σ' H' ι'' ex5 hr5 er5 => ⟨m - 1, by omega, ι'', M2, δ2, by omega, ex4.trans ex5, hr5, er5, FinS.ext (FinS.ext f2 ex3) ex5⟩
        | bk δ2 M2 => rw [e3] at f2; exact FinS.ext f2 ex3
        | rt d2 M2 => rw [e3] at f2; exact FinS.ext f2 ex3
        | exc e δ2 M2 => rw [e3] at f2; exact FinS.ext f2 ex3
        | undef => rw [e3] at f2; exact f2⟩
def frozen : D → Bool
  | .mu _ => false
  | _ => true
def iL (m : E D) : E (List D) := fun δ M => (m δ M).bind fun d M1 => if frozen d = true then Out.opt (seqL M1 d) M1 else .undef
def iT (m : E D) : E (List D) := fun δ M => (m δ M).bind fun d M1 => Out.opt (seqT d) M1
def iSeq (m : E D) : E (List D) := fun δ M => (m δ M).bind fun d M1 => if frozen d = true then Out.opt (seqA M1 d) M1 else .undef
theorem ji_list {tg e : Expr} {m : E D} (hK : X.K = G.K) (he : JE G X W e m) : JI G X W tg e (iL m) :=
  pi_imp (pi_list (tg := tg) he) fun σ H Q ⟨ι, M, δ, hr, er, f⟩ => ⟨ι, M, δ, hr, er, (Fin.bind f).mono fun v H1 ⟨ι1, M1, d, ex, hr1, r, f1⟩ => by
    dsimp only at f1
    split at f1
    · rename_i fz
      obtain ⟨xs, e, f2⟩ := Fin.opt f1
      have seq2 : ∀ {H2 : Hp} {ι2 : Io} {M2 : Mem}, Ext2 H1 ι1 H2 ι2 → HRel G H2 ι2 M2 → ∃ a vs, v = .ref a ∧ SqL X.K H2 a vs ∧ RA G H2 ι2 xs vs := by
        intro H2 ι2 M2 ex hr2
        have e2 : seqL M2 d = some xs := by
          cases d <;> first
            | exact e
            | (cases fz; done)
        rw [hK]
        exact seqL_ok hr2 (R.ext2 hr1 ex r) e2
      obtain ⟨a, vs, h1, h2, h4⟩ := seq2 (.inl (ExtW.refl _ _)) hr1
      refine ⟨a, h1, ⟨vs, h2⟩, f2 _ H1 ι1 (Ext.refl _ _) hr1 fun i H3 ι3 M3 ex3 hr3 => ?_⟩
      obtain ⟨b, ws, k1, sq, k4⟩ := seq2 ex3 hr3
      have eb : a = b := by rw [h1] at k1; cases k1; rfl
      subst eb
      refine ⟨fun d' e' => ?_, fun hl => ⟨ws, sq, by rw [← k4.len]; exact hl⟩⟩
      obtain ⟨u, hu, ru⟩ := k4.get e'
      exact ⟨⟨ws, u, sq, hu⟩, fun x H' ⟨y1, y2⟩ => by
        subst y1
        have eu : u = x := by
          have := y2 ws sq
          rw [hu] at this
          exact Option.some.inj this
        subst eu
        exact ⟨ι3, Ext.refl _ _, hr3, ru⟩⟩
    · exact f1.elim⟩
theorem ji_tup {tg e : Expr} {m : E D} (hK : X.K = G.K) (he : JE G X W e m) : JI G X W tg e (iT m) :=
  pi_imp (pi_tup (tg := tg) he) fun σ H Q ⟨ι, M, δ, hr, er, f⟩ => ⟨ι, M, δ, hr, er, (Fin.bind f).mono fun v H1 ⟨ι1, M1, d, ex, hr1, r, f1⟩ => by
    obtain ⟨xs, e, f2⟩ := Fin.opt f1
    have seq2 : ∀ {H2 : Hp} {ι2 : Io} {M2 : Mem}, Ext2 H1 ι1 H2 ι2 → HRel G H2 ι2 M2 → ∃ a vs, v = .ref a ∧ SqT X.K H2 a vs ∧ RA G H2 ι2 xs vs := by
      intro H2 ι2 M2 ex hr2
      rw [hK]
      exact seqT_ok (R.ext2 hr1 ex r) e
    obtain ⟨a, vs, h1, h2, h4⟩ := seq2 (.inl (ExtW.refl _ _)) hr1
    refine ⟨a, h1, ⟨vs, h2⟩, f2 _ H1 ι1 (Ext.refl _ _) hr1 fun i H3 ι3 M3 ex3 hr3 => ?_⟩
    obtain ⟨b, ws, k1, sq, k4⟩ := seq2 ex3 hr3
    have eb : a = b := by rw [h1] at k1; cases k1; rfl
    subst eb
    refine ⟨fun d' e' => ?_, fun hl => ⟨ws, sq, by rw [← k4.len]; exact hl⟩⟩
    obtain ⟨u, hu, ru⟩ := k4.get e'
    exact ⟨⟨ws, u, sq, hu⟩, fun x H' ⟨y1, y2⟩ => by
      subst y1
      have eu : u = x := by
        have := y2 ws sq
        rw [hu] at this
        exact Option.some.inj this
      subst eu
      exact ⟨ι3, Ext.refl _ _, hr3, ru⟩⟩⟩
theorem ji_seq {tg e : Expr} {m : E D} (hK : X.K = G.K) (he : JE G X W e m) : JI G X W tg e (iSeq m) :=
  pi_imp (pi_or (ji_list (tg := tg) hK he) (ji_tup (tg := tg) hK he)) fun σ H Q ⟨ι, M, δ, hr, er, f⟩ => by
    cases e0 : m δ M with
    | undef => simp only [iSeq, e0] at f; exact f.elim
    | exc e M1 => simp only [iSeq, e0] at f; exact .inl ⟨ι, M, δ, hr, er, by simp only [iL, e0]; exact f⟩
    | ok d M1 =>
      simp only [iSeq, e0, Out.bind] at f
      split at f
      · rename_i fz
        cases hT : seqT d with
        | some xs => simp only [seqA, hT] at f; exact .inr ⟨ι, M, δ, hr, er, by simp only [iT, e0, Out.bind, hT]; exact f⟩
        | none => simp only [seqA, hT] at f; exact .inl ⟨ι, M, δ, hr, er, by simp only [iL, e0, Out.bind, fz]; exact f⟩
      · exact f.elim
noncomputable def smallI (j : Int) : Bool := dec (-(2 ^ 62) ≤ j ∧ j < 2 ^ 62)
theorem smallI_ok {j : Int} (h : smallI j = true) : -(2 ^ 62) ≤ j ∧ j < 2 ^ 62 := dec_iff.mp h
noncomputable def iRange (a : E (List D)) : E (List D) := fun δ M => (a δ M).bind fun ds M1 => match ds with
  | [.int j] => if smallI j = true then .ok ((List.range j.toNat).map fun k => .int (k : Nat)) M1 else .undef
  | [.int i, .int j] => if smallI i = true ∧ smallI j = true then .ok ((List.range (j - i).toNat).map fun k => .int (i + (k : Nat))) M1 else .undef
  | _ => .undef
theorem walk_range {H : Hp} {ι : Io} {lo : Int} {n : Nat} {xs : List D} (e : xs = (List.range n).map fun k => D.int (lo + (k : Nat))) : Walk G H ι xs (Itr lo n) := fun i H1 ι1 M1 ex hr => by
  subst e
  refine ⟨fun d e => ?_, fun hl => (by simpa using hl : n ≤ i)⟩
  rw [List.getElem?_map] at e
  have hi : i < n := by
    rcases Nat.lt_or_ge i n with h | h
    · exact h
    · rw [List.getElem?_eq_none (by simpa using h)] at e; cases e
  rw [List.getElem?_range hi] at e
  cases e
  exact ⟨hi, fun x H' ⟨y1, y2⟩ => by subst y1 y2; exact ⟨ι1, Ext.refl _ _, hr, rfl⟩⟩
theorem ji_range1 {tg a : Expr} {m : E (List D)} {p pos : Pos} (hg : Gl X "range") (hm : X.mg "range" = none) (ha : JA G X W [a] m) (hl : Len 1 m) (hs : starEach [a] X.env = [(false, eval a X.env)] := by rfl) : JI G X W tg (.Call (.Name "range" p) [a] [] pos) (iRange m) :=
  pi_imp (pi_range1 (tg := tg) hg hm ha hs) fun σ H Q ⟨ι, M, δ, hr, er, f⟩ => ⟨ι, M, δ, hr, er, (len_of hl (Fin.bind f)).mono fun vs H1 ⟨hv, ι1, M1, ds, ex, hr1, r, f1⟩ => by
    have ld := r.len
    rw [hv] at ld
    rcases ds with _ | ⟨d, _ | ⟨e, ds⟩⟩
    · cases ld
    · obtain ⟨v, e1, r1⟩ := RA.one r
      cases d <;> first
        | (exact f1.elim; done)
        | skip
      rename_i j
      obtain rfl : v = _ := r1
      dsimp only at f1
      split at f1
      · rename_i h
        exact ⟨j, e1, (smallI_ok h).1, (smallI_ok h).2, f1 _ H1 ι1 (Ext.refl _ _) hr1 (walk_range (by simp))⟩
      · exact f1.elim
    · cases ld⟩
theorem ji_range2 {tg a b : Expr} {m : E (List D)} {p pos : Pos} (hg : Gl X "range") (hm : X.mg "range" = none) (ha : JA G X W [a, b] m) (hl : Len 2 m) (hs : starEach [a, b] X.env = [(false, eval a X.env), (false, eval b X.env)] := by rfl) (hs2 : starEach [b] X.env = [(false, eval b X.env)] := by rfl) :
    JI G X W tg (.Call (.Name "range" p) [a, b] [] pos) (iRange m) :=
  pi_imp (pi_range2 (tg := tg) hg hm ha hs hs2) fun σ H Q ⟨ι, M, δ, hr, er, f⟩ => ⟨ι, M, δ, hr, er, (len_of hl (Fin.bind f)).mono fun vs H1 ⟨hv, ι1, M1, ds, ex, hr1, r, f1⟩ => by
    have ld := r.len
    rw [hv] at ld
    rcases ds with _ | ⟨d, _ | ⟨e, _ | ⟨_, ds⟩⟩⟩
    · cases ld
    · cases ld
    · obtain ⟨v, w, e1, r1, r2⟩ := RA.two r
      cases d <;> first
        | (exact f1.elim; done)
        | skip
      cases e <;> first
        | (exact f1.elim; done)
        | skip
      rename_i i j
      obtain rfl : v = _ := r1
      obtain rfl : w = _ := r2
      dsimp only at f1
      split at f1
      · rename_i h
        exact ⟨i, j, e1, ⟨(smallI_ok h.1).1, (smallI_ok h.1).2, (smallI_ok h.2).1, (smallI_ok h.2).2⟩, f1 _ H1 ι1 (Ext.refl _ _) hr1 (walk_range rfl)⟩
      · exact f1.elim
    · cases ld⟩
end
end DL
namespace DL
open PySem PySem.Spec PyProof.Rows L2
section
variable {G : Sg} {X : Cx} {W : WX} {H : Hp} {ι : Io} {p : Addr}
def wipeD (δ : DEnv) : List Nat → DEnv
  | [] => δ
  | v :: vs => (wipeD δ vs).set v none
theorem ER.wipe {δ : DEnv} {σ : L2.St} (h : ER G H ι δ σ) : ∀ vs : List Nat, ER G H ι (wipeD δ vs) (L2.wipe σ vs)
  | [] => h
  | v :: vs => (ER.wipe h vs).unset v
def Out.noX {α : Type} : Out α → Out α
  | .ok a M => .ok a M
  | _ => .undef
def dLc (g : TGD) (t : E Bool) (e : E D) (δ : DEnv) : List D → List D → Mem → Out (List D)
  | [], acc, M => .ok acc M
  | x :: xs, acc, M => match g x δ M with
    | none => .undef
    | some δ1 => (t δ1 M).noX.bind fun b M1 => if b = true then (e δ1 M1).noX.bind fun y M2 => dLc g t e δ xs (acc ++ [y]) M2 else dLc g t e δ xs acc M1
def eLc (vs : List Nat) (mi : E (List D)) (g : TGD) (t : E Bool) (e : E D) : E D := fun δ M => (mi δ M).bind fun xs M1 =>
  if xs.length ≤ sizeLine then (dLc g t e (wipeD δ vs) xs [] M1).noX.bind fun ys M2 => .ok (.lst ys) M2 else .undef
def tTrue : E Bool := fun _ M => .ok true M
abbrev W0 : WX := fun _ _ _ _ => False
abbrev JTs (G : Sg) (X : Cx) (W : WX) (es : List Expr) (m : E Bool) : Prop := PTs X es (rd relT G W m)
theorem pts_imp {es : List Expr} {t t' : TT} (h : PTs X es t) (k : ∀ σ H Q, t' σ H Q → t σ H Q) : PTs X es t' := ⟨fun pins s σ H Q I q => h.run pins s σ H Q I (k σ H Q q)⟩
theorem jts_nil : JTs G X W [] tTrue := pts_imp pts_nil fun σ H Q ⟨ι, M, δ, hr, er, f⟩ => f true H ι (Ext.refl _ _) hr rfl
theorem jts_one {c : Expr} {m : E Bool} (h : JT G X W c m) : JTs G X W [c] m := pts_one h
theorem rd_lc {vs ks : List Nat} {mi : E (List D)} {g : TGD} {t : E Bool} {e : E D} {σ : L2.St} {Q : VK} (hks : ∀ k ∈ ks, k ∈ vs) (h : rd relD G W (eLc vs mi g t e) σ H Q) :
    tLc (rd Walk G W mi) (rdG G ks g) (rd relT G W0 t) (rd relD G W0 e) vs σ H Q := by
  obtain ⟨ι, M, δ, hr, er, f⟩ := h
  refine ⟨ι, M, δ, hr, er, (Fin.bind f).mono fun J H1 ⟨ι1, M1, xs, ex, hr1, wk, f1⟩ => ?_⟩
  dsimp only at f1
  by_cases hl : xs.length ≤ sizeLine
  · rw [if_pos hl] at f1
    cases h0 : dLc g t e (wipeD δ vs) xs [] M1 with
    | undef => rw [h0] at f1; exact f1.elim
    | exc a b => rw [h0] at f1; exact f1.elim
    | ok ys0 M0 =>
      rw [h0] at f1
      have f1 : Fin relD G H1 ι1 Q (fun c d H' => W c d σ H') (.ok (.lst ys0) M0) := f1
      intro p hp
      have er1 : ER G (upd H1 p (.lst [])) (ι1.pushW p) (wipeD δ vs) (L2.wipe σ vs) := ER.push (fun _ _ z => hr1.tupOut z) hr1.clo hp ((er.ext hr ex).wipe vs)
      have hr2 : HRel G (upd H1 p (.lst [])) (ι1.pushW p) M1 := hr1.pushW hp
      refine ⟨fun i m H => ∃ ιp M ys acc, m + i = xs.length ∧ ExtW (upd H1 p (.lst [])) (ι1.pushW p) H ιp ∧ HRel G H ιp M ∧ H p = some (.lst acc) ∧ (∀ a o, a ∈ ι1.wl → H1 a = some o → H a = some o) ∧ RA G H ιp ys acc ∧ ys.length ≤ i ∧ dLc g t e (wipeD δ vs) (xs.drop i) ys M = .ok ys0 M0,
        ⟨xs.length, ι1.pushW p, M1, [], [], by omega, ExtW.refl _ _, hr2, upd_same, fun a o _ h => by rw [upd_ne (ne_of_none h hp)]; exact h, rfl, Nat.le_refl _, by simpa using h0⟩, ?_⟩
      rintro i m H2 ⟨ιp, M2, ys, acc, hm, ex2, hr3, hp2, hw2, ra, hy, ed⟩
      obtain ⟨w1, w2⟩ := wk i H2 ιp M2 (.inr ⟨p, [], hp, ex2⟩) hr3
      cases e1 : xs[i]? with
      | none =>
        have hle : xs.length ≤ i := List.getElem?_eq_none_iff.mp e1
        rw [List.drop_eq_nil_of_le hle] at ed
        simp only [dLc] at ed
        injection ed with ed1 ed2
        subst ed1 ed2
        refine .inl ⟨w2 hle, ?_⟩
        obtain ⟨ix, wl⟩ := ιp
        have ew : wl = p :: ι1.wl := ex2.wl
        subst ew
        have hr4 : HRel G H2 (⟨ix, ι1.wl⟩ : Io) M2 := HRel.dropW (p := p) hr3
        have np : ¬ (⟨ix, ι1.wl⟩ : Io).has p := fun z => z.elim (fun z => (hr3.wlo p List.mem_cons_self).2 z) fun z => hr1.out hp (.inr z)
        refine f1 _ H2 ⟨ix, ι1.wl⟩ ⟨⟨ex2.pre, rfl, fun a ha => ?_, fun a o hn ht hs => ?_, fun a ha => ?_⟩, fun a o ha hs => ?_⟩ hr4 ⟨p, acc, rfl, ⟨hp2, np⟩, RA.drop0 (p := p) (ι := ⟨ix, ι1.wl⟩) ra⟩
        · rcases ex2.new a ha with z | z
          · exact .inl z
          · exact .inr (Ext.fresh (ι := ι1) hp |>.there a z)
        · have hap : a ≠ p := ne_of_none hs hp
          refine ex2.keep a o (fun z => z.elim (fun z => hn (.inl z)) fun z => (List.mem_cons.mp z).elim hap fun z => hn (.inr z)) ht ?_
          rw [upd_ne hap]
          exact hs
        · exact (Ext.fresh (ι := ι1) hp).there a (ex2.there a ha)
        · exact hw2 a _ ha hs
      | some d =>
        have hlt : i < xs.length := (List.getElem?_eq_some_iff.mp e1).1
        have edr : xs.drop i = d :: xs.drop (i + 1) := by rw [List.drop_eq_getElem_cons hlt, (List.getElem?_eq_some_iff.mp e1).2]
        rw [edr] at ed
        simp only [dLc] at ed
        refine .inr ⟨(w1 d e1).1, fun H' => ∃ m', m' < m ∧ ∃ ιp M ys acc, m' + (i + 1) = xs.length ∧ ExtW (upd H1 p (.lst [])) (ι1.pushW p) H' ιp ∧ HRel G H' ιp M ∧ H' p = some (.lst acc) ∧ (∀ a o, a ∈ ι1.wl → H1 a = some o → H' a = some o) ∧ RA G H' ιp ys acc ∧ ys.length ≤ i + 1 ∧ dLc g t e (wipeD δ vs) (xs.drop (i + 1)) ys M = .ok ys0 M0, fun _ z => z, fun x H3 hy3 => ?_⟩
        obtain ⟨ιq, ex3, hr4, rx⟩ := (w1 d e1).2 x H3 hy3
        have ex23 := ex2.trans ex3.toExtW
        cases e2 : g d (wipeD δ vs) M2 with
        | none => rw [e2] at ed; cases ed
        | some δ1 =>
          rw [e2] at ed
          dsimp only at ed
          refine ⟨ιq, M2, wipeD δ vs, d, δ1, hr4, er1.extW hr2 ex23, rx, e2, fun σ1 er2 so => ⟨?_, ?_⟩⟩
          · have z1 := so vs hks
            have z2 : L2.wipe (L2.wipe σ vs) vs = L2.wipe σ vs := by
              apply List.ext_getElem?
              intro j
              rw [wipe_get, wipe_get]
              split
              · cases σ[j]? <;> rfl
              · rfl
            exact z1.trans z2
          · refine ⟨ιq, M2, δ1, hr4, er2, ?_⟩
            cases e3 : t δ1 M2 with
            | undef => rw [e3] at ed; cases ed
            | exc a b => rw [e3] at ed; cases ed
            | ok b M3 =>
              rw [e3] at ed
              simp only [Out.noX, Out.bind] at ed
              intro b' H4 ι4 ex4 hr5 rb
              have rb : b = b' := rb
              subst rb
              have ex24 := ex23.trans ex4.toExtW
              have mq : p ∈ ιp.wl := by rw [ex2.wl]; exact List.mem_cons_self
              have mq2 : p ∈ ιq.wl := by rw [ex3.wl]; exact mq
              have hp3 : H3 p = some (.lst acc) := ex3.wk _ _ mq hp2
              have hp4 : H4 p = some (.lst acc) := ex4.wk _ _ mq2 hp3
              have sub : ∀ a, a ∈ ι1.wl → a ∈ ιp.wl := fun a ha => by rw [ex2.wl]; exact List.mem_cons_of_mem _ ha
              have hw4 : ∀ a o, a ∈ ι1.wl → H1 a = some o → H4 a = some o := fun a o ha h => ex4.wk _ _ (by rw [ex3.wl]; exact sub a ha) (ex3.wk _ _ (sub a ha) (hw2 a o ha h))
              have ra3 := RA.ext hr3 ex3 ra
              have ra4 := RA.ext hr4 ex4 ra3
              cases b with
              | false =>
                rw [if_neg Bool.false_ne_true] at ed ⊢
                exact ⟨m - 1, by omega, ι4, M3, ys, acc, by omega, ex24, hr5, hp4, hw4, ra4, by omega, ed⟩
              | true =>
                rw [if_pos rfl] at ed ⊢
                refine ⟨ι4, M3, δ1, hr5, er2.ext hr4 ex4, ?_⟩
                cases e4 : e δ1 M3 with
                | undef => rw [e4] at ed; cases ed
                | exc a b => rw [e4] at ed; cases ed
                | ok y M5 =>
                  rw [e4] at ed
                  simp only [Out.noX, Out.bind] at ed
                  intro v H5 ι5 ex5 hr6 ry
                  have mq4 : p ∈ ι4.wl := by rw [ex4.wl]; exact mq2
                  have hp5 : H5 p = some (.lst acc) := ex5.wk _ _ mq4 hp4
                  have mq5 : p ∈ ι5.wl := by rw [ex5.wl]; exact mq4
                  have ra5 := (RA.ext hr5 ex5 ra4).app (RA.cons (G := G) (H := H5) (ι := ι5) ry RA.nil)
                  have xu : ExtW H5 ι5 (upd H5 p (.lst (acc ++ [v]))) ι5 := ExtW.updM (.inr mq5) hp5
                  have ew : ι5.wl = p :: ι1.wl := by rw [ex5.wl, ex4.wl, ex3.wl, ex2.wl]; rfl
                  have hr7 : HRel G (upd H5 p (.lst (acc ++ [v]))) ι5 M5 := by
                    obtain ⟨ix, wl⟩ := ι5
                    have ew : wl = p :: ι1.wl := ew
                    subst ew
                    exact HRel.updW (ι := ⟨ix, ι1.wl⟩) hr6 hp5
                  have la := ra.len
                  refine ⟨acc, hp5, by omega, m - 1, by omega, ι5, M5, ys ++ [y], acc ++ [v], by omega, (ex24.trans ex5.toExtW).trans xu, hr7, upd_same, fun a o ha h => ?_, RA.extW hr6 xu ra5, by simp; omega, ed⟩
                  rw [upd_ne (ne_of_none h hp)]
                  exact ex5.wk _ _ (by rw [ex4.wl, ex3.wl]; exact sub a ha) (hw4 a o ha h)
  · rw [if_neg hl] at f1
    exact f1.elim
theorem je_lc {elt tg iter : Expr} {ifs : List Expr} {scope : Scope} {own : List (Str × Nat)} {pos : Pos} {ks : List Nat} {mi : E (List D)} {g : TGD} {t : E Bool} {e : E D} (hc : X.calm = true) (hN : X.N.Nodup) (hi : JI G X W tg iter mi) (ok : BlkOk X.N X.env.scope scope own)
    (hg : ∀ (s : Shared) (H : Hp) (C : Addr) (cl : List (Str × Addr)) (fp : List Addr), JG G (X.blk s H scope (compEnvC scope cl C X.env) fp) tg ks g)
    (ht : ∀ (s : Shared) (H : Hp) (C : Addr) (cl : List (Str × Addr)) (fp : List Addr), JTs G (X.blk s H scope (compEnvC scope cl C X.env) fp) W0 ifs t)
    (he : ∀ (s : Shared) (H : Hp) (C : Addr) (cl : List (Str × Addr)) (fp : List Addr), JE G (X.blk s H scope (compEnvC scope cl C X.env) fp) W0 elt e)
    (hks : ∀ k ∈ ks, k ∈ own.map (·.2)) (hs : ∀ x, foldedSetIterable iter X.env x = pure x := by intro _; rfl) :
    JE G X W (.ListComp elt [⟨tg, iter, ifs, 0⟩] scope pos) (eLc (own.map (·.2)) mi g t e) :=
  pe_imp (pe_lc hc hN hi ok hg ht he hs) fun _ _ _ h => rd_lc hks h
def runS (k : Nat) (m : S) (ds : List D) (M : Mem) : Out D := match m (ds.map some ++ List.replicate k none) M with
  | .rt d M' => .ok d M'
  | .nx _ M' => .ok .non M'
  | .exc e _ M' => .exc e M'
  | _ => .undef
def spD (G : Sg) (n : Nat) (f : List D → Mem → Out D) : Sp := fun vs H Q Ex => ∃ ι M ds, HRel G H ι M ∧ RA G H ι ds vs ∧ ds.length = n ∧ Fin relD G H ι Q Ex (f ds M)
abbrev WF (Ex : XK) : WX := fun cls d _ H => Ex cls d H
theorem run_fin {k : Nat} {m : S} {ds : List D} {M : Mem} {H : Hp} {ι : Io} {Q : VK} {Ex : XK} (f : Fin relD G H ι Q Ex (runS k m ds M)) :
    FinS G H ι { nx := fun _ H' => Q .non H', rt := Q } (WF Ex) (m (ds.map some ++ List.replicate k none) M) := by
  unfold runS at f
  cases e : m (ds.map some ++ List.replicate k none) M with
  | rt d M' => rw [e] at f; exact f
  | nx δ M' => rw [e] at f; exact fun σ' H' ι' ex hr _ => f _ H' ι' ex hr rfl
  | exc x δ M' => rw [e] at f; exact fun c d _ H' ι' ex hr _ xr => f c d H' ι' ex hr xr
  | bk δ M' => rw [e] at f; exact (show False from f).elim
  | ct δ M' => rw [e] at f; exact (show False from f).elim
  | undef => rw [e] at f; exact f
section
variable {P : Program} {w : World} {K : PySem.W.Frag} {mg : Str → Option Value} {base : Heap}
theorem start_ER {N : List Str} {ds : List D} {vs : List V} {n : Nat} (r : RA G H ι ds vs) (hn : ds.length = n) : ER G H ι (ds.map some ++ List.replicate (N.length - n) none) (L2.start N vs) := by
  unfold L2.start
  rw [← r.len, hn]
  exact ER.start (N := N) _ r
theorem fn_dl {x qual : Str} {st : Stmt} {f : Addr} {fd : FuncData} {N ps : List Str} {k n : Nat} {m : S} (F : L2.Fun K x qual st f fd) (Sc : FnScope N ps (defScope st)) (hn : ps.length = n)
    (hb : ∀ (cdv : Value) (A : Around) (outer : List Env) (s : Shared) (H : Hp) (Ex : XK), Room k (A.deeper (envOfC qual (defScope st) s.heap.objs.size f cdv)) → JSs G (cxOf (L2.CX P w) P w K mg base N qual (defScope st) f cdv A outer s H Ex) (WF Ex) (defBody st) m) :
    FnOk P w K mg base (L2.CX P w) (k + 1) f fd ps (spD G n (runS (N.length - n) m)) :=
  F.okX Sc (fun vs H Q Ex ⟨ι, M, ds, hr, r, e, _⟩ => by rw [← r.len, e, hn]) fun cdv A outer s H vs Q Ex hroom ⟨ι, M, ds, hr, r, e, f⟩ =>
    ⟨_, hb cdv A outer s H Ex hroom, ι, M, _, hr, start_ER r e, run_fin f⟩
end
theorem je_call {CX : CXT} {k n : Nat} {f : Addr} {fd : FuncData} {ps : List Str} {fm : List D → Mem → Out D} {x : Str} {p pos : Pos} {e : Expr} {es : List Expr} {m : E (List D)} (F : FnOk X.prog X.w X.K X.mg X.base CX k f fd ps (spD G n fm)) (hr : Room k X.A) (hg : Gl X x) (hm : X.mg x = some (.ref f))
    (hk : PySem.W.keepIn X.K (.ref f) = true) (hb : Binds X.K fd ps []) (hx : ∀ σ, PassesAt CX X σ (WE W σ)) (ha : JA G X W (e :: es) m) (hl : Len n m)
    (hdb : (x == ("__debug__" : Str)) = false := by decide) (he : starEach (e :: es) X.env = (false, eval e X.env) :: starEach es X.env := by rfl) (hpl : (backTo pos (starEach es X.env)).any (·.1) = false := by rfl) :
    JE G X W (.Call (.Name x p) (e :: es) [] pos) (eCall fm m) :=
  pe_imp (pe_callS F hr hg hm hk hb hx ha hdb he hpl) fun σ H Q ⟨ι, M, δ, hr, er, f⟩ => ⟨ι, M, δ, hr, er, (len_of hl (Fin.bind f)).mono fun vs H1 ⟨hv, ι1, M1, ds, ex, hr1, r, f1⟩ =>
    ⟨ι1, M1, ds, hr1, r, by rw [r.len, hv], f1⟩⟩
def sRaise (C : Nat) (m : E (List D)) : S := fun δ M => sE (m δ M) δ fun _ M1 => .exc ⟨C, []⟩ δ M1
theorem js_raise {C : Addr} {kC0 : Nat} {bmB : List Value} {B newId initId : String} {x : Str} {p cpos : Pos} {e : Expr} {es : List Expr} {m : E (List D)} {n : Nat} {pos : Pos} (hc : X.calm = true) (tk : Takes X W) (F : ExcBaseFacts B newId initId bmB) (q : PySem.W.excIn X.K C bmB newId = true) (gC : X.mg x = some (.ref C))
    (kC : PySem.W.keepIn X.K (.ref C) = true) (r : Raises X (.ref C)) (hg : Gl X x) (hG : G.C kC0 = C) (ha : JA G X W (e :: es) m) (hl : Len n m) (hn : n ≤ sizeLine := by decide) (hdb : (x == ("__debug__" : Str)) = false := by decide)
    (he : starEach (e :: es) X.env = (false, eval e X.env) :: starEach es X.env := by rfl) (hpl : (backTo cpos (starEach es X.env)).any (·.1) = false := by rfl) :
    JS G X W (.Raise (some (.Call (.Name x p) (e :: es) [] cpos)) none pos) (sRaise kC0 m) :=
  ps_imp (ps_raise hc tk (pmk_ownA F q gC kC r hg ha hdb he hpl)) fun Z σ H ⟨ι, M, δ, hr, er, f⟩ => ⟨ι, M, δ, hr, er, (len_of hl (FinS.bindE hr er f)).mono fun vs H1 ⟨hv, ι1, M1, ds, ex, hr1, r, f1⟩ =>
    ⟨by rw [hv]; exact hn, f1 _ _ σ H1 ι1 (Ext.refl _ _) hr1 (er.ext hr ex) ⟨by rw [hG], .inl ⟨rfl, rfl⟩⟩⟩⟩
theorem js_append {o e : Expr} {mo me : E D} {apos cpos pos : Pos} (hK : X.K = G.K) (ho : JE G X W o mo) (he : JE G X W e me)
    (hbase : attributeBase o "append" X.env (eval o X.env) = eval o X.env := by rfl)
    (hfew : ((backTo cpos (starEach [e] X.env)).all (fun x => !x.1) && (backToKw cpos (keywordEach [] X.env)).all (fun x => x.1.isSome)
      && decide (([e] : List Expr).length + ([] : List Keyword).length + (if ([] : List Keyword).isEmpty then 0 else 1) < 30)) = true := by rfl)
    (hline : (apos.endLine == cpos.line) = true := by rfl) (hs : starEach [e] X.env = (false, eval e X.env) :: starEach [] X.env := by rfl) (hplain : (backTo cpos (starEach [] X.env)).any (·.1) = false := by rfl)
    (hsw : swapsWith (.Call (.Attribute o "append" apos) [e] [] cpos) none pos.line X.env = pure false := by rfl) :
    JS G X W (.Expr (.Call (.Attribute o "append" apos) [e] [] cpos) pos) (sApp mo me) :=
  ps_imp (ps_expr (pe_bm PySem.F.plainAttrs_list PySem.F.slot_list_append PySem.F.type_list_append mt_append ho (pa_cons he pa_nil hs) hbase hfew hline hs hplain) hsw) fun Z σ H ⟨ι, M, δ, hr, er, f⟩ =>
    ⟨ι, M, δ, hr, er, (FinS.bindE hr er f).mono fun p H1 ⟨ι1, M1, dp, ex, hr1, r1, f1⟩ => by
      have er1 := er.ext hr ex
      cases dp <;> first
        | exact f1.elim
        | skip
      rename_i n
      obtain ⟨a, rfl, qa⟩ := id r1
      dsimp only at f1
      cases e1 : M1[n]? with
      | none => rw [e1] at f1; exact f1.elim
      | some mo =>
        cases mo with
        | dk _ => rw [e1] at f1; exact f1.elim
        | ins _ _ => rw [e1] at f1; exact f1.elim
        | dt _ => rw [e1] at f1; exact f1.elim
        | lst xs0 =>
          rw [e1] at f1
          dsimp only at f1
          have f2 := FinS.bindE (rel := relD) hr1 er1 f1
          obtain ⟨vs0, q0, _⟩ := hr1.obj n a _ qa e1
          refine ⟨.inl ⟨rfl, vs0, .inl (.inl q0)⟩, ι1, M1, δ, hr1, er1, f2.mono fun v H2 ⟨ι2, M2, d, ex2, hr2, r2, f3⟩ => ?_⟩
          dsimp only at f3
          obtain ⟨b, e2, qb⟩ := R.ext hr1 ex2 r1
          cases e2
          cases e1 : M2[n]? with
          | none => rw [e1] at f3; exact f3.elim
          | some mo =>
            cases mo with
            | dk _ => rw [e1] at f3; exact f3.elim
            | ins _ _ => rw [e1] at f3; exact f3.elim
            | dt _ => rw [e1] at f3; exact f3.elim
            | lst xs =>
              rw [e1] at f3
              dsimp only at f3
              obtain ⟨vs, q1, q2⟩ := hr2.obj n a _ qb e1
              by_cases hl : xs.length < sizeLine
              · rw [if_pos hl] at f3
                have mem : a ∈ ι2.ix := List.mem_of_getElem? qb
                have x : Ext H2 ι2 (upd H2 a (.lst (vs ++ [v]))) ι2 := Ext.updM mem (fun z => (hr2.wlo a z).2 mem) q1
                exact ⟨a, vs, v, rfl, rfl, q1, by rw [← q2.len]; exact hl, f3 σ _ ι2 x (hr2.updM (xs := xs) qb q1 (q2.app (RA.cons (G := G) (H := H2) (ι := ι2) r2 RA.nil))) ((er1.ext hr1 ex2).ext hr2 x)⟩
              · rw [if_neg hl] at f3; exact f3.elim⟩
end
end DL
namespace DL
open PySem PySem.Spec PyProof.Rows L2
structure Df (K : PySem.W.Frag) (mg : Str → Option Value) (x : Str) (st : Stmt) (ps : List Str) (f : Addr) (fd : FuncData) : Prop where
  fn : L2.Fun K x x st f fd
  bd : Binds K fd ps []
  gl : mg x = some (.ref f)
abbrev veL : List Value := [.type "ValueError", .type "Exception", .type "BaseException", .type "object"]
structure Ex (K : PySem.W.Frag) (mg : Str → Option Value) (x : Str) (C : Addr) : Prop where
  gl : mg x = some (.ref C)
  exc : PySem.W.excIn K C veL "ValueError.__new__" = true
  kp : PySem.W.keepIn K (.ref C) = true
  sb : PySem.W.subIn K (.ref C) (.type "BaseException") = some true
  ty : PySem.W.typeIn K (.ref C) = some (.type "type")
structure Ad where
  f : Nat → Addr
  fd : Nat → FuncData
  C : Nat → Addr
  t : Nat → Addr
  c : Nat → Addr
  pt : Nat → Addr
  T : List (Addr × Str)
  tb : List (Addr × Addr)
structure OkG (G : Sg) (K : PySem.W.Frag) (A : Ad) : Prop where
  k : G.K = K
  c : G.C = A.C
  f : G.F = A.f
  T : G.T = A.T
def sPar3 (i j l : Nat) (m : E (List D)) : S := fun δ M => sE (m δ M) δ fun ds M1 => match ds with | [d, e, c] => .nx (((δ.set i (some d)).set j (some e)).set l (some c)) M1 | _ => .undef
theorem fn_undef {P : Program} {w : World} {K : PySem.W.Frag} {mg : Str → Option Value} {base : Heap} {CX : CXT} {k n : Nat} {f : Addr} {fd : FuncData} {ps : List Str} {G : Sg} : FnOk P w K mg base CX k f fd ps (spD G n fun _ _ => .undef) :=
  ⟨fun _ _ _ _ ⟨_, _, _, _, _, _, f⟩ => f.elim, fun _ _ _ _ _ _ _ _ _ _ _ _ _ ⟨_, _, _, _, _, _, f⟩ => f.elim⟩
end DL
namespace DL
open PySem PySem.Spec PyProof.Rows L2
theorem je_globI {G : Sg} {X : Cx} {W : WX} {pos : Pos} {x : Str} {i : Int} (hg : Gl X x) (hm : ∃ t, X.mg x = some (.int i t)) (hd : (x == ("__debug__" : Str)) = false := by decide) : JE G X W (.Name x pos) (eC (.int i)) := by
  obtain ⟨t, hm⟩ := hm
  exact je_glob (v := .int i) hg hm ⟨t, rfl⟩ (fun _ _ => rfl) hd
end DL
namespace DL
open PySem PySem.Spec PyProof.Rows L2
end DL
namespace DL
open PySem PySem.Spec PyProof.Rows L2 LamX
def LamHO (q : Str) (params : Arguments) (body : Expr) (scope : Scope) (cl : List (Str × Addr)) (d : Bool) (a c t : Addr) : HO :=
  .ext fun h => ∃ doc pm ctv : Value, h.get? a = some (PySem.W.kdv_obj "<lambda>" q params (.expr body) scope cl (if d = true then .ref t else .none) doc pm c ctv)
theorem lamHO_ne {q : Str} {params : Arguments} {body : Expr} {scope : Scope} {cl : List (Str × Addr)} {d : Bool} {a c t : Addr} (ps : Array Value) : LamHO q params body scope cl d a c t ≠ .tbl ps := fun z => by
  unfold LamHO at z
  cases z
section
variable {X : Cx} {pins : List (Addr × Obj)} {σ : L2.St} {H : Hp} {s : Shared} {T : List (Addr × Str)} {c P : Addr} {params : Arguments} {body : Expr} {scope : Scope} {pos : Pos} {E : Value → Shared → Prop} {Q : Value → Shared → Prop}
structure Made (T : List (Addr × Str)) (q : Str) (H H1 : Hp) (a c' : Addr) (o : HO) : Prop where
  ext : ExtN H H1
  there : ∀ b, H1 b = none → H b = none
  tabs : Tabs T H1
  fn : H1 a = some o
  na : H a = none
  code : H1 c' = some (CodeO c' q)
  nc : H c' = none ∨ H c' = some (CodeO c' q)
theorem tail_made {d : Bool} {t : Addr} (I : Inv X pins σ H s) (TB : TabB X.base X.mg c P) (hcode : X.env.code = .ref c) (hm : (P, X.env.qual ++ "<lambda>") ∈ T) (hu : ∀ p ∈ T, p.1 = P → p.2 = X.env.qual ++ "<lambda>") (hT : Tabs T H)
    (hfree : ∀ y ∈ scope.names, y.2 = .free → ∃ c, X.env.cells.lookup y.1 = some c)
    (h : ∀ (a c' : Addr) (H1 : Hp) (s' : Shared), Inv X pins σ H1 s' → Made T (X.env.qual ++ "<lambda>") H H1 a c' (LamHO (X.env.qual ++ "<lambda>") params body scope (cloFrom X.env.cells scope.names []) d a c' t) → Q (.ref a) s') :
    wpAny (model X.prog X.w) X.A (makeTail "<lambda>" (X.env.qual ++ "<lambda>") params (.expr body) scope X.env (if d = true then .ref t else .none) .none none pos pos.line) Q E s := by
  obtain ⟨ps, hP, ht, ha⟩ := hT _ hm
  have bP : s.heap.BuiltinsAt X.mg P := TB.bm.keeps I.bk
  have hP' : s.heap.get? P = some (PySem.W.tabObj ps) := I.hok P _ hP
  have lay : ∀ {H' : Hp} {h' : Heap} {tk : Nat} {c' : Addr} {doc pm ctv : Value}, Inv X pins σ H' { s with heap := h', toks := tk } →
      Inv X pins σ (upd H' h'.objs.size (LamHO (X.env.qual ++ "<lambda>") params body scope (cloFrom X.env.cells scope.names []) d h'.objs.size c' t))
        { s with heap := h'.push (PySem.W.kdv_obj "<lambda>" (X.env.qual ++ "<lambda>") params (.expr body) scope (cloFrom X.env.cells scope.names []) (if d = true then .ref t else .none) doc pm c' ctv), toks := tk } := by
    intro H' h' tk c' doc pm ctv J
    refine J.laid (t' := tk) (fun b o e => Heap.get?_push_of_some _ e) (Nat.le_refl _) ?_
    exact ⟨⟨doc, pm, ctv, Heap.get?_push_size _ rfl⟩, ⟨_, Heap.get?_push_size _ rfl⟩, fun h1 h2 ⟨d1, p1, v1, e⟩ st => ⟨d1, p1, v1, st _ e⟩⟩
  cases hc : codeAmong pos ps.toList with
  | none =>
    refine PySem.W.kdv_makeTail (mg := X.mg) (c := c) (P := P) (ps := ps) (closure_ok hfree) I.ok.glob (I.mod.glob.keeps I.bk) hcode (TB.code.keeps I.bk) hP' ht hc TB.gP bP fun c' ctv doc h' tk hx hge hlt hrec htb => ?_
    obtain ⟨c2, oc, vs, t2, e2, hoc, hd, hv⟩ := hrec
    cases e2
    have nC : H c' = none := I.hok.fresh hge
    have I1 := inv_table (t' := tk) (more := #[rawInt pos.line, rawInt pos.col, .ref c']) (h' := h') I hP hx htb hge ⟨oc, vs, t2, hoc, hd, hv⟩
    have I2 := lay (c' := c') (doc := doc) (pm := (X.mg "__name__").getD .none) (ctv := ctv) I1
    have nP : c' ≠ P := Ne.symm (ne_of_none hP nC)
    have nA : upd (upd H P (.tbl (ps ++ #[rawInt pos.line, rawInt pos.col, .ref c']))) c' (CodeO c' (X.env.qual ++ "<lambda>")) h'.objs.size = none := I1.hok.fresh (Nat.le_refl _)
    have ac : h'.objs.size ≠ c' := fun z => by rw [z, upd_same] at nA; cases nA
    have aP : h'.objs.size ≠ P := fun z => by rw [z, upd_ne nP.symm, upd_same] at nA; cases nA
    have nA0 : H h'.objs.size = none := by rw [upd_ne ac, upd_ne aP] at nA; exact nA
    have hE : ExtN H (upd (upd H P (.tbl (ps ++ #[rawInt pos.line, rawInt pos.col, .ref c']))) c' (CodeO c' (X.env.qual ++ "<lambda>"))) := fun b o e n => by
      rw [upd_ne (ne_of_none e nC), upd_ne (fun z => n ps (Option.some.inj (e.symm.trans (by rw [z]; exact hP))))]
      exact e
    have eL : (ps ++ #[rawInt pos.line, rawInt pos.col, .ref c']).toList = ps.toList ++ [rawInt pos.line, rawInt pos.col, .ref c'] := by simp
    have T1 : Tabs T (upd (upd H P (.tbl (ps ++ #[rawInt pos.line, rawInt pos.col, .ref c']))) c' (CodeO c' (X.env.qual ++ "<lambda>"))) := fun p hp => by
      by_cases hb : p.1 = P
      · rw [hu p hp hb, hb]
        refine ⟨_, by rw [upd_ne nP.symm, upd_same], by rw [eL]; exact PySem.TriplesOk_snoc _ _ _ _ ht, fun p' cv hcv => ?_⟩
        rw [eL] at hcv
        rcases among_app _ ht hcv with z | z
        · obtain ⟨c0, e1, e2⟩ := ha p' cv z
          exact ⟨c0, e1, hE _ _ e2 codeO_ne⟩
        · exact ⟨c', z, upd_same⟩
      · obtain ⟨ps', a1, a2, a3⟩ := hT p hp
        refine ⟨ps', by rw [upd_ne (ne_of_none a1 nC), upd_ne hb]; exact a1, a2, fun p' cv hcv => ?_⟩
        obtain ⟨c0, e1, e2⟩ := a3 p' cv hcv
        exact ⟨c0, e1, hE _ _ e2 codeO_ne⟩
    have kU : ∀ b o, upd (upd H P (.tbl (ps ++ #[rawInt pos.line, rawInt pos.col, .ref c']))) c' (CodeO c' (X.env.qual ++ "<lambda>")) b = some o → _ := fun b o e => (upd_ne (o := LamHO (X.env.qual ++ "<lambda>") params body scope (cloFrom X.env.cells scope.names []) d h'.objs.size c' t) (ne_of_none e nA)).trans e
    refine h _ c' _ _ I2 ⟨fun b o e n => kU b o (hE b o e n), fun b e => ?_, T1.ext kU, upd_same, nA0, kU _ _ upd_same, .inl nC⟩
    by_cases h1 : b = h'.objs.size
    · rw [h1, upd_same] at e; cases e
    · rw [upd_ne h1] at e
      by_cases h2 : b = c'
      · rw [h2]; exact nC
      · rw [upd_ne h2] at e
        by_cases h3 : b = P
        · rw [h3, upd_same] at e; cases e
        · rw [upd_ne h3] at e; exact e
  | some cv =>
    obtain ⟨c', e, hco⟩ := ha pos cv hc
    subst e
    refine PySem.W.kdv_makeTailHit (mg := X.mg) (c := c) (P := P) (ps := ps) (closure_ok hfree) I.ok.glob (I.mod.glob.keeps I.bk) hcode (TB.code.keeps I.bk) hP' ht hc bP fun ctv doc h' tk hx hsz => ?_
    have I1 : Inv X pins σ H { s with heap := h', toks := tk } := I.kept hx
    have I2 := lay (c' := c') (doc := doc) (pm := (X.mg "__name__").getD .none) (ctv := ctv) I1
    have nA : H h'.objs.size = none := I1.hok.fresh (Nat.le_refl _)
    have kU : ∀ b o, H b = some o → _ := fun b o e => (upd_ne (o := LamHO (X.env.qual ++ "<lambda>") params body scope (cloFrom X.env.cells scope.names []) d h'.objs.size c' t) (ne_of_none e nA)).trans e
    refine h _ c' _ _ I2 ⟨fun b o e n => kU b o e, fun b e => ?_, hT.ext kU, upd_same, nA, kU _ _ hco, .inr hco⟩
    by_cases h1 : b = h'.objs.size
    · rw [h1, upd_same] at e; cases e
    · rw [upd_ne h1] at e; exact e
end
structure CloIs (G : Sg) (X : Cx) (c P : Addr) (k : Nat) (params : Arguments) (body : Expr) (scope : Scope) (df : List V) : Prop where
  tb : TabB X.base X.mg c P
  code : X.env.code = .ref c
  mem : (P, X.env.qual ++ "<lambda>") ∈ G.T
  one : ∀ p ∈ G.T, p.1 = P → p.2 = X.env.qual ++ "<lambda>"
  q : G.q = X.env.qual ++ "<lambda>"
  cl : ∀ a c t, G.cl k a c t = LamHO (X.env.qual ++ "<lambda>") params body scope (cloFrom X.env.cells scope.names []) (!df.isEmpty) a c t
  free : ∀ y ∈ scope.names, y.2 = .free → X.env.scope.names.lookup y.1 = some .cell ∨ X.env.scope.names.lookup y.1 = some .free
  df : G.df k = df
section
variable {G : Sg} {X : Cx} {W : WX} {c P : Addr} {k : Nat} {params : Arguments} {body : Expr} {scope : Scope} {pos : Pos}
theorem made_rel {q : Str} {H H1 : Hp} {ι : Io} {M : Mem} {a c' : Addr} {o : HO} (hr : HRel G H ι M) (m : Made G.T q H H1 a c' o) : Ext H ι H1 ι ∧ HRel G H1 ι M ∧ ¬ ι.has a ∧ ¬ ι.has c' := by
  have x : Ext H ι H1 ι := ⟨⟨⟨[], by simp⟩, rfl, fun _ h => .inl h, fun b u _ n e => m.ext b u e n, m.there⟩, fun b u hb e => m.ext b u e fun ps z => by
    obtain ⟨⟨vs, e2⟩, _⟩ := hr.wlo b hb
    rw [e2] at e
    subst z
    cases e⟩
  refine ⟨x, ⟨hr.nd, hr.len, fun n b u e1 e2 => (hr.obj n b u e1 e2).ext hr x.toExtW ?_, fun b hb => ?_, m.tabs, hr.clo⟩, hr.out m.na, fun z => ?_⟩
  · intro w e
    refine m.ext b w e fun ps z => ?_
    rcases hr.mutOf (.inl (List.mem_of_getElem? e1)) with ⟨_, e3⟩ | ⟨_, e3⟩ | ⟨_, e3⟩ | ⟨_, _, _, e3⟩ <;> rw [e3] at e <;> subst z <;> cases e
  · obtain ⟨⟨vs, e⟩, n⟩ := hr.wlo b hb
    exact ⟨⟨vs, m.ext b _ e fun ps z => by cases z⟩, n⟩
  · rcases m.nc with e | e
    · exact hr.out e z
    · rcases hr.mutOf z with ⟨_, e3⟩ | ⟨_, e3⟩ | ⟨_, e3⟩ | ⟨_, _, _, e3⟩ <;> rw [e3] at e <;> cases e
theorem has_cells {df : List V} (C : CloIs G X c P k params body scope df) (ok : X.Ok) : ∀ y ∈ scope.names, y.2 = .free → ∃ c, X.env.cells.lookup y.1 = some c := fun y hy e =>
  (C.free y hy e).elim (fun z => ok.has _ (.inl z)) fun z => ok.has _ (.inr z)
theorem je_lam (C : CloIs G X c P k params body scope []) (hdef : defaultsOf params X.env = ([], [])) : JE G X W (.Lambda params body scope pos) (eC (.clo k)) := by
  refine ⟨fun pins s σ H Q I h => ?_⟩
  obtain ⟨ι, M, δ, hr, er, f⟩ := h
  refine PySem.W.kla_eval hdef ?_
  rw [makeFunction_eq]
  simp only [pure_bind, if_true, List.isEmpty_nil, List.filterMap_nil, List.zip_nil_right]
  refine tail_made (d := false) (t := 0) I C.tb C.code C.mem C.one hr.tabs (has_cells C I.ok) fun a c' H1 s' I1 m => ?_
  obtain ⟨x, hr1, n1, n2⟩ := made_rel hr m
  exact ⟨.ref a, H1, I1, rfl, f _ H1 ι x hr1 ⟨a, c', 0, rfl, ⟨by rw [C.cl]; exact m.fn, n1⟩, ⟨by rw [C.q]; exact m.code, n2⟩, .inl C.df⟩⟩
theorem je_lamD {i : Int} {j : Nat} {p0 : Pos} (C : CloIs G X c P k params body scope [.int i]) (hd : params.defaults = [.Constant (.int i) j p0]) (hk0 : params.kw_defaults = []) : JE G X W (.Lambda params body scope pos) (eC (.clo k)) := by
  refine ⟨fun pins s σ H Q I h => ?_⟩
  obtain ⟨ι, M, δ, hr, er, f⟩ := h
  refine PySem.W.kdv_lam (by rw [hd]; rfl) hk0 ?_
  rw [hd]
  refine PySem.W.kdv_all1 (wpAny_Constant_int (PySem.W.kdv_all0 ?_))
  rw [makeFunction_eq]
  simp only [pure_bind, if_true, List.isEmpty_nil, List.filterMap_nil, List.zip_nil_right, List.isEmpty_cons, Bool.false_eq_true, if_false]
  refine wpAny_bind (wpAny_newTextTuple ?_)
  have I0 : Inv X pins σ H { s with toks := s.toks + 1 } := I.tok _
  have nt : H s.heap.objs.size = none := I.hok.fresh (Nat.le_refl _)
  have I1 : Inv X pins σ (upd H s.heap.objs.size (.tup [.int i])) { s with heap := s.heap.push { cls := .type "tuple", data := .seq [Value.int i s.toks].toArray }, toks := s.toks + 1 } :=
    I0.laid (t' := s.toks + 1) (o := .tup [.int i]) (fun b ob q => Heap.get?_push_of_some _ q) (Nat.le_refl _) ⟨(by decide : 1 ≤ sizeLine), [Value.int i s.toks], .cons ⟨_, rfl⟩ .nil, IsTup.new _ _⟩
  have hr1 : HRel G (upd H s.heap.objs.size (.tup [.int i])) ι M := hr.fresh nt
  refine tail_made (d := true) (t := s.heap.objs.size) I1 C.tb C.code C.mem C.one hr1.tabs (has_cells C I.ok) fun a c' H1 s' I2 m => ?_
  obtain ⟨x, hr2, n1, n2⟩ := made_rel hr1 m
  refine ⟨.ref a, H1, I2, rfl, f _ H1 ι ((Ext.fresh nt).trans x) hr2 ⟨a, c', s.heap.objs.size, rfl, ⟨by rw [C.cl]; exact m.fn, n1⟩, ⟨by rw [C.q]; exact m.code, n2⟩, .inr ⟨by rw [C.df]; exact m.ext _ _ upd_same (fun _ z => by cases z), fun z => hr.out nt z⟩⟩⟩
end
structure LamP (N : List Str) (sc scope : Scope) : Prop where
  kind : scope.kind = .function
  co : scope.isCoroutine = false
  gen : scope.isGenerator = false
  nocell : ∀ y ∈ scope.names, y.2 ≠ .cell
  locs : ∀ y ∈ scope.names, y.2 = .local → y.1 ∉ N
  free : ∀ y ∈ scope.names, y.2 = .free → sc.names.lookup y.1 = some .cell ∨ sc.names.lookup y.1 = some .free
def lamPB (N : List Str) (sc scope : Scope) : Bool :=
  decide (scope.kind = .function) && !scope.isCoroutine && !scope.isGenerator &&
    scope.names.all fun y => !decide (y.2 = .cell) && (!decide (y.2 = .local) || !decide (y.1 ∈ N)) && (!decide (y.2 = .free) || decide (sc.names.lookup y.1 = some .cell) || decide (sc.names.lookup y.1 = some .free))
theorem lamP_by {N : List Str} {sc scope : Scope} (h : lamPB N sc scope = true) : LamP N sc scope := by
  unfold lamPB at h
  simp only [Bool.and_eq_true, Bool.or_eq_true, Bool.not_eq_true', decide_eq_true_eq, decide_eq_false_iff_not, List.all_eq_true] at h
  obtain ⟨⟨⟨a1, a2⟩, a3⟩, a4⟩ := h
  refine ⟨a1, a2, a3, fun y hy => (a4 y hy).1.1, fun y hy e => ?_, fun y hy e => ?_⟩
  · rcases (a4 y hy).1.2 with z | z
    · exact absurd e z
    · exact z
  · rcases (a4 y hy).2 with (z | z) | z
    · exact absurd e z
    · exact .inl z
    · exact .inr z
section
variable {X : Cx} {pins : List (Addr × Obj)} {σ : L2.St} {H HZ : Hp} {s s1 : Shared}
theorem lam_enter {A : Around} {outer : List Env} {E : XK} {scope : Scope} {f c' : Addr} {h₁ : Heap} {tk : Nat} {mm : Str → Option Value} (I : Inv X pins σ H s) (L : LamP X.N X.env.scope scope) (e0 : Env0 X.prog X.w X.K X.mg X.base A outer s1 HZ) (hd : A.handled = none)
    (un : Un (frs X.stack) [] H HZ s.heap s1.heap) (hns : h₁.Ns s1.heap.objs.size mm) (kp : ∀ b o, s1.heap.get? b = some o → h₁.get? b = some o) :
    Inv (lamCx X A outer s1 HZ E scope f c') [] σ HZ { s1 with heap := h₁, toks := tk } := by
  have fr : ∀ y ∈ scope.names, y.2 = .free → ∃ c, X.env.cells.lookup y.1 = some c := fun y hy e => (L.free y hy e).elim (fun z => I.ok.has _ (.inl z)) fun z => I.ok.has _ (.inr z)
  have mine : ∀ {y c}, (cloFrom X.env.cells scope.names []).lookup y = some c → X.env.cells.lookup y = some c := fun {y c} e => by
    rcases cloFrom_mem (PySem.mem_of_lookup e) with z | ⟨z1, z2⟩
    · cases z
    · obtain ⟨c1, hc⟩ := fr _ z1 rfl
      have hc : X.env.cells.lookup y = some c1 := hc
      have e2 : c = c1 := by
        rw [z2, hc] <;> rfl
      rw [e2]
      exact hc
  have seen : ∀ {y}, scope.names.lookup y = some .free → ∃ c, (cloFrom X.env.cells scope.names []).lookup y = some c := fun {y} hl =>
    mem_lookup (cloFrom_has (cells := X.env.cells) (acc := []) (show (y, NameKind.free) ∈ scope.names from PySem.mem_of_lookup hl))
  have cellK : ∀ {c : Addr} {v : Option Value}, H c = none → s.heap.IsCell c v → h₁.IsCell c v := fun {c v} n ⟨o, ho, hd⟩ => by
    obtain ⟨sl, q⟩ := un.any ho n (by simp)
    exact ⟨_, kp _ _ q, hd⟩
  have nx : ∀ b : Addr, b ∉ (lamCx X A outer s1 HZ E scope f c').ex := fun b z => absurd (show b ∈ ([] : List Addr) from z) (by simp)
  have nocl : ∀ {y}, scope.names.lookup y ≠ some .cell := fun {y} z => L.nocell _ (PySem.mem_of_lookup z) rfl
  refine ⟨⟨e0.mod, L.kind, rfl, rfl, Nat.le_refl _, fun y z c e1 e2 => I.ok.inj y z c (mine e1) (mine e2), fun y hy => ?_, fun y c z _ => ?_, fun _ => hd, Around.frames_deeper e0.frames, .inr ⟨rfl, rfl⟩, fun b z => absurd z (nx b), e0.bs, e0.bsz, fun b _ _ => nx b,
      fun b z => absurd z (nx b), e0.funs, e0.frf⟩,
    rfl, e0.bare, Un.kept kp, ⟨_, hns, fun i y v e1 e2 e3 => ?_⟩, fun y c e => ?_, e0.hok.fresh (Nat.le_refl _), fun y c e => ?_, fun q hq => absurd (show q ∈ ([] : List (Addr × Obj)) ++ [] from hq) (by simp), e0.hok.kept kp, I.len⟩
  · have hy : scope.names.lookup y = some .cell ∨ scope.names.lookup y = some .free := hy
    exact hy.elim (fun z => absurd z nocl) seen
  · have z : false = true := z
    cases z
  · have e3 : Vis scope y := e3
    have my : y ∈ X.N := List.mem_of_getElem? (show X.N[i]? = some y from e1)
    rcases e3 with k | k | k
    · exact absurd my (L.locs _ (PySem.mem_of_lookup k) rfl)
    · exact absurd k nocl
    · obtain ⟨m, hn, hl⟩ := I.loc
      have lf := L.free _ (PySem.mem_of_lookup k) rfl
      obtain ⟨w', r, q⟩ := hl i y v e1 e2 (lf.elim (fun k => .inr (.inl k)) fun k => .inr (.inr k))
      obtain ⟨c2, h2⟩ := seen k
      refine ⟨w', r, .inr ⟨.inr k, c2, h2, ?_⟩⟩
      have c1 := mine h2
      rcases q with ⟨k', _⟩ | ⟨_, c3, e', z⟩
      · have k' : X.env.scope.names.lookup y = some .local := k'
        have lf : X.env.scope.names.lookup y = some .cell ∨ X.env.scope.names.lookup y = some .free := lf
        rw [k'] at lf
        rcases lf with lf | lf <;> cases lf
      · rw [c1] at e'
        cases e'
        exact cellK (I.freeC y _ c1) z
  · obtain ⟨w', z⟩ := I.cell y c (mine e)
    exact ⟨w', cellK (I.freeC y c (mine e)) z⟩
  · obtain ⟨v, o, ho, hd⟩ := I.cell y c (mine e)
    exact un.free c o ho (I.freeC y c (mine e)) (by simp)
end
def BindsLam (q : Str) (params : Arguments) (body : Expr) (scope : Scope) (df : List V) (xs : List Str) : Prop :=
  ∀ (s : Shared) (cl : List (Str × Addr)) (doc pm cv ct : Value) (t : Addr) (us : List Value) (o : Obj) (n : Nat), us.length = df.length → (df ≠ [] → s.heap.get? t = some o ∧ o.data = .seq us.toArray n) →
    BindsTo s (PySem.W.kdv_fn "<lambda>" q params (.expr body) scope cl (if (!df.isEmpty) = true then .ref t else .none) doc pm cv ct) ⟨[], []⟩ (xs.zip us)
theorem bl_0 {q : Str} {params : Arguments} {body : Expr} {scope : Scope} (h : ∀ (cl : List (Str × Addr)) (doc pm cv ct : Value), bindArgs (PySem.W.kdv_fn "<lambda>" q params (.expr body) scope cl .none doc pm cv ct) ⟨[], []⟩ = pure []) : BindsLam q params body scope [] [] :=
  fun s cl doc pm cv ct t us o n _ _ => BindsTo.of_eq (h cl doc pm cv ct)
theorem bl_1 {q : Str} {params : Arguments} {body : Expr} {scope : Scope} {i : Int} {x : Str}
    (h : ∀ (s : Shared) (cl : List (Str × Addr)) (doc pm cv ct : Value) (t : Addr) (u : Value) (o : Obj) (n : Nat), s.heap.get? t = some o → o.data = .seq #[u] n → BindsTo s (PySem.W.kdv_fn "<lambda>" q params (.expr body) scope cl (.ref t) doc pm cv ct) ⟨[], []⟩ [(x, u)]) :
    BindsLam q params body scope [.int i] [x] := fun s cl doc pm cv ct t us o n hl ho => by
  rcases us with _ | ⟨u, _ | ⟨_, _⟩⟩
  · cases hl
  · obtain ⟨h1, h2⟩ := ho (by simp)
    exact h s cl doc pm cv ct t u o n h1 h2
  · cases hl
section
variable {G : Sg} {X : Cx} {pins : List (Addr × Obj)} {σ : L2.St} {H : Hp} {s : Shared} {ι : Io} {M : Mem} {δ : DEnv}
theorem act_clo {CXg : CXT} {Eg : XK} {Ng : List Str} {qg : Str} {sg : Scope} {g c P : Addr} {cdg : Value} {k kr i : Nat} {params : Arguments} {body : Expr} {scope : Scope} {df : List V} {xs : List Str} {a : Str} {pn : List (Addr × Obj)} {xe : Value → Shared → Prop} {W : WX} {mb : E D} {p1 p2 : Pos}
    (I : Inv X pins σ H s) (C : CloIs G X c P k params body scope df) (L : LamP X.N X.env.scope scope) (hx : ∀ x ∈ xs, scope.names.lookup x = some .local) (hbind : BindsLam (X.env.qual ++ "<lambda>") params body scope df xs)
    (hr : HRel G H ι M) (er : ER G H ι δ σ)
    (tk : Takes ((cxOf CXg X.prog X.w X.K X.mg X.base Ng qg sg g cdg X.A X.stack s H Eg).tr pn xe) W) (hroom : Room (kr + 1) (X.A.deeper (envOfC qg sg s.heap.objs.size g cdg)))
    (hbody : ∀ (A : Around) (outer : List Env) (s1 : Shared) (H1 : Hp) (Ex : XK) (f c' : Addr), Room kr (A.deeper (lamEnv X scope s1.heap.objs.size f c')) → JE G (lamCx X A outer s1 H1 Ex scope f c') (WF Ex) body mb)
    (hN : Ng[i]? = some a) (hv : Vis sg a) (hd : (a == ("__debug__" : Str)) = false := by decide) (hcd : (a == ("__classdict__" : Str)) = false := by decide) :
    PE ((cxOf CXg X.prog X.w X.K X.mg X.base Ng qg sg g cdg X.A X.stack s H Eg).tr pn xe) (.Call (.Name a p1) [] [] p2)
      (fun σZ HZ Q => HZ = H ∧ ∃ v, σZ[i]? = some (some v) ∧ R G H ι (.clo k) v ∧ Fin relD G H ι Q (fun cls d H' => W cls d σZ H') (mb δ M)) := by
  refine ⟨fun pinsZ sZ σZ HZ Q IZ hh => ?_⟩
  obtain ⟨eH, v, hs, rv, hf⟩ := hh
  subst eH
  refine wpAny_Call_Name_kw (thn ((pe_var (pos := p1) (i := i) hN hv hd hcd).run pinsZ sZ σZ HZ (fun v' H1 => v' = v ∧ H1 = HZ) IZ ⟨v, hs, rfl, rfl⟩) fun u s1 ⟨v1, H1, I1, r1, q1⟩ => ?_)
  obtain ⟨ev, eH⟩ := q1
  subst ev
  rw [eH] at I1
  obtain ⟨f, c', t, ef, ⟨hfo, _⟩, ⟨hco, _⟩, ht⟩ := rv
  subst ef
  obtain rfl : u = Value.ref f := r1
  rw [C.cl] at hfo
  obtain ⟨⟨doc, pm, ctv, of1⟩, _, _⟩ := I1.hok f _ hfo
  rw [C.q] at hco
  obtain ⟨⟨oc, vs, tt, hoc, hdc, hvc⟩, _, _⟩ := I1.hok c' _ hco
  refine PySem.W.callWith_F0 ⟨_, _, _, _, of1⟩ ?_
  have un : Un (frs X.stack) [] HZ HZ s.heap s1.heap := I1.base
  have tup : ∃ (us : List Value) (o : Obj) (n : Nat), us.length = df.length ∧ (df ≠ [] → s1.heap.get? t = some o ∧ o.data = .seq us.toArray n) := by
    rcases ht with ht | ⟨ht, _⟩
    · rw [C.df] at ht
      subst ht
      exact ⟨[], default, 0, rfl, fun z => absurd rfl z⟩
    · rw [C.df] at ht
      obtain ⟨_, its, rv, o, h1, h2, n, h3⟩ := (show ObjOk X.prog X.w HZ s1.heap t (.tup df) from I1.hok t _ ht)
      exact ⟨its, o, n, rv.length.symm, fun _ => ⟨h1, by rw [h3]⟩⟩
  obtain ⟨us, o, n, hus, ho⟩ := tup
  have rc : codeAny (model X.prog X.w) (X.A.deeper (envOfC qg sg s.heap.objs.size g cdg)) (.call (.ref f) ⟨[], []⟩) (CR (L2.CX X.prog X.w) (envOfC qg sg s.heap.objs.size g cdg :: X.stack) X.prog X.w HZ s1 Q fun cls d H' => W cls d σZ H') s1 := by
    refine PySem.W.kla_callFunE hroom.depth of1 rfl L.co L.gen rfl ⟨c', oc, vs, tt, rfl, hoc, hdc, hvc⟩ ?_
    refine hbind s1 _ doc pm (.ref c') ctv t us o n hus ho _ _ _ _ ?_
    refine wpAny_newFunctionEnv L.nocell (fun y hy => hx _ (List.of_mem_zip hy).1) (fun h₁ hns hsb => ⟨I1.nolimit.fresh _ hsb, ?_⟩) L.kind
    show codeAny _ _ (.expr body (lamEnv X scope s1.heap.objs.size f c')) _ _
    have kp : ∀ b o, s1.heap.get? b = some o → h₁.get? b = some o := fun b o e => hsb.extBut b o (Nat.ne_of_lt (Heap.lt_size e)) (Heap.get?_push_of_some _ e)
    have J := lam_enter (tk := s1.toks + (xs.zip us).length) (E := fun cls d H' => W cls d σZ H') (f := f) (c' := c') I L I1.env0 hroom.hd un hns kp
    refine PySem.W.kla_codeExpr (wpAny_mono ((hbody _ _ s1 HZ (fun cls d H' => W cls d σZ H') f c' (hroom.deeper _)).run [] _ σ HZ Q J ⟨ι, M, δ, hr, er, hf⟩) (fun v s' hq => ?_) fun e s' hq => hq)
    obtain ⟨w', H', J', rv, q⟩ := hq
    exact ⟨w', H', J'.os, J'.bare, J'.base, J'.hok, rv, q⟩
  refine wpAny_call (codeAny_mono rc fun r s' hq => ?_)
  cases r with
  | error e => exact (passAt tk σZ) pinsZ HZ s1 e s' I1 hq
  | ok fl =>
    cases fl with
    | ret u => exact I1.after hq
    | next => exact False.elim hq
    | brk => exact False.elim hq
    | cont => exact False.elim hq
end
end DL
namespace DL
open PySem PySem.Spec PyProof.Rows L2 LamX
abbrev Zcx (X : Cx) (Ng : List Str) (x : Str) (st : Stmt) (g : Addr) (cdg : Value) (s : Shared) (H : Hp) (E0 : XK) : Cx := cxOf CX0 X.prog X.w X.K X.mg X.base Ng x (defScope st) g cdg X.A X.stack s H E0
def GivesD (G : Sg) (X : Cx) (x : Str) (st : Stmt) (g : Addr) (Ng : List Str) (a : Str) (gm : (Mem → Out D) → Mem → Out D) : Prop :=
  ∀ (cdg : Value) (s : Shared) (H : Hp) (ι : Io) (M : Mem) (th : Mem → Out D) (v : V) (Q : VK) (E0 : XK), HRel G H ι M → Room 1 (Zcx X Ng x st g cdg s H E0).A →
    (∀ (W : WX) (pn : List (Addr × Obj)) (xe : Value → Shared → Prop) (p1 p2 : Pos), Takes ((Zcx X Ng x st g cdg s H E0).tr pn xe) W →
      PE ((Zcx X Ng x st g cdg s H E0).tr pn xe) (.Call (.Name a p1) [] [] p2) (fun σZ HZ Q => HZ = H ∧ σZ[0]? = some (some v) ∧ Fin relD G H ι Q (fun cls d H' => W cls d σZ H') (th M))) →
    Fin relD G H ι Q (fun _ _ _ => False) (gm th M) →
    ∃ t, PSs (Zcx X Ng x st g cdg s H E0).nox (defBody st) t ∧ t { nx := fun _ H' => Q .non H', rt := Q } (L2.start Ng [v]) H
structure Klo (G : Sg) (X : Cx) (kr k : Nat) (mb : E D) : Prop where
  ex : ∃ (c P : Addr) (params : Arguments) (body : Expr) (scope : Scope) (df : List V) (xs : List Str), CloIs G X c P k params body scope df ∧ LamP X.N X.env.scope scope ∧ (∀ x ∈ xs, scope.names.lookup x = some .local) ∧
    BindsLam (X.env.qual ++ "<lambda>") params body scope df xs ∧
    ∀ (A : Around) (outer : List Env) (s1 : Shared) (H1 : Hp) (Ex : XK) (f c' : Addr), Room kr (A.deeper (lamEnv X scope s1.heap.objs.size f c')) → JE G (lamCx X A outer s1 H1 Ex scope f c') (WF Ex) body mb
def cloK (gm : (Mem → Out D) → Mem → Out D) (th : Nat → E D) (δ : DEnv) : D → Mem → Out D := fun d M1 => match d with | .clo k => gm (th k δ) M1 | _ => .undef
def eClo (me : E D) (gm : (Mem → Out D) → Mem → Out D) (th : Nat → E D) : E D := fun δ M => (me δ M).bind (cloK gm th δ)
section
variable {G : Sg} {X : Cx} {W : WX}
theorem je_callClo {x a : Str} {st : Stmt} {g : Addr} {fd : FuncData} {Ng : List Str} {kr : Nat} {gm : (Mem → Out D) → Mem → Out D} {th : Nat → E D} {e : Expr} {me : E D} {p pos : Pos} (F : L2.Fun X.K x x st g fd) (hb : Binds X.K fd [a] []) (hm : X.mg x = some (.ref g)) (hg : Gl X x) (Sg : FnScope Ng [a] (defScope st)) (hNg : Ng[0]? = some a) (hva : Vis (defScope st) a)
    (hG : GivesD G X x st g Ng a gm) (hgx : ∀ (th : Mem → Out D) (M : Mem) (e : XV) (M' : Mem), gm th M ≠ .exc e M') (hr : Room (kr + 2) X.A) (hk : ∀ k, Klo G X kr k (th k) ∨ ∀ δ M, gm (th k δ) M = .undef) (ha : JE G X W e me)
    (hdb : (x == ("__debug__" : Str)) = false := by decide) (hd : (a == ("__debug__" : Str)) = false := by decide) (hcd : (a == ("__classdict__" : Str)) = false := by decide)
    (hs : starEach [e] X.env = (false, eval e X.env) :: starEach [] X.env := by rfl) (hpl : (backTo pos (starEach [] X.env)).any (·.1) = false := by rfl) :
    JE G X W (.Call (.Name x p) [e] [] pos) (eClo me gm th) := by
  refine ⟨fun pins s σ H Q I h => ?_⟩
  obtain ⟨oc, od, kV, doc, pm, an, cdv, ct, osl, rfl, lk, hcg⟩ := F.ex
  obtain ⟨ι, M, δ, hr0, er, f⟩ := h
  refine wpAny_Call_Name_kw (ld_glob I hg hm ?_ hdb)
  have run := (ja_cons (W := W) ha ja_nil hs).run pos pins s σ H (fun vs H1 => ∃ v ι1 M1 d, vs = [v] ∧ HRel G H1 ι1 M1 ∧ ER G H1 ι1 δ σ ∧ R G H1 ι1 d v ∧ Fin relD G H1 ι1 Q (fun c d' H' => W c d' σ H') (cloK gm th δ d M1)) I
    ⟨ι, M, δ, hr0, er, by
      have f1 := Fin.bind (rel := relD) f
      unfold aCons aNil
      cases e1 : me δ M with
      | undef => rw [e1] at f1; exact f1.elim
      | exc a b => rw [e1] at f1; exact f1
      | ok d M1 =>
        rw [e1] at f1
        intro vs H1 ι1 ex hr1 ra
        obtain ⟨v, ev, rv⟩ := RA.one ra
        obtain ⟨ι2, M2, d2, _, _, _, _⟩ := f1 v H1 ι1 ex hr1 rv
        have f0 : Fin relD G H ι Q (fun c d H' => W c d σ H') (cloK gm th δ d M1) := by
          unfold eClo at f
          rw [e1] at f
          exact f
        exact ⟨v, ι1, M1, d, ev, hr1, er.ext hr0 ex, rv, f0.ext ex⟩⟩
  refine PySem.W.callWith_K (h₀ := X.base) I.ok.mod.kin F.kp (thn run fun us s1 ⟨vs, H1, I1, rv1, v, ι1, M1, d, ev, hr1, er1, rd1, f1⟩ => ⟨I1.kIn, ?_⟩) hs hpl
  subst ev
  cases d <;> first
    | exact f1.elim
    | skip
  rename_i k
  have f1 : Fin relD G H1 ι1 Q (fun c d' H' => W c d' σ H') (gm (th k δ) M1) := f1
  rcases hk k with K1 | hun
  · have f2 : Fin relD G H1 ι1 Q (fun _ _ _ => False) (gm (th k δ) M1) := by
      cases e1 : gm (th k δ) M1 with
      | exc a b => exact absurd e1 (hgx _ _ _ _)
      | ok a b => rw [e1] at f1; exact f1
      | undef => rw [e1] at f1; exact f1
    obtain ⟨c, P, params, body, scope, df, xs, C, L, hx, hbind, hbody⟩ := K1.ex
    have rc : codeAny (model X.prog X.w) X.A (.call (.ref g) ⟨us, []⟩) (CR CX0 X.stack X.prog X.w H1 s1 Q fun _ _ _ => False) s1 := by
      have hus : us.length = 1 := rv1.length.symm
      obtain ⟨u, eu⟩ : ∃ u, us = [u] := by
        rcases us with _ | ⟨u, _ | ⟨_, _⟩⟩
        · cases hus
        · exact ⟨u, rfl⟩
        · cases hus
      subst eu
      refine run_ofS (N := Ng) (ps := [a]) (us := [u]) (vs := [v]) lk hcg Sg hr I1.env0 (hb s1 [u] I1.kIn rfl) rv1 rfl fun hr' => ?_
      obtain ⟨t', ht', hq'⟩ := hG cdv s1 H1 ι1 M1 (th k δ) v Q (fun _ _ _ => False) hr1 (hr'.mono (by omega)) (fun W pn xe p1 p2 tk => pe_imp (act_clo (i := 0) I1 C L hx hbind hr1 er1 tk hr' hbody hNg hva hd hcd) fun σZ HZ Q ⟨z1, z2, z3⟩ => ⟨z1, v, z2, rd1, z3⟩) f2
      exact ⟨t', ht'.nox, hq'⟩
    refine wpAny_call (codeAny_mono rc fun r s2 hq => ?_)
    cases r with
    | error e => exact (show False from hq).elim
    | ok fl =>
      cases fl with
      | ret u => exact I1.after hq
      | next => exact False.elim hq
      | brk => exact False.elim hq
      | cont => exact False.elim hq
  · rw [hun] at f1; exact f1.elim
end
theorem mem_lookup0 {β : Type} {k : Nat} {b : β} : ∀ {l : List (Nat × β)}, l.lookup k = some b → (k, b) ∈ l
  | [], e => by cases e
  | (j, c) :: l, e => by
    by_cases h : k = j
    · subst h
      simp at e
      subst e
      exact List.mem_cons_self
    · have h2 : (k == j) = false := by simpa using h
      simp only [List.lookup, h2] at e
      exact List.mem_cons_of_mem _ (mem_lookup0 e)
def exEnv (n i : Nat) (fs : List (Str × D)) (a dx : Addr) : DEnv := (List.replicate n none).set i (some (if (!fs.isEmpty) = true then .obx a dx fs else .ob a))
def gCaught (tb : List (Nat × Bool)) (n i : Nat) (sH : XV → Addr → Addr → S) (mr : S) (th : Mem → Out D) (M : Mem) : Out D := match th M with
  | .ok _ M' => match mr (List.replicate n none) M' with | .rt d M2 => .ok d M2 | _ => .undef
  | .exc y M' => match tb.lookup y.cls with
    | some true => match sH y 0 0 (exEnv n i y.fs 0 0) M' with | .rt d M2 => .ok d M2 | _ => .undef
    | _ => .undef
  | .undef => .undef
theorem gCaught_x {tb : List (Nat × Bool)} {n i : Nat} {sH : XV → Addr → Addr → S} {mr : S} (th : Mem → Out D) (M : Mem) (e : XV) (M' : Mem) : gCaught tb n i sH mr th M ≠ .exc e M' := by
  unfold gCaught
  cases th M with
  | undef => intro z; cases z
  | ok a b => dsimp only; split <;> intro z <;> cases z
  | exc y b =>
    dsimp only
    split
    · split <;> intro z <;> cases z
    · intro z; cases z
theorem ER_none {G : Sg} {H : Hp} {ι : Io} : ∀ {σ : L2.St}, ER G H ι (List.replicate σ.length none) σ
  | [] => rfl
  | v :: r => ⟨v, r, rfl, ER_none⟩
theorem start_len {Ng : List Str} {v : V} (h : 0 < Ng.length) : (L2.start Ng [v]).length = Ng.length := by
  unfold L2.start
  simp
  omega
theorem caught_D {G : Sg} {X : Cx} {x a e n : Str} {st : Stmt} {g CS : Addr} {Ng : List Str} {i : Nat} {tb : List (Nat × Bool)} {sH : XV → Addr → Addr → S} {mr : S} {b₀ : Stmt} {suite rest : List Stmt} {p1 p2 p3 p4 p7 p8 : Pos}
    (hst : defBody st = .Try [.Expr (.Call (.Name a p1) [] [] p2) p3] [.ExceptHandler (some (.Name e p4)) (some n) (b₀ :: suite) p7] [] [] p8 :: rest) (hlen : 0 < Ng.length)
    (hge : (defScope st).names.lookup e = some .globalImplicit) (hme : X.mg e = some (.ref CS)) (hde : (e == ("__debug__" : Str)) = false) (hND : Ng.Nodup) (hn : Ng[i]? = some n) (hln : (defScope st).names.lookup n = some .local)
    (htb : ∀ p ∈ tb, PySem.W.exmOne X.K (.ref (G.C p.1)) (.ref CS) = some p.2)
    (hsH : ∀ (y : XV) (a1 dx : Addr) (oe : Obj) (cdg : Value) (s : Shared) (H : Hp) (E0 : XK) (pn : List (Addr × Obj)), tb.lookup y.cls = some true → Zc (.ref (G.C y.cls)) (if (!y.fs.isEmpty) = true then some dx else none) oe → (∃ vs, oe.data = .fields vs) → Room 1 (Zcx X Ng x st g cdg s H E0).A →
      JSs G ((Zcx X Ng x st g cdg s H E0).nox.suite a1 ((a1, oe) :: pn)) W0 (b₀ :: suite) (sH y a1 dx))
    (hind : ∀ (y : XV) (a1 dx : Addr) (M : Mem), sH y a1 dx (exEnv Ng.length i y.fs a1 dx) M = sH y 0 0 (exEnv Ng.length i y.fs 0 0) M)
    (hmr : ∀ (cdg : Value) (s : Shared) (H : Hp) (E0 : XK), Room 1 (Zcx X Ng x st g cdg s H E0).A → JSs G (Zcx X Ng x st g cdg s H E0).nox W0 rest mr) :
    GivesD G X x st g Ng a (gCaught tb Ng.length i sH mr) := by
  intro cdg s H ι M th v Q E0 hr hroom act f
  have hgl : Gl (Zcx X Ng x st g cdg s H E0).nox e := hge
  rw [hst]
  refine ⟨_, pss_cons (ps_try_as (X := (Zcx X Ng x st g cdg s H E0).nox) (i := i) (c := .ref CS) (tb := fun W Z σ HZ => HZ = H ∧ σ[0]? = some (some v) ∧ σ.length = Ng.length ∧ Fin relD G H ι (fun _ H' => Z.nx σ H') (fun cls d H' => W cls d σ H') (th M))
    (ts := fun a1 cls d Z σ H' => ∃ (y : XV) (dx : Addr), cls = .ref (G.C y.cls) ∧ d = (if (!y.fs.isEmpty) = true then some dx else none) ∧ tb.lookup y.cls = some true ∧ rdS G W0 (sH y a1 dx) Z σ H')
    rfl rfl hND hn hln ⟨hgl, hde, .inl hme⟩ L2.takes0 (fun W pn xe tk _ => pss_one (ps_imp (ps_expr (act W pn xe p1 p2 tk)) fun Z σ HZ ⟨z1, z2, z3, z4⟩ => ⟨z1, z2, z4⟩))
    (fun a1 oe cls d pn hz hf => ⟨fun pins s0 σ0 H0 Z0 I0 ⟨y, dx, hc, hd, ht, hrd⟩ => by subst hc hd; exact (hsH y a1 dx oe cdg s H E0 pn ht hz hf hroom).run pins s0 σ0 H0 Z0 I0 hrd⟩)) (hmr cdg s H E0 hroom), rfl, rfl, start_len hlen, ?_⟩
  unfold gCaught at f
  cases e1 : th M with
  | undef => rw [e1] at f; exact f.elim
  | ok d M' =>
    rw [e1] at f
    dsimp only at f
    intro v' H' ι' ex hr' _
    refine ⟨ι', M', List.replicate Ng.length none, hr', by rw [← start_len (v := v) hlen]; exact ER_none, ?_⟩
    cases e2 : mr (List.replicate Ng.length none) M' with
    | rt d2 M2 => rw [e2] at f; exact fun w H2 ι2 ex2 => f w H2 ι2 (ex.trans ex2)
    | nx _ _ => rw [e2] at f; exact f.elim
    | bk _ _ => rw [e2] at f; exact f.elim
    | ct _ _ => rw [e2] at f; exact f.elim
    | exc _ _ _ => rw [e2] at f; exact f.elim
    | undef => rw [e2] at f; exact f.elim
  | exc y M' =>
    rw [e1] at f
    dsimp only at f
    cases e2 : tb.lookup y.cls with
    | none => rw [e2] at f; exact f.elim
    | some b =>
      rw [e2] at f
      cases b with
      | false => exact f.elim
      | true =>
        dsimp only at f
        cases e3 : sH y 0 0 (exEnv Ng.length i y.fs 0 0) M' with
        | nx _ _ => rw [e3] at f; exact f.elim
        | bk _ _ => rw [e3] at f; exact f.elim
        | ct _ _ => rw [e3] at f; exact f.elim
        | exc _ _ _ => rw [e3] at f; exact f.elim
        | undef => rw [e3] at f; exact f.elim
        | rt d2 M2 =>
          rw [e3] at f
          intro c d H' ι' ex hr' xr
          have hc : c = .ref (G.C y.cls) := xr.1
          subst hc
          have key : ∃ dx : Addr, d = (if (!y.fs.isEmpty) = true then some dx else none) ∧ ∀ a1 : Addr, R G H' ι' (if (!y.fs.isEmpty) = true then .obx a1 dx y.fs else .ob a1) (.ref a1) := by
            rcases xr.2 with ⟨z1, z2⟩ | ⟨z1, dx, ws, z2, z3, z4⟩
            · refine ⟨0, by rw [z1, z2]; rfl, fun a1 => ?_⟩
              rw [z1]
              exact (show R G H' ι' (.ob a1) (.ref a1) from rfl)
            · have hb : (!y.fs.isEmpty) = true := by
                cases hy : y.fs with
                | nil => exact absurd hy z1
                | cons _ _ => rfl
              refine ⟨dx, by rw [hb, z2]; rfl, fun a1 => ?_⟩
              rw [hb]
              refine (show R G H' ι' (.obx a1 dx y.fs) (.ref a1) from ⟨rfl, ws, z3, fun z => ?_, z4.plain⟩)
              rcases hr'.mutOf z with ⟨_, q⟩ | ⟨_, q⟩ | ⟨_, q⟩ | ⟨_, _, _, q⟩ <;> rw [q] at z3 <;> cases z3
          obtain ⟨dx, hd, hR⟩ := key
          refine ⟨true, htb (y.cls, true) (mem_lookup0 e2), fun _ a1 _ => ⟨y, dx, rfl, hd, e2, ι', M', exEnv Ng.length i y.fs a1 dx, hr', ?_, ?_⟩, fun z => by cases z⟩
          · unfold exEnv
            rw [← start_len (v := v) hlen]
            exact ER.set (v := V.ref a1) (hR a1) i ER_none
          · rw [hind y a1 dx M', e3]
            exact fun w H2 ι2 ex2 => f w H2 ι2 (ex.trans ex2)
end DL
namespace DL
open PySem PySem.Spec PyProof.Rows L2 LamX
def eIsE (fs : Bool) (a dx : Addr) (ob : Option Bool) (i : Nat) : E D := fun δ M => match fs, δ[i]?.join with
  | false, some (.ob a') => if a' = a then (match ob with | some b => .ok (.bl b) M | none => .undef) else .undef
  | true, some (.obx a' dx' _) => if a' = a ∧ dx' = dx then (match ob with | some b => .ok (.bl b) M | none => .undef) else .undef
  | _, _ => .undef
def rIsEX (K : PySem.W.Frag) (D a : Addr) (fs : Bool) (dx : Addr) : List V → Hp → VK → Prop := fun xs H Q => ∃ (c : V) (cv : Value) (b : Bool), xs = [.ref a, c] ∧ (∀ u, RelV c u → u = cv) ∧ PySem.W.kitOne K (.ref D) cv = some b ∧ (fs = true → ∃ ws, H dx = some (.xd ws)) ∧ Q (.bl b) H
theorem call_isEX {X : Cx} {a D dx : Addr} {fs : Bool} {oe : Obj} {pn : List (Addr × Obj)} (C : ExcC X.K D) (hz : Zc (.ref D) (if fs = true then some dx else none) oe) (hf : ∃ vs, oe.data = .fields vs) : CallR (X.suite a ((a, oe) :: pn)) (.builtin "isinstance") (rIsEX X.K D a fs dx) := by
  intro pins s σ H xs us Q I r h
  obtain ⟨c, cv, b, rfl, hcv, e, hx, q⟩ := h
  cases r with
  | cons rx rr =>
    cases rr with
    | cons rt rr =>
      cases rr
      cases rx
      have ec := hcv _ rt
      subst ec
      obtain ⟨hget, _⟩ := I.pin (a, oe) (List.mem_append.mpr (.inl List.mem_cons_self))
      obtain ⟨vs, hv⟩ := hf
      have J : ∃ od, PySem.W.InstAt s.heap a oe D od := by
        obtain ⟨oc, od, oda, osl⟩ := oe
        obtain ⟨h1, h2⟩ := hz
        dsimp only at h1 h2 hv
        subst h1 h2 hv
        cases fs with
        | false => exact ⟨none, hget, rfl, rfl, trivial⟩
        | true =>
          obtain ⟨ws, hw⟩ := hx rfl
          obtain ⟨mA, ⟨o, _, _, ho, _⟩, _⟩ := (show ObjOk X.prog X.w H s.heap dx (.xd ws) from I.hok dx _ hw)
          exact ⟨some o, hget, rfl, rfl, ho⟩
      obtain ⟨od, J⟩ := J
      obtain ⟨cdD, hcD, _⟩ := PySem.W.any_some C.hd
      exact PySem.W.kia_one (PySem.W.kitx_exc (by rw [hcD]; rfl) C.hg C.hk C.hs C.ha C.hn C.ht C.hm) I.kIn J e (fun z => nomatch z) fun tk => ⟨.bl b, H, I.kept (t' := tk) fun _ _ z => z, rfl, q⟩
theorem je_isE {G : Sg} {X : Cx} {W : WX} {a dx Dc Ct : Addr} {fs : Bool} {oe : Obj} {pn : List (Addr × Obj)} {ob : Option Bool} {i : Nat} {n c : Str} {p p1 p2 pos : Pos} (C : ExcC X.K Dc) (hz : Zc (.ref Dc) (if fs = true then some dx else none) oe) (hf : ∃ vs, oe.data = .fields vs)
    (hg : Gl X "isinstance") (hm : X.mg "isinstance" = none) (hN : X.N[i]? = some n) (hv : Vis X.env.scope n) (hgc : Gl X c) (hmc : X.mg c = some (.ref Ct)) (hb : ∀ b, ob = some b → PySem.W.kitOne X.K (.ref Dc) (.ref Ct) = some b)
    (hd : (n == ("__debug__" : Str)) = false := by decide) (hcd : (n == ("__classdict__" : Str)) = false := by decide) (hdc : (c == ("__debug__" : Str)) = false := by decide)
    (he : starEach [.Name n p1, .Name c p2] X.env = (false, eval (.Name n p1) X.env) :: starEach [.Name c p2] X.env := by rfl) (he2 : starEach [.Name c p2] X.env = (false, eval (.Name c p2) X.env) :: starEach [] X.env := by rfl)
    (hpl : (backTo pos (starEach [.Name c p2] X.env)).any (·.1) = false := by rfl) :
    JE G (X.suite a ((a, oe) :: pn)) W (.Call (.Name "isinstance" p) [.Name n p1, .Name c p2] [] pos) (eIsE fs a dx ob i) :=
  pe_imp (pe_callB (X := X.suite a ((a, oe) :: pn)) (call_isEX (fs := fs) (dx := dx) C hz hf) hg hm (by decide +kernel) (pa_cons (pe_var (i := i) hN hv hd hcd) (pa_cons (pe_glob (v := .ref Ct) hgc hmc rfl hdc) pa_nil he2) he) (by decide) (by decide) he hpl) fun σ H Q ⟨ι, M, δ, hr, er, f⟩ => by
    unfold eIsE at f
    cases e : δ[i]? with
    | none => rw [e] at f; cases fs <;> exact f.elim
    | some o =>
      cases o with
      | none => rw [e] at f; cases fs <;> exact f.elim
      | some d =>
        rw [e] at f
        obtain ⟨v, h1, h2⟩ := er.get e
        dsimp only [Option.join, Option.bind, id] at f
        cases fs with
        | false =>
          cases d <;> first
            | exact f.elim
            | skip
          rename_i a'
          obtain rfl : v = _ := h2
          by_cases ha : a' = a
          · subst ha
            dsimp only at f
            rw [if_pos rfl] at f
            cases ob with
            | none => exact f.elim
            | some b => exact ⟨_, h1, .ref Ct, .ref Ct, b, rfl, fun u r => r, hb b rfl, (fun z => nomatch z), ok_fin hr f rfl⟩
          · dsimp only at f
            rw [if_neg ha] at f
            exact f.elim
        | true =>
          cases d <;> first
            | exact f.elim
            | skip
          rename_i a' dx' _
          obtain ⟨rfl, ws, hw, _, _⟩ := h2
          by_cases ha : a' = a ∧ dx' = dx
          · obtain ⟨rfl, rfl⟩ := ha
            dsimp only at f
            rw [if_pos ⟨rfl, rfl⟩] at f
            cases ob with
            | none => exact f.elim
            | some b => exact ⟨_, h1, .ref Ct, .ref Ct, b, rfl, fun u r => r, hb b rfl, fun _ => ⟨ws, hw⟩, ok_fin hr f rfl⟩
          · dsimp only at f
            rw [if_neg ha] at f
            exact f.elim
end DL
namespace DL
open PySem PySem.Spec PyProof.Rows L2 LamX
abbrev Lam := Arguments × Expr × Scope
def lamsE : Nat → Expr → List Lam
  | 0, _ => []
  | _ + 1, .Lambda a b s _ => [(a, b, s)]
  | n + 1, .BoolOp _ vs _ => vs.flatMap (lamsE n)
  | n + 1, .BinOp a _ b _ => lamsE n a ++ lamsE n b
  | n + 1, .UnaryOp _ a _ => lamsE n a
  | n + 1, .IfExp a b c _ => lamsE n a ++ lamsE n b ++ lamsE n c
  | n + 1, .Compare a _ bs _ => lamsE n a ++ bs.flatMap (lamsE n)
  | n + 1, .Call f es _ _ => lamsE n f ++ es.flatMap (lamsE n)
  | n + 1, .Subscript a b _ => lamsE n a ++ lamsE n b
  | n + 1, .List es _ => es.flatMap (lamsE n)
  | n + 1, .Tuple es _ _ => es.flatMap (lamsE n)
  | _, _ => []
def lamsS : Nat → Stmt → List Lam
  | 0, _ => []
  | _ + 1, .Assign _ v _ => lamsE 12 v
  | _ + 1, .AugAssign _ _ v _ => lamsE 12 v
  | _ + 1, .Return (some v) _ => lamsE 12 v
  | _ + 1, .Expr v _ => lamsE 12 v
  | n + 1, .If c a b _ => lamsE 12 c ++ a.flatMap (lamsS n) ++ b.flatMap (lamsS n)
  | n + 1, .For _ i a b _ => lamsE 12 i ++ a.flatMap (lamsS n) ++ b.flatMap (lamsS n)
  | n + 1, .While c a b _ => lamsE 12 c ++ a.flatMap (lamsS n) ++ b.flatMap (lamsS n)
  | _, _ => []
def lamsOf (st : Stmt) : List Lam := (defBody st).flatMap (lamsS 8)
def noLam : Lam := ({ posonlyargs := [], args := [], vararg := none, kwonlyargs := [], kw_defaults := [], kwarg := none, defaults := [] }, .Constant .none 0 ⟨0, 0, 0, 0⟩, { kind := .function, names := [], isGenerator := false, isCoroutine := false })
def lawG (A : Ad) (X : Cx) (lams : List Lam) (df : Nat → List V) : Sg where
  K := X.K
  C := A.C
  F := A.f
  cl := fun k a c t => LamHO (X.env.qual ++ "<lambda>") (lams.getD k noLam).1 (lams.getD k noLam).2.1 (lams.getD k noLam).2.2 (cloFrom X.env.cells (lams.getD k noLam).2.2.names []) (!(df k).isEmpty) a c t
  q := X.env.qual ++ "<lambda>"
  df := df
  T := A.T
theorem clo_is {A : Ad} {X : Cx} {lams : List Lam} {df : Nat → List V} {c P : Addr} {k : Nat} {params : Arguments} {body : Expr} {scope : Scope} {dk : List V} (hl : lams[k]? = some (params, body, scope)) (hd : df k = dk) (tb : TabB X.base X.mg c P) (code : X.env.code = .ref c) (L : LamP X.N X.env.scope scope)
    (mem : (P, X.env.qual ++ "<lambda>") ∈ A.T) (one : ∀ p ∈ A.T, p.1 = P → p.2 = X.env.qual ++ "<lambda>") :
    CloIs (lawG A X lams df) X c P k params body scope dk := by
  have e : lams.getD k noLam = (params, body, scope) := by rw [List.getD_eq_getElem?_getD, hl] <;> rfl
  refine ⟨tb, code, mem, one, rfl, fun a c t => ?_, L.free, hd⟩
  show LamHO _ _ _ _ _ _ _ _ _ = _
  rw [e, hd]
def spLaw (K : PySem.W.Frag) (cs : List (Addr × Addr)) : Sp := fun vs H Q _ => ∃ (a : Addr) (ns : List Int), vs = [.ref a] ∧ SqL K H a (ns.map V.int) ∧ ns.length ≤ 63 ∧ (∀ z ∈ ns, Builtin.Int.intBits z ≤ 1048576) ∧ (∀ p ∈ cs, H p.2 = some (.tbl #[])) ∧ ∀ H', Q (.bl true) H'
theorem RA_ints {G : Sg} {H : Hp} {ι : Io} : ∀ ns : List Int, RA G H ι (ns.map D.int) (ns.map V.int)
  | [] => rfl
  | n :: ns => ⟨.int n, ns.map V.int, rfl, rfl, RA_ints ns⟩
section
variable {P : Program} {w : World} {K : PySem.W.Frag} {mg : Str → Option Value} {base : Heap}
theorem law_fn {st : Stmt} {f c : Addr} {oc kV doc pm ct : Value} {od an : Option Addr} {osl : Array (Option Value)} {N : List Str} {k : Nat} {m : S} {cs : List (Addr × Addr)}
    (lk : K.lookup f = some ⟨oc, od, .func (PySem.W.fnOf "law" "law" (defArgs st) (defBody st) (defScope st) .none kV doc pm an (.ref c) ct), osl⟩) (hcd : PySem.W.codeIn K (.ref c) "law" = true) (Sc : FnScope N ["script"] (defScope st))
    (Gof : Cx → Sg) (hGK : ∀ X : Cx, (Gof X).K = X.K) (hGT : ∀ X : Cx, ∀ p ∈ (Gof X).T, p.1 ∈ cs.map (·.2)) (hGc : ∀ (X : Cx) k a c t ps, (Gof X).cl k a c t ≠ .tbl ps)
    (hb : ∀ (A : Around) (outer : List Env) (s : Shared) (H : Hp) (Ex : XK), Room k (A.deeper (envOfC "law" (defScope st) s.heap.objs.size f (.ref c))) →
      JSs (Gof (cxOf CX0 P w K mg base N "law" (defScope st) f (.ref c) A outer s H Ex).nox) (cxOf CX0 P w K mg base N "law" (defScope st) f (.ref c) A outer s H Ex).nox W0 (defBody st) m)
    (math : ∀ ns : List Int, ns.length ≤ 63 → (∀ z ∈ ns, Builtin.Int.intBits z ≤ 1048576) → ∃ M', runS (N.length - 1) m [.rol (ns.map D.int)] [] = .ok (.bl true) M') :
    FnOk P w K mg base CX0 (k + 1) f (PySem.W.fnOf "law" "law" (defArgs st) (defBody st) (defScope st) .none kV doc pm an (.ref c) ct) ["script"] (spLaw K cs) := by
  refine fn_of lk hcd Sc (fun vs H Q E h => ?_) fun A outer s H vs Q E hr h => ?_
  · obtain ⟨a, ns, rfl, _⟩ := h
    rfl
  · obtain ⟨a, ns, rfl, hS, hl, hz, hT, q⟩ := h
    obtain ⟨M', hm⟩ := math ns hl hz
    have hr0 : HRel (Gof (cxOf CX0 P w K mg base N "law" (defScope st) f (.ref c) A outer s H E).nox) H ⟨[], []⟩ [] :=
      ⟨List.nodup_nil, rfl, fun n a o e _ => by simp at e, fun a ha => absurd ha (by simp), fun p hp => by
        obtain ⟨x, hx, e⟩ := List.mem_map.mp (hGT _ p hp)
        exact TabS.nil (by rw [← e]; exact hT x hx), hGc _⟩
    have ra : RA (Gof (cxOf CX0 P w K mg base N "law" (defScope st) f (.ref c) A outer s H E).nox) H ⟨[], []⟩ [.rol (ns.map D.int)] [.ref a] := by
      refine RA.cons ⟨a, ns.map V.int, rfl, ?_, RA_ints ns⟩ RA.nil
      rw [hGK]
      rcases hS with z | z
      · exact .inl ⟨z, fun h => h.elim (fun z => absurd z (by simp)) fun z => absurd z (by simp)⟩
      · exact .inr fun _ => .inr z
    have f := run_fin (G := Gof (cxOf CX0 P w K mg base N "law" (defScope st) f (.ref c) A outer s H E).nox) (H := H) (ι := ⟨[], []⟩) (Q := Q) (Ex := fun _ _ _ => False) (k := N.length - 1) (m := m) (ds := [.rol (ns.map D.int)]) (M := [])
      (by rw [hm]; exact fun v H' ι' _ _ r => by have r : v = .bl true := r; rw [r]; exact q H')
    exact ⟨_, (hb A outer s H E hr).nox, ⟨[], []⟩, [], _, hr0, start_ER ra rfl, f⟩
end
structure CodeFacts (K : PySem.W.Frag) (c P : Addr) : Prop where
  ex : ∃ (dd : Option Addr) (vs : Array Value) (sl : Array (Option Value)) (file : Str) (tf : Tok) (flags : Int) (tg : Tok) (inF : Bool) (text : Int) (tt : Tok),
    K.lookup c = some ⟨.type "code", dd, .fields vs, sl⟩ ∧ vs[11]? = some (.ref P) ∧ vs.getD 11 .none = .ref P ∧ vs.getD 18 .none = .str file tf ∧ vs.getD 7 .none = .int flags tg ∧ vs.getD 9 .none = .bool inF ∧ vs.getD 10 .none = .int text tt
  ne : c ≠ P
  np : K.lookup P = none
theorem law_at {l : PySem.W.OpenLaw} {w : World} {K : PySem.W.Frag} {k : Nat} {mg : Str → Option Value} {h : Heap} {f : Addr} {cs : List (Addr × Addr)} {fd : FuncData}
    (X : K.In h) (cf : ∀ p ∈ cs, CodeFacts K p.1 p.2) (empty : ∀ p ∈ cs, h.get? p.2 = some { cls := .none, data := .fields #[] })
    (hb : ∀ (s : Shared) (u : Value), BindsTo s fd ⟨[u], []⟩ [("script", u)])
    (F : ∀ base : Heap, K.In base → base.Ns mainGlobals mg → (∀ p ∈ cs, TabB base mg p.1 p.2) → FnOk l.prog w K mg base CX0 k f fd ["script"] (spLaw K cs)) :
    LawAtS l w K CX0 k 63 "script" mg f h := by
  refine ⟨_, cs, spLaw K cs, empty, fun p hp => (cf p hp).np, fun p hp => ?_, hb, fun H a ns hl hz hT hS => ⟨a, ns, rfl, hS, hl, hz, hT, fun _ => rfl⟩, fun base kb nb tb => F base kb nb tb⟩
  obtain ⟨dd, vs, sl, file, tf, flags, tg, inF, text, tt, h1, h2, h3, h4, h5, h6, h7⟩ := (cf p hp).ex
  exact ⟨_, vs, file, tf, flags, tg, inF, text, tt, X _ _ h1, rfl, rfl, h2, h3, h4, h5, h6, h7, (cf p hp).ne⟩
structure Gd (K : PySem.W.Frag) (x : Str) (st : Stmt) (f c : Addr) (fd : FuncData) : Prop where
  ex : ∃ (oc kV doc pm ct : Value) (od an : Option Addr) (osl : Array (Option Value)), fd = PySem.W.fnOf x x (defArgs st) (defBody st) (defScope st) .none kV doc pm an (.ref c) ct ∧ K.lookup f = some ⟨oc, od, .func (PySem.W.fnOf x x (defArgs st) (defBody st) (defScope st) .none kV doc pm an (.ref c) ct), osl⟩
  cd : PySem.W.codeIn K (.ref c) x = true
theorem fn_dlC {P : Program} {w : World} {K : PySem.W.Frag} {mg : Str → Option Value} {base : Heap} {G : Sg} {x : Str} {st : Stmt} {f c : Addr} {fd : FuncData} {N ps : List Str} {k n : Nat} {m : S} (F : Gd K x st f c fd) (Sc : FnScope N ps (defScope st)) (hn : ps.length = n)
    (hb : ∀ (A : Around) (outer : List Env) (s : Shared) (H : Hp) (Ex : XK), Room k (A.deeper (envOfC x (defScope st) s.heap.objs.size f (.ref c))) → JSs G (cxOf (L2.CX P w) P w K mg base N x (defScope st) f (.ref c) A outer s H Ex) (WF Ex) (defBody st) m) :
    FnOk P w K mg base (L2.CX P w) (k + 1) f fd ps (spD G n (runS (N.length - n) m)) := by
  obtain ⟨oc, kV, doc, pm, ct, od, an, osl, e, lk⟩ := F.ex
  rw [e]
  exact fn_of lk F.cd Sc (fun vs H Q Ex ⟨ι, M, ds, hr, r, e, _⟩ => by rw [← r.len, e, hn]) fun A outer s H vs Q Ex hroom ⟨ι, M, ds, hr, r, e, f⟩ =>
    ⟨_, hb A outer s H Ex hroom, ι, M, _, hr, start_ER r e, run_fin f⟩
theorem walk_owns {l : PySem.W.OpenLaw} {n k : Nat} {q : Program} {loose : List Str} {XP : (Str → Option Value) → Heap → Prop} {YP : World → Heap → Prop} {dr : DefRec} {KK : Params → PySem.W.Frag} {CXw : World → CXT} {x : Str} (names : List Str)
    (most : l.most = some n) (small : n ≤ sizeLine) (nodef : dr.params.defaults = []) (room : Room k callerA) (recs : (names.all fun s => (recsOf q).any fun e => e.name == s) = true) (kin : ∀ (w : World) (h : Heap), YP w h → (KK w.params).In h)
    (main : ∀ (w : World) (mg : Str → Option Value) (fa : Addr) (h : Heap), YP w h → (KK w.params).In h → h.Ns mainGlobals mg → mg dr.name = some (.ref fa) → (∀ s ∈ names, ∀ f, mg s = some (.ref f) → OwnTab (KK w.params) f h) → LawAtS l w (KK w.params) (CXw w) k n x mg fa h)
    (noexc : ∀ (w : World) (H : Hp) (s : Shared) (e : Value) (s' : Shared), CXw w [] H s (fun _ _ _ => False) e s' → False) :
    PySem.W.WalkO q loose XP YP l.row.toRowW dr [] (fun f vs => PySem.call f vs) := by
  refine Att.attach_callB most nodef fun w s0 s1 mg mb fa o1 pm cd doc a vs ns GG Y ho hd hcd at_ isL hii hfew hbit hgen => ?_
  have KX := kin w _ Y
  have tabs : ∀ s ∈ names, ∀ f, mg s = some (.ref f) → OwnTab (KK w.params) f s1.heap := by
    intro s hs f hf c P ob fd cl dd flds sl k1 k2 k3 k4 k5
    obtain ⟨rec0, inR, nm⟩ := List.any_eq_true.mp (List.all_eq_true.mp recs s hs)
    obtain ⟨f', ob', fd', c', P', g1, g2, g3, g4, g5, ⟨⟨oc, vc, z1, _, z3, z4⟩, hP⟩⟩ := GG.T.tab rec0 inR
    rw [beq_iff_eq.mp nm, hf] at g1
    cases g1
    rw [KX _ _ k1] at g2
    cases g2
    rw [k2] at g3
    cases g3
    rw [k3] at g4
    cases g4
    rw [KX _ _ k4] at z1
    cases z1
    cases z3
    rw [k5] at z4
    cases z4
    exact hP
  obtain ⟨fd, cs, sp, e1, e2, e3, e4, e5, e6⟩ := main w mg fa _ Y KX GG.T.g at_ tabs
  exact law_callTs KX GG.T.g GG.T.b GG.T.builtins GG.T.nolimit hgen e1 e2 e3 GG.T.bmain isL hii (Nat.le_trans hfew small) room e6 e4 (fun H hH hS => e5 H a ns hfew hbit hH hS) fun H e s' => noexc w H s1 e s'
end DL
namespace DL
open PySem PySem.Spec PyProof.Rows L2 LamX
def sUn : S := fun _ _ => .undef
theorem js_never {G : Sg} {X : Cx} {W : WX} {st : Stmt} : JS G X W st sUn := ⟨fun _ _ _ _ _ _ ⟨_, _, _, _, _, f⟩ => f.elim⟩
end DL
namespace DL
open PySem PySem.Spec PyProof.Rows L2 LamX
section
variable {α β : Type} {a : α} {e : XV} {M M1 : Mem} {δ : DEnv} {k : α → Mem → Out β}
@[simp] theorem bind_ok : (Out.ok a M).bind k = k a M := rfl
@[simp] theorem bind_exc : (Out.exc e M : Out α).bind k = .exc e M := rfl
@[simp] theorem bind_un : (Out.undef : Out α).bind k = .undef := rfl
@[simp] theorem opt_some : Out.opt (some a) M = .ok a M := rfl
@[simp] theorem opt_none : Out.opt (none : Option α) M = .undef := rfl
@[simp] theorem noX_ok : (Out.ok a M).noX = .ok a M := rfl
@[simp] theorem noX_exc : (Out.exc e M : Out α).noX = .undef := rfl
@[simp] theorem noX_un : (Out.undef : Out α).noX = .undef := rfl
variable {ks : α → Mem → SO}
@[simp] theorem sE_ok : sE (Out.ok a M) δ ks = ks a M := rfl
@[simp] theorem sE_exc : sE (Out.exc e M : Out α) δ ks = .exc e δ M := rfl
@[simp] theorem sE_un : sE (Out.undef : Out α) δ ks = .undef := rfl
variable {d : D} {b : S}
@[simp] theorem th_nx : sThen (.nx δ M) b = b δ M := rfl
@[simp] theorem th_rt : sThen (.rt d M) b = .rt d M := rfl
@[simp] theorem th_bk : sThen (.bk δ M) b = .bk δ M := rfl
@[simp] theorem th_ct : sThen (.ct δ M) b = .ct δ M := rfl
@[simp] theorem th_exc : sThen (.exc e δ M) b = .exc e δ M := rfl
@[simp] theorem th_un : sThen .undef b = .undef := rfl
end
section
variable {δ : DEnv} {M : Mem} {i j : Nat} {a b c : E D} {op op' : Op2} {o1 : Op1} {t u : E Bool} {r : E (List D)} {m n : S} {g : TGD} {gs : TGDs} {f : List D → Mem → Out D} {d : D}
@[simp] theorem eV_d : eV i δ M = Out.opt (δ[i]?.join) M := rfl
@[simp] theorem eC_d : eC d δ M = .ok d M := rfl
@[simp] theorem eBin_d : eBin op a b δ M = (a δ M).bind fun x M1 => (b δ M1).bind fun y M2 => Out.opt (op M2 x y) M2 := rfl
@[simp] theorem eUn_d : eUn o1 a δ M = (a δ M).bind fun x M1 => Out.opt (o1 M1 x) M1 := rfl
@[simp] theorem tTr_d : tTr a δ M = (a δ M).bind fun x M1 => Out.opt (truth M1 x) M1 := rfl
@[simp] theorem tNotE_d : tNotE t δ M = (t δ M).bind fun x M1 => .ok (!x) M1 := rfl
@[simp] theorem tAndE_d : tAndE t u δ M = (t δ M).bind fun x M1 => if x = true then u δ M1 else .ok false M1 := rfl
@[simp] theorem tOrE_d : tOrE t u δ M = (t δ M).bind fun x M1 => if x = true then .ok true M1 else u δ M1 := rfl
def asB : D → Mem → Out Bool
  | .bl b, M => .ok b M
  | _, _ => .undef
@[simp] theorem asB_bl {b : Bool} : asB (.bl b) M = .ok b M := rfl
@[simp] theorem tOf_d : tOf a δ M = (a δ M).bind asB := by
  unfold tOf
  congr 1
  funext x M1
  cases x <;> rfl
def andK (b : E D) (δ : DEnv) : D → Mem → Out D
  | .bl c, M1 => if c = true then b δ M1 else .ok (.bl false) M1
  | _, _ => .undef
@[simp] theorem andK_bl {c : Bool} : andK b δ (.bl c) M = if c = true then b δ M else .ok (.bl false) M := rfl
@[simp] theorem eAnd_d : eAnd a b δ M = (a δ M).bind (andK b δ) := by
  unfold eAnd
  congr 1
  funext x M1
  cases x <;> rfl
def orK (b : E D) (δ : DEnv) : D → Mem → Out D
  | .bl c, M1 => if c = true then .ok (.bl true) M1 else b δ M1
  | _, _ => .undef
@[simp] theorem orK_bl {c : Bool} : orK b δ (.bl c) M = if c = true then .ok (.bl true) M else b δ M := rfl
@[simp] theorem eOr_d : eOr a b δ M = (a δ M).bind (orK b δ) := by
  unfold eOr
  congr 1
  funext x M1
  cases x <;> rfl
def notK : D → Mem → Out D
  | .bl c, M1 => .ok (.bl (!c)) M1
  | _, _ => .undef
@[simp] theorem notK_bl {c : Bool} : notK (.bl c) M = .ok (.bl (!c)) M := rfl
@[simp] theorem eNot_d : eNot a δ M = (a δ M).bind notK := by
  unfold eNot
  congr 1
  funext x M1
  cases x <;> rfl
@[simp] theorem eIf_d : eIf t a b δ M = (t δ M).bind fun x M1 => if x = true then a δ M1 else b δ M1 := rfl
@[simp] theorem aNil_d : aNil δ M = .ok [] M := rfl
@[simp] theorem aCons_d : aCons a r δ M = (a δ M).bind fun x M1 => (r δ M1).bind fun xs M2 => .ok (x :: xs) M2 := rfl
@[simp] theorem eTup_d : eTup r δ M = (r δ M).bind fun xs M1 => .ok (.tup xs) M1 := rfl
@[simp] theorem eLst_d : eLst r δ M = (r δ M).bind fun xs M1 => .ok (.lst xs) M1 := rfl
@[simp] theorem eMut_d : eMut r δ M = (r δ M).bind fun xs M1 => .ok (.mu M1.length) (M1 ++ [.lst xs]) := rfl
@[simp] theorem eCall_d : eCall f r δ M = (r δ M).bind f := rfl
def chK (op' : Op2) (c : E D) (δ : DEnv) (y : D) (M2 : Mem) : Option D → Out D
  | some (.bl true) => (c δ M2).bind fun z M3 => Out.opt (op' M3 y z) M3
  | some (.bl false) => .ok (.bl false) M2
  | _ => .undef
@[simp] theorem chK_t {y : D} : chK op' c δ y M (some (.bl true)) = (c δ M).bind fun z M3 => Out.opt (op' M3 y z) M3 := rfl
@[simp] theorem chK_f {y : D} : chK op' c δ y M (some (.bl false)) = .ok (.bl false) M := rfl
@[simp] theorem eChain_d : eChain op op' a b c δ M = (a δ M).bind fun x M1 => (b δ M1).bind fun y M2 => chK op' c δ y M2 (op M2 x y) := by
  unfold eChain
  congr 1
@[simp] theorem eIsi_d {T : String} : eIsi T a δ M = (a δ M).bind fun x M1 => Out.opt (fIsi T M1 x) M1 := rfl
@[simp] theorem eIsi2_d {T U : String} : eIsi2 T U a δ M = (a δ M).bind fun x M1 => Out.opt (fIsi2 T U M1 x) M1 := rfl
@[simp] theorem eSl_d {l h : eO} : eSl a l h δ M = (a δ M).bind fun x M1 => (l δ M1).bind fun lo M2 => (h δ M2).bind fun hi M3 => Out.opt (dCut M3 x lo hi) M3 := rfl
@[simp] theorem oNone_d : oNone δ M = .ok none M := rfl
def oK : D → Mem → Out (Option Int)
  | .int i, M1 => .ok (some i) M1
  | _, _ => .undef
@[simp] theorem oK_int {i : Int} : oK (.int i) M = .ok (some i) M := rfl
@[simp] theorem oSome_d : oSome a δ M = (a δ M).bind oK := by
  unfold oSome
  congr 1
  funext x M1
  cases x <;> rfl
@[simp] theorem sNx_d : sNx δ M = .nx δ M := rfl
@[simp] theorem sBk_d : sBk δ M = .bk δ M := rfl
@[simp] theorem sCt_d : sCt δ M = .ct δ M := rfl
@[simp] theorem sSeq_d : sSeq m n δ M = sThen (m δ M) n := rfl
@[simp] theorem sSet_d : sSet i a δ M = sE (a δ M) δ fun d M1 => .nx (δ.set i (some d)) M1 := rfl
@[simp] theorem sRet_d : sRet a δ M = sE (a δ M) δ fun d M1 => .rt d M1 := rfl
@[simp] theorem sRetN_d : sRetN δ M = .rt .non M := rfl
@[simp] theorem sEx_d : sEx a δ M = sE (a δ M) δ fun _ M1 => .nx δ M1 := rfl
@[simp] theorem sIf_d : sIf t m n δ M = sE (t δ M) δ fun k M1 => if k = true then m δ M1 else n δ M1 := rfl
@[simp] theorem sRaise_d {C : Nat} : sRaise C r δ M = sE (r δ M) δ fun _ M1 => .exc ⟨C, []⟩ δ M1 := rfl
def asgK (g : TGD) (δ : DEnv) (d : D) (M1 : Mem) : SO := match g d δ M1 with | some δ1 => .nx δ1 M1 | none => .undef
@[simp] theorem asgK_some {δ1 : DEnv} (h : g d δ M = some δ1) : asgK g δ d M = .nx δ1 M := by unfold asgK; rw [h]
@[simp] theorem sAsg_d : sAsg a g δ M = sE (a δ M) δ (asgK g δ) := rfl
@[simp] theorem gN_d : gN i d δ M = some (δ.set i (some d)) := rfl
@[simp] theorem gNil_d : gNil0 [] δ M = some δ := rfl
@[simp] theorem gCons_d {ds : List D} : gCons0 g gs (d :: ds) δ M = (g d δ M).bind fun δ1 => gs ds δ1 M := rfl
def parK (i j : Nat) (δ : DEnv) : List D → Mem → SO
  | [d, e], M1 => .nx ((δ.set i (some d)).set j (some e)) M1
  | _, _ => .undef
@[simp] theorem parK_d {d e : D} : parK i j δ [d, e] M = .nx ((δ.set i (some d)).set j (some e)) M := rfl
@[simp] theorem sPar_d : sPar i j r δ M = sE (r δ M) δ (parK i j δ) := by
  unfold sPar
  congr 1
  funext ds M1
  rcases ds with _ | ⟨d, _ | ⟨e, _ | ⟨_, _⟩⟩⟩ <;> rfl
def parK3 (i j l : Nat) (δ : DEnv) : List D → Mem → SO
  | [d, e, c], M1 => .nx (((δ.set i (some d)).set j (some e)).set l (some c)) M1
  | _, _ => .undef
@[simp] theorem parK3_d {l : Nat} {d e c : D} : parK3 i j l δ [d, e, c] M = .nx (((δ.set i (some d)).set j (some e)).set l (some c)) M := rfl
@[simp] theorem sPar3_d {l : Nat} : sPar3 i j l r δ M = sE (r δ M) δ (parK3 i j l δ) := by
  unfold sPar3
  congr 1
  funext ds M1
  rcases ds with _ | ⟨d, _ | ⟨e, _ | ⟨c, _ | ⟨_, _⟩⟩⟩⟩ <;> rfl
def endS : SO → Out D
  | .rt d M' => .ok d M'
  | .nx _ M' => .ok .non M'
  | .exc e _ M' => .exc e M'
  | _ => .undef
@[simp] theorem end_rt : endS (.rt d M) = .ok d M := rfl
@[simp] theorem end_nx : endS (.nx δ M) = .ok .non M := rfl
@[simp] theorem end_exc {e : XV} : endS (.exc e δ M) = .exc e M := rfl
@[simp] theorem end_un : endS .undef = .undef := rfl
@[simp] theorem runS_d {k : Nat} {ds : List D} : runS k m ds M = endS (m (ds.map some ++ List.replicate k none) M) := by
  unfold runS endS
  split <;> simp_all
variable {x y : Int}
@[simp] theorem dAdd_i : dAdd M (.int x) (.int y) = some (.int (x + y)) := rfl
@[simp] theorem dSub_i : dSub M (.int x) (.int y) = some (.int (x - y)) := rfl
@[simp] theorem dMod_i : dMod M (.int x) (.int y) = if 0 < y then some (.int (x % y)) else none := by simp [dMod, dI]
@[simp] theorem dFdiv_i : dFdiv M (.int x) (.int y) = if 0 < y ∧ y < 1073741824 then some (.int (x / y)) else none := by simp [dFdiv, dI, dec_iff]
@[simp] theorem dMul_i : dMul M (.int x) (.int y) = if cMul x y = true then some (.int (x * y)) else none := rfl
@[simp] theorem dPow_i : dPow M (.int x) (.int y) = if 0 ≤ y ∧ y ≤ 1000000 ∧ x.natAbs < 2 ^ 64 then some (.int (x ^ y.toNat)) else none := by simp [dPow, dI, dec_iff]
@[simp] theorem dAndB_i : dAndB M (.int x) (.int y) = some (.int (Builtin.bitAnd x y)) := rfl
@[simp] theorem dLt_i : dLt M (.int x) (.int y) = some (.bl (decide (x < y))) := rfl
@[simp] theorem dLe_i : dLe M (.int x) (.int y) = some (.bl (decide (x ≤ y))) := rfl
@[simp] theorem dGt_i : dGt M (.int x) (.int y) = some (.bl (decide (y < x))) := rfl
@[simp] theorem dGe_i : dGe M (.int x) (.int y) = some (.bl (decide (y ≤ x))) := rfl
@[simp] theorem dNeg_i : dNeg M (.int x) = some (.int (-x)) := rfl
@[simp] theorem dIs_n : dIs M d .non = some (.bl (isNonD d)) := rfl
@[simp] theorem dIsNot_n : dIsNot M d .non = some (.bl (!isNonD d)) := rfl
@[simp] theorem fInt_i : fInt [.int x] M = .ok (.int x) M := rfl
@[simp] theorem fInt_b {b : Bool} : fInt [.bl b] M = .ok (.int (if b = true then 1 else 0)) M := rfl
@[simp] theorem eqB_int : dEqB (.int x) (.int y) = some (x == y) := rfl
@[simp] theorem eqB_str {s t : Str} (hs : PyData.strOk s = true) (ht : PyData.strOk t = true) : dEqB (.str s) (.str t) = some (s == t) := by
  simp [dEqB, toP, SeqAt.shaped, PyData.canLay0, PyData.depth, hs, ht, PyData.eqv]
def putK (δ : DEnv) (d : D) : D → D → Mem → SO
  | .mu n, .int j, M3 => match M3[n]? with
    | some (.lst xs) => match ixN xs.length j with
      | some t => .nx δ (M3.set n (.lst (xs.set t d)))
      | none => .undef
    | _ => .undef
  | _, _, _ => .undef
def putM (δ : DEnv) (M : Mem) (n : Nat) (d : D) (jj : Int) : Option MO → SO
  | some (.lst xs) => match ixN xs.length jj with
      | some t => .nx δ (M.set n (.lst (xs.set t d)))
      | none => .undef
  | _ => .undef
@[simp] theorem putM_d {n : Nat} {jj : Int} {xs : List D} : putM δ M n d jj (some (.lst xs)) = match ixN xs.length jj with | some t => .nx δ (M.set n (.lst (xs.set t d))) | none => .undef := rfl
@[simp] theorem putK_d {n : Nat} {jj : Int} : putK δ d (.mu n) (.int jj) M = putM δ M n d jj M[n]? := by
  unfold putK putM
  rfl
@[simp] theorem sPut_d : sPut a b c δ M = sE (c δ M) δ fun d M1 => sE (a δ M1) δ fun p M2 => sE (b δ M2) δ fun k M3 => putK δ d p k M3 := by
  unfold sPut
  congr 1
  funext d M1
  congr 1
  funext p M2
  congr 1
  funext k M3
  cases p <;> first
    | rfl
    | (cases k <;> rfl)
def ixM (jj : Int) : Option MO → Option D
  | some (.lst xs) => atI xs jj
  | _ => none
@[simp] theorem ixM_l {jj : Int} {xs : List D} : ixM jj (some (.lst xs)) = atI xs jj := rfl
@[simp] theorem dIx_mu {n : Nat} {jj : Int} : dIx M (.mu n) (.int jj) = ixM jj M[n]? := by
  cases h : M[n]? with
  | none => simp [dIx, seqA, seqT, seqL, h, ixM]
  | some o => cases o <;> simp [dIx, seqA, seqT, seqL, h, ixM]
@[simp] theorem dIx_lst {jj : Int} {xs : List D} : dIx M (.lst xs) (.int jj) = atI xs jj := rfl
@[simp] theorem dIx_tup {jj : Int} {xs : List D} : dIx M (.tup xs) (.int jj) = atI xs jj := rfl
@[simp] theorem dIx_rol {jj : Int} {xs : List D} : dIx M (.rol xs) (.int jj) = atI xs jj := rfl
@[simp] theorem len_lst {xs : List D} : fLen [.lst xs] M = .ok (.int xs.length) M := rfl
@[simp] theorem len_tup {xs : List D} : fLen [.tup xs] M = .ok (.int xs.length) M := rfl
@[simp] theorem len_rol {xs : List D} : fLen [.rol xs] M = .ok (.int xs.length) M := rfl
def lenM (M : Mem) : Option MO → Out D
  | some (.lst xs) => .ok (.int xs.length) M
  | _ => .undef
@[simp] theorem lenM_l {xs : List D} : lenM M (some (.lst xs)) = .ok (.int xs.length) M := rfl
@[simp] theorem len_mu {n : Nat} : fLen [.mu n] M = lenM M M[n]? := by
  cases h : M[n]? with
  | none => simp [fLen, seqA, seqT, seqL, h, lenM]
  | some o => cases o <;> simp [fLen, seqA, seqT, seqL, h, lenM]
theorem atI_lt {xs : List D} {jj : Int} (h0 : 0 ≤ jj) (h1 : jj < xs.length) : atI xs jj = xs[jj.toNat]? := by
  simp [atI, ixN, h0, h1]
@[simp] theorem atI_0 {α : Type} {x0 : α} {l : List α} : atI (x0 :: l) 0 = some x0 := by
  have h : (0 : Int) < ((x0 :: l).length : Nat) := by simp only [List.length_cons]; omega
  simp only [atI, ixN, h]
  rfl
@[simp] theorem atI_1 {α : Type} {x0 x1 : α} {l : List α} : atI (x0 :: x1 :: l) 1 = some x1 := by
  have h : (1 : Int) < ((x0 :: x1 :: l).length : Nat) := by simp only [List.length_cons]; omega
  simp only [atI, ixN, h]
  rfl
@[simp] theorem atI_2 {α : Type} {x0 x1 x2 : α} {l : List α} : atI (x0 :: x1 :: x2 :: l) 2 = some x2 := by
  have h : (2 : Int) < ((x0 :: x1 :: x2 :: l).length : Nat) := by simp only [List.length_cons]; omega
  simp only [atI, ixN, h]
  rfl
@[simp] theorem atI_3 {α : Type} {x0 x1 x2 x3 : α} {l : List α} : atI (x0 :: x1 :: x2 :: x3 :: l) 3 = some x3 := by
  have h : (3 : Int) < ((x0 :: x1 :: x2 :: x3 :: l).length : Nat) := by simp only [List.length_cons]; omega
  simp only [atI, ixN, h]
  rfl
@[simp] theorem atI_4 {α : Type} {x0 x1 x2 x3 x4 : α} {l : List α} : atI (x0 :: x1 :: x2 :: x3 :: x4 :: l) 4 = some x4 := by
  have h : (4 : Int) < ((x0 :: x1 :: x2 :: x3 :: x4 :: l).length : Nat) := by simp only [List.length_cons]; omega
  simp only [atI, ixN, h]
  rfl
@[simp] theorem atI_5 {α : Type} {x0 x1 x2 x3 x4 x5 : α} {l : List α} : atI (x0 :: x1 :: x2 :: x3 :: x4 :: x5 :: l) 5 = some x5 := by
  have h : (5 : Int) < ((x0 :: x1 :: x2 :: x3 :: x4 :: x5 :: l).length : Nat) := by simp only [List.length_cons]; omega
  simp only [atI, ixN, h]
  rfl
@[simp] theorem atI_6 {α : Type} {x0 x1 x2 x3 x4 x5 x6 : α} {l : List α} : atI (x0 :: x1 :: x2 :: x3 :: x4 :: x5 :: x6 :: l) 6 = some x6 := by
  have h : (6 : Int) < ((x0 :: x1 :: x2 :: x3 :: x4 :: x5 :: x6 :: l).length : Nat) := by simp only [List.length_cons]; omega
  simp only [atI, ixN, h]
  rfl
@[simp] theorem atI_7 {α : Type} {x0 x1 x2 x3 x4 x5 x6 x7 : α} {l : List α} : atI (x0 :: x1 :: x2 :: x3 :: x4 :: x5 :: x6 :: x7 :: l) 7 = some x7 := by
  have h : (7 : Int) < ((x0 :: x1 :: x2 :: x3 :: x4 :: x5 :: x6 :: x7 :: l).length : Nat) := by simp only [List.length_cons]; omega
  simp only [atI, ixN, h]
  rfl
@[simp] theorem atI_8 {α : Type} {x0 x1 x2 x3 x4 x5 x6 x7 x8 : α} {l : List α} : atI (x0 :: x1 :: x2 :: x3 :: x4 :: x5 :: x6 :: x7 :: x8 :: l) 8 = some x8 := by
  have h : (8 : Int) < ((x0 :: x1 :: x2 :: x3 :: x4 :: x5 :: x6 :: x7 :: x8 :: l).length : Nat) := by simp only [List.length_cons]; omega
  simp only [atI, ixN, h]
  rfl
@[simp] theorem atI_9 {α : Type} {x0 x1 x2 x3 x4 x5 x6 x7 x8 x9 : α} {l : List α} : atI (x0 :: x1 :: x2 :: x3 :: x4 :: x5 :: x6 :: x7 :: x8 :: x9 :: l) 9 = some x9 := by
  have h : (9 : Int) < ((x0 :: x1 :: x2 :: x3 :: x4 :: x5 :: x6 :: x7 :: x8 :: x9 :: l).length : Nat) := by simp only [List.length_cons]; omega
  simp only [atI, ixN, h]
  rfl
@[simp] theorem atI_10 {α : Type} {x0 x1 x2 x3 x4 x5 x6 x7 x8 x9 x10 : α} {l : List α} : atI (x0 :: x1 :: x2 :: x3 :: x4 :: x5 :: x6 :: x7 :: x8 :: x9 :: x10 :: l) 10 = some x10 := by
  have h : (10 : Int) < ((x0 :: x1 :: x2 :: x3 :: x4 :: x5 :: x6 :: x7 :: x8 :: x9 :: x10 :: l).length : Nat) := by simp only [List.length_cons]; omega
  simp only [atI, ixN, h]
  rfl
@[simp] theorem atI_11 {α : Type} {x0 x1 x2 x3 x4 x5 x6 x7 x8 x9 x10 x11 : α} {l : List α} : atI (x0 :: x1 :: x2 :: x3 :: x4 :: x5 :: x6 :: x7 :: x8 :: x9 :: x10 :: x11 :: l) 11 = some x11 := by
  have h : (11 : Int) < ((x0 :: x1 :: x2 :: x3 :: x4 :: x5 :: x6 :: x7 :: x8 :: x9 :: x10 :: x11 :: l).length : Nat) := by simp only [List.length_cons]; omega
  simp only [atI, ixN, h]
  rfl
@[simp] theorem isNonD_n : isNonD .non = true := rfl
@[simp] theorem isNonD_b {b : Bool} : isNonD (.bl b) = false := rfl
@[simp] theorem isNonD_i : isNonD (.int x) = false := rfl
@[simp] theorem isNonD_s {s : Str} : isNonD (.str s) = false := rfl
@[simp] theorem isNonD_t {xs : List D} : isNonD (.tup xs) = false := rfl
@[simp] theorem isNonD_l {xs : List D} : isNonD (.lst xs) = false := rfl
@[simp] theorem eqB_bl {p q : Bool} : dEqB (.bl p) (.bl q) = some (p == q) := rfl
@[simp] theorem eqB_nn : dEqB .non .non = some true := rfl
@[simp] theorem eqB_l0 : dEqB (.lst []) (.lst []) = some true := rfl
@[simp] theorem dEq_d {a b : D} : dEq M a b = (dEqB a b).map .bl := rfl
@[simp] theorem dNe_d {a b : D} : dNe M a b = (dEqB a b).map fun k => .bl (!k) := rfl
@[simp] theorem dIn_d {a b : D} : dIn M a b = (dInB M a b).map .bl := rfl
@[simp] theorem dNotIn_d {a b : D} : dNotIn M a b = (dInB M a b).map fun k => .bl (!k) := rfl
@[simp] theorem truth_b {p : Bool} : truth M (.bl p) = some p := rfl
theorem dLc_none {g : TGD} {t : E Bool} {e : E D} : ∀ {xs : List D} {acc : List D}, (∀ x ∈ xs, ∃ δ1, g x δ M = some δ1 ∧ t δ1 M = .ok false M) → dLc g t e δ xs acc M = .ok acc M
  | [], acc, _ => rfl
  | x :: xs, acc, h => by
    obtain ⟨δ1, h1, h2⟩ := h x List.mem_cons_self
    simp only [dLc, h1, h2, noX_ok, bind_ok]
    exact dLc_none fun z hz => h z (List.mem_cons_of_mem _ hz)
@[simp] theorem eLc_d {vs : List Nat} {mi : E (List D)} {g : TGD} {t : E Bool} {e : E D} : eLc vs mi g t e δ M = (mi δ M).bind fun xs M1 => if xs.length ≤ sizeLine then (dLc g t e (wipeD δ vs) xs [] M1).noX.bind fun ys M2 => .ok (.lst ys) M2 else .undef := rfl
noncomputable def rangeK : List D → Mem → Out (List D)
  | [.int j], M1 => if smallI j = true then .ok ((List.range j.toNat).map fun k => .int (k : Nat)) M1 else .undef
  | [.int i, .int j], M1 => if smallI i = true ∧ smallI j = true then .ok ((List.range (j - i).toNat).map fun k => .int (i + (k : Nat))) M1 else .undef
  | _, _ => .undef
@[simp] theorem iRange_d {a : E (List D)} : iRange a δ M = (a δ M).bind rangeK := by
  unfold iRange
  congr 1
  funext ds M1
  rcases ds with _ | ⟨d, _ | ⟨e, _ | ⟨_, _⟩⟩⟩
  · rfl
  · cases d <;> rfl
  · cases d <;> first
      | rfl
      | (cases e <;> rfl)
  · cases d <;> first
      | rfl
      | (cases e <;> rfl)
theorem smallN {n : Nat} (h : n ≤ 1000000000) : smallI (n : Int) = true := by
  rw [smallI, dec_iff]
  omega
theorem rangeK_1 {n : Nat} (h : n ≤ 1000000000) : rangeK [.int (n : Int)] M = .ok ((List.range n).map fun k => .int (k : Nat)) M := by
  simp [rangeK, smallN h]
section
variable {p : Bool} {s : Str} {xs : List D}
@[simp] theorem isi_non_bool : fIsi "bool" M .non = some (.bl false) := rfl
@[simp] theorem isi_non_int : fIsi "int" M .non = some (.bl false) := rfl
@[simp] theorem isi_non_str : fIsi "str" M .non = some (.bl false) := rfl
@[simp] theorem isi_non_tuple : fIsi "tuple" M .non = some (.bl false) := rfl
@[simp] theorem isi_non_list : fIsi "list" M .non = some (.bl false) := rfl
@[simp] theorem isi_non_dict : fIsi "dict" M .non = some (.bl false) := rfl
@[simp] theorem isi2_non : fIsi2 "tuple" "list" M .non = some (.bl false) := rfl
@[simp] theorem isi_bl_bool : fIsi "bool" M (.bl p) = some (.bl true) := rfl
@[simp] theorem isi_bl_int : fIsi "int" M (.bl p) = some (.bl true) := rfl
@[simp] theorem isi_bl_str : fIsi "str" M (.bl p) = some (.bl false) := rfl
@[simp] theorem isi_bl_tuple : fIsi "tuple" M (.bl p) = some (.bl false) := rfl
@[simp] theorem isi_bl_list : fIsi "list" M (.bl p) = some (.bl false) := rfl
@[simp] theorem isi_bl_dict : fIsi "dict" M (.bl p) = some (.bl false) := rfl
@[simp] theorem isi2_bl : fIsi2 "tuple" "list" M (.bl p) = some (.bl false) := rfl
@[simp] theorem isi_int_bool : fIsi "bool" M (.int x) = some (.bl false) := rfl
@[simp] theorem isi_int_int : fIsi "int" M (.int x) = some (.bl true) := rfl
@[simp] theorem isi_int_str : fIsi "str" M (.int x) = some (.bl false) := rfl
@[simp] theorem isi_int_tuple : fIsi "tuple" M (.int x) = some (.bl false) := rfl
@[simp] theorem isi_int_list : fIsi "list" M (.int x) = some (.bl false) := rfl
@[simp] theorem isi_int_dict : fIsi "dict" M (.int x) = some (.bl false) := rfl
@[simp] theorem isi2_int : fIsi2 "tuple" "list" M (.int x) = some (.bl false) := rfl
@[simp] theorem isi_str_bool : fIsi "bool" M (.str s) = some (.bl false) := rfl
@[simp] theorem isi_str_int : fIsi "int" M (.str s) = some (.bl false) := rfl
@[simp] theorem isi_str_str : fIsi "str" M (.str s) = some (.bl true) := rfl
@[simp] theorem isi_str_tuple : fIsi "tuple" M (.str s) = some (.bl false) := rfl
@[simp] theorem isi_str_list : fIsi "list" M (.str s) = some (.bl false) := rfl
@[simp] theorem isi_str_dict : fIsi "dict" M (.str s) = some (.bl false) := rfl
@[simp] theorem isi2_str : fIsi2 "tuple" "list" M (.str s) = some (.bl false) := rfl
@[simp] theorem isi_tup_bool : fIsi "bool" M (.tup xs) = some (.bl false) := rfl
@[simp] theorem isi_tup_int : fIsi "int" M (.tup xs) = some (.bl false) := rfl
@[simp] theorem isi_tup_str : fIsi "str" M (.tup xs) = some (.bl false) := rfl
@[simp] theorem isi_tup_tuple : fIsi "tuple" M (.tup xs) = some (.bl true) := rfl
@[simp] theorem isi_tup_list : fIsi "list" M (.tup xs) = some (.bl false) := rfl
@[simp] theorem isi_tup_dict : fIsi "dict" M (.tup xs) = some (.bl false) := rfl
@[simp] theorem isi2_tup : fIsi2 "tuple" "list" M (.tup xs) = some (.bl true) := rfl
@[simp] theorem isi_lst_bool : fIsi "bool" M (.lst xs) = some (.bl false) := rfl
@[simp] theorem isi_lst_int : fIsi "int" M (.lst xs) = some (.bl false) := rfl
@[simp] theorem isi_lst_str : fIsi "str" M (.lst xs) = some (.bl false) := rfl
@[simp] theorem isi_lst_tuple : fIsi "tuple" M (.lst xs) = some (.bl false) := rfl
@[simp] theorem isi_lst_list : fIsi "list" M (.lst xs) = some (.bl true) := rfl
@[simp] theorem isi_lst_dict : fIsi "dict" M (.lst xs) = some (.bl false) := rfl
@[simp] theorem isi2_lst : fIsi2 "tuple" "list" M (.lst xs) = some (.bl true) := rfl
end
theorem ofs_inj {p q : String} : Str.ofString p = Str.ofString q ↔ p = q := by
  constructor
  · intro h
    rw [Str.ofString_eq_toList, Str.ofString_eq_toList] at h
    injection h with h
    have h2 : p.toList.map Char.toNat = q.toList.map Char.toNat := by simpa using h
    have h3 : p.toList = q.toList := by
      refine (List.map_inj_right ?_).mp h2
      intro c d e
      exact Char.toNat_inj.mp e
    exact String.toList_inj.mp h3
  · intro h; rw [h]
@[simp] theorem ofs_ok {p : String} : PyData.strOk (Str.ofString p) = true := by
  unfold PyData.strOk
  rw [Str.ofString_eq_toList]
  simp only [List.size_toArray, List.all_toArray', List.all_eq_true, List.mem_map, decide_eq_true_eq]
  rintro _ ⟨c, _, rfl⟩
  have := c.valid
  simp only [UInt32.isValidChar, Nat.isValidChar] at this
  show c.val.toNat < 1114112
  omega
@[simp] theorem eqB_lit {p q : String} : dEqB (.str (Str.ofString p)) (.str (Str.ofString q)) = some (decide (p = q)) := by
  rw [eqB_str ofs_ok ofs_ok]
  congr 1
  rw [Bool.eq_iff_iff]
  simp [ofs_inj]
@[simp] theorem iSeq_d {m : E D} : iSeq m δ M = (m δ M).bind fun d M1 => if frozen d = true then Out.opt (seqA M1 d) M1 else .undef := rfl
@[simp] theorem frz_l {xs : List D} : frozen (.lst xs) = true := rfl
@[simp] theorem frz_t {xs : List D} : frozen (.tup xs) = true := rfl
@[simp] theorem seqA_l {xs : List D} : seqA M (.lst xs) = some xs := rfl
@[simp] theorem seqA_t {xs : List D} : seqA M (.tup xs) = some xs := rfl
@[simp] theorem sum_ints {ns : List Int} : fSum [.lst (ns.map D.int)] M = .ok (.int ns.sum) M := by
  have : ∀ ns : List Int, (ns.map D.int).mapM intD = some ns := by
    intro ns
    induction ns with
    | nil => rfl
    | cons a l ih => simp only [List.map_cons, List.mapM_cons, ih]; rfl
  unfold fSum
  simp only [seqL, this]
@[simp] theorem gTup_d {k : Nat} {d0 : D} : gTupD k gs d0 δ M = (seqA M d0).bind fun ds => if ds.length = k then gs ds δ M else none := by
  unfold gTupD
  cases seqA M d0 <;> rfl
@[simp] theorem asgK_d {d0 : D} : asgK g δ d0 M = match g d0 δ M with | some δ1 => .nx δ1 M | none => .undef := rfl
end
end DL
namespace DL
open PySem PySem.Spec PyProof.Rows L2 LamX
def iZip (m : E (List D)) : E (List D) := fun δ M => (m δ M).bind fun ds M1 => match ds with
  | [d, e] => (match seqT d, seqT e with | some xs, some ys => .ok (List.zipWith (fun x y => D.tup [x, y]) xs ys) M1 | _, _ => .undef)
  | _ => .undef
section
variable {G : Sg} {X : Cx} {W : WX}
theorem ji_zip {e e2 : Expr} {m : E (List D)} {p pos tpos : Pos} {elts : List Expr} {kk : Nat} (hK : X.K = G.K) (hg : Gl X "zip") (hm : X.mg "zip" = none) (ha : JA G X W [e, e2] m)
    (hs : starEach [e, e2] X.env = (false, eval e X.env) :: starEach [e2] X.env := by rfl) (hpl : (backTo pos (starEach [e2] X.env)).any (·.1) = false := by rfl) :
    JI G X W (.Tuple elts kk tpos) (.Call (.Name "zip" p) [e, e2] [] pos) (iZip m) :=
  pi_imp (RZ.pi_zipA hg hm ha hs hpl) fun σ H Q ⟨ι, M, δ, hr, er, f⟩ => ⟨ι, M, δ, hr, er, (Fin.bind f).mono fun vs H1 ⟨ι1, M1, ds, ex, hr1, r, f1⟩ => by
    rcases ds with _ | ⟨d, _ | ⟨d2, _ | ⟨d3, ds⟩⟩⟩
    · exact f1.elim
    · exact f1.elim
    · obtain ⟨v, w, ev, r1, r2⟩ := r
      obtain ⟨w2, w3, ew, r2, r3⟩ := r2
      have e3 : w3 = [] := r3
      subst e3 ew ev
      dsimp only at f1
      cases hs1 : seqT d with
      | none => rw [hs1] at f1; exact f1.elim
      | some xs =>
      cases hs2 : seqT d2 with
      | none => rw [hs1, hs2] at f1; exact f1.elim
      | some ys =>
      rw [hs1, hs2] at f1
      obtain ⟨a, us, e1, q1, s1⟩ := seqT_ok r1 hs1
      obtain ⟨b, ws, e2, q2, s2⟩ := seqT_ok r2 hs2
      rw [← hK] at q1 q2
      refine ⟨a, b, us, ws, by rw [e1, e2], .inr ⟨q1, q2, f1 _ H1 ι1 (Ext.refl _ _) hr1 fun i H3 ι3 M3 ex3 hr3 => ?_⟩⟩
      obtain ⟨a', us', e1', q1', s1'⟩ := seqT_ok (R.ext2 hr1 ex3 r1) hs1
      obtain ⟨b', ws', e2', q2', s2'⟩ := seqT_ok (R.ext2 hr1 ex3 r2) hs2
      rw [← hK] at q1' q2'
      have ea : a = a' := by rw [e1] at e1'; cases e1'; rfl
      have eb : b = b' := by rw [e2] at e2'; cases e2'; rfl
      subst ea eb
      refine ⟨fun d' e' => ?_, fun hl => ⟨us', ws', q1', q2', by
        rw [List.length_zipWith] at hl
        rw [← s1'.len, ← s2'.len]
        omega⟩⟩
      rw [List.getElem?_zipWith_eq_some] at e'
      obtain ⟨x, y, hx, hy, rfl⟩ := e'
      obtain ⟨u, hu, ru⟩ := s1'.get hx
      obtain ⟨u2, hu2, ru2⟩ := s2'.get hy
      refine ⟨⟨us', ws', u, u2, q1', q2', hu, hu2⟩, fun z H' ⟨T, x0, y0, ez, nT, eH, g1, g2⟩ => ?_⟩
      have ex0 : u = x0 := Option.some.inj (hu.symm.trans (g1 _ q1'))
      have ey0 : u2 = y0 := Option.some.inj (hu2.symm.trans (g2 _ q2'))
      subst ex0 ey0 ez eH
      exact ⟨ι3, Ext.fresh nT, hr3.fresh nT, T, [u, u2], rfl, upd_same, RA.ext hr3 (Ext.fresh nT) (RA.cons (G := G) ru (RA.cons (G := G) ru2 RA.nil))⟩
    · exact f1.elim⟩
end
def CV (K : PySem.W.Frag) (F : Nat → Addr) (d : D) (v : V) : Prop := ∀ (G : Sg) (H : Hp) (ι : Io), G.K = K → G.F = F → R G H ι d v
section
variable {K : PySem.W.Frag} {F : Nat → Addr}
theorem cv_int {i : Int} : CV K F (.int i) (.int i) := fun _ _ _ _ _ => rfl
theorem cv_str {x : Str} : CV K F (.str x) (.str x) := fun _ _ _ _ _ => rfl
theorem cv_fn {k : Nat} : CV K F (.fn k) (.ref (F k)) := fun _ _ _ _ e => by rw [← e]; rfl
theorem cv_tup {a : Addr} {ys : List Str} {its : Array Value} {n : Nat} {sl : Array (Option Value)} (hl : K.lookup a = some ⟨.type "tuple", none, .seq its n, sl⟩) (hz : its.size ≤ sizeLine) (r : Vals (ys.map V.str) its.toList) : CV K F (.ktu ys) (.ref a) :=
  fun G H ι e _ => by
    subst e
    exact ⟨a, rfl, fun H' => .inr ⟨_, its, n, hl, rfl, rfl, hz, r⟩, _, hl, rfl, rfl⟩
def tbGet : List (Str × D) → Str → Option D
  | [], _ => none
  | (k, d) :: r, z => if k = z then some d else tbGet r z
theorem tbGet_mem : ∀ {tb : List (Str × D)} {z : Str} {d : D}, tbGet tb z = some d → (z, d) ∈ tb
  | (k, c) :: r, z, d, h => by
    unfold tbGet at h
    split at h
    · rename_i e
      cases h
      subst e
      exact .head _
    · exact .tail _ (tbGet_mem h)
theorem tbGet_none : ∀ {tb : List (Str × D)} {z : Str}, tbGet tb z = none → z ∉ tb.map (·.1)
  | [], z, _ => by simp
  | (k, c) :: r, z, h => by
    unfold tbGet at h
    split at h
    · cases h
    · rename_i e
      intro m
      rcases List.mem_cons.mp m with m | m
      · exact e m.symm
      · exact tbGet_none h m
structure TabAt (K : PySem.W.Frag) (F : Nat → Addr) (w : World) (a : Addr) (tb : List (Str × D)) : Prop where
  kd : ∃ es n, KDict K w a es n
  hit : ∀ (z : Str) (d : D), tbGet tb z = some d → ∃ u v, PySem.W.nsIn K a z = some (some u) ∧ RelV v u ∧ CV K F d v
  miss : ∀ z : Str, tbGet tb z = none → PySem.W.nsIn K a z = some none
theorem keys_miss {P : Params} {z : Str} : ∀ {l : List DictEntry} {ks : List Str}, l.map He.keyOf = He.keysIn P ks → z ∉ ks → l.find? (fun e => e.key.isStr z) = none ∧ l.any (·.refKey) = false
  | [], _, _, _ => ⟨rfl, rfl⟩
  | e :: r, [], h, _ => by cases h
  | e :: r, k :: ks, h, hz => by
    have h1 : He.keyOf e :: r.map He.keyOf = some (k, PyData.keyHash P k) :: He.keysIn P ks := h
    injection h1 with h2 h3
    have ih := keys_miss h3 (fun m => hz (.tail _ m))
    unfold He.keyOf at h2
    split at h2
    · rename_i x t q
      have h4 := Option.some.inj h2
      obtain ⟨h5, _⟩ := Prod.mk.inj h4
      have nk : (x == z) = false := by
        cases e0 : x == z with
        | false => rfl
        | true => exact absurd (by rw [← h5, eq_of_beq e0]; exact List.mem_cons_self) hz
      constructor
      · rw [List.find?_cons]
        have : e.key.isStr z = false := by rw [q]; exact nk
        rw [this]
        exact ih.1
      · rw [List.any_cons, ih.2]
        have : e.refKey = false := by unfold DictEntry.refKey; rw [q]
        rw [this] <;> rfl
    · cases h2
theorem tab_mk {w : World} {a : Addr} {tb : List (Str × D)} (h : He.dicW K a = some (He.keysIn w.params (tb.map (·.1)))) (hv : ∀ p ∈ tb, ∃ u v, PySem.W.nsIn K a p.1 = some (some u) ∧ RelV v u ∧ CV K F p.2 v) : TabAt K F w a tb := by
  obtain ⟨es, n, kd⟩ := He.dicW_ok h
  refine ⟨⟨es, n, kd⟩, fun z d hz => hv _ (tbGet_mem hz), fun z hz => ?_⟩
  have h1 : es.toList.map He.keyOf = He.keysIn w.params (tb.map (·.1)) := by
    unfold He.dicW at h
    rw [kd.at_] at h
    dsimp only at h
    rw [kd.low] at h
    exact Option.some.inj h
  obtain ⟨m1, m2⟩ := keys_miss h1 (tbGet_none hz)
  unfold PySem.W.nsIn
  rw [kd.at_]
  dsimp only
  rw [m1]
  dsimp only
  rw [m2]
  rfl
end
section
variable {G : Sg} {X : Cx} {W : WX} {F : Nat → Addr} {a : Addr} {tb : List (Str × D)}
def eTabIn (neg : Bool) (tb : List (Str × D)) (m : E D) : E D := fun δ M => (m δ M).bind fun x M1 => match x with | .str z => .ok (.bl ((tbGet tb z).isSome != neg)) M1 | _ => .undef
theorem je_tab {x : Str} {pos : Pos} (hg : Gl X x) (hm : X.mg x = some (.ref a)) (hd : (x == ("__debug__" : Str)) = false := by decide) : JE G X W (.Name x pos) (eC (.ob a)) := je_glob (v := .ref a) hg hm rfl (fun _ _ => rfl) hd
def dTabIx (a : Addr) (tb : List (Str × D)) : Op2 := fun _ x y => match x, y with
  | .ob b, .str z => if b = a then tbGet tb z else none
  | _, _ => none
def eTabIx (tb : List (Str × D)) (m : E D) : E D := fun δ M => (m δ M).bind fun x M1 => match x with | .str z => Out.opt (tbGet tb z) M1 | _ => .undef
theorem tabIx_eq {m : E D} : eBin (dTabIx a tb) (eC (.ob a)) m = eTabIx tb m := by
  funext δ M
  unfold eBin eTabIx
  show (m δ M).bind _ = _
  cases m δ M with
  | undef => rfl
  | exc _ _ => rfl
  | ok x M1 => cases x <;> simp [Out.bind, dTabIx, Out.opt]
theorem je_tabIx {x : Str} {b : Expr} {mb : E D} {p pos : Pos} (hK : X.K = G.K) (hF : G.F = F) (T : TabAt X.K F X.w a tb) (hg : Gl X x) (hm : X.mg x = some (.ref a)) (hb : JE G X W b mb) (hs : PlainIx b) (hd : (x == ("__debug__" : Str)) = false := by decide) :
    JE G X W (.Subscript (.Name x p) b pos) (eTabIx tb mb) := tabIx_eq (a := a) ▸
  pe_imp (pe_ix ix_kdict (je_tab (G := G) (W := W) hg hm hd) hb hs) fun σ H Q h => by
    have h := rd_bin h
    obtain ⟨ι, M, δ, hr, er, f⟩ := h
    refine ⟨ι, M, δ, hr, er, f.mono fun x H1 f1 => ?_⟩
    obtain ⟨ι1, M1, δ1, hr1, er1, f1⟩ := f1
    refine ⟨ι1, M1, δ1, hr1, er1, f1.mono fun y H2 ⟨ι2, M2, d, e, r, hr2, rx, ry, eo, q⟩ => ?_⟩
    cases d <;> first
      | (cases eo; done)
      | skip
    cases e <;> first
      | (cases eo; done)
      | skip
    rename_i b z
    simp only [dTabIx] at eo
    split at eo
    · rename_i eb
      subst eb
      obtain ⟨u, v, h1, h2, h3⟩ := T.hit z r eo
      obtain ⟨es, n, kd⟩ := T.kd
      exact ⟨b, z, v, rx, ry, ⟨es, n, u, kd.at_, kd.lit, h1, h2⟩, q _ H2 ι2 (Ext.refl _ _) hr2 (h3 G H2 ι2 hK.symm hF)⟩
    · cases eo
theorem je_globC {x : Str} {d : D} {pos : Pos} (hK : X.K = G.K) (hF : G.F = F) (hg : Gl X x) (hm : ∃ u v, X.mg x = some u ∧ RelV v u ∧ CV X.K F d v) (hd : (x == ("__debug__" : Str)) = false := by decide) : JE G X W (.Name x pos) (eC d) := by
  obtain ⟨u, v, h1, h2, h3⟩ := hm
  exact je_glob (v := v) hg h1 h2 (fun H ι => h3 G H ι hK.symm hF) hd
def firstAt : List Str → Str → Option Nat
  | [], _ => none
  | y :: r, z => if y = z then some 0 else (firstAt r z).map (· + 1)
def eIndex (mo me : E D) : E D := fun δ M => (mo δ M).bind fun x M1 => match x with
  | .ktu ys => (me δ M1).bind fun y M2 => (match y with | .str z => Out.opt ((firstAt ys z).map fun j => D.int (j : Nat)) M2 | _ => .undef)
  | _ => .undef
end
end DL
namespace DL
open PySem PySem.Spec PyProof.Rows L2
def dIsB : Op2 := fun _ a b => match a, b with | .bl x, .bl y => some (.bl (decide (x = y))) | _, _ => none
def dIsNotB : Op2 := fun _ a b => match a, b with | .bl x, .bl y => some (.bl (!decide (x = y))) | _, _ => none
end DL
namespace DL
open PySem PySem.Spec PyProof.Rows L2 LamX
section
variable {δ : DEnv} {M : Mem} {i j : Nat} {a b c : E D} {r : E (List D)} {m n : S} {g : TGD} {f : List D → Mem → Out D} {d : D} {xs : List D} {mi : E (List D)}
def forK (g : TGD) (b : S) (xs : List D) : SO → SO
  | .nx δ2 M2 => dFor g b xs δ2 M2
  | .ct δ2 M2 => dFor g b xs δ2 M2
  | .bk δ2 M2 => .nx δ2 M2
  | .rt d M2 => .rt d M2
  | .exc e δ2 M2 => .exc e δ2 M2
  | .undef => .undef
@[simp] theorem forK_nx : forK g m xs (.nx δ M) = dFor g m xs δ M := rfl
@[simp] theorem forK_ct : forK g m xs (.ct δ M) = dFor g m xs δ M := rfl
@[simp] theorem forK_bk : forK g m xs (.bk δ M) = .nx δ M := rfl
@[simp] theorem forK_rt : forK g m xs (.rt d M) = .rt d M := rfl
@[simp] theorem forK_exc {e : XV} : forK g m xs (.exc e δ M) = .exc e δ M := rfl
@[simp] theorem forK_un : forK g m xs .undef = .undef := rfl
@[simp] theorem sFor_d : sFor mi g m δ M = sE (mi δ M) δ fun xs M1 => dFor g m xs δ M1 := rfl
@[simp] theorem dFor_nil : dFor g m [] δ M = .nx δ M := rfl
theorem dFor_cons {δ1 : DEnv} (h : g d δ M = some δ1) : dFor g m (d :: xs) δ M = forK g m xs (m δ1 M) := by
  unfold dFor
  rw [h]
  dsimp only
  cases m δ1 M <;> rfl
def goK (g : TGD) (m : S) (xs : List D) (M : Mem) : Option DEnv → SO
  | some δ1 => forK g m xs (m δ1 M)
  | none => .undef
@[simp] theorem goK_some {δ1 : DEnv} : goK g m xs M (some δ1) = forK g m xs (m δ1 M) := rfl
@[simp] theorem dFor_d : dFor g m (d :: xs) δ M = goK g m xs M (g d δ M) := by
  cases h : g d δ M with
  | none => unfold dFor; rw [h]; rfl
  | some δ1 => rw [dFor_cons h]; rfl
@[simp] theorem cut_t1 {x : D} : dCut M (.tup (x :: xs)) (some 1) none = some (.tup xs) := by
  have e1 : HT.sIx (x :: xs).length 0 (some 1) = 1 := (HT.sIx_nat _ _ 1).trans (by simp)
  have e2 : HT.sIx (x :: xs).length (x :: xs).length none = (x :: xs).length := rfl
  simp only [dCut, cutD, e1, e2]
  simp
def iZipK : List D → Mem → Out (List D) := fun ds M => match ds with
  | [d, e] => (match seqT d, seqT e with | some xs, some ys => .ok (List.zipWith (fun x y => D.tup [x, y]) xs ys) M | _, _ => .undef)
  | _ => .undef
@[simp] theorem iZip_d : iZip r δ M = (r δ M).bind iZipK := rfl
@[simp] theorem zipK_kt {ys : List Str} : iZipK [.ktu ys, .tup xs] M = .ok (List.zipWith (fun y x => D.tup [.str y, x]) ys xs) M := by
  show Out.ok (List.zipWith (fun x y => D.tup [x, y]) (ys.map D.str) xs) M = _
  rw [List.zipWith_map_left]
@[simp] theorem seqA_k {ys : List Str} : seqA M (.ktu ys) = some (ys.map D.str) := rfl
@[simp] theorem len_k {ys : List Str} : fLen [.ktu ys] M = .ok (.int ys.length) M := by
  show Out.ok (D.int (ys.map D.str).length) M = _
  rw [List.length_map]
def tabInK (neg : Bool) (tb : List (Str × D)) : D → Mem → Out D := fun x M1 => match x with | .str z => .ok (.bl ((tbGet tb z).isSome != neg)) M1 | _ => .undef
@[simp] theorem eTabIn_d {neg : Bool} {tb : List (Str × D)} : eTabIn neg tb a δ M = (a δ M).bind (tabInK neg tb) := rfl
@[simp] theorem tabInK_s {neg : Bool} {tb : List (Str × D)} {z : Str} : tabInK neg tb (.str z) M = .ok (.bl ((tbGet tb z).isSome != neg)) M := rfl
def tabIxK (tb : List (Str × D)) : D → Mem → Out D := fun x M1 => match x with | .str z => Out.opt (tbGet tb z) M1 | _ => .undef
@[simp] theorem eTabIx_d {tb : List (Str × D)} : eTabIx tb a δ M = (a δ M).bind (tabIxK tb) := rfl
@[simp] theorem tabIxK_s {tb : List (Str × D)} {z : Str} : tabIxK tb (.str z) M = Out.opt (tbGet tb z) M := rfl
@[simp] theorem tbGet_d {k : String} {z : String} {tb : List (Str × D)} : tbGet ((Str.ofString k, d) :: tb) (Str.ofString z) = if k = z then some d else tbGet tb (Str.ofString z) := by
  show (if Str.ofString k = Str.ofString z then some d else tbGet tb (Str.ofString z)) = _
  simp only [ofs_inj]
@[simp] theorem tbGet_nil {z : Str} : tbGet [] z = none := rfl
def indexK (ys : List Str) : D → Mem → Out D := fun y M2 => match y with | .str z => Out.opt ((firstAt ys z).map fun j => D.int (j : Nat)) M2 | _ => .undef
def indexK0 (me : E D) (δ : DEnv) : D → Mem → Out D := fun x M1 => match x with
  | .ktu ys => (me δ M1).bind (indexK ys)
  | _ => .undef
@[simp] theorem eIndex_d : eIndex a b δ M = (a δ M).bind (indexK0 b δ) := rfl
@[simp] theorem indexK0_k {ys : List Str} : indexK0 b δ (.ktu ys) M = (b δ M).bind (indexK ys) := rfl
@[simp] theorem indexK_s {ys : List Str} {z : Str} : indexK ys (.str z) M = Out.opt ((firstAt ys z).map fun j => D.int (j : Nat)) M := rfl
@[simp] theorem firstAt_d {k z : String} {ys : List Str} : firstAt (Str.ofString k :: ys) (Str.ofString z) = if k = z then some 0 else (firstAt ys (Str.ofString z)).map (· + 1) := by
  show (if Str.ofString k = Str.ofString z then some 0 else (firstAt ys (Str.ofString z)).map (· + 1)) = _
  simp only [ofs_inj]
@[simp] theorem firstAt_nil {z : Str} : firstAt [] z = none := rfl
@[simp] theorem inB_l {ys : List D} : dInB M d (.lst ys) = if flatD d = true ∧ ys.all flatD = true then some (ys.any fun y => eqvD y d) else none := rfl
@[simp] theorem inB_t {ys : List D} : dInB M d (.tup ys) = if flatD d = true ∧ ys.all flatD = true then some (ys.any fun y => eqvD y d) else none := rfl
@[simp] theorem inB_k {ys : List Str} : dInB M d (.ktu ys) = if flatD d = true then some (ys.any fun y => eqvD (.str y) d) else none := by
  have e : (ys.map D.str).all flatD = true := by rw [List.all_map]; exact List.all_eq_true.mpr fun _ _ => rfl
  show (if flatD d = true ∧ (ys.map D.str).all flatD = true then some ((ys.map D.str).any fun y => eqvD y d) else none) = _
  rw [e, List.any_map]
  simp [Function.comp_def]
@[simp] theorem fl_s {z : Str} : flatD (.str z) = true := rfl
@[simp] theorem fl_i {z : Int} : flatD (.int z) = true := rfl
@[simp] theorem fl_b {z : Bool} : flatD (.bl z) = true := rfl
@[simp] theorem fl_n : flatD .non = true := rfl
@[simp] theorem eqvD_s {p q : String} : eqvD (.str (Str.ofString p)) (.str (Str.ofString q)) = decide (p = q) := by
  show (Str.ofString p == Str.ofString q) = _
  rw [Bool.eq_iff_iff, beq_iff_eq, decide_eq_true_iff]
  exact ofs_inj
@[simp] theorem isB_d {p q : Bool} : dIsB M (.bl p) (.bl q) = some (.bl (decide (p = q))) := rfl
@[simp] theorem isNotB_d {p q : Bool} : dIsNotB M (.bl p) (.bl q) = some (.bl (!decide (p = q))) := rfl
@[simp] theorem tuple_l {xs : List D} : fTuple [.lst xs] M = .ok (.tup xs) M := rfl
@[simp] theorem tuple_t {xs : List D} : fTuple [.tup xs] M = .ok (.tup xs) M := rfl
@[simp] theorem ofs_inj2 {p q : String} : Str.ofString p = Str.ofString q ↔ p = q := ofs_inj
@[simp] theorem dAdd_l {xs ys : List D} (h : xs.length + ys.length ≤ 1000) : dAdd M (.lst xs) (.lst ys) = some (.lst (xs ++ ys)) := by
  have e : xs.length + ys.length ≤ sizeLine := Nat.le_trans h (by decide)
  show (if xs.length + ys.length ≤ sizeLine then some (D.lst (xs ++ ys)) else none) = _
  rw [if_pos e]
end
end DL
namespace DL
open PySem PySem.Spec PyProof.Rows L2 LamX GenW
abbrev gEnv (X : Cx) (scope : Scope) (L : Addr) (code : Value) : Env := genEnv scope (cloFrom X.env.cells scope.names []) L code builtinsNs X.env
def genCx (X : Cx) (A : Around) (ex : List Addr) (s : Shared) (H : Hp) (scope : Scope) (L : Addr) (code : Value) : Cx where
  prog := X.prog
  w := X.w
  K := X.K
  mg := X.mg
  base := X.base
  A := A.deeper (gEnv X scope L code)
  N := X.N
  s_0 := s
  H_0 := H
  env := gEnv X scope L code
  outer := X.stack
  stack := gEnv X scope L code :: X.stack
  ex := ex
  fn := fun _ => false
  calm := true
  pn := []
  xe := fun _ _ => False
structure GenP (N : List Str) (sc scope : Scope) (x : Str) : Prop where
  kind : scope.kind = .function
  co : scope.isCoroutine = false
  nocell : ∀ y ∈ scope.names, y.2 ≠ .cell
  dot : scope.names.lookup (".0" : Str) = some NameKind.local
  loc : scope.names.lookup x = some .local
  locs : ∀ y ∈ scope.names, y.2 = .local → y.1 = x ∨ y.1 ∉ N
  free : ∀ y ∈ scope.names, y.2 = .free → sc.names.lookup y.1 = some .cell ∨ sc.names.lookup y.1 = some .free
def genPB (N : List Str) (sc scope : Scope) (x : Str) : Bool :=
  decide (scope.kind = .function) && !scope.isCoroutine && decide (scope.names.lookup (".0" : Str) = some NameKind.local) && decide (scope.names.lookup x = some .local) &&
    scope.names.all fun y => !decide (y.2 = .cell) && (!decide (y.2 = .local) || decide (y.1 = x) || !decide (y.1 ∈ N)) && (!decide (y.2 = .free) || decide (sc.names.lookup y.1 = some .cell) || decide (sc.names.lookup y.1 = some .free))
theorem genP_by {N : List Str} {sc scope : Scope} {x : Str} (h : genPB N sc scope x = true) : GenP N sc scope x := by
  unfold genPB at h
  simp only [Bool.and_eq_true, Bool.or_eq_true, Bool.not_eq_true', decide_eq_true_eq, decide_eq_false_iff_not, List.all_eq_true] at h
  obtain ⟨⟨⟨⟨a1, a2⟩, a3⟩, a4⟩, a5⟩ := h
  refine ⟨a1, a2, fun y hy => (a5 y hy).1.1, a3, a4, fun y hy e => ?_, fun y hy e => ?_⟩
  · rcases (a5 y hy).1.2 with (z | z) | z
    · exact absurd e z
    · exact .inl z
    · exact .inr z
  · rcases (a5 y hy).2 with (z | z) | z
    · exact absurd e z
    · exact .inl z
    · exact .inr z
theorem over_comp {A : Around} {elt : Expr} {gs0 : List Comprehension} {sc : Scope} {ps : Pos} {it v : Value} {env : Env} : A.over (.compLoop (.GeneratorExp elt gs0 sc ps) 0 it v env) [] = A.deeper env := by
  first
    | rfl
    | (obtain ⟨hd, d, fr, gs, u⟩ := A; simp [Around.over, Around.deeper, marksOver, frameCount, unitsOf, envsOf, guardsOf, pushEnvs, pushGuards, Code.envs, Code.env?, Code.isFrame, Code.guards, Code.isGuard, Code.weight, Code.frames, Code.isCreation, Code.isCaller, Code.cUnits])
section
variable {G : Sg} {X : Cx} {pins : List (Addr × Obj)} {σ : L2.St} {H1 H : Hp} {s1 s : Shared}
theorem gen_enter {A : Around} {scope : Scope} {x : Str} {L : Addr} {code : Value} {ex : List Addr} {j : Nat} {m : Str → Option Value} {ip : List (Addr × Obj)} (I1 : Inv X pins σ H1 s1) (S : GenP X.N X.env.scope scope x) (nd : X.N.Nodup) (hN : X.N[j]? = some x) (hd : A.handled = none) (hfr : A.frames = some X.stack)
    (hex : ∀ b ∈ ex, FpOk X pins H1 b) (hxl : ∀ b ∈ ex, b < s1.heap.objs.size) (hL : s1.heap.objs.size ≤ L) (os : s.os = s1.os) (bare : AllBare s.gens) (kp : ∀ b o, s1.heap.get? b = some o → s.heap.get? b = some o) (hns : s.heap.Ns L m)
    (hip : ∀ p ∈ ip, s.heap.get? p.1 = some p.2 ∧ s1.heap.objs.size ≤ p.1 ∧ p.1 ≠ L ∧ ∀ v, p.2.data ≠ .cell v) :
    Inv (genCx X A ex s1 H1 scope L code) ip (σ.set j none) H1 s := by
  have fr : ∀ y ∈ scope.names, y.2 = .free → ∃ c, X.env.cells.lookup y.1 = some c := fun y hy e => (S.free y hy e).elim (fun z => I1.ok.has _ (.inl z)) fun z => I1.ok.has _ (.inr z)
  have mine : ∀ {y c}, (cloFrom X.env.cells scope.names []).lookup y = some c → X.env.cells.lookup y = some c := fun {y c} e => by
    rcases cloFrom_mem (PySem.mem_of_lookup e) with z | ⟨z1, z2⟩
    · cases z
    · obtain ⟨c1, hc⟩ := fr _ z1 rfl
      have hc : X.env.cells.lookup y = some c1 := hc
      have e2 : c = c1 := by
        rw [z2, hc] <;> rfl
      rw [e2]
      exact hc
  have seen : ∀ {y}, scope.names.lookup y = some .free → ∃ c, (cloFrom X.env.cells scope.names []).lookup y = some c := fun {y} hl =>
    mem_lookup (cloFrom_has (cells := X.env.cells) (acc := []) (show (y, NameKind.free) ∈ scope.names from PySem.mem_of_lookup hl))
  have cellK : ∀ {c : Addr} {v : Option Value}, s1.heap.IsCell c v → s.heap.IsCell c v := fun {c v} ⟨o, ho, hd⟩ => ⟨_, kp _ _ ho, hd⟩
  have nocl : ∀ {y}, scope.names.lookup y ≠ some .cell := fun {y} z => S.nocell _ (PySem.mem_of_lookup z) rfl
  have e0 := I1.env0
  have cold : ∀ {y c}, X.env.cells.lookup y = some c → c < s1.heap.objs.size := fun {y c} e => by
    obtain ⟨v, q⟩ := I1.cell y c e
    exact q.lt
  refine ⟨⟨e0.mod, S.kind, I1.ok.glob, rfl, hL, fun y z c e1 e2 => I1.ok.inj y z c (mine e1) (mine e2), fun y hy => ?_, fun y c z _ => ?_, fun _ => hd, Around.frames_deeper hfr, .inr ⟨rfl, rfl⟩, fun b hb => ⟨fun z => ?_, fun y c e => ?_⟩, e0.bs, e0.bsz, fun b o e hb => ?_,
      fun b hb z => ?_, e0.funs, e0.frf⟩,
    os, bare, Un.kept kp, ⟨_, hns, fun i y v e1 e2 e3 => ?_⟩, fun y c e => ?_, e0.hok.fresh hL, fun y c e => ?_, fun q hq => ?_, e0.hok.kept kp, ?_⟩
  · have hy : scope.names.lookup y = some .cell ∨ scope.names.lookup y = some .free := hy
    exact hy.elim (fun z => absurd z nocl) seen
  · have z : false = true := z
    cases z
  · have h1 := hxl b hb
    have z : b = L := z
    rw [z] at h1
    exact absurd (Nat.lt_of_lt_of_le h1 hL) (Nat.lt_irrefl _)
  · exact (hex b hb).2.2.2.2.1 y c (mine e)
  · rcases (hex b hb).2.2.2.1 with z | z
    · exact I1.ok.noex b o e z
    · have h1 := Heap.lt_size (I1.ok.bs b o e).1
      exact absurd (Nat.lt_of_lt_of_le h1 z) (Nat.lt_irrefl _)
  · rcases List.mem_cons.mp (I1.stkSub b z) with q | q
    · exact (hex b hb).2.1 q
    · exact (hex b hb).2.2.1 q
  · have e1 : X.N[i]? = some y := e1
    have e3 : Vis scope y := e3
    have my : y ∈ X.N := List.mem_of_getElem? e1
    have hij : i ≠ j := fun z => by
      subst z
      rw [List.getElem?_set_self'] at e2
      cases e4 : σ[i]? <;> rw [e4] at e2 <;> cases e2
    rw [List.getElem?_set_ne (Ne.symm hij)] at e2
    rcases e3 with k | k | k
    · rcases S.locs _ (PySem.mem_of_lookup k) rfl with z | z
      · have z : y = x := z
        subst z
        exact absurd ((List.getElem?_inj (List.getElem?_eq_some_iff.mp e1).1 nd).mp (e1.trans hN.symm)) hij
      · exact absurd my z
    · exact absurd k nocl
    · obtain ⟨m, hn, hl⟩ := I1.loc
      have lf := S.free _ (PySem.mem_of_lookup k) rfl
      obtain ⟨w', r, q⟩ := hl i y v e1 e2 (lf.elim (fun k => .inr (.inl k)) fun k => .inr (.inr k))
      obtain ⟨c2, h2⟩ := seen k
      refine ⟨w', r, .inr ⟨.inr k, c2, h2, ?_⟩⟩
      have c1 := mine h2
      rcases q with ⟨k', _⟩ | ⟨_, c3, e', z⟩
      · have k' : X.env.scope.names.lookup y = some .local := k'
        have lf : X.env.scope.names.lookup y = some .cell ∨ X.env.scope.names.lookup y = some .free := lf
        rw [k'] at lf
        rcases lf with lf | lf <;> cases lf
      · rw [c1] at e'
        cases e'
        exact cellK z
  · obtain ⟨w', z⟩ := I1.cell y c (mine e)
    exact ⟨w', cellK z⟩
  · exact I1.freeC y c (mine e)
  · have hq : q ∈ ip := hq
    obtain ⟨h1, h2, h3, h4⟩ := hip q hq
    refine ⟨h1, e0.hok.fresh h2, h3, fun z => ?_, h4⟩
    have z : q.1 ∈ frs X.stack := z
    rcases List.mem_cons.mp (I1.stkSub _ z) with k | k
    · have := I1.lt
      rw [← k] at this
      exact absurd (Nat.lt_of_lt_of_le this h2) (Nat.lt_irrefl _)
    · exact I1.nofs h2 k
  · show (σ.set j none).length = X.N.length
    rw [List.length_set]
    exact I1.len
end
theorem ER.wild {G : Sg} {H : Hp} {ι : Io} {v : Option V} : ∀ {δ : DEnv} {σ : L2.St} (i : Nat), ER G H ι δ σ → ER G H ι (δ.set i none) (σ.set i v)
  | [], _, _, r => by have r : _ = [] := r; subst r; rfl
  | none :: _, _, 0, ⟨_, t, e, q⟩ => by subst e; exact ⟨v, t, rfl, q⟩
  | some _ :: _, _, 0, ⟨_, t, e, _, q⟩ => by subst e; exact ⟨v, t, rfl, q⟩
  | none :: _, _, i + 1, ⟨w, t, e, q⟩ => by subst e; exact ⟨w, _, rfl, q.wild i⟩
  | some _ :: _, _, i + 1, ⟨w, t, e, r, q⟩ => by subst e; exact ⟨w, _, rfl, r, q.wild i⟩
def allK (k : Mem → Out D) : D → Mem → Out D := fun d M => match d with | .bl true => k M | .bl false => .ok (.bl false) M | _ => .undef
def dAll (j : Nat) (me : E D) (δ : DEnv) : List D → Mem → Out D
  | [], M => .ok (.bl true) M
  | d :: ds, M => (me (δ.set j (some d)) M).noX.bind (allK (dAll j me δ ds))
theorem Fin.noX {α β : Type} {rel : Rel α β} {G : Sg} {H : Hp} {ι : Io} {Q : β → Hp → Prop} {Ex Ex' : XK} {o : Out α} (f : Fin rel G H ι Q Ex o.noX) : Fin rel G H ι Q Ex' o := by
  cases o with
  | ok a M => exact f
  | exc a M => exact f.elim
  | undef => exact f
section
variable {X : Cx} {A : Around}
def FinA (X : Cx) (fp : List Addr) (sA : Shared) (HA : Hp) (Q : VK) (b : Bool) (s : Shared) : Prop := ∃ H', s.os = sA.os ∧ AllBare s.gens ∧ Un (frs X.stack) fp HA H' sA.heap s.heap ∧ HOk X.prog X.w H' s.heap ∧ Q (.bl b) H'
def allR (X : Cx) (fp : List Addr) (sA : Shared) (HA : Hp) (Q : VK) : GenEnd := fun _ _ r s => ((r = .ok (.ret .none) ∨ r = .ok .next) ∧ FinA X fp sA HA Q true s) ∨ ∃ e, r = .error e ∧ False
def allY (X : Cx) (fp : List Addr) (sA : Shared) (HA : Hp) (Q : VK) (a : Addr) (g : Nat) : Protocol := fun _ _ v s kap =>
  ∃ b : Bool, v = .bool b ∧ AllBare s.gens ∧ s.heap.NoLimit ∧ s.heap.IsGen a g ∧ (b = false → FinA X fp sA HA Q false s) ∧ (b = true → ∀ s'', s''.heap = s.heap → s''.os = s.os → AllBare s''.gens → kap (.send .none) s'')
theorem finA_of {fp : List Addr} {sA : Shared} {HA H : Hp} {scope : Scope} {L : Addr} {code : Value} {ip : List (Addr × Obj)} {σ : L2.St} {s : Shared} {Q : VK} {b : Bool} (I : Inv (genCx X A fp sA HA scope L code) ip σ H s) (q : Q (.bl b) H) : FinA X fp sA HA Q b s :=
  ⟨H, I.os, I.bare, I.base, I.hok, q⟩
theorem inv_same {Y : Cx} {ip : List (Addr × Obj)} {σ : L2.St} {H : Hp} {s s'' : Shared} (I : Inv Y ip σ H s) (hh : s''.heap = s.heap) (ho : s''.os = s.os) (hb : AllBare s''.gens) : Inv Y ip σ H s'' :=
  I.call' (ch := []) ho (by rw [hh]; exact Un.kept fun _ _ e => e) (by rw [hh]; exact I.hok) hb fun b z => by simp at z
theorem seg_all {G : Sg} {scope : Scope} {x : Str} {px gpos : Pos} {elt iter : Expr} {L it a : Addr} {code : Value} {fp : List Addr} {sA : Shared} {HA : Hp} {me : E D} {J : It} {tn : Nat → Heap → Prop} {go : Obj} {g j : Nat} {σ : L2.St} {δ : DEnv} {Q : VK} {xs : List D} {HW : Hp} {ιW : Io}
    (hbody : JE G (genCx X A fp sA HA scope L code) W0 elt me) (T : Turn X.prog X.w X.K (.Name x px) J fp it tn) (nd : X.N.Nodup) (hN : X.N[j]? = some x) (hco : scope.isCoroutine = false) (hloc : scope.names.lookup x = some .local)
    (hg : ∀ h : Heap, h.get? a = some go → h.IsGen a g) (hap : a ∉ fp) (walk : Walk G HW ιW xs J) :
    ∀ (k i n : Nat) (s₀ s : Shared) (o : Option V) (H : Hp) (ι : Io) (M : Mem), xs.length - i = k → i ≤ xs.length → k ≤ n →
      Inv (genCx X A fp sA HA scope L code) [(a, go)] (σ.set j o) H s → HRel G H ι M → Ext HW ιW H ι → ER G H ι (δ.set j none) (σ.set j o) → tn i s.heap → (∀ b ∈ fp, H b = none) → Fin relD G H ι Q (fun _ _ _ => False) (dAll j me δ (xs.drop i) M) →
      Seg (model X.prog X.w) A (allR X fp sA HA Q) (allY X fp sA HA Q a g) n s₀ (.compLoop (.GeneratorExp elt [⟨.Name x px, iter, [], 0⟩] scope gpos) 0 (.ref it) .none (gEnv X scope L code))
        ((model X.prog X.w).den (.compLoop (.GeneratorExp elt [⟨.Name x px, iter, [], 0⟩] scope gpos) 0 (.ref it) .none (gEnv X scope L code))) [] s := by
  have fpok : ∀ {σ' : L2.St} {H : Hp} {s : Shared}, Inv (genCx X A fp sA HA scope L code) [(a, go)] σ' H s → (∀ b ∈ fp, H b = none) → ∀ b ∈ fp, FpOk (genCx X A fp sA HA scope L code) [(a, go)] H b := fun {σ' H s} I hf b hb =>
    ⟨hf b hb, (I.ok.exf b hb).1, I.ok.exfs b hb, .inl hb, (I.ok.exf b hb).2, fun p hp z => by
      have hp : p ∈ [(a, go)] := hp
      rw [List.mem_singleton.mp hp] at z
      exact hap (by rw [show a = b from z]; exact hb)⟩
  intro k
  induction k with
  | zero =>
    intro i n s₀ s o H ι M hk hi hn I hr ex er ht hf f
    have hin : i = xs.length := by omega
    subst hin
    show Seg _ A _ _ _ s₀ _ ((compTurn (.GeneratorExp elt [⟨.Name x px, iter, [], 0⟩] scope gpos) 0 (.ref it) .none (gEnv X scope L code)).onRaise (leaving (gEnv X scope L code))) [] s
    rw [compTurn_gen, Sem.onRaise_eq_wrap]
    refine seg_bind_wrap (wpAny_standAt ?_)
    refine seg_bind_wrap ?_
    rw [over_comp]
    refine wpAny_mono (T.done (genCx X A fp sA HA scope L code) rfl rfl rfl rfl xs.length [(a, go)] s _ H _ I (fpok I hf) ht ((walk xs.length H ι M (.inl ex.toExtW) hr).2 (Nat.le_refl _))) (fun r s1 hr1 => ?_) fun _ _ e => e
    obtain ⟨er1, I1⟩ := hr1
    subst er1
    rw [List.drop_length] at f
    exact seg_end (.ok .next) (.inl ⟨.inr rfl, finA_of I1 (f _ H ι (Ext.refl _ _) hr rfl)⟩)
  | succ k ih =>
    intro i n s₀ s o H ι M hk hi hn I hr ex er ht hf f
    have hlt : i < xs.length := by omega
    obtain ⟨n, rfl⟩ : ∃ m, n = m + 1 := ⟨n - 1, by omega⟩
    have hd : xs.drop i = xs[i] :: xs.drop (i + 1) := List.drop_eq_getElem_cons hlt
    have hx : xs[i]? = some xs[i] := List.getElem?_eq_getElem hlt
    rw [hd] at f
    generalize xs[i] = d at hx f
    obtain ⟨go1, wy⟩ := (walk i H ι M (.inl ex.toExtW) hr).1 d hx
    show Seg _ A _ _ _ s₀ _ ((compTurn (.GeneratorExp elt [⟨.Name x px, iter, [], 0⟩] scope gpos) 0 (.ref it) .none (gEnv X scope L code)).onRaise (leaving (gEnv X scope L code))) [] s
    rw [compTurn_gen, Sem.onRaise_eq_wrap]
    refine seg_bind_wrap (wpAny_standAt ?_)
    refine seg_bind_wrap ?_
    rw [over_comp]
    refine wpAny_mono (T.item (genCx X A fp sA HA scope L code) rfl rfl rfl rfl i [(a, go)] s _ H _ I (fpok I hf) ht go1) (fun r s1 hr1 => ?_) fun _ _ e => e
    obtain ⟨u, er1, h1⟩ := hr1
    subst er1
    refine seg_bind_wrap ?_
    rw [over_comp]
    refine wpAny_mono h1 (fun _ s2 hr2 => ?_) fun _ _ e => e
    obtain ⟨v, H2, I2, rv, hy, ht2, hf2⟩ := hr2
    obtain ⟨ι2, ex2, hr2, rd⟩ := wy v H2 hy
    have fx := f.ext ex2
    refine seg_bind_wrap ?_
    rw [over_comp]
    have I2' := I2.pinned (fpok I2 hf2) (T.obj _ _ ht2)
    refine wpAny_mono ((pg_name (X := genCx X A fp sA HA scope L code) (pos := px) nd hN (.inl hloc) (.inr hloc)).run _ s2 _ H2 v u (fun σ' H' => σ' = σ.set j (some v) ∧ H' = H2) I2' rv ⟨by rw [List.set_set], rfl⟩) (fun _ s3 hr3 => ?_) fun _ _ e => e.elim
    obtain ⟨σ', H3, I3, e1, e2⟩ := hr3
    subst e1 e2
    refine seg_bind_wrap ?_
    rw [over_comp]
    refine wpAny_pure ?_
    simp only [if_true]
    have hyo : ∀ v, yieldOut (gEnv X scope L code) v = yieldValue v := fun v => by
      have hc : (gEnv X scope L code).scope.isCoroutine = false := hco
      simp only [yieldOut, hc, Bool.false_eq_true, if_false]
    simp only [hyo]
    rw [Sem.bind_eq_wrap', Sem.bind_eq_wrap', Sem.wrap_wrap, Sem.wrap_wrap]
    refine seg_wrap ?_
    rw [over_comp]
    have er3 : ER G H3 ι2 (δ.set j (some d)) (σ.set j (some v)) := by
      have := (er.ext hr ex2).set rd j
      rw [List.set_set, List.set_set] at this
      exact this
    have fm : Fin relD G H3 ι2 (Then relD G H3 ι2 fun d' M1 H' ι' => Fin relD G H' ι' Q (fun _ _ _ => False) (allK (dAll j me δ (xs.drop (i + 1))) d' M1)) (fun _ _ _ => False) (me (δ.set j (some d)) M) := Fin.noX (Fin.bind fx)
    refine wpAny_mono (hbody.run _ s3 _ H3 _ I3 ⟨ι2, M, _, hr2, er3, fm⟩) (fun y s5 hy5 => ?_) fun _ _ e => e.elim
    obtain ⟨v5, H5, I5, rv5, ι5, M5, d5, ex5, hr5, rd5, f5⟩ := hy5
    cases d5 <;> first
      | exact f5.elim
      | skip
    rename_i b
    have e5 : v5 = .bl b := rd5
    subst e5
    have e6 : y = Value.bool b := rv5
    subst e6
    have Ia : Inv (genCx X A fp sA HA scope L code) [(a, go)] (σ.set j (some v)) H5 s5 := I5.unpinned
    refine seg_at (seg_yield rfl rfl rfl ⟨b, rfl, Ia.bare, Ia.nolimit, hg _ (Ia.pin (a, go) (List.mem_singleton.mpr rfl)).1, fun eb => ?_, fun eb s'' h1 h2 h3 => ?_⟩)
    · subst eb
      exact finA_of Ia (f5 _ H5 ι5 (Ext.refl _ _) hr5 rfl)
    · subst eb
      have I6 := inv_same Ia h1 h2 h3
      refine seg_again rfl (ih (i + 1) n s'' s'' (some v) H5 ι5 M5 (by omega) hlt (by omega) I6 hr5 ((ex.trans ex2).trans ex5) ?_ ?_ (fun b hb => ?_) f5)
      · have := (((er.ext hr ex2).ext hr2 ex5).wild (v := some v) j)
        rw [List.set_set, List.set_set] at this
        exact this
      · rw [h1]
        exact T.keep _ _ _ ht2 fun b hb o e => (I5.pin (b, o) (List.mem_append_right _ (List.mem_append_right _ (mem_pinsAt hb e)))).1
      · obtain ⟨o, e, d⟩ := T.obj _ _ ht2 b hb
        exact (I5.pin (b, o) (List.mem_append_right _ (List.mem_append_right _ (mem_pinsAt hb e)))).2.1
theorem seg_start {G : Sg} {scope : Scope} {x : Str} {px gpos : Pos} {elt iter : Expr} {L it a : Addr} {code : Value} {fp : List Addr} {sA : Shared} {HA : Hp} {me : E D} {J : It} {tn : Nat → Heap → Prop} {go : Obj} {g j n : Nat} {σ : L2.St} {δ : DEnv} {Q : VK} {xs : List D} {HW H : Hp} {ιW ι : Io} {s₀ s : Shared} {M : Mem}
    (hbody : JE G (genCx X A fp sA HA scope L code) W0 elt me) (T : Turn X.prog X.w X.K (.Name x px) J fp it tn) (nd : X.N.Nodup) (hN : X.N[j]? = some x) (hco : scope.isCoroutine = false) (hloc : scope.names.lookup x = some .local)
    (hg : ∀ h : Heap, h.get? a = some go → h.IsGen a g) (hap : a ∉ fp) (walk : Walk G HW ιW xs J) (hn : xs.length ≤ n)
    (I : Inv (genCx X A fp sA HA scope L code) [(a, go)] (σ.set j none) H s) (hr : HRel G H ι M) (ex : Ext HW ιW H ι) (er : ER G H ι (δ.set j none) (σ.set j none)) (ht : tn 0 s.heap) (hf : ∀ b ∈ fp, H b = none) (f : Fin relD G H ι Q (fun _ _ _ => False) (dAll j me δ xs M)) :
    Seg (model X.prog X.w) A (allR X fp sA HA Q) (allY X fp sA HA Q a g) n s₀ (.compStart (.GeneratorExp elt [⟨.Name x px, iter, [], 0⟩] scope gpos) 0 (.ref it) .none (gEnv X scope L code))
      ((model X.prog X.w).den (.compStart (.GeneratorExp elt [⟨.Name x px, iter, [], 0⟩] scope gpos) 0 (.ref it) .none (gEnv X scope L code))) [] s := by
  have loop : ∀ s₀, Seg (model X.prog X.w) A (allR X fp sA HA Q) (allY X fp sA HA Q a g) n s₀ (.compLoop (.GeneratorExp elt [⟨.Name x px, iter, [], 0⟩] scope gpos) 0 (.ref it) .none (gEnv X scope L code))
      ((model X.prog X.w).den (.compLoop (.GeneratorExp elt [⟨.Name x px, iter, [], 0⟩] scope gpos) 0 (.ref it) .none (gEnv X scope L code))) [] s := fun s₀ =>
    seg_all hbody T nd hN hco hloc hg hap walk _ 0 n s₀ s none H ι M rfl (Nat.zero_le _) (by simpa using hn) I hr ex er ht hf (by rw [List.drop_zero]; exact f)
  show Seg _ A _ _ _ s₀ _ ((compStart (.GeneratorExp elt [⟨.Name x px, iter, [], 0⟩] scope gpos) 0 (.ref it) .none (gEnv X scope L code)).onRaise (leaving (gEnv X scope L code))) [] s
  unfold compStart
  rw [Sem.onRaise_eq_wrap]
  show Seg _ A _ _ _ s₀ _ ((ask >>= _).wrap _ _ _ _) [] s
  refine seg_bind_wrap (wpAny_askSetting ?_)
  split
  · exact seg_again rfl (loop _)
  · first
      | exact seg_bind_wrap (wpAny_rule (seg_bind_wrap (wpAny_standAt (seg_bind_wrap (T.self _ 0 s _ _ ht (seg_again rfl (loop _)))))))
      | (refine seg_bind_wrap (wpAny_rule ?_); show Seg _ A _ _ _ s₀ _ ((standAt iter.pos >>= _).wrap _ _ _ _) [] s; exact seg_bind_wrap (wpAny_standAt (seg_bind_wrap (T.self _ 0 s _ _ ht (seg_again rfl (loop _))))))
theorem drain_all {fp : List Addr} {sA : Shared} {HA : Hp} {Q : VK} {a : Addr} {g : Nat} {B : Around} {Rr : Result → Shared → Prop} (hh : B.handled = none) (hd : B.depth < recursionLimit) (hfin : ∀ b s', FinA X fp sA HA Q b s' → Rr (.ok (.ret (.bool b))) s') :
    ∀ (n : Nat) (s : Shared), s.heap.IsGen a g → s.heap.NoLimit → (∃ gs, s.gens[g]? = some gs ∧ gs.Goes (model X.prog X.w) B.in1.in1 (allR X fp sA HA Q) (allY X fp sA HA Q a g) n (.send .none) (s.setGen g .running)) →
      codeAny (model X.prog X.w) B (.builtin "all.loop" ⟨[.ref a], []⟩) Rr s := by
  have fgen : ∀ {b : Bool} {s : Shared} {x : GenState} {h' : Heap}, x.bare = true → (∀ c o, s.heap.get? c = some o → h'.get? c = some o) → FinA X fp sA HA Q b s → FinA X fp sA HA Q b { s.setGen g x with heap := h' } := by
    intro b s x h' hx hk ⟨H', os, bare, un, hok, q⟩
    exact ⟨H', os, allBare_setGen bare hx, un.trans (Un.kept hk), hok.kept hk, q⟩
  intro n
  induction n with
  | zero =>
    intro s hg hl ⟨gs, hgs, hgo⟩
    refine codeAny_builtin F.entry_all_loop ?_
    rw [Around.under_plainId F.plain_all_loop _]
    show wpAny _ B.in1 (pyNext (.ref a) >>= _) _ _ s
    refine wpAny_bind (next_genG (A := B.in1) (F := fun _ _ s => FinA X fp sA HA Q true s) (Er := fun _ _ => False) hh hl hd hg hgs hgo (fun v s₁ gs' hbare hv => ?_) (fun s₁ hp h' hk => ?_) fun e s₁ he => he.elim)
    · obtain ⟨b, ev, hb1, hl1, hg1, hf0, hf1⟩ := hv
      subst ev
      refine wpAny_bind (wpAny_holding (wpAny_truthy_bool ?_))
      refine wpAny_bind (wpAny_letGo ?_)
      cases b with
      | true => exact False.elim (hf1 rfl s₁ rfl rfl hb1)
      | false =>
        simp only [Bool.false_eq_true, if_false]
        exact wpAny_bind (wpAny_rule (wpAny_pure (hfin false _ (fgen (h' := s₁.heap) hbare (fun _ _ e => e) (hf0 rfl)))))
    · exact wpAny_bind (wpAny_rule (wpAny_pure (hfin true _ (fgen rfl hk hp))))
  | succ n ih =>
    intro s hg hl ⟨gs, hgs, hgo⟩
    have hgl : g < s.gens.size := (Array.getElem?_eq_some_iff.mp hgs).1
    refine codeAny_builtin F.entry_all_loop ?_
    rw [Around.under_plainId F.plain_all_loop _]
    show wpAny _ B.in1 (pyNext (.ref a) >>= _) _ _ s
    refine wpAny_bind (wpAny_gsz (n := g + 1) hgl (next_genG (A := B.in1) (F := fun _ _ s => FinA X fp sA HA Q true s) (Er := fun _ _ => False) hh hl hd hg hgs hgo (fun v s₁ gs' hbare hv => ?_) (fun s₁ hp h' hk => ?_) fun e s₁ he => he.elim))
    · intro hsz
      obtain ⟨b, ev, hb1, hl1, hg1, hf0, hf1⟩ := hv
      subst ev
      refine wpAny_bind (wpAny_holding (wpAny_truthy_bool ?_))
      refine wpAny_bind (wpAny_letGo ?_)
      cases b with
      | true =>
        simp only [if_true]
        refine wpAny_pure ⟨plainId_quiet F.plain_all_loop _, ih _ hg1 hl1 ⟨gs', setGen_at ?_, ?_⟩⟩
        · have q : (s₁.setGen g gs').gens.size = s₁.gens.size := setGen_size _ _ _
          have hsz' : g + 1 ≤ (s₁.setGen g gs').gens.size := hsz
          omega
        · exact hf1 rfl _ rfl rfl (allBare_setGen (allBare_setGen hb1 hbare) rfl)
      | false =>
        simp only [Bool.false_eq_true, if_false]
        exact wpAny_bind (wpAny_rule (wpAny_pure (hfin false _ (fgen (h' := s₁.heap) hbare (fun _ _ e => e) (hf0 rfl)))))
    · exact fun _ => wpAny_bind (wpAny_rule (wpAny_pure (hfin true _ (fgen rfl hk hp))))
end
section
variable {G : Sg} {X : Cx} {W : WX}
theorem tab_rel {H H1 : Hp} {ι : Io} {M : Mem} (hr : HRel G H ι M) (ext : ExtN H H1) (there : ∀ b, H1 b = none → H b = none) (tabs : Tabs G.T H1) : Ext H ι H1 ι ∧ HRel G H1 ι M := by
  have x : Ext H ι H1 ι := ⟨⟨⟨[], by simp⟩, rfl, fun _ h => .inl h, fun b u _ n e => ext b u e n, there⟩, fun b u hb e => ext b u e fun ps z => by
    obtain ⟨⟨vs, e2⟩, _⟩ := hr.wlo b hb
    rw [e2] at e
    subst z
    cases e⟩
  refine ⟨x, ⟨hr.nd, hr.len, fun n b u e1 e2 => (hr.obj n b u e1 e2).ext hr x.toExtW ?_, fun b hb => ?_, tabs, hr.clo⟩⟩
  · intro w e
    refine ext b w e fun ps z => ?_
    rcases hr.mutOf (.inl (List.mem_of_getElem? e1)) with ⟨_, e3⟩ | ⟨_, e3⟩ | ⟨_, e3⟩ | ⟨_, _, _, e3⟩ <;> rw [e3] at e <;> subst z <;> cases e
  · obtain ⟨⟨vs, e⟩, n⟩ := hr.wlo b hb
    exact ⟨⟨vs, ext b _ e fun ps z => by cases z⟩, n⟩
theorem code_gen {pins : List (Addr × Obj)} {σ : L2.St} {H : Hp} {s : Shared} {ι : Io} {M : Mem} {c P : Addr} {gpos : Pos} {q : Str} {scope : Scope} {Qc : Value → Shared → Prop} {E : Value → Shared → Prop} (I : Inv X pins σ H s) (TB : LamX.TabB X.base X.mg c P) (hcode : X.env.code = .ref c) (hm : (P, q) ∈ G.T) (hu : ∀ p ∈ G.T, p.1 = P → p.2 = q) (hr : HRel G H ι M)
    (h : ∀ (code : Value) (H1 : Hp) (s' : Shared), Inv X pins σ H1 s' → Ext H ι H1 ι → HRel G H1 ι M → (∀ b, H b = none → b < s.heap.objs.size → H1 b = none) → (∀ b o, b ≠ P → s.heap.get? b = some o → s'.heap.get? b = some o) → s.heap.objs.size ≤ s'.heap.objs.size → Qc code s') :
    wpAny (model X.prog X.w) X.A (genexprCode X.env gpos q scope) Qc E s := by
  have hT := hr.tabs
  obtain ⟨ps, hP, ht, ha⟩ := hT _ hm
  have hP' : s.heap.get? P = some (PySem.W.tabObj ps) := I.hok P _ hP
  have cd : PySem.W.CodeHd s.heap c P := TB.code.keeps I.bk
  cases hc : codeAmong gpos ps.toList with
  | none =>
    refine wpAny_genexprCodeX hcode (cd.code hP' ht) (cd.tab hP') hc fun c' h' tk hx hge hlt hco' hrec htab' _ => ?_
    obtain ⟨c2, oc, vs, t2, e2, hoc, hd, hv⟩ := hrec
    cases e2
    have nC : H c' = none := I.hok.fresh hge
    have I1 := inv_table (t' := tk) (more := #[rawInt gpos.line, rawInt gpos.col, .ref c']) (h' := h') I hP hx htab'.2 hge ⟨oc, vs, t2, hoc, hd, hv⟩
    have nP : c' ≠ P := Ne.symm (ne_of_none hP nC)
    have hE : ExtN H (upd (upd H P (.tbl (ps ++ #[rawInt gpos.line, rawInt gpos.col, .ref c']))) c' (CodeO c' q)) := fun b o e n => by
      rw [upd_ne (ne_of_none e nC), upd_ne (fun z => n ps (Option.some.inj (e.symm.trans (by rw [z]; exact hP))))]
      exact e
    have eL : (ps ++ #[rawInt gpos.line, rawInt gpos.col, .ref c']).toList = ps.toList ++ [rawInt gpos.line, rawInt gpos.col, .ref c'] := by simp
    have T1 : Tabs G.T (upd (upd H P (.tbl (ps ++ #[rawInt gpos.line, rawInt gpos.col, .ref c']))) c' (CodeO c' q)) := fun p hp => by
      by_cases hb : p.1 = P
      · rw [hu p hp hb, hb]
        refine ⟨_, by rw [upd_ne nP.symm, upd_same], by rw [eL]; exact PySem.TriplesOk_snoc _ _ _ _ ht, fun p' cv hcv => ?_⟩
        rw [eL] at hcv
        rcases among_app _ ht hcv with z | z
        · obtain ⟨c0, e1, e2⟩ := ha p' cv z
          exact ⟨c0, e1, hE _ _ e2 codeO_ne⟩
        · exact ⟨c', z, upd_same⟩
      · obtain ⟨ps', a1, a2, a3⟩ := hT p hp
        refine ⟨ps', by rw [upd_ne (ne_of_none a1 nC), upd_ne hb]; exact a1, a2, fun p' cv hcv => ?_⟩
        obtain ⟨c0, e1, e2⟩ := a3 p' cv hcv
        exact ⟨c0, e1, hE _ _ e2 codeO_ne⟩
    obtain ⟨x, hr1⟩ := tab_rel hr hE (fun b e => by
      by_cases h2 : b = c'
      · rw [h2]; exact nC
      · rw [upd_ne h2] at e
        by_cases h3 : b = P
        · rw [h3, upd_same] at e; cases e
        · rw [upd_ne h3] at e; exact e) T1
    refine h _ _ _ I1 x hr1 (fun b hb hl => ?_) (fun b o hb e => hx b o hb e) (Nat.le_trans hge (Nat.le_of_lt hlt))
    have h1 : b ≠ c' := fun z => by rw [z] at hl; exact absurd (Nat.lt_of_lt_of_le hl hge) (Nat.lt_irrefl _)
    have h2 : b ≠ P := fun z => by rw [z, hP] at hb; cases hb
    rw [upd_ne h1, upd_ne h2]
    exact hb
  | some cv =>
    refine wpAny_genexprCode_hit hcode (cd.code hP' ht) hc ?_
    exact h cv H s I (Ext.refl _ _) hr (fun b hb _ => hb) (fun b o _ e => e) (Nat.le_refl _)
theorem dAll_x {j : Nat} {me : E D} {δ : DEnv} : ∀ (xs : List D) (M : Mem) (e : XV) (M' : Mem), dAll j me δ xs M ≠ .exc e M'
  | [], _, _, _ => fun z => by cases z
  | d :: ds, M, e, M' => by
    unfold dAll
    cases me (δ.set j (some d)) M with
    | undef => intro z; cases z
    | exc _ _ => intro z; cases z
    | ok v M1 =>
      show allK (dAll j me δ ds) v M1 ≠ _
      unfold allK
      split
      · exact dAll_x ds _ e M'
      · intro z; cases z
      · intro z; cases z
theorem fin_all {H : Hp} {ι : Io} {Q : VK} {Ex Ex' : XK} {j : Nat} {me : E D} {δ : DEnv} {xs : List D} {M : Mem} (f : Fin relD G H ι Q Ex (dAll j me δ xs M)) : Fin relD G H ι Q Ex' (dAll j me δ xs M) := by
  cases e : dAll j me δ xs M with
  | undef => rw [e] at f; exact f
  | ok a M1 => rw [e] at f; exact f
  | exc a M1 => exact absurd e (dAll_x _ _ _ _)
def eAll (j : Nat) (mi : E (List D)) (me : E D) : E D := fun δ M => (mi δ M).bind fun xs M1 => dAll j me δ xs M1
theorem je_all {c P : Addr} {elt iter : Expr} {x : Str} {px p pos gpos : Pos} {scope : Scope} {k j : Nat} {mi : E (List D)} {me : E D} (hr : Room (k + 2) X.A) (hg : Gl X "all") (hm : X.mg "all" = none) (TB : LamX.TabB X.base X.mg c P) (hcode : X.env.code = .ref c)
    (mem : (P, X.env.qual ++ "<genexpr>") ∈ G.T) (one : ∀ p ∈ G.T, p.1 = P → p.2 = X.env.qual ++ "<genexpr>") (S : GenP X.N X.env.scope scope x) (nd : X.N.Nodup) (hN : X.N[j]? = some x) (hi : JI G X W (.Name x px) iter mi)
    (hbody : ∀ (A : Around) (ex : List Addr) (s : Shared) (H : Hp) (L : Addr) (code : Value), Room k (A.deeper (gEnv X scope L code)) → JE G (genCx X A ex s H scope L code) W0 elt me) (hs : ∀ v, genFold iter X.env v = pure v)
    (he : starEach [.GeneratorExp elt [⟨.Name x px, iter, [], 0⟩] scope gpos] X.env = (false, eval (.GeneratorExp elt [⟨.Name x px, iter, [], 0⟩] scope gpos) X.env) :: starEach [] X.env := by rfl) :
    JE G X W (.Call (.Name "all" p) [.GeneratorExp elt [⟨.Name x px, iter, [], 0⟩] scope gpos] [] pos) (eAll j mi me) := by
  refine ⟨fun pins s σ H Q I h => ?_⟩
  obtain ⟨ι, M, δ, hr0, er, f⟩ := h
  refine wpAny_Call_Name_kw (ld_blt I hg hm boot_all ?_)
  refine PyProof.Rows.callWith_builtin1 ?_ he (by rfl)
  rw [he]
  show wpAny _ _ (spliced ((false, eval (.GeneratorExp elt [⟨.Name x px, iter, [], 0⟩] scope gpos) X.env) :: backTo pos (starEach [] X.env))) _ _ s
  refine Calls.spliced_cons ?_
  have fr : ∀ y ∈ scope.names, y.2 = .free → ∃ c, X.env.cells.lookup y.1 = some c := fun y hy e => (S.free y hy e).elim (fun z => I.ok.has _ (.inl z)) fun z => I.ok.has _ (.inr z)
  refine wpAny_GeneratorExp_make S.co (closure_ok fr) S.nocell S.dot S.kind (by have := hr.dp; omega) ?_ hs
  refine thn (hi.run pins s σ H _ I ⟨ι, M, δ, hr0, er, Fin.bind (rel := Walk) f⟩) fun xv s1 h1 => thn h1 fun itv s2 h2 => ?_
  obtain ⟨it, fp, tn, J, H2, e, I2, T, st2, f2, r2⟩ := h2
  subst e
  obtain ⟨ι2, M2, xs, ex2, hr2, walk, f3⟩ := r2
  refine ⟨I2.nolimit, ?_⟩
  refine code_gen (G := G) I2 TB hcode mem one hr2 fun code H3 s3 I3 ex3 hr3 keep3 hp3 sz3 => ?_
  have fpl : ∀ b ∈ fp, b < s2.heap.objs.size := fun b hb => by
    obtain ⟨o, e, _⟩ := T.obj _ _ st2 b hb
    exact Heap.lt_size e
  have fpP : ∀ b ∈ fp, b ≠ P := fun b hb z => by
    obtain ⟨ps, hP, _⟩ := hr2.tabs _ mem
    have q := (f2 b hb).1
    rw [z, hP] at q
    cases q
  have st3 : tn 0 s3.heap := T.keep _ _ _ st2 fun b hb o e => hp3 b o (fpP b hb) e
  have f3p : ∀ b ∈ fp, FpOk X pins H3 b := fun b hb => ⟨keep3 b (f2 b hb).1 (fpl b hb), (f2 b hb).2⟩
  obtain ⟨bm, ob, e1, e2, e3, e4, e5, e6, e7, e8⟩ := TB.bm
  refine wpAny_builtinsFor (m := X.mg) (by rw [I3.ok.glob]; exact I3.mod.glob.keeps I3.bk) e1 e2 (I3.bk _ _ e5) e6 e7 e8 ?_
  intro h' hns hsb
  refine Calls.spliced_nil ?_
  refine call_function_tree F.kind_all F.plain_all F.entry_all (F.args_all1 _) ?_
  unfold Builtin.«all»
  refine wpAny_bind (m := oneArg "all" _) (wpAny_pure ?_)
  have sz' : h'.objs.size = s3.heap.objs.size + 1 := by rw [hsb.1, Heap.size_push]
  have kp' : ∀ b o, s3.heap.get? b = some o → h'.get? b = some o := fun b o e => hsb.extBut b o (Nat.ne_of_lt (Heap.lt_size e)) (Heap.get?_push_of_some _ e)
  have kp5 : ∀ b o, s3.heap.get? b = some o → (h'.push { cls := .type "generator", data := .fields #[.int s3.gens.size 0, .str "<genexpr>" (s3.toks + 1), .str (X.env.qual ++ "<genexpr>") (s3.toks + 1 + 1)] }).get? b = some o := fun b o e => Heap.get?_push_of_some _ (kp' b o e)
  have hgo : ∀ h : Heap, h.get? h'.objs.size = some { cls := .type "generator", data := .fields #[.int s3.gens.size 0, .str "<genexpr>" (s3.toks + 1), .str (X.env.qual ++ "<genexpr>") (s3.toks + 1 + 1)] } → h.IsGen h'.objs.size s3.gens.size := fun h e => ⟨_, _, _, e, rfl, rfl, rfl⟩
  have hge := Heap.get?_push_size h' (o := { cls := .type "generator", data := .fields #[.int s3.gens.size 0, .str "<genexpr>" (s3.toks + 1), .str (X.env.qual ++ "<genexpr>") (s3.toks + 1 + 1)] }) rfl
  refine wpAny_bind (wpAny_pyIter_gen (g := s3.gens.size) (hgo _ hge) ?_)
  refine wpAny_pure ⟨plainId_quiet F.plain_all_loop _, ?_⟩
  have lim5 := I3.nolimit.keeps kp5
  refine drain_all (X := X) (fp := fp) (sA := s3) (HA := H3) (Q := Q) hr.hd (by have := hr.dp; show X.A.depth < _; omega) (fun b s' hb => ?_) xs.length _ (hgo _ hge) lim5 ⟨_, Array.getElem?_push_size .., rfl, ?_⟩
  · obtain ⟨H', os, bare, un, hok, q⟩ := hb
    exact ⟨.bl b, H', I3.call' (ch := fp) os un hok bare fun b hb => ⟨(f3p b hb).2.2.2.1, (f3p b hb).2.1, (f3p b hb).2.2.2.2.1, (f3p b hb).2.2.2.2.2⟩, rfl, q⟩
  · have er3 := ((er.ext hr0 ex2).ext hr2 ex3).unset j
    have room : Room k ((X.A.in1.in1).deeper (gEnv X scope s3.heap.objs.size code)) :=
      ⟨hr.hd, by have := hr.dp; show X.A.depth + 1 + 3 * k + 5 < _; omega, by have := hr.un; show X.A.units + 1 + 1 + 3 + 16 * k + 200 < _; omega⟩
    refine seg_start (A := X.A.in1.in1) (hbody _ fp s3 H3 s3.heap.objs.size code room) T nd hN S.co S.loc hgo (fun z => ?_) walk (Nat.le_refl _) ?_ hr3 ex3 er3 ?_ (fun b hb => (f3p b hb).1) (fin_all (f3.ext ex3))
    · have h1 : h'.objs.size < s2.heap.objs.size := fpl _ z
      rw [sz'] at h1
      have h2 : s2.heap.objs.size ≤ s3.heap.objs.size := sz3
      exact absurd (Nat.lt_of_lt_of_le h1 h2) (Nat.not_lt.mpr (Nat.le_succ _))
    · refine gen_enter (m := fun y => if y = ".0" then some (.ref it) else none) I3 S nd hN hr.hd I3.ok.frames f3p (fun b hb => Nat.lt_of_lt_of_le (fpl b hb) sz3) (Nat.le_refl _) rfl (allBare_setGen (AllBare.push I3.bare rfl) rfl) kp5 (hns.push _) fun p hp => ?_
      rw [List.mem_singleton.mp hp]
      exact ⟨hge, by rw [sz']; omega, by rw [sz']; exact Nat.succ_ne_self _, fun v q => by cases q⟩
    · exact T.keep _ _ _ st3 fun b _ o e => kp5 b o e
end
end DL
namespace DL
open PySem PySem.Spec PyProof.Rows L2 LamX
end DL
namespace DL
open PySem PySem.Spec PyProof.Rows L2 LamX
end DL
namespace DL
open PySem PySem.Spec PyProof.Rows L2 LamX
section
variable {G : Sg} {X : Cx} {W : WX} {pos : Pos}
def kvsOf : List Str → List Int → List (L2.Key × V)
  | k :: ks, i :: is => (.inr k, .int i) :: kvsOf ks is
  | _, _ => []
end
end DL
namespace DL
open PySem PySem.Spec PyProof.Rows L2 LamX
end DL
namespace DL
open PySem PySem.Spec PyProof.Rows L2
end DL
namespace DL
open PySem PySem.Spec PyProof.Rows L2 LamX
def keyD : D → Option L2.Key
  | .int i => some (.inl i) | .str z => some (.inr z) | _ => none
theorem keyD_R {G : Sg} {H : Hp} {ι : Io} {d : D} {v : V} {k : L2.Key} (r : R G H ι d v) (e : keyD d = some k) : v = kV k := by
  cases d <;> first
    | (cases e; done)
    | skip
  all_goals
    cases e
    exact r
def vD (kvs : List (L2.Key × D)) (k : L2.Key) : Option D := (kvs.find? fun kv => decide (kv.1 = k)).map (·.2)
def putD (kvs : List (L2.Key × D)) (k : L2.Key) (d : D) : List (L2.Key × D) :=
  if (kvs.any fun kv => decide (kv.1 = k)) = true then kvs.map (fun kv => if kv.1 = k then (kv.1, d) else kv) else kvs ++ [(k, d)]
theorem vD_pos {p : L2.Key × D} {r : List (L2.Key × D)} {k : L2.Key} (e : p.1 = k) : vD (p :: r) k = some p.2 := by simp [vD, List.find?_cons, e]
theorem vD_neg {p : L2.Key × D} {r : List (L2.Key × D)} {k : L2.Key} (e : ¬ p.1 = k) : vD (p :: r) k = vD r k := by simp [vD, List.find?_cons, e]
section
variable {G : Sg} {H : Hp} {ι : Io}
theorem RD.len : ∀ {kvs : List (L2.Key × D)} {ws : List (L2.Key × V)}, RD G H ι kvs ws → kvs.length = ws.length
  | [], ws, r => by
    have r : ws = [] := r
    rw [r]; rfl
  | (k, x) :: kvs, ws, ⟨v, r, e, _, t⟩ => by
    subst e
    simp [RD.len t]
theorem RD.val : ∀ {kvs : List (L2.Key × D)} {ws : List (L2.Key × V)} {k : L2.Key} {d : D}, RD G H ι kvs ws → vD kvs k = some d → ∃ v, valV ws k = some v ∧ R G H ι d v
  | [], ws, k, d, r, e => by cases e
  | (j, x) :: kvs, ws, k, d, ⟨v, r, e1, q, t⟩, e => by
    subst e1
    by_cases h : j = k
    · rw [vD_pos h] at e
      cases e
      exact ⟨v, valV_pos h, q⟩
    · rw [vD_neg h] at e
      obtain ⟨u, e2, q2⟩ := RD.val t e
      exact ⟨u, by rw [valV_neg h]; exact e2, q2⟩
theorem RD.any : ∀ {kvs : List (L2.Key × D)} {ws : List (L2.Key × V)} (k : L2.Key), RD G H ι kvs ws → (kvs.any fun kv => decide (kv.1 = k)) = ws.any fun kv => decide (kv.1 = k)
  | [], ws, k, r => by
    have r : ws = [] := r
    rw [r]; rfl
  | (j, x) :: kvs, ws, k, ⟨v, r, e1, q, t⟩ => by
    subst e1
    rw [List.any_cons, List.any_cons, RD.any k t]
theorem RD.repl : ∀ {kvs : List (L2.Key × D)} {ws : List (L2.Key × V)} {k : L2.Key} {d : D} {v : V}, RD G H ι kvs ws → R G H ι d v →
    RD G H ι (kvs.map fun kv => if kv.1 = k then (kv.1, d) else kv) (ws.map fun kv => if kv.1 = k then (kv.1, v) else kv)
  | [], ws, k, d, v, r, _ => by
    have r : ws = [] := r
    rw [r]; exact rfl
  | (j, x) :: kvs, ws, k, d, v, ⟨u, r, e1, q, t⟩, rv => by
    subst e1
    rw [List.map_cons, List.map_cons]
    by_cases h : j = k
    · simp only [h, if_true]
      exact ⟨v, _, rfl, rv, RD.repl t rv⟩
    · simp only [h, if_false]
      exact ⟨u, _, rfl, q, RD.repl t rv⟩
theorem RD.snoc : ∀ {kvs : List (L2.Key × D)} {ws : List (L2.Key × V)} {k : L2.Key} {d : D} {v : V}, RD G H ι kvs ws → R G H ι d v → RD G H ι (kvs ++ [(k, d)]) (ws ++ [(k, v)])
  | [], ws, k, d, v, r, rv => by
    have r : ws = [] := r
    rw [r]; exact ⟨v, [], rfl, rv, rfl⟩
  | (j, x) :: kvs, ws, k, d, v, ⟨u, r, e1, q, t⟩, rv => by
    subst e1
    exact ⟨u, _, rfl, q, RD.snoc t rv⟩
theorem RD.put {kvs : List (L2.Key × D)} {ws : List (L2.Key × V)} {k : L2.Key} {d : D} {v : V} (r : RD G H ι kvs ws) (rv : R G H ι d v) : RD G H ι (putD kvs k d) (L2.putK ws k v) := by
  unfold putD L2.putK
  rw [RD.any k r]
  split
  · exact r.repl rv
  · exact r.snoc rv
theorem HRel.updO {M : Mem} {n : Nat} {a : Addr} {o o' : HO} {mo : MO} (h : HRel G H ι M) (ha : ι.ix[n]? = some a) (e : H a = some o) (ho : (∃ vs, o = .lst vs) ∨ (∃ ws, o = .dK ws) ∨ ∃ ws, o = .dT ws) (q : MR G (upd H a o') ι mo a) : HRel G (upd H a o') ι (M.set n mo) := by
  have x : ExtW H ι (upd H a o') ι := ExtW.updM (.inl (List.mem_of_getElem? ha)) e
  have nt : ∀ {u : HO}, (∀ vs, u ≠ .lst vs) → (∀ ws, u ≠ .dK ws) → (∀ ws, u ≠ .dT ws) → o ≠ u := fun h1 h2 h3 z => by
    rcases ho with ⟨vs, hv⟩ | ⟨ws, hw⟩ | ⟨ws, hw⟩
    · exact h1 vs (z.symm.trans hv)
    · exact h2 ws (z.symm.trans hw)
    · exact h3 ws (z.symm.trans hw)
  refine ⟨h.nd, by rw [List.length_set]; exact h.len, fun m b u e1 e2 => ?_, fun b hb => ?_, fun p hp => ?_, h.clo⟩
  · by_cases hb : b = a
    · have e3 : m = n := by
        rw [hb] at e1
        exact (List.getElem?_inj (List.getElem?_eq_some_iff.mp e1).1 h.nd).mp (e1.trans ha.symm)
      subst e3
      have hm : m < M.length := by rw [← h.len]; exact (List.getElem?_eq_some_iff.mp e1).1
      rw [List.getElem?_set_self hm] at e2
      cases e2
      rw [hb]
      exact q
    · have e3 : m ≠ n := fun z => by
        rw [z, ha] at e1
        exact hb (Option.some.inj e1).symm
      rw [List.getElem?_set_ne (Ne.symm e3)] at e2
      exact (h.obj m b u e1 e2).ext h x fun u q => by rw [upd_ne hb]; exact q
  · obtain ⟨⟨us, e1⟩, n1⟩ := h.wlo b hb
    refine ⟨⟨us, ?_⟩, n1⟩
    rw [upd_ne (fun z => n1 (by rw [z]; exact List.mem_of_getElem? ha))]
    exact e1
  · obtain ⟨ps, q1, q2, q3⟩ := h.tabs p hp
    refine ⟨ps, by rw [upd_ne (ne_of q1 e fun z => nt (u := .tbl ps) (fun _ z => by cases z) (fun _ z => by cases z) (fun _ z => by cases z) z.symm)]; exact q1, q2, fun pos cv hc => ?_⟩
    obtain ⟨c, q4, q5⟩ := q3 pos cv hc
    exact ⟨c, q4, by rw [upd_ne (ne_of q5 e fun z => nt (fun _ z => by cases z) (fun _ z => by cases z) (fun _ z => by cases z) z.symm)]; exact q5⟩
end
end DL
namespace DL
open PySem PySem.Spec PyProof.Rows L2 LamX
end DL
namespace DL
open PySem PySem.Spec PyProof.Rows L2 LamX
end DL
namespace DL
open PySem PySem.Spec PyProof.Rows L2 LamX
section
variable {G : Sg} {X : Cx} {W : WX} {H : Hp} {ι : Io} {pos : Pos}
theorem wipe_two {σ : L2.St} {vs : List Nat} : L2.wipe (L2.wipe σ vs) vs = L2.wipe σ vs := by
  apply List.ext_getElem?
  intro j
  rw [wipe_get, wipe_get]
  split
  · cases σ[j]? <;> rfl
  · rfl
end
end DL
namespace DL
open PySem PySem.Spec PyProof.Rows L2 LamX
def firstE : List D → D → Option Nat
  | [], _ => none
  | y :: r, z => if eqvD y z = true then some 0 else (firstE r z).map (· + 1)
section
variable {G : Sg} {X : Cx} {W : WX} {pos : Pos}
def idxK (me : E D) (δ : DEnv) : D → Mem → Out D := fun x M1 => match x with
  | .lst xs => (me δ M1).bind fun y M2 => if flatD y = true ∧ xs.all flatD = true then Out.opt ((firstE xs y).map fun j => D.int (j : Nat)) M2 else .undef
  | _ => .undef
def eIndexL (mo me : E D) : E D := fun δ M => (mo δ M).bind (idxK me δ)
def cntK (me : E D) (δ : DEnv) : D → Mem → Out D := fun x M1 => match x with
  | .lst xs => (me δ M1).bind fun y M2 => if flatD y = true ∧ xs.all flatD = true then .ok (.int (xs.countP fun z => eqvD z y : Nat)) M2 else .undef
  | _ => .undef
def eCountL (mo me : E D) : E D := fun δ M => (mo δ M).bind (cntK me δ)
end
end DL
namespace DL
open PySem PySem.Spec PyProof.Rows L2 LamX GenW
structure GenQ (N : List Str) (sc scope : Scope) (own : List (Str × Nat)) : Prop where
  kind : scope.kind = .function
  co : scope.isCoroutine = false
  nocell : ∀ y ∈ scope.names, y.2 ≠ .cell
  dot : scope.names.lookup (".0" : Str) = some NameKind.local
  own_ : ∀ p ∈ own, N[p.2]? = some p.1
  locs : ∀ y ∈ scope.names, y.2 = .local → y.1 ∈ own.map (·.1) ∨ y.1 ∉ N
  free : ∀ y ∈ scope.names, y.2 = .free → sc.names.lookup y.1 = some .cell ∨ sc.names.lookup y.1 = some .free
def genQB (N : List Str) (sc scope : Scope) (own : List (Str × Nat)) : Bool :=
  decide (scope.kind = .function) && !scope.isCoroutine && decide (scope.names.lookup (".0" : Str) = some NameKind.local) && (own.all fun p => decide (N[p.2]? = some p.1)) &&
    scope.names.all fun y => !decide (y.2 = .cell) && (!decide (y.2 = .local) || decide (y.1 ∈ own.map (·.1)) || !decide (y.1 ∈ N)) && (!decide (y.2 = .free) || decide (sc.names.lookup y.1 = some .cell) || decide (sc.names.lookup y.1 = some .free))
theorem genQ_by {N : List Str} {sc scope : Scope} {own : List (Str × Nat)} (h : genQB N sc scope own = true) : GenQ N sc scope own := by
  unfold genQB at h
  simp only [Bool.and_eq_true, Bool.or_eq_true, Bool.not_eq_true', decide_eq_true_eq, decide_eq_false_iff_not, List.all_eq_true] at h
  obtain ⟨⟨⟨⟨a1, a2⟩, a3⟩, a4⟩, a5⟩ := h
  refine ⟨a1, a2, fun y hy => (a5 y hy).1.1, a3, a4, fun y hy e => ?_, fun y hy e => ?_⟩
  · rcases (a5 y hy).1.2 with (z | z) | z
    · exact absurd e z
    · exact .inl z
    · exact .inr z
  · rcases (a5 y hy).2 with (z | z) | z
    · exact absurd e z
    · exact .inl z
    · exact .inr z
section
variable {G : Sg} {X : Cx} {pins : List (Addr × Obj)} {σ : L2.St} {H1 H : Hp} {s1 s : Shared}
theorem gen_enterG {A : Around} {scope : Scope} {own : List (Str × Nat)} {L : Addr} {code : Value} {ex : List Addr} {m : Str → Option Value} {ip : List (Addr × Obj)} (I1 : Inv X pins σ H1 s1) (S : GenQ X.N X.env.scope scope own) (nd : X.N.Nodup) (hd : A.handled = none) (hfr : A.frames = some X.stack)
    (hex : ∀ b ∈ ex, FpOk X pins H1 b) (hxl : ∀ b ∈ ex, b < s1.heap.objs.size) (hL : s1.heap.objs.size ≤ L) (os : s.os = s1.os) (bare : AllBare s.gens) (kp : ∀ b o, s1.heap.get? b = some o → s.heap.get? b = some o) (hns : s.heap.Ns L m)
    (hip : ∀ p ∈ ip, s.heap.get? p.1 = some p.2 ∧ s1.heap.objs.size ≤ p.1 ∧ p.1 ≠ L ∧ ∀ v, p.2.data ≠ .cell v) :
    Inv (genCx X A ex s1 H1 scope L code) ip (L2.wipe σ (own.map (·.2))) H1 s := by
  have fr : ∀ y ∈ scope.names, y.2 = .free → ∃ c, X.env.cells.lookup y.1 = some c := fun y hy e => (S.free y hy e).elim (fun z => I1.ok.has _ (.inl z)) fun z => I1.ok.has _ (.inr z)
  have mine : ∀ {y c}, (cloFrom X.env.cells scope.names []).lookup y = some c → X.env.cells.lookup y = some c := fun {y c} e => by
    rcases cloFrom_mem (PySem.mem_of_lookup e) with z | ⟨z1, z2⟩
    · cases z
    · obtain ⟨c1, hc⟩ := fr _ z1 rfl
      have hc : X.env.cells.lookup y = some c1 := hc
      have e2 : c = c1 := by
        rw [z2, hc] <;> rfl
      rw [e2]
      exact hc
  have seen : ∀ {y}, scope.names.lookup y = some .free → ∃ c, (cloFrom X.env.cells scope.names []).lookup y = some c := fun {y} hl =>
    mem_lookup (cloFrom_has (cells := X.env.cells) (acc := []) (show (y, NameKind.free) ∈ scope.names from PySem.mem_of_lookup hl))
  have cellK : ∀ {c : Addr} {v : Option Value}, s1.heap.IsCell c v → s.heap.IsCell c v := fun {c v} ⟨o, ho, hd⟩ => ⟨_, kp _ _ ho, hd⟩
  have nocl : ∀ {y}, scope.names.lookup y ≠ some .cell := fun {y} z => S.nocell _ (PySem.mem_of_lookup z) rfl
  have e0 := I1.env0
  have cold : ∀ {y c}, X.env.cells.lookup y = some c → c < s1.heap.objs.size := fun {y c} e => by
    obtain ⟨v, q⟩ := I1.cell y c e
    exact q.lt
  refine ⟨⟨e0.mod, S.kind, I1.ok.glob, rfl, hL, fun y z c e1 e2 => I1.ok.inj y z c (mine e1) (mine e2), fun y hy => ?_, fun y c z _ => ?_, fun _ => hd, Around.frames_deeper hfr, .inr ⟨rfl, rfl⟩, fun b hb => ⟨fun z => ?_, fun y c e => ?_⟩, e0.bs, e0.bsz, fun b o e hb => ?_,
      fun b hb z => ?_, e0.funs, e0.frf⟩,
    os, bare, Un.kept kp, ⟨_, hns, fun i y v e1 e2 e3 => ?_⟩, fun y c e => ?_, e0.hok.fresh hL, fun y c e => ?_, fun q hq => ?_, e0.hok.kept kp, ?_⟩
  · have hy : scope.names.lookup y = some .cell ∨ scope.names.lookup y = some .free := hy
    exact hy.elim (fun z => absurd z nocl) seen
  · have z : false = true := z
    cases z
  · have h1 := hxl b hb
    have z : b = L := z
    rw [z] at h1
    exact absurd (Nat.lt_of_lt_of_le h1 hL) (Nat.lt_irrefl _)
  · exact (hex b hb).2.2.2.2.1 y c (mine e)
  · rcases (hex b hb).2.2.2.1 with z | z
    · exact I1.ok.noex b o e z
    · have h1 := Heap.lt_size (I1.ok.bs b o e).1
      exact absurd (Nat.lt_of_lt_of_le h1 z) (Nat.lt_irrefl _)
  · rcases List.mem_cons.mp (I1.stkSub b z) with q | q
    · exact (hex b hb).2.1 q
    · exact (hex b hb).2.2.1 q
  · have e1 : X.N[i]? = some y := e1
    have e3 : Vis scope y := e3
    have my : y ∈ X.N := List.mem_of_getElem? e1
    obtain ⟨e2, hiv⟩ := wipe_some e2
    rcases e3 with k | k | k
    · rcases S.locs _ (PySem.mem_of_lookup k) rfl with z | z
      · obtain ⟨p, hp, ep⟩ := List.mem_map.mp z
        have e5 := S.own_ p hp
        have ep : p.1 = y := ep
        rw [ep] at e5
        have : i = p.2 := (List.getElem?_inj (List.getElem?_eq_some_iff.mp e1).1 nd).mp (e1.trans e5.symm)
        exact absurd (List.mem_map.mpr ⟨p, hp, this.symm⟩) hiv
      · exact absurd my z
    · exact absurd k nocl
    · obtain ⟨m, hn, hl⟩ := I1.loc
      have lf := S.free _ (PySem.mem_of_lookup k) rfl
      obtain ⟨w', r, q⟩ := hl i y v e1 e2 (lf.elim (fun k => .inr (.inl k)) fun k => .inr (.inr k))
      obtain ⟨c2, h2⟩ := seen k
      refine ⟨w', r, .inr ⟨.inr k, c2, h2, ?_⟩⟩
      have c1 := mine h2
      rcases q with ⟨k', _⟩ | ⟨_, c3, e', z⟩
      · have k' : X.env.scope.names.lookup y = some .local := k'
        have lf : X.env.scope.names.lookup y = some .cell ∨ X.env.scope.names.lookup y = some .free := lf
        rw [k'] at lf
        rcases lf with lf | lf <;> cases lf
      · rw [c1] at e'
        cases e'
        exact cellK z
  · obtain ⟨w', z⟩ := I1.cell y c (mine e)
    exact ⟨w', cellK z⟩
  · exact I1.freeC y c (mine e)
  · have hq : q ∈ ip := hq
    obtain ⟨h1, h2, h3, h4⟩ := hip q hq
    refine ⟨h1, e0.hok.fresh h2, h3, fun z => ?_, h4⟩
    have z : q.1 ∈ frs X.stack := z
    rcases List.mem_cons.mp (I1.stkSub _ z) with k | k
    · have := I1.lt
      rw [← k] at this
      exact absurd (Nat.lt_of_lt_of_le this h2) (Nat.lt_irrefl _)
    · exact I1.nofs h2 k
  · show (L2.wipe σ (own.map (·.2))).length = X.N.length
    rw [wipe_length]
    exact I1.len
end
def dAllG (g : TGD) (me : E D) (δ : DEnv) : List D → Mem → Out D
  | [], M => .ok (.bl true) M
  | d :: ds, M => match g d δ M with
    | none => .undef
    | some δ1 => (me δ1 M).noX.bind (allK (dAllG g me δ ds))
theorem dAllG_x {g : TGD} {me : E D} {δ : DEnv} : ∀ (xs : List D) (M : Mem) (e : XV) (M' : Mem), dAllG g me δ xs M ≠ .exc e M'
  | [], _, _, _ => fun z => by cases z
  | d :: ds, M, e, M' => by
    unfold dAllG
    cases g d δ M with
    | none => intro z; cases z
    | some δ1 =>
      dsimp only
      cases me δ1 M with
      | undef => intro z; cases z
      | exc _ _ => intro z; cases z
      | ok v M1 =>
        show allK (dAllG g me δ ds) v M1 ≠ _
        unfold allK
        split
        · exact dAllG_x ds _ e M'
        · intro z; cases z
        · intro z; cases z
theorem fin_allG {G : Sg} {H : Hp} {ι : Io} {Q : VK} {Ex Ex' : XK} {g : TGD} {me : E D} {δ : DEnv} {xs : List D} {M : Mem} (f : Fin relD G H ι Q Ex (dAllG g me δ xs M)) : Fin relD G H ι Q Ex' (dAllG g me δ xs M) := by
  cases e : dAllG g me δ xs M with
  | undef => rw [e] at f; exact f
  | ok a M1 => rw [e] at f; exact f
  | exc a M1 => exact absurd e (dAllG_x _ _ _ _)
section
variable {X : Cx} {A : Around}
theorem seg_allG {G : Sg} {scope : Scope} {vs ks : List Nat} {gpos : Pos} {elt iter tg : Expr} {g1 : TGD} {L it a : Addr} {code : Value} {fp : List Addr} {sA : Shared} {HA : Hp} {me : E D} {J : It} {tn : Nat → Heap → Prop} {go : Obj} {g : Nat} {σ : L2.St} {δ : DEnv} {Q : VK} {xs : List D} {HW : Hp} {ιW : Io}
    (hbody : JE G (genCx X A fp sA HA scope L code) W0 elt me) (htg : JG G (genCx X A fp sA HA scope L code) tg ks g1) (hks : ∀ k ∈ ks, k ∈ vs) (T : Turn X.prog X.w X.K tg J fp it tn) (hco : scope.isCoroutine = false)
    (hg : ∀ h : Heap, h.get? a = some go → h.IsGen a g) (hap : a ∉ fp) (walk : Walk G HW ιW xs J) :
    ∀ (k i n : Nat) (s₀ s : Shared) (H : Hp) (ι : Io) (M : Mem), xs.length - i = k → i ≤ xs.length → k ≤ n →
      Inv (genCx X A fp sA HA scope L code) [(a, go)] (L2.wipe σ vs) H s → HRel G H ι M → Ext HW ιW H ι → ER G H ι (wipeD δ vs) (L2.wipe σ vs) → tn i s.heap → (∀ b ∈ fp, H b = none) → Fin relD G H ι Q (fun _ _ _ => False) (dAllG g1 me (wipeD δ vs) (xs.drop i) M) →
      Seg (model X.prog X.w) A (allR X fp sA HA Q) (allY X fp sA HA Q a g) n s₀ (.compLoop (.GeneratorExp elt [⟨tg, iter, [], 0⟩] scope gpos) 0 (.ref it) .none (gEnv X scope L code))
        ((model X.prog X.w).den (.compLoop (.GeneratorExp elt [⟨tg, iter, [], 0⟩] scope gpos) 0 (.ref it) .none (gEnv X scope L code))) [] s := by
  have fpok : ∀ {σ' : L2.St} {H : Hp} {s : Shared}, Inv (genCx X A fp sA HA scope L code) [(a, go)] σ' H s → (∀ b ∈ fp, H b = none) → ∀ b ∈ fp, FpOk (genCx X A fp sA HA scope L code) [(a, go)] H b := fun {σ' H s} I hf b hb =>
    ⟨hf b hb, (I.ok.exf b hb).1, I.ok.exfs b hb, .inl hb, (I.ok.exf b hb).2, fun p hp z => by
      have hp : p ∈ [(a, go)] := hp
      rw [List.mem_singleton.mp hp] at z
      exact hap (by rw [show a = b from z]; exact hb)⟩
  intro k
  induction k with
  | zero =>
    intro i n s₀ s H ι M hk hi hn I hr ex er ht hf f
    have hin : i = xs.length := by omega
    subst hin
    show Seg _ A _ _ _ s₀ _ ((compTurn (.GeneratorExp elt [⟨tg, iter, [], 0⟩] scope gpos) 0 (.ref it) .none (gEnv X scope L code)).onRaise (leaving (gEnv X scope L code))) [] s
    rw [compTurn_gen, Sem.onRaise_eq_wrap]
    refine seg_bind_wrap (wpAny_standAt ?_)
    refine seg_bind_wrap ?_
    rw [over_comp]
    refine wpAny_mono (T.done (genCx X A fp sA HA scope L code) rfl rfl rfl rfl xs.length [(a, go)] s _ H _ I (fpok I hf) ht ((walk xs.length H ι M (.inl ex.toExtW) hr).2 (Nat.le_refl _))) (fun r s1 hr1 => ?_) fun _ _ e => e
    obtain ⟨er1, I1⟩ := hr1
    subst er1
    rw [List.drop_length] at f
    exact seg_end (.ok .next) (.inl ⟨.inr rfl, finA_of I1 (f _ H ι (Ext.refl _ _) hr rfl)⟩)
  | succ k ih =>
    intro i n s₀ s H ι M hk hi hn I hr ex er ht hf f
    have hlt : i < xs.length := by omega
    obtain ⟨n, rfl⟩ : ∃ m, n = m + 1 := ⟨n - 1, by omega⟩
    have hd : xs.drop i = xs[i] :: xs.drop (i + 1) := List.drop_eq_getElem_cons hlt
    have hx : xs[i]? = some xs[i] := List.getElem?_eq_getElem hlt
    rw [hd] at f
    generalize xs[i] = d at hx f
    obtain ⟨go1, wy⟩ := (walk i H ι M (.inl ex.toExtW) hr).1 d hx
    show Seg _ A _ _ _ s₀ _ ((compTurn (.GeneratorExp elt [⟨tg, iter, [], 0⟩] scope gpos) 0 (.ref it) .none (gEnv X scope L code)).onRaise (leaving (gEnv X scope L code))) [] s
    rw [compTurn_gen, Sem.onRaise_eq_wrap]
    refine seg_bind_wrap (wpAny_standAt ?_)
    refine seg_bind_wrap ?_
    rw [over_comp]
    refine wpAny_mono (T.item (genCx X A fp sA HA scope L code) rfl rfl rfl rfl i [(a, go)] s _ H _ I (fpok I hf) ht go1) (fun r s1 hr1 => ?_) fun _ _ e => e
    obtain ⟨u, er1, h1⟩ := hr1
    subst er1
    refine seg_bind_wrap ?_
    rw [over_comp]
    refine wpAny_mono h1 (fun _ s2 hr2 => ?_) fun _ _ e => e
    obtain ⟨v, H2, I2, rv, hy, ht2, hf2⟩ := hr2
    obtain ⟨ι2, ex2, hr2, rd⟩ := wy v H2 hy
    have fx := f.ext ex2
    refine seg_bind_wrap ?_
    rw [over_comp]
    have I2' := I2.pinned (fpok I2 hf2) (T.obj _ _ ht2)
    have edg : ∃ δ1, g1 d (wipeD δ vs) M = some δ1 := by
      cases e0 : g1 d (wipeD δ vs) M with
      | none => simp only [dAllG, e0] at fx; exact fx.elim
      | some δ1 => exact ⟨δ1, rfl⟩
    obtain ⟨δ1, e0⟩ := edg
    have fx : Fin relD G H2 ι2 Q (fun _ _ _ => False) ((me δ1 M).noX.bind (allK (dAllG g1 me (wipeD δ vs) (xs.drop (i + 1))))) := by
      simp only [dAllG, e0] at fx
      exact fx
    refine wpAny_mono (htg.run _ s2 _ H2 v u (fun σ' H' => L2.wipe σ' vs = L2.wipe σ vs ∧ H' = H2 ∧ ER G H2 ι2 δ1 σ') I2' rv ⟨ι2, M, wipeD δ vs, d, δ1, hr2, er.ext hr ex2, rd, e0, fun σ' er' so => ⟨(so vs hks).trans wipe_two, rfl, er'⟩⟩) (fun _ s3 hr3 => ?_) fun _ _ e => e.elim
    obtain ⟨σ', H3, I3, e1, e2, er3⟩ := hr3
    subst e2
    refine seg_bind_wrap ?_
    rw [over_comp]
    refine wpAny_pure ?_
    simp only [if_true]
    have hyo : ∀ v, yieldOut (gEnv X scope L code) v = yieldValue v := fun v => by
      have hc : (gEnv X scope L code).scope.isCoroutine = false := hco
      simp only [yieldOut, hc, Bool.false_eq_true, if_false]
    simp only [hyo]
    rw [Sem.bind_eq_wrap', Sem.bind_eq_wrap', Sem.wrap_wrap, Sem.wrap_wrap]
    refine seg_wrap ?_
    rw [over_comp]
    have fm : Fin relD G H3 ι2 (Then relD G H3 ι2 fun d' M1 H' ι' => Fin relD G H' ι' Q (fun _ _ _ => False) (allK (dAllG g1 me (wipeD δ vs) (xs.drop (i + 1))) d' M1)) (fun _ _ _ => False) (me δ1 M) := Fin.noX (Fin.bind fx)
    refine wpAny_mono (hbody.run _ s3 _ H3 _ I3 ⟨ι2, M, _, hr2, er3, fm⟩) (fun y s5 hy5 => ?_) fun _ _ e => e.elim
    obtain ⟨v5, H5, I5, rv5, ι5, M5, d5, ex5, hr5, rd5, f5⟩ := hy5
    cases d5 <;> first
      | exact f5.elim
      | skip
    rename_i b
    have e5 : v5 = .bl b := rd5
    subst e5
    have e6 : y = Value.bool b := rv5
    subst e6
    have Ia : Inv (genCx X A fp sA HA scope L code) [(a, go)] (L2.wipe σ vs) H5 s5 := I5.unpinned.weak (by rw [← e1, wipe_length]) fun jj vv ee => by
      rw [← e1] at ee
      exact (wipe_some ee).1
    refine seg_at (seg_yield rfl rfl rfl ⟨b, rfl, Ia.bare, Ia.nolimit, hg _ (Ia.pin (a, go) (List.mem_singleton.mpr rfl)).1, fun eb => ?_, fun eb s'' h1 h2 h3 => ?_⟩)
    · subst eb
      exact finA_of Ia (f5 _ H5 ι5 (Ext.refl _ _) hr5 rfl)
    · subst eb
      have I6 := inv_same Ia h1 h2 h3
      refine seg_again rfl (ih (i + 1) n s'' s'' H5 ι5 M5 (by omega) hlt (by omega) I6 hr5 ((ex.trans ex2).trans ex5) ?_ ?_ (fun b hb => ?_) f5)
      · exact (er.ext hr ex2).ext hr2 ex5
      · rw [h1]
        exact T.keep _ _ _ ht2 fun b hb o e => (I5.pin (b, o) (List.mem_append_right _ (List.mem_append_right _ (mem_pinsAt hb e)))).1
      · obtain ⟨o, e, d⟩ := T.obj _ _ ht2 b hb
        exact (I5.pin (b, o) (List.mem_append_right _ (List.mem_append_right _ (mem_pinsAt hb e)))).2.1
theorem seg_startG {G : Sg} {scope : Scope} {vs ks : List Nat} {gpos : Pos} {elt iter tg : Expr} {g1 : TGD} {L it a : Addr} {code : Value} {fp : List Addr} {sA : Shared} {HA : Hp} {me : E D} {J : It} {tn : Nat → Heap → Prop} {go : Obj} {g n : Nat} {σ : L2.St} {δ : DEnv} {Q : VK} {xs : List D} {HW H : Hp} {ιW ι : Io} {s₀ s : Shared} {M : Mem}
    (hbody : JE G (genCx X A fp sA HA scope L code) W0 elt me) (htg : JG G (genCx X A fp sA HA scope L code) tg ks g1) (hks : ∀ k ∈ ks, k ∈ vs) (T : Turn X.prog X.w X.K tg J fp it tn) (hco : scope.isCoroutine = false)
    (hg : ∀ h : Heap, h.get? a = some go → h.IsGen a g) (hap : a ∉ fp) (walk : Walk G HW ιW xs J) (hn : xs.length ≤ n)
    (I : Inv (genCx X A fp sA HA scope L code) [(a, go)] (L2.wipe σ vs) H s) (hr : HRel G H ι M) (ex : Ext HW ιW H ι) (er : ER G H ι (wipeD δ vs) (L2.wipe σ vs)) (ht : tn 0 s.heap) (hf : ∀ b ∈ fp, H b = none) (f : Fin relD G H ι Q (fun _ _ _ => False) (dAllG g1 me (wipeD δ vs) xs M)) :
    Seg (model X.prog X.w) A (allR X fp sA HA Q) (allY X fp sA HA Q a g) n s₀ (.compStart (.GeneratorExp elt [⟨tg, iter, [], 0⟩] scope gpos) 0 (.ref it) .none (gEnv X scope L code))
      ((model X.prog X.w).den (.compStart (.GeneratorExp elt [⟨tg, iter, [], 0⟩] scope gpos) 0 (.ref it) .none (gEnv X scope L code))) [] s := by
  have loop : ∀ s₀, Seg (model X.prog X.w) A (allR X fp sA HA Q) (allY X fp sA HA Q a g) n s₀ (.compLoop (.GeneratorExp elt [⟨tg, iter, [], 0⟩] scope gpos) 0 (.ref it) .none (gEnv X scope L code))
      ((model X.prog X.w).den (.compLoop (.GeneratorExp elt [⟨tg, iter, [], 0⟩] scope gpos) 0 (.ref it) .none (gEnv X scope L code))) [] s := fun s₀ =>
    seg_allG hbody htg hks T hco hg hap walk _ 0 n s₀ s H ι M rfl (Nat.zero_le _) (by simpa using hn) I hr ex er ht hf (by rw [List.drop_zero]; exact f)
  show Seg _ A _ _ _ s₀ _ ((compStart (.GeneratorExp elt [⟨tg, iter, [], 0⟩] scope gpos) 0 (.ref it) .none (gEnv X scope L code)).onRaise (leaving (gEnv X scope L code))) [] s
  unfold compStart
  rw [Sem.onRaise_eq_wrap]
  show Seg _ A _ _ _ s₀ _ ((ask >>= _).wrap _ _ _ _) [] s
  refine seg_bind_wrap (wpAny_askSetting ?_)
  split
  · exact seg_again rfl (loop _)
  · first
      | exact seg_bind_wrap (wpAny_rule (seg_bind_wrap (wpAny_standAt (seg_bind_wrap (T.self _ 0 s _ _ ht (seg_again rfl (loop _)))))))
      | (refine seg_bind_wrap (wpAny_rule ?_); show Seg _ A _ _ _ s₀ _ ((standAt iter.pos >>= _).wrap _ _ _ _) [] s; exact seg_bind_wrap (wpAny_standAt (seg_bind_wrap (T.self _ 0 s _ _ ht (seg_again rfl (loop _))))))
end
section
variable {G : Sg} {X : Cx} {W : WX}
def eAllG (vs : List Nat) (mi : E (List D)) (g : TGD) (me : E D) : E D := fun δ M => (mi δ M).bind fun xs M1 => dAllG g me (wipeD δ vs) xs M1
theorem je_allG {c P : Addr} {elt iter tg : Expr} {p pos gpos : Pos} {scope : Scope} {k : Nat} {own : List (Str × Nat)} {ks : List Nat} {g1 : TGD} {mi : E (List D)} {me : E D} (hr : Room (k + 2) X.A) (hg : Gl X "all") (hm : X.mg "all" = none) (TB : LamX.TabB X.base X.mg c P) (hcode : X.env.code = .ref c)
    (mem : (P, X.env.qual ++ "<genexpr>") ∈ G.T) (one : ∀ p ∈ G.T, p.1 = P → p.2 = X.env.qual ++ "<genexpr>") (S : GenQ X.N X.env.scope scope own) (nd : X.N.Nodup) (hi : JI G X W tg iter mi)
    (htg : ∀ (A : Around) (ex : List Addr) (s : Shared) (H : Hp) (L : Addr) (code : Value), JG G (genCx X A ex s H scope L code) tg ks g1) (hks : ∀ k ∈ ks, k ∈ own.map (·.2))
    (hbody : ∀ (A : Around) (ex : List Addr) (s : Shared) (H : Hp) (L : Addr) (code : Value), Room k (A.deeper (gEnv X scope L code)) → JE G (genCx X A ex s H scope L code) W0 elt me) (hs : ∀ v, genFold iter X.env v = pure v)
    (he : starEach [.GeneratorExp elt [⟨tg, iter, [], 0⟩] scope gpos] X.env = (false, eval (.GeneratorExp elt [⟨tg, iter, [], 0⟩] scope gpos) X.env) :: starEach [] X.env := by rfl) :
    JE G X W (.Call (.Name "all" p) [.GeneratorExp elt [⟨tg, iter, [], 0⟩] scope gpos] [] pos) (eAllG (own.map (·.2)) mi g1 me) := by
  refine ⟨fun pins s σ H Q I h => ?_⟩
  obtain ⟨ι, M, δ, hr0, er, f⟩ := h
  refine wpAny_Call_Name_kw (ld_blt I hg hm boot_all ?_)
  refine PyProof.Rows.callWith_builtin1 ?_ he (by rfl)
  rw [he]
  show wpAny _ _ (spliced ((false, eval (.GeneratorExp elt [⟨tg, iter, [], 0⟩] scope gpos) X.env) :: backTo pos (starEach [] X.env))) _ _ s
  refine Calls.spliced_cons ?_
  have fr : ∀ y ∈ scope.names, y.2 = .free → ∃ c, X.env.cells.lookup y.1 = some c := fun y hy e => (S.free y hy e).elim (fun z => I.ok.has _ (.inl z)) fun z => I.ok.has _ (.inr z)
  refine wpAny_GeneratorExp_make S.co (closure_ok fr) S.nocell S.dot S.kind (by have := hr.dp; omega) ?_ hs
  refine thn (hi.run pins s σ H _ I ⟨ι, M, δ, hr0, er, Fin.bind (rel := Walk) f⟩) fun xv s1 h1 => thn h1 fun itv s2 h2 => ?_
  obtain ⟨it, fp, tn, J, H2, e, I2, T, st2, f2, r2⟩ := h2
  subst e
  obtain ⟨ι2, M2, xs, ex2, hr2, walk, f3⟩ := r2
  refine ⟨I2.nolimit, ?_⟩
  refine code_gen (G := G) I2 TB hcode mem one hr2 fun code H3 s3 I3 ex3 hr3 keep3 hp3 sz3 => ?_
  have fpl : ∀ b ∈ fp, b < s2.heap.objs.size := fun b hb => by
    obtain ⟨o, e, _⟩ := T.obj _ _ st2 b hb
    exact Heap.lt_size e
  have fpP : ∀ b ∈ fp, b ≠ P := fun b hb z => by
    obtain ⟨ps, hP, _⟩ := hr2.tabs _ mem
    have q := (f2 b hb).1
    rw [z, hP] at q
    cases q
  have st3 : tn 0 s3.heap := T.keep _ _ _ st2 fun b hb o e => hp3 b o (fpP b hb) e
  have f3p : ∀ b ∈ fp, FpOk X pins H3 b := fun b hb => ⟨keep3 b (f2 b hb).1 (fpl b hb), (f2 b hb).2⟩
  obtain ⟨bm, ob, e1, e2, e3, e4, e5, e6, e7, e8⟩ := TB.bm
  refine wpAny_builtinsFor (m := X.mg) (by rw [I3.ok.glob]; exact I3.mod.glob.keeps I3.bk) e1 e2 (I3.bk _ _ e5) e6 e7 e8 ?_
  intro h' hns hsb
  refine Calls.spliced_nil ?_
  refine call_function_tree F.kind_all F.plain_all F.entry_all (F.args_all1 _) ?_
  unfold Builtin.«all»
  refine wpAny_bind (m := oneArg "all" _) (wpAny_pure ?_)
  have sz' : h'.objs.size = s3.heap.objs.size + 1 := by rw [hsb.1, Heap.size_push]
  have kp' : ∀ b o, s3.heap.get? b = some o → h'.get? b = some o := fun b o e => hsb.extBut b o (Nat.ne_of_lt (Heap.lt_size e)) (Heap.get?_push_of_some _ e)
  have kp5 : ∀ b o, s3.heap.get? b = some o → (h'.push { cls := .type "generator", data := .fields #[.int s3.gens.size 0, .str "<genexpr>" (s3.toks + 1), .str (X.env.qual ++ "<genexpr>") (s3.toks + 1 + 1)] }).get? b = some o := fun b o e => Heap.get?_push_of_some _ (kp' b o e)
  have hgo : ∀ h : Heap, h.get? h'.objs.size = some { cls := .type "generator", data := .fields #[.int s3.gens.size 0, .str "<genexpr>" (s3.toks + 1), .str (X.env.qual ++ "<genexpr>") (s3.toks + 1 + 1)] } → h.IsGen h'.objs.size s3.gens.size := fun h e => ⟨_, _, _, e, rfl, rfl, rfl⟩
  have hge := Heap.get?_push_size h' (o := { cls := .type "generator", data := .fields #[.int s3.gens.size 0, .str "<genexpr>" (s3.toks + 1), .str (X.env.qual ++ "<genexpr>") (s3.toks + 1 + 1)] }) rfl
  refine wpAny_bind (wpAny_pyIter_gen (g := s3.gens.size) (hgo _ hge) ?_)
  refine wpAny_pure ⟨plainId_quiet F.plain_all_loop _, ?_⟩
  have lim5 := I3.nolimit.keeps kp5
  refine drain_all (X := X) (fp := fp) (sA := s3) (HA := H3) (Q := Q) hr.hd (by have := hr.dp; show X.A.depth < _; omega) (fun b s' hb => ?_) xs.length _ (hgo _ hge) lim5 ⟨_, Array.getElem?_push_size .., rfl, ?_⟩
  · obtain ⟨H', os, bare, un, hok, q⟩ := hb
    exact ⟨.bl b, H', I3.call' (ch := fp) os un hok bare fun b hb => ⟨(f3p b hb).2.2.2.1, (f3p b hb).2.1, (f3p b hb).2.2.2.2.1, (f3p b hb).2.2.2.2.2⟩, rfl, q⟩
  · have er3 := ((er.ext hr0 ex2).ext hr2 ex3).wipe (own.map (·.2))
    have room : Room k ((X.A.in1.in1).deeper (gEnv X scope s3.heap.objs.size code)) :=
      ⟨hr.hd, by have := hr.dp; show X.A.depth + 1 + 3 * k + 5 < _; omega, by have := hr.un; show X.A.units + 1 + 1 + 3 + 16 * k + 200 < _; omega⟩
    refine seg_startG (A := X.A.in1.in1) (vs := own.map (·.2)) (δ := δ) (σ := σ) (hbody _ fp s3 H3 s3.heap.objs.size code room) (htg _ fp s3 H3 s3.heap.objs.size code) hks T S.co hgo (fun z => ?_) walk (Nat.le_refl _) ?_ hr3 ex3 er3 ?_ (fun b hb => (f3p b hb).1) (fin_allG (f3.ext ex3))
    · have h1 : h'.objs.size < s2.heap.objs.size := fpl _ z
      rw [sz'] at h1
      have h2 : s2.heap.objs.size ≤ s3.heap.objs.size := sz3
      exact absurd (Nat.lt_of_lt_of_le h1 h2) (Nat.not_lt.mpr (Nat.le_succ _))
    · refine gen_enterG (m := fun y => if y = ".0" then some (.ref it) else none) I3 S nd hr.hd I3.ok.frames f3p (fun b hb => Nat.lt_of_lt_of_le (fpl b hb) sz3) (Nat.le_refl _) rfl (allBare_setGen (AllBare.push I3.bare rfl) rfl) kp5 (hns.push _) fun p hp => ?_
      rw [List.mem_singleton.mp hp]
      exact ⟨hge, by rw [sz']; omega, by rw [sz']; exact Nat.succ_ne_self _, fun v q => by cases q⟩
    · exact T.keep _ _ _ st3 fun b _ o e => kp5 b o e
end
end DL
namespace DL
open PySem PySem.Spec PyProof.Rows L2 LamX
section
variable {G : Sg} {X : Cx} {W : WX} {pos : Pos} {a b c d : Expr}
def tChain3 (r r' r2 : R2) (ta tb tc td : TE) : TE := fun σ H Q => ta σ H fun x H1 => tb σ H1 fun y H2 => r x y H2 fun v H3 => ∃ k, v = .bl k ∧
  (if k = true then tc σ H3 fun z H4 => r' y z H4 fun v2 H5 => ∃ k2, v2 = .bl k2 ∧ (if k2 = true then td σ H5 fun u H6 => r2 z u H6 Q else Q (.bl false) H5) else Q (.bl false) H3)
theorem pe_chain3 {op op' op2 : CmpOp} {r r' r2 : R2} {ta tb tc td : TE} (ho : OpR X (compareOp op) r) (ho' : OpR X (compareOp op') r') (ho2 : OpR X (compareOp op2) r2) (ha : PE X a ta) (hb : PE X b tb) (hc : PE X c tc) (hd : PE X d td)
    (hm : lastMarks [op, op', op2] [b, c, d] = false := by with_unfolding_all rfl) : PE X (.Compare a [op, op', op2] [b, c, d] pos) (tChain3 r r' r2 ta tb tc td) := by
  refine ⟨fun pins s σ H Q I h => ?_⟩
  refine Compare_chain (thn (ha.run pins s σ H _ I h) fun v s1 ⟨x, H1, I1, r1, q1⟩ => chain_link (thn (hb.run pins s1 σ H1 _ I1 q1) fun u s2 ⟨y, H2, I2, r2, q2⟩ =>
    thn (ho pins s2 σ H2 x y v u _ I2 r1 r2 q2) fun d s3 ⟨z, H3, I3, r3, k, e, q3⟩ => ?_)) hm
  subst e
  cases r3
  refine wpAny_truthy_bool ?_
  cases k with
  | false => exact ite_ff ⟨.bl false, H3, I3, rfl, q3⟩
  | true =>
    refine ite_tt (chain_link (thn (hc.run pins s3 σ H3 _ I3 q3) fun w' s4 ⟨z', H4, I4, r4, q4⟩ => thn (ho' pins s4 σ H4 y z' u w' _ I4 r2 r4 q4) fun d5 s5 ⟨z5, H5, I5, r5, k5, e5, q5⟩ => ?_))
    subst e5
    cases r5
    refine wpAny_truthy_bool ?_
    cases k5 with
    | false => exact ite_ff ⟨.bl false, H5, I5, rfl, q5⟩
    | true => exact ite_tt (chain_last (thn (hd.run pins s5 σ H5 _ I5 q5) fun w6 s6 ⟨z6, H6, I6, r6, q6⟩ => ho2 pins s6 σ H6 z' z6 w' w6 Q I6 r4 r6 q6))
def chK3 (o2 : Op2) (d : E D) (δ : DEnv) (z : D) (M3 : Mem) : Option D → Out D
  | some (.bl true) => (d δ M3).bind fun u M4 => Out.opt (o2 M4 z u) M4
  | some (.bl false) => .ok (.bl false) M3
  | _ => .undef
def chK2 (o' o2 : Op2) (c d : E D) (δ : DEnv) (y : D) (M2 : Mem) : Option D → Out D
  | some (.bl true) => (c δ M2).bind fun z M3 => chK3 o2 d δ z M3 (o' M3 y z)
  | some (.bl false) => .ok (.bl false) M2
  | _ => .undef
def eChain3 (o o' o2 : Op2) (ma mb mc md : E D) : E D := fun δ M => (ma δ M).bind fun x M1 => (mb δ M1).bind fun y M2 => chK2 o' o2 mc md δ y M2 (o M2 x y)
theorem je_chain3 {op op' op2 : CmpOp} {o o' o2 : Op2} {ma mb mc md : E D} (ho : JO G X (compareOp op) o) (ho' : JO G X (compareOp op') o') (ho2 : JO G X (compareOp op2) o2) (ha : JE G X W a ma) (hb : JE G X W b mb) (hc : JE G X W c mc) (hd : JE G X W d md)
    (hm : lastMarks [op, op', op2] [b, c, d] = false := by with_unfolding_all rfl) : JE G X W (.Compare a [op, op', op2] [b, c, d] pos) (eChain3 o o' o2 ma mb mc md) := pe_imp (pe_chain3 ho ho' ho2 ha hb hc hd hm) fun σ H Q h => by
  obtain ⟨ι, M, δ, hr, er, f⟩ := h
  refine ⟨ι, M, δ, hr, er, (Fin.bind f).mono fun x H1 ⟨ι1, M1, d1, ex1, hr1, r1, f1⟩ => ⟨ι1, M1, δ, hr1, er.ext hr ex1, (Fin.bind f1).mono fun y H2 ⟨ι2, M2, d2, ex2, hr2, r2, f2⟩ => ?_⟩⟩
  have er2 := (er.ext hr ex1).ext hr1 ex2
  dsimp only at f2
  cases e : o M2 d1 d2 with
  | none => rw [e] at f2; exact f2.elim
  | some r =>
    rw [e] at f2
    refine ⟨ι2, M2, d1, d2, r, hr2, R.ext hr1 ex2 r1, r2, e, fun v H' ι' ex hr' rv => ?_⟩
    cases r <;> first
      | exact f2.elim
      | skip
    rename_i k
    have e4 : v = .bl k := rv
    subst e4
    refine ⟨k, rfl, ?_⟩
    cases k with
    | false =>
      rw [if_neg Bool.false_ne_true]
      exact f2 _ H' ι' ex hr' rfl
    | true =>
      have f3 := Fin.bind (rel := relD) (f2.ext ex)
      rw [if_pos rfl]
      refine ⟨ι', M2, δ, hr', er2.ext hr2 ex, f3.mono fun z H3 ⟨ι3, M3, d3, ex3, hr3, r3, f4⟩ => ?_⟩
      have er3 := (er2.ext hr2 ex).ext hr' ex3
      dsimp only at f4
      cases e5 : o' M3 d2 d3 with
      | none => rw [e5] at f4; exact f4.elim
      | some r5 =>
        rw [e5] at f4
        refine ⟨ι3, M3, d2, d3, r5, hr3, (R.ext hr2 ex r2).ext hr' ex3, r3, e5, fun v5 H5 ι5 ex5 hr5 rv5 => ?_⟩
        cases r5 <;> first
          | exact f4.elim
          | skip
        rename_i k5
        have e6 : v5 = .bl k5 := rv5
        subst e6
        refine ⟨k5, rfl, ?_⟩
        cases k5 with
        | false =>
          rw [if_neg Bool.false_ne_true]
          exact f4 _ H5 ι5 ex5 hr5 rfl
        | true =>
          have f6 := Fin.bind (rel := relD) (f4.ext ex5)
          rw [if_pos rfl]
          exact ⟨ι5, M3, δ, hr5, er3.ext hr3 ex5, f6.mono fun u H6 ⟨ι6, M6, d6, ex6, hr6, r6, f7⟩ => by
            obtain ⟨r', e', f8⟩ := Fin.opt f7
            exact ⟨ι6, M6, d3, d6, r', hr6, (R.ext hr3 ex5 r3).ext hr5 ex6, r6, e', f8⟩⟩
def fMax : List D → Mem → Out D := fun ds M => match ds with
  | [.int i, .int j] => .ok (.int (if j > i then j else i)) M
  | _ => .undef
def fMin : List D → Mem → Out D := fun ds M => match ds with
  | [.int i, .int j] => .ok (.int (if j < i then j else i)) M
  | _ => .undef
theorem two_ints {H : Hp} {ι : Io} {i j : Int} {vs : List V} (r : RA G H ι [.int i, .int j] vs) : vs = [.int i, .int j] := by
  obtain ⟨v, w, e1, r1, r2⟩ := RA.two r
  have e2 : v = .int i := r1
  have e3 : w = .int j := r2
  rw [e1, e2, e3]
theorem je_max {e1 e2 : Expr} {m : E (List D)} {p : Pos} (hc : X.calm = true) (hg : Gl X "max") (hm : X.mg "max" = none) (ha : JA G X W [e1, e2] m) (he : starEach [e1, e2] X.env = (false, eval e1 X.env) :: starEach [e2] X.env := by rfl) (hpl : (backTo pos (starEach [e2] X.env)).any (·.1) = false := by rfl) :
    JE G X W (.Call (.Name "max" p) [e1, e2] [] pos) (eCall fMax m) :=
  pe_imp (pe_callB (call_max2 hc) hg hm (by decide +kernel) ha (by decide) (by decide) he hpl) fun σ H Q h => rd_call h fun vs H1 ι1 M1 ds hr r f => by
    unfold fMax at f
    split at f
    · exact ⟨_, _, two_ints r, ok_fin hr f rfl⟩
    · exact f.elim
theorem je_min {e1 e2 : Expr} {m : E (List D)} {p : Pos} (hc : X.calm = true) (hg : Gl X "min") (hm : X.mg "min" = none) (ha : JA G X W [e1, e2] m) (he : starEach [e1, e2] X.env = (false, eval e1 X.env) :: starEach [e2] X.env := by rfl) (hpl : (backTo pos (starEach [e2] X.env)).any (·.1) = false := by rfl) :
    JE G X W (.Call (.Name "min" p) [e1, e2] [] pos) (eCall fMin m) :=
  pe_imp (pe_callB (call_min2 hc) hg hm (by decide +kernel) ha (by decide) (by decide) he hpl) fun σ H Q h => rd_call h fun vs H1 ι1 M1 ds hr r f => by
    unfold fMin at f
    split at f
    · exact ⟨_, _, two_ints r, ok_fin hr f rfl⟩
    · exact f.elim
end
end DL
namespace DL
open PySem PySem.Spec PyProof.Rows L2 LamX
def keysD (ds : List D) : Option (List L2.Key) := ds.mapM keyD
def kD : L2.Key → D
  | .inl i => .int i
  | .inr z => .str z
def vT (kvs : List (List L2.Key × D)) (k : List L2.Key) : Option D := (kvs.find? fun kv => decide (kv.1 = k)).map (·.2)
def putT (kvs : List (List L2.Key × D)) (k : List L2.Key) (d : D) : List (List L2.Key × D) :=
  if (kvs.any fun kv => decide (kv.1 = k)) = true then kvs.map (fun kv => if kv.1 = k then (kv.1, d) else kv) else kvs ++ [(k, d)]
theorem vT_pos {p : List L2.Key × D} {r : List (List L2.Key × D)} {k : List L2.Key} (e : p.1 = k) : vT (p :: r) k = some p.2 := by simp [vT, List.find?_cons, e]
theorem vT_neg {p : List L2.Key × D} {r : List (List L2.Key × D)} {k : List L2.Key} (e : ¬ p.1 = k) : vT (p :: r) k = vT r k := by simp [vT, List.find?_cons, e]
section
variable {G : Sg} {H : Hp} {ι : Io}
theorem keysD_RA : ∀ {ds : List D} {vs : List V} {ks : List L2.Key}, RA G H ι ds vs → keysD ds = some ks → vs = ks.map kV
  | [], vs, ks, r, e => by
    have r : vs = [] := r
    simp [keysD] at e
    subst r e
    rfl
  | d :: ds, vs, ks, ⟨v, w, e1, rv, t⟩, e => by
    subst e1
    simp only [keysD, List.mapM_cons] at e
    cases h : keyD d with
    | none => rw [h] at e; cases e
    | some k =>
      cases h2 : ds.mapM keyD with
      | none => rw [h, h2] at e; cases e
      | some l =>
        rw [h, h2] at e
        cases e
        rw [keyD_R rv h, keysD_RA t h2]
        rfl
theorem kD_R : ∀ k : L2.Key, R G H ι (kD k) (kV k)
  | .inl _ => rfl
  | .inr _ => rfl
theorem kD_RA : ∀ ks : List L2.Key, RA G H ι (ks.map kD) (ks.map kV)
  | [] => rfl
  | k :: ks => RA.cons (kD_R k) (kD_RA ks)
theorem RT.len : ∀ {kvs : List (List L2.Key × D)} {ws : List (List L2.Key × V)}, RT G H ι kvs ws → kvs.length = ws.length
  | [], ws, r => by
    have r : ws = [] := r
    rw [r]; rfl
  | (k, x) :: kvs, ws, ⟨v, r, e, _, t⟩ => by
    subst e
    simp [RT.len t]
theorem RT.val : ∀ {kvs : List (List L2.Key × D)} {ws : List (List L2.Key × V)} {k : List L2.Key} {d : D}, RT G H ι kvs ws → vT kvs k = some d → ∃ v, valV ws k = some v ∧ R G H ι d v
  | [], ws, k, d, r, e => by cases e
  | (j, x) :: kvs, ws, k, d, ⟨v, r, e1, q, t⟩, e => by
    subst e1
    by_cases h : j = k
    · rw [vT_pos h] at e
      cases e
      exact ⟨v, valV_pos h, q⟩
    · rw [vT_neg h] at e
      obtain ⟨u, e2, q2⟩ := RT.val t e
      exact ⟨u, by rw [valV_neg h]; exact e2, q2⟩
theorem RT.any : ∀ {kvs : List (List L2.Key × D)} {ws : List (List L2.Key × V)} (k : List L2.Key), RT G H ι kvs ws → (kvs.any fun kv => decide (kv.1 = k)) = ws.any fun kv => decide (kv.1 = k)
  | [], ws, k, r => by
    have r : ws = [] := r
    rw [r]; rfl
  | (j, x) :: kvs, ws, k, ⟨v, r, e1, q, t⟩ => by
    subst e1
    rw [List.any_cons, List.any_cons, RT.any k t]
theorem RT.repl : ∀ {kvs : List (List L2.Key × D)} {ws : List (List L2.Key × V)} {k : List L2.Key} {d : D} {v : V}, RT G H ι kvs ws → R G H ι d v →
    RT G H ι (kvs.map fun kv => if kv.1 = k then (kv.1, d) else kv) (ws.map fun kv => if kv.1 = k then (kv.1, v) else kv)
  | [], ws, k, d, v, r, _ => by
    have r : ws = [] := r
    rw [r]; exact rfl
  | (j, x) :: kvs, ws, k, d, v, ⟨u, r, e1, q, t⟩, rv => by
    subst e1
    rw [List.map_cons, List.map_cons]
    by_cases h : j = k
    · simp only [h, if_true]
      exact ⟨v, _, rfl, rv, RT.repl t rv⟩
    · simp only [h, if_false]
      exact ⟨u, _, rfl, q, RT.repl t rv⟩
theorem RT.snoc : ∀ {kvs : List (List L2.Key × D)} {ws : List (List L2.Key × V)} {k : List L2.Key} {d : D} {v : V}, RT G H ι kvs ws → R G H ι d v → RT G H ι (kvs ++ [(k, d)]) (ws ++ [(k, v)])
  | [], ws, k, d, v, r, rv => by
    have r : ws = [] := r
    rw [r]; exact ⟨v, [], rfl, rv, rfl⟩
  | (j, x) :: kvs, ws, k, d, v, ⟨u, r, e1, q, t⟩, rv => by
    subst e1
    exact ⟨u, _, rfl, q, RT.snoc t rv⟩
theorem RT.put {kvs : List (List L2.Key × D)} {ws : List (List L2.Key × V)} {k : List L2.Key} {d : D} {v : V} (r : RT G H ι kvs ws) (rv : R G H ι d v) : RT G H ι (putT kvs k d) (L2.putK ws k v) := by
  unfold putT L2.putK
  rw [RT.any k r]
  split
  · exact r.repl rv
  · exact r.snoc rv
end
section
variable {G : Sg} {X : Cx} {W : WX} {pos : Pos}
def eNewT : E D := fun _ M => .ok (.mu M.length) (M ++ [.dt []])
theorem je_newT : JE G X W (.Dict [] [] pos) eNewT := pe_imp pe_dnewT fun σ H Q ⟨ι, M, δ, hr, er, f⟩ => fun p np =>
  f _ _ (ι.add p) (Ext.add np) (hr.add np ⟨_, upd_same, rfl⟩) ⟨p, rfl, by simp [Io.add, hr.len]⟩
def tpK (δ : DEnv) (M3 : Mem) (n : Nat) (d : D) (k : List L2.Key) : Option MO → SO
  | some (.dt kvs) => if kvs.length < 1000000 then .nx δ (M3.set n (.dt (putT kvs k d))) else .undef
  | _ => .undef
def tputK (m : E (List D)) (δ : DEnv) (d : D) : D → Mem → SO := fun p M2 => match p with
  | .mu n => sE (m δ M2) δ fun ds M3 => (match keysD ds with | some k => tpK δ M3 n d k M3[n]? | none => .undef)
  | _ => .undef
def sTPut (o : E D) (m : E (List D)) (v : E D) : S := fun δ M => sE (v δ M) δ fun d M1 => sE (o δ M1) δ (tputK m δ d)
theorem js_tput {k n0 : Nat} {o e : Expr} {es : List Expr} {mo me : E D} {m : E (List D)} {x1} {p1 p2 : Pos} (room : Room k X.A) (ho : JE G X W o mo) (ha : JA G X W es m) (hl : Len n0 m) (he : JE G X W e me)
    (hs : swapsWith e (some (.Subscript o (.Tuple es x1 p2) p1)) pos.line X.env = pure false := by rfl) (hn : n0 ≤ sizeLine := by decide) : JS G X W (.Assign [.Subscript o (.Tuple es x1 p2) p1] e pos) (sTPut mo m me) :=
  ps_imp (ps_dput (by have := room.un; omega) ho (pe_tup ha) he hs) fun Z σ H ⟨ι, M, δ, hr, er, f⟩ => ⟨ι, M, δ, hr, er, (FinS.bindE hr er f).mono fun v H1 ⟨ι1, M1, d, ex, hr1, r, f1⟩ =>
    have er1 := er.ext hr ex
    ⟨ι1, M1, δ, hr1, er1, (FinS.bindE hr1 er1 f1).mono fun x H2 ⟨ι2, M2, dp, ex2, hr2, r2, f2⟩ => by
      have er2 := er1.ext hr1 ex2
      unfold tputK at f2
      cases dp with
      | mu n =>
        obtain ⟨a, rfl, qa⟩ := id r2
        refine ⟨ι2, M2, δ, hr2, er2, (len_of hl (FinS.bindE hr2 er2 f2)).mono fun xs H3 ⟨hlen, ι3, M3, ds, ex3, hr3, r3, f3⟩ => ⟨by rw [hlen]; exact hn, fun p np => ?_⟩⟩
        have er3 := er2.ext hr2 ex3
        have rv := (R.ext hr1 ex2 r).ext hr2 ex3
        dsimp only at f3
        cases e0 : keysD ds with
        | none => rw [e0] at f3; exact f3.elim
        | some ks =>
          rw [e0] at f3
          have ek := keysD_RA r3 e0
          subst ek
          have qa3 := ex3.toExtW.get qa
          dsimp only at f3
          cases e3 : M3[n]? with
          | none => rw [e3] at f3; exact f3.elim
          | some mo3 =>
            rw [e3] at f3
            cases mo3 with
            | lst vs => exact f3.elim
            | ins _ _ => exact f3.elim
            | dk vs => exact f3.elim
            | dt kvs =>
              unfold tpK at f3
              dsimp only at f3
              split at f3
              · rename_i hlt
                obtain ⟨ws, q1, q2⟩ := hr3.obj n a _ qa3 e3
                have hap : a ≠ p := ne_of_none q1 np
                have xp : Ext H3 ι3 (upd H3 p (.tup (ks.map kV))) ι3 := Ext.fresh np
                have hr4 : HRel G (upd H3 p (.tup (ks.map kV))) ι3 M3 := hr3.fresh np
                have q1' : (upd H3 p (.tup (ks.map kV))) a = some (.dT ws) := by rw [upd_ne hap]; exact q1
                have mem : a ∈ ι3.ix := List.mem_of_getElem? qa3
                have x : Ext (upd H3 p (.tup (ks.map kV))) ι3 (upd (upd H3 p (.tup (ks.map kV))) a (.dT (L2.putK ws ks v))) ι3 := Ext.updM mem (fun z => (hr3.wlo a z).2 mem) q1'
                have lw : ws.length < sizeLine := by rw [← q2.len]; exact Nat.lt_of_lt_of_le hlt (by decide)
                exact ⟨a, _, rfl, DPut.t q1' upd_same lw, f3 σ _ ι3 (xp.trans x) (hr4.updO qa3 q1' (.inr (.inr ⟨_, rfl⟩)) ⟨_, upd_same, (RT.extW hr4 x.toExtW (RT.extW hr3 xp.toExtW q2)).put (R.ext hr4 x (R.ext hr3 xp rv))⟩) ((er3.ext hr3 xp).ext hr4 x)⟩
              · exact f3.elim
      | _ => exact f2.elim⟩⟩
end
end DL
namespace DL
open PySem PySem.Spec PyProof.Rows L2 LamX
def leP (a b : Int × Int) : Prop := a.1 < b.1 ∨ a.1 = b.1 ∧ a.2 ≤ b.2
instance (a b : Int × Int) : Decidable (leP a b) := by unfold leP; infer_instance
def insP (a : Int × Int) : List (Int × Int) → List (Int × Int)
  | [] => [a]
  | b :: r => if leP a b then a :: b :: r else b :: insP a r
def sortP : List (Int × Int) → List (Int × Int)
  | [] => []
  | a :: r => insP a (sortP r)
theorem insP_perm (a : Int × Int) : ∀ l, (insP a l).Perm (a :: l)
  | [] => List.Perm.refl _
  | b :: r => by
    unfold insP
    split
    · exact List.Perm.refl _
    · exact ((insP_perm a r).cons b).trans (List.Perm.swap a b r)
theorem sortP_perm : ∀ l, (sortP l).Perm l
  | [] => List.Perm.refl _
  | a :: r => (insP_perm a _).trans ((sortP_perm r).cons a)
theorem insP_srt (a : Int × Int) : ∀ l, l.Pairwise leP → (insP a l).Pairwise leP
  | [], _ => List.pairwise_singleton _ _
  | b :: r, h => by
    obtain ⟨h1, h2⟩ := List.pairwise_cons.mp h
    unfold insP
    split
    · rename_i hab
      refine List.pairwise_cons.mpr ⟨fun c hc => ?_, h⟩
      rcases List.mem_cons.mp hc with rfl | hc
      · exact hab
      · have := h1 c hc
        unfold leP at *
        omega
    · rename_i hab
      refine List.pairwise_cons.mpr ⟨fun c hc => ?_, insP_srt a r h2⟩
      rcases List.mem_cons.mp ((insP_perm a r).mem_iff.mp hc) with rfl | hc
      · unfold leP at *
        omega
      · exact h1 c hc
theorem sortP_srt : ∀ l, (sortP l).Pairwise leP
  | [] => List.Pairwise.nil
  | a :: r => insP_srt a _ (sortP_srt r)
theorem leP_anti {a b : Int × Int} (h1 : leP a b) (h2 : leP b a) : a = b := by
  unfold leP at *
  obtain ⟨a1, a2⟩ := a
  obtain ⟨b1, b2⟩ := b
  dsimp only at *
  have e1 : a1 = b1 := by omega
  have e2 : a2 = b2 := by omega
  rw [e1, e2]
abbrev pD (p : Int × Int) : D := .tup [.int p.1, .int p.2]
def pairK : List L2.Key → Option (Int × Int)
  | [.inl i, .inl j] => some (i, j)
  | _ => none
def pairsK : List (List L2.Key × D) → Option (List (Int × Int))
  | [] => some []
  | kv :: r => (pairK kv.1).bind fun p => (pairsK r).map (p :: ·)
def sortK (M : Mem) : Option MO → Out D
  | some (.dt kvs) => (match pairsK kvs with | some ps => .ok (.lst ((sortP ps).map pD)) M | none => .undef)
  | _ => .undef
def fSortK : List D → Mem → Out D := fun ds M => match ds with
  | [.mu n] => sortK M M[n]?
  | _ => .undef
def kof (H : Hp) (x : V) : Int × Int := match x with
  | .ref t => (match H t with | some (.tup [.int i, .int j]) => (i, j) | _ => (0, 0))
  | _ => (0, 0)
section
variable {G : Sg} {X : Cx} {W : WX} {pos : Pos} {H : Hp} {ι : Io}
theorem kof_keys : ∀ {kvs : List (List L2.Key × D)} {ws : List (List L2.Key × V)} {bs : List Addr} {ps : List (Int × Int)}, RT G H ι kvs ws → IsKeys H ws bs → pairsK kvs = some ps →
    (bs.map V.ref).map (kof H) = ps ∧ ∀ x ∈ bs.map V.ref, ∃ t, x = V.ref t ∧ H t = some (.tup [.int (kof H x).1, .int (kof H x).2])
  | [], ws, bs, ps, r, k, e => by
    have r : ws = [] := r
    subst r
    cases k
    cases e
    exact ⟨rfl, fun x hx => by cases hx⟩
  | (j, x) :: kvs, ws, bs, ps, ⟨v, r, e1, q, t⟩, k, e => by
    subst e1
    cases k with
    | @cons _ b _ bs h1 h2 =>
      simp only [pairsK, Option.bind_eq_some_iff, Option.map_eq_some_iff] at e
      obtain ⟨p, e2, ps2, e3, rfl⟩ := e
      obtain ⟨ih1, ih2⟩ := kof_keys t h2 e3
      have hj : j = [.inl p.1, .inl p.2] := by
        unfold pairK at e2
        split at e2
        · cases e2
          rfl
        · cases e2
      dsimp only at h1
      rw [hj] at h1
      have h1 : H b = some (.tup [.int p.1, .int p.2]) := h1
      have kb : kof H (.ref b) = p := by
        show (match H b with | some (.tup [.int i, .int j]) => (i, j) | _ => (0, 0)) = p
        rw [h1]
      refine ⟨by rw [List.map_cons, List.map_cons, kb, ih1], fun y hy => ?_⟩
      rw [List.map_cons] at hy
      rcases List.mem_cons.mp hy with rfl | hy
      · exact ⟨b, rfl, by rw [kb]; exact h1⟩
      · exact ih2 y hy
theorem pairs_RA {k : V → Int × Int} : ∀ {ys : List V}, (∀ x ∈ ys, ∃ t, x = V.ref t ∧ H t = some (.tup [.int (k x).1, .int (k x).2])) → RA G H ι ((ys.map k).map pD) ys
  | [], _ => rfl
  | y :: ys, h => by
    obtain ⟨t, e, ht⟩ := h y List.mem_cons_self
    exact RA.cons (G := G) (H := H) (ι := ι) ⟨t, _, e, ht, RA.cons (G := G) (H := H) (ι := ι) rfl (RA.cons (G := G) (H := H) (ι := ι) rfl RA.nil)⟩ (pairs_RA fun x hx => h x (List.mem_cons_of_mem _ hx))
theorem je_sortK {e : Expr} {m : E (List D)} {p p3 pos3 : Pos} (hc : X.calm = true) (hgs : Gl X "sorted") (hms : X.mg "sorted" = none) (hg : Gl X "list") (hm : X.mg "list" = none) (ha : JA G X W [e] m) (he : starEach [e] X.env = (false, eval e X.env) :: starEach [] X.env := by rfl)
    (he2 : starEach [.Call (.Name "list" p) [e] [] pos3] X.env = (false, eval (.Call (.Name "list" p) [e] [] pos3) X.env) :: starEach [] X.env := by rfl) :
    JE G X W (.Call (.Name "sorted" p3) [.Call (.Name "list" p) [e] [] pos3] [] pos) (eCall fSortK m) :=
  pe_imp (pe_callB cr_sortedPO hgs hms (by decide +kernel) (pa_cons (pe_callTy (call_list_dT hc) hg hm boot_list ha (by decide) (by decide) he) pa_nil he2) (by decide) (by decide) he2) fun σ H Q h => rd_call (f := fSortK) (r := fun vs H Q => (∃ d kvs, vs = [V.ref d] ∧ Rd H d (.dT kvs) ∧ ∀ p bs, H p = none → IsKeys H kvs bs → rSortedPO X.K [V.ref p] (upd H p (.lst (bs.map V.ref))) Q)) h fun vs H1 ι1 M1 ds hr r f => by
    unfold fSortK at f
    split at f
    · rename_i n
      obtain ⟨v, e1, rv⟩ := r.one
      subst e1
      obtain ⟨a, rfl, qa⟩ := rv
      cases e3 : M1[n]? with
      | none => rw [e3] at f; exact f.elim
      | some mo3 =>
        rw [e3] at f
        cases mo3 with
        | lst vs => exact f.elim
        | ins _ _ => exact f.elim
        | dk vs => exact f.elim
        | dt kvs =>
          obtain ⟨ws, h1, h2⟩ := hr.obj n a _ qa e3
          unfold sortK at f
          dsimp only at f
          cases e4 : pairsK kvs with
          | none => rw [e4] at f; exact f.elim
          | some ps =>
            rw [e4] at f
            refine ⟨a, ws, rfl, .inl h1, fun p bs np hk => ?_⟩
            have xp : Ext H1 ι1 (upd H1 p (.lst (bs.map V.ref))) ι1 := Ext.fresh np
            have hr2 : HRel G (upd H1 p (.lst (bs.map V.ref))) ι1 M1 := hr.fresh np
            obtain ⟨k1, k2⟩ := kof_keys h2 hk e4
            have k3 : ∀ x ∈ bs.map V.ref, ∃ t, x = V.ref t ∧ (upd H1 p (.lst (bs.map V.ref))) t = some (.tup [.int (kof H1 x).1, .int (kof H1 x).2]) := fun x hx => by
              obtain ⟨t, e5, e6⟩ := k2 x hx
              exact ⟨t, e5, by rw [upd_ne (ne_of_none e6 np)]; exact e6⟩
            refine ⟨p, bs.map V.ref, kof H1, rfl, .inl (.inl upd_same), k3, fun ys q hs hb nq => ?_⟩
            have ky : ys.map (kof H1) = sortP ps := by
              refine List.Perm.eq_of_pairwise (le := leP) (fun a b _ _ => leP_anti) (List.pairwise_map.mpr (hs.imp fun {x y} h => ?_)) (sortP_srt ps) ?_
              · have := SrtO.lexB_no.mp h
                unfold leP
                omega
              · have pm := hb.perm.map (kof H1)
                rw [k1] at pm
                exact pm.trans (sortP_perm ps).symm
            have k4 : ∀ x ∈ ys, ∃ t, x = V.ref t ∧ (upd H1 p (.lst (bs.map V.ref))) t = some (.tup [.int (kof H1 x).1, .int (kof H1 x).2]) := fun x hx => k3 x (hb.perm.mem_iff.mp hx)
            have ra := pairs_RA (G := G) (ι := ι1) k4
            rw [ky] at ra
            have xq : Ext (upd H1 p (.lst (bs.map V.ref))) ι1 (upd (upd H1 p (.lst (bs.map V.ref))) q (.lst ys)) ι1 := Ext.fresh nq
            exact f _ _ ι1 (xp.trans xq) (hr2.fresh nq) ⟨q, _, rfl, ⟨upd_same, hr2.out nq⟩, RA.ext hr2 xq ra⟩
    · exact f.elim
end
end DL
namespace DL
open PySem PySem.Spec PyProof.Rows
end DL
namespace DL
open PySem PySem.Spec PyProof.Rows L2 LamX
inductive ZKV : List V → List V → List (L2.Key × V) → Prop
  | nl (bs : List V) : ZKV [] bs []
  | nr (as : List V) : ZKV as [] []
  | cons (k : L2.Key) (b : V) {as bs : List V} {kvs : List (L2.Key × V)} (t : ZKV as bs kvs) : ZKV (kV k :: as) (b :: bs) ((k, b) :: kvs)
end DL
namespace DL
open PySem PySem.Spec PyProof.Rows L2 LamX
end DL
namespace DL
open PySem PySem.Spec PyProof.Rows L2 LamX
section
variable {X : Cx}
def rInT (K : PySem.W.Frag) (neg : Bool) : R2 := fun x y H Q => ∃ d ds, Dp K H x d ∧ Dp K H y (.tuple ds) ∧ SeqAt.shaped d = true ∧ SeqAt.shaped (.tuple ds) = true ∧ Q (.bl (if neg then !ds.any fun z => PyData.eqv z d else ds.any fun z => PyData.eqv z d)) H
theorem op_inT (hu : X.A.units + 65 < cLine) : OpR X (compareOp .In) (rInT X.K false) := by
  intro pins s σ H x y v u Q I rx ry h
  obtain ⟨d, ds, hd, he, sd, se, q⟩ := h
  obtain ⟨as, r1⟩ := Dp.reads I d x v hd rx
  obtain ⟨bs, r2⟩ := Dp.reads I (.tuple ds) y u he ry
  exact SeqAt.in_tuple_reads r2 r1 (SeqAt.canLay_of_shaped se) (SeqAt.canLay_of_shaped sd) (room_in_shaped sd hu) ⟨.bl _, H, I, rfl, q⟩
theorem opr_or {f : Value → Value → Sem Value} {r r' : R2} (h : OpR X f r) (h' : OpR X f r') : OpR X f fun x y H Q => r x y H Q ∨ r' x y H Q :=
  fun pins s σ H x y v u Q I rx ry q => q.elim (h pins s σ H x y v u Q I rx ry) (h' pins s σ H x y v u Q I rx ry)
end
def dInT (a b : D) : Option Bool := match toP a, (seqT b).bind toPs with
  | some p, some ps => if SeqAt.shaped p = true ∧ SeqAt.shaped (.tuple ps) = true then some (ps.any fun z => PyData.eqv z p) else none
  | _, _ => none
def dInP (M : Mem) (a b : D) : Option Bool := match dInB M a b with
  | some k => some k
  | none => dInT a b
def dInU : Op2 := fun M a b => (dInP M a b).map .bl
section
variable {G : Sg} {X : Cx} {H : Hp} {ι : Io}
theorem dInT_ok {a b : D} {x y : V} {k : Bool} (ra : R G H ι a x) (rb : R G H ι b y) (e : dInT a b = some k) :
    ∃ d ds, Dp G.K H x d ∧ Dp G.K H y (.tuple ds) ∧ SeqAt.shaped d = true ∧ SeqAt.shaped (.tuple ds) = true ∧ (ds.any fun z => PyData.eqv z d) = k := by
  unfold dInT at e
  split at e
  · rename_i p ps e1 e2
    split at e
    · rename_i h
      cases e
      rw [Option.bind_eq_some_iff] at e2
      obtain ⟨ys, e3, e4⟩ := e2
      obtain ⟨q, vs, rfl, q1, q2⟩ := seqT_ok rb e3
      exact ⟨p, ps, toP_ok ra e1, .tup q1 (toPs_ok q2 e4), h.1, h.2, rfl⟩
    · cases e
  · cases e
theorem jo_inU (hK : X.K = G.K) (hu : X.A.units + 65 < cLine) : JO G X (compareOp .In) dInU := by
  refine opr_imp (opr_or op_in_seq (op_inT hu)) fun x y H Q ⟨ι, M, a, b, r, hr, ra, rb, e, q⟩ => ?_
  simp only [dInU, Option.map_eq_some_iff] at e
  obtain ⟨k, e1, e2⟩ := e
  subst e2
  unfold dInP at e1
  split at e1
  · rename_i k2 e3
    cases e1
    obtain ⟨p, xs, h1, h2, h3, h4, h5⟩ := dInB_ok hr ra rb e3
    exact .inl ⟨p, xs, h1, by rw [hK]; exact h2, h3, h4, q _ H ι (Ext.refl _ _) hr (by rw [h5]; rfl)⟩
  · obtain ⟨d, ds, h1, h2, h3, h4, h5⟩ := dInT_ok ra rb e1
    exact .inr ⟨d, ds, by rw [hK]; exact h1, by rw [hK]; exact h2, h3, h4, q _ H ι (Ext.refl _ _) hr (by rw [h5]; rfl)⟩
end
end DL
namespace DL
open PySem PySem.Spec PyProof.Rows L2 LamX
theorem units65 {k : Nat} {A : Around} (r : Room k A) : A.units + 65 < cLine := by have := r.un; omega
end DL
namespace DL
open PySem PySem.Spec PyProof.Rows L2 LamX
end DL
namespace DL
open PySem PySem.Spec PyProof.Rows L2 LamX
section
variable {G : Sg} {X : Cx} {W : WX} {pos : Pos}
inductive JF (G : Sg) (X : Cx) (W : WX) : List Expr → List (E D) → Prop
  | nil : JF G X W [] []
  | cons {e : Expr} {m : E D} {es : List Expr} {ms : List (E D)} (h : JE G X W e m) (r : JF G X W es ms) : JF G X W (e :: es) (m :: ms)
end
end DL
namespace DL
open PySem PySem.Spec PyProof.Rows
end DL
namespace DL
open PySem PySem.Spec PyProof.Rows L2 LamX
end DL
namespace DL
open PySem PySem.Spec PyProof.Rows L2 LamX
end DL
namespace DL
open PySem PySem.Spec PyProof.Rows L2 LamX
end DL
namespace DL
open PySem PySem.Spec PyProof.Rows L2 LamX
end DL
namespace DL
open PySem PySem.Spec PyProof.Rows L2 LamX
end DL
namespace DL
open PySem PySem.Spec PyProof.Rows L2
abbrev KL := List L2.Key
def tokK : L2.Key → Int ⊕ List Nat
  | .inl i => .inl i
  | .inr x => .inr x.cps.toList
abbrev toksK (a : KL) : List (Int ⊕ List Nat) := a.map tokK
def ltK (a b : KL) : Bool := lexLt itemOrd (toksK a) (toksK b)
def sameK : L2.Key → L2.Key → Bool
  | .inl _, .inl _ => true
  | .inr _, .inr _ => true
  | _, _ => false
def cmpK : KL → KL → Bool
  | a :: r, b :: t => sameK a b && (!decide (a = b) || cmpK r t)
  | _, _ => true
def firstT : KL → Bool
  | .inr _ :: _ => true
  | _ => false
theorem str_toks {x y : Str} (h : x.cps.toList = y.cps.toList) : x = y := by
  have hc : x.cps = y.cps := Array.toList_inj.mp h
  cases x; cases y
  simp only [Str.mk.injEq]
  exact hc
theorem tokK_inj {a b : L2.Key} (h : tokK a = tokK b) : a = b := by
  cases a <;> cases b <;> simp only [tokK, Sum.inl.injEq, Sum.inr.injEq, reduceCtorEq] at h
  · rw [h]
  · rw [str_toks h]
theorem toksK_inj {a b : KL} (h : toksK a = toksK b) : a = b := (List.map_inj_right fun _ _ => tokK_inj).mp h
theorem ltK_anti {a b : KL} (h1 : ltK a b = false) (h2 : ltK b a = false) : a = b := toksK_inj (lex_total (O := itemOrd) _ _ h1 h2)
theorem ltK_swo {α : Type} (k : α → KL) : SrtO.Swo fun v u => ltK (k v) (k u) := by
  refine ⟨fun x y h => ?_, fun x y z h1 h2 => ?_⟩
  · cases e : ltK (k y) (k x) with
    | false => rfl
    | true =>
      have := lex_trans (O := itemOrd) _ _ _ h e
      rw [lex_irrefl (O := itemOrd)] at this
      cases this
  · cases e : ltK (k z) (k x) with
    | false => rfl
    | true =>
      rcases lex_negTrans (O := itemOrd) _ (toksK (k y)) _ e with q | q
      · exact absurd (h2.symm.trans q) (by decide)
      · exact absurd (h1.symm.trans q) (by decide)
def IsKL (h : Heap) (v : Value) (k : KL) : Prop := ∃ a o its n, v = .ref a ∧ h.get? a = some o ∧ o.cls = .type "tuple" ∧ o.data = .seq its n ∧ Vals (k.map kV) its.toList
theorem IsKL.keeps {h h' : Heap} {v : Value} {k : KL} (x : IsKL h v k) (hk : ∀ b o, h.get? b = some o → o.cls = .type "tuple" → h'.get? b = some o) : IsKL h' v k := by
  obtain ⟨a, o, its, n, e, ho, hc, hd, r⟩ := x
  exact ⟨a, o, its, n, e, hk a o ho hc, hc, hd, r⟩
section
variable {prog : Program} {w : World} {A : Around} {E : Value → Shared → Prop} {s : Shared}
theorem klex_ok {b fin : Bool} {Q : Bool → Shared → Prop} : ∀ (as bs : KL) (us ws : List Value) (i : Nat), Vals (as.map kV) us → Vals (bs.map kV) ws → cmpK as bs = true → fin = decide (us.length < ws.length) → Q (ltK as bs) s →
    PySem.W.KatLex prog w A b fin Q (us.zip ws) i s
  | [], [], _, _, i, r1, r2, hc, hf, h => by
    cases r1; cases r2
    have e : fin = false := by rw [hf]; rfl
    subst e
    exact PySem.W.kat_nil h
  | [], _ :: _, _, _, i, r1, r2, hc, hf, h => by
    cases r1; cases r2
    have e : fin = true := by rw [hf]; exact decide_eq_true (Nat.succ_pos _)
    subst e
    exact PySem.W.kat_nil h
  | _ :: _, [], _, _, i, r1, r2, hc, hf, h => by
    cases r1; cases r2
    have e : fin = false := by rw [hf]; exact decide_eq_false (Nat.not_lt_zero _)
    subst e
    exact PySem.W.kat_nil h
  | a :: as, c :: bs, _, _, i, r1, r2, hc, hf, h => by
    rw [List.map_cons] at r1 r2
    cases r1 with
    | cons p1 t1 =>
    cases r2 with
    | cons p2 t2 =>
    have hf' := hf
    simp only [List.length_cons, Nat.add_lt_add_iff_right] at hf'
    unfold cmpK at hc
    rw [Bool.and_eq_true] at hc
    obtain ⟨hs, hr⟩ := hc
    cases a with
    | inl n =>
      cases c with
      | inr _ => cases hs
      | inl m =>
        obtain ⟨t, rfl⟩ := p1
        obtain ⟨u, rfl⟩ := p2
        refine PySem.W.kat_cons (wpAny_eqBool_int ?_)
        refine PySem.W.kat_go (fun e => PySem.W.kat_yes ?_) (fun e => PySem.W.kat_no ?_)
        · have hnm : n = m := by simpa using e
          subst hnm
          have hr' : cmpK as bs = true := by simpa using hr
          have h' : Q (lexLt itemOrd (tokK (.inl n) :: toksK as) (tokK (.inl n) :: toksK bs)) s := h
          rw [lex_self] at h'
          exact klex_ok as bs _ _ (i + 1) t1 t2 hr' hf' h'
        · have hnm : ¬ n = m := by simpa using e
          have h' : Q (lexLt itemOrd (tokK (.inl n) :: toksK as) (tokK (.inl m) :: toksK bs)) s := h
          rw [lex_diff (fun x => hnm (Sum.inl.inj x))] at h'
          exact oneLt_any_int h'
    | inr x =>
      cases c with
      | inl _ => cases hs
      | inr y =>
        obtain ⟨t, rfl⟩ := p1
        obtain ⟨u, rfl⟩ := p2
        refine PySem.W.kat_cons (wpAny_eqBool_str ?_)
        refine PySem.W.kat_go (fun e => PySem.W.kat_yes ?_) (fun e => PySem.W.kat_no ?_)
        · have hxy : x = y := of_decide_eq_true e
          subst hxy
          have hr' : cmpK as bs = true := by simpa using hr
          have h' : Q (lexLt itemOrd (tokK (.inr x) :: toksK as) (tokK (.inr x) :: toksK bs)) s := h
          rw [lex_self] at h'
          exact klex_ok as bs _ _ (i + 1) t1 t2 hr' hf' h'
        · have hxy : ¬ x = y := of_decide_eq_false e
          have h' : Q (lexLt itemOrd (tokK (.inr x) :: toksK as) (tokK (.inr y) :: toksK bs)) s := h
          rw [lex_diff (fun z => hxy (str_toks (Sum.inr.inj z)))] at h'
          exact oneLt_any_str h'
theorem kl_cmp {vs : List Value} {k : Value → KL} (hp : ∀ v ∈ vs, IsKL s.heap v (k v)) (hk : ∀ v ∈ vs, ∀ u ∈ vs, cmpK (k v) (k u) = true) : SrtO.Cmp prog w A s (tuples' true) (fun p => p.1 ∈ vs) (SrtO.lt2 fun v u => ltK (k v) (k u)) := by
  intro p q hm hm'
  obtain ⟨a, o, its, n, e, ho, hc, hd, r⟩ := hp _ hm
  obtain ⟨a', o', its', n', e', ho', hc', hd', r'⟩ := hp _ hm'
  show wpAny (model prog w) A (keyLt' (tuples' true) p.1 q.1) (fun r s' => s' = s ∧ r = ltK (k p.1) (k q.1)) (fun _ _ => False) s
  have hcc := hk _ hm _ hm'
  generalize k p.1 = ks at r hcc ⊢
  generalize k q.1 = js at r' hcc ⊢
  rw [e, e']
  exact PySem.W.kat_lt ho hd ho' hd' (klex_ok ks js _ _ 0 r r' hcc (by rw [Array.length_toList, Array.length_toList]) ⟨rfl, rfl⟩)
theorem kl_firsts {k : Value → KL} : ∀ {vs : List Value}, (∀ v ∈ vs, IsKL s.heap v (k v)) → (∀ v ∈ vs, firstT (k v) = true) → ∃ fs, PySem.W.KatTups s.heap vs fs ∧ fs.length = vs.length ∧ ∀ f ∈ fs, ∃ x t, f = Value.str x t
  | [], _, _ => ⟨[], PySem.W.KatTups.nil, rfl, fun _ h => by cases h⟩
  | v :: vs, h, h2 => by
    obtain ⟨fs, a1, a2, a3⟩ := kl_firsts (vs := vs) (fun u hu => h u (.tail _ hu)) (fun u hu => h2 u (.tail _ hu))
    obtain ⟨a, o, its, n, e, ho, hc, hd, r⟩ := h v (.head _)
    have hf := h2 v (.head _)
    generalize k v = ks at r hf
    match ks, hf with
    | .inr x :: t, _ =>
      rw [List.map_cons] at r
      generalize hi : its.toList = il at r
      cases r with
      | @cons _ u _ us p1 t1 =>
        obtain ⟨tk, rfl⟩ := p1
        subst e
        refine ⟨Value.str x tk :: fs, PySem.W.KatTups.cons ho hc hd ?_ a1, by simp [a2], fun f hf => ?_⟩
        · rw [← Array.getElem?_toList, hi] <;> rfl
        · rcases List.mem_cons.mp hf with rfl | hf
          · exact ⟨_, _, rfl⟩
          · exact a3 f hf
theorem kl_sortable {a : Addr} {vs : List Value} {k : Value → KL} (h0 : 0 < vs.length) (hp : ∀ v ∈ vs, IsKL s.heap v (k v)) (hf : ∀ v ∈ vs, firstT (k v) = true) (hk : ∀ v ∈ vs, ∀ u ∈ vs, cmpK (k v) (k u) = true)
    (ha : ∀ o, s.heap.get? a = some o → o.cls ≠ .type "tuple") : SrtO.SortableO prog w A s a vs fun v u => ltK (k v) (k u) := by
  intro h' keep
  have hp' : ∀ v ∈ vs, IsKL h' v (k v) := fun v hm => (hp v hm).keeps fun b o e c => keep b o (fun z => by subst z; exact ha o e c) e
  obtain ⟨fs, h1, h2, h3⟩ := kl_firsts (s := { s with heap := h' }) hp' hf
  refine ⟨tuples' true, fun Q E hq => ?_, kl_cmp hp' hk⟩
  refine PySem.W.kat_kind (T := .type "str") h1 (by omega) (fun f hm => ?_) (by rfl) ?_
  · obtain ⟨x, t, rfl⟩ := h3 f hm
    exact PySem.W.Looks.of_pure rfl
  · have e : (Value.type "str" != Value.type "tuple") = true := by first | decide +kernel | rfl | decide
    rw [e]
    exact hq
theorem sorted_kl {l : Addr} {vs : List Value} {k : Value → KL} {Q : Value → Shared → Prop} (hl : s.heap.IsList l vs.toArray) (hz : vs.length ≤ sizeLine) (hp : ∀ v ∈ vs, IsKL s.heap v (k v)) (hf : ∀ v ∈ vs, firstT (k v) = true) (hk : ∀ v ∈ vs, ∀ u ∈ vs, cmpK (k v) (k u) = true)
    (h : ∀ (h' : Heap) (d : Addr) (out : List Value), SrtO.Srtd (fun v u => ltK (k v) (k u)) out → SrtO.Stb (fun v u => ltK (k v) (k u)) out vs → (∀ b o, s.heap.get? b = some o → h'.get? b = some o) → s.heap.objs.size ≤ d → (∃ n, h'.get? d = some (seqObj "list" out.toArray n)) → Q (.ref d) { s with heap := h' }) :
    wpAny (model prog w) A (call (.builtin "sorted") [.ref l]) Q E s := by
  refine SrtO.sorted_ord (ltK_swo k) hl hz (fun h2 h₁ a ha kk => ?_) fun out hs hb => ?_
  · refine kl_sortable (s := { s with heap := h₁ }) (by omega) (fun v hm => (hp v hm).keeps fun b o e _ => (kk b o e).2) hf hk fun o e => ?_
    have e' : some o = some (seqObj "list" vs.toArray 0) := e.symm.trans ha
    cases e'
    intro c
    exact absurd (Value.type.inj c) (by decide)
  · exact h _ _ out hs hb (fun b o e => sortedAll_old e) (Nat.le_succ _) (sortedAll_at s.heap vs out.toArray)
end
def KsAt (H : Hp) : List V → List KL → Prop
  | [], ks => ks = []
  | x :: xs, ks => ∃ k r, ks = k :: r ∧ (∃ t, x = V.ref t ∧ H t = some (.tup (k.map kV))) ∧ KsAt H xs r
def rSortE (K : PySem.W.Frag) : List V → Hp → VK → Prop := fun vs H Q => ∃ (a : Addr) (xs : List V) (ks : List KL), vs = [V.ref a] ∧ SqL K H a xs ∧ KsAt H xs ks ∧ (∀ k ∈ ks, firstT k = true) ∧ (∀ x ∈ ks, ∀ y ∈ ks, cmpK x y = true) ∧
  ∀ (k : V → KL) ys p, xs.map k = ks → SrtO.Srtd (fun x y => ltK (k x) (k y)) ys → SrtO.Stb (fun x y => ltK (k x) (k y)) ys xs → H p = none → Q (.ref p) (upd H p (.lst ys))
theorem vals_kV : ∀ {k j : KL} {us : List Value}, Vals (k.map kV) us → Vals (j.map kV) us → k = j
  | [], [], _, _, _ => rfl
  | [], _ :: _, _, h1, h2 => by cases h1; cases h2
  | _ :: _, [], _, h1, h2 => by cases h1; cases h2
  | a :: k, b :: j, _, h1, h2 => by
    rw [List.map_cons] at h1 h2
    cases h1 with
    | cons p1 t1 =>
    cases h2 with
    | cons p2 t2 =>
    have e : a = b := by
      cases a <;> cases b
      · obtain ⟨t, rfl⟩ := p1
        obtain ⟨u, e⟩ := p2
        cases e
        rfl
      · obtain ⟨t, rfl⟩ := p1
        obtain ⟨u, e⟩ := p2
        cases e
      · obtain ⟨t, rfl⟩ := p1
        obtain ⟨u, e⟩ := p2
        cases e
      · obtain ⟨t, rfl⟩ := p1
        obtain ⟨u, e⟩ := p2
        cases e
        rfl
    rw [e, vals_kV t1 t2]
theorem IsKL.uniq {h : Heap} {v : Value} {k j : KL} (x : IsKL h v k) (y : IsKL h v j) : k = j := by
  obtain ⟨a, o, its, n, rfl, ho, _, hd, r⟩ := x
  obtain ⟨a', o', its', n', e, ho', _, hd', r'⟩ := y
  cases e
  rw [ho] at ho'
  cases ho'
  rw [hd] at hd'
  cases hd'
  exact vals_kV r r'
noncomputable def klAt (h : Heap) (v : V) : KL := Classical.epsilon fun k => ∃ t, v = V.ref t ∧ IsKL h (.ref t) k
theorem klAt_eq {h : Heap} {t : Addr} {k : KL} (x : IsKL h (.ref t) k) : klAt h (.ref t) = k := by
  have e := Classical.epsilon_spec (p := fun k => ∃ u, V.ref t = V.ref u ∧ IsKL h (.ref u) k) ⟨k, t, rfl, x⟩
  obtain ⟨u, e1, e2⟩ := e
  cases e1
  exact e2.uniq x
section
variable {X : Cx}
theorem KsAt.kls {H : Hp} {h : Heap} (hk : ∀ (t : Addr) (k : KL), H t = some (.tup (k.map kV)) → IsKL h (.ref t) k) : ∀ {xs : List V} {ks : List KL}, KsAt H xs ks → xs.map (klAt h) = ks ∧ ∀ x ∈ xs, ∃ t, x = V.ref t ∧ IsKL h (.ref t) (klAt h x)
  | [], ks, r => by
    have r : ks = [] := r
    subst r
    exact ⟨rfl, fun x hx => by cases hx⟩
  | x :: xs, _, ⟨k, r, ek, ⟨t, ex, q⟩, s⟩ => by
    subst ek ex
    obtain ⟨i1, i2⟩ := KsAt.kls hk s
    have e := klAt_eq (hk t k q)
    refine ⟨by rw [List.map_cons, e, i1], fun z hz => ?_⟩
    rcases List.mem_cons.mp hz with e3 | hz
    · exact ⟨t, e3, by rw [e3, e]; exact hk t k q⟩
    · exact i2 z hz
theorem cr_sortE : CallR X (.builtin "sorted") (rSortE X.K) := by
  intro pins s σ H vs us Q I r h
  obtain ⟨a, xs, ks, rfl, hs, hx, hf, hk, q⟩ := h
  obtain ⟨its, rv, hl, hz⟩ := I.list hs
  obtain ⟨u, rfl, ru⟩ := vals1 r
  obtain rfl : u = Value.ref a := ru
  obtain ⟨k1, k2⟩ := KsAt.kls (h := s.heap) (fun t k ht => by
    obtain ⟨its2, r2, ⟨o, ho, hc, n, hd⟩, _⟩ := I.tuple (SqT.of (K := X.K) ht)
    exact ⟨t, o, its2.toArray, n, rfl, ho, hc, hd, r2⟩) hx
  have kf : ∀ x ∈ xs, firstT (klAt s.heap x) = true := fun x hx => hf _ (by rw [← k1]; exact List.mem_map.mpr ⟨x, hx, rfl⟩)
  have kc : ∀ x ∈ xs, ∀ y ∈ xs, cmpK (klAt s.heap x) (klAt s.heap y) = true := fun x hx y hy => hk _ (by rw [← k1]; exact List.mem_map.mpr ⟨x, hx, rfl⟩) _ (by rw [← k1]; exact List.mem_map.mpr ⟨y, hy, rfl⟩)
  obtain ⟨e1, e2⟩ := refs_back rv fun x m => by
    obtain ⟨t, e, _⟩ := k2 x m
    exact ⟨t, e⟩
  have hmem : ∀ v ∈ its, ∃ t, v = Value.ref t ∧ V.ref t ∈ xs := fun v hv => by
    obtain ⟨t, rfl⟩ := e2 v hv
    exact ⟨t, rfl, by rw [e1]; exact List.mem_map.mpr ⟨_, hv, rfl⟩⟩
  refine sorted_kl (k := fun u => klAt s.heap (backV u)) hl.isList (by rw [← rv.length]; exact hz) (fun v hv => ?_) (fun v hv => ?_) (fun v hv u hu => ?_) fun h' d out h1 h2 kp hd hn => ?_
  · obtain ⟨t, rfl, hm⟩ := hmem v hv
    obtain ⟨t', e, ht⟩ := k2 _ hm
    cases e
    exact ht
  · obtain ⟨t, rfl, hm⟩ := hmem v hv
    exact kf _ hm
  · obtain ⟨t, rfl, hm⟩ := hmem v hv
    obtain ⟨t', rfl, hm'⟩ := hmem u hu
    exact kc _ hm _ hm'
  · have h3 : ∀ u ∈ out, ∃ a, u = Value.ref a := fun u hu => e2 u (h2.perm.mem_iff.mp hu)
    obtain ⟨n, hn⟩ := hn
    have hb : SrtO.Stb (fun x y => ltK (klAt s.heap x) (klAt s.heap y)) (out.map backV) xs := by
      rw [e1]
      exact SrtO.Stb.map (ltK_swo (klAt s.heap)) backV h2
    refine ⟨.ref d, upd H d (.lst (out.map backV)), I.laid (t' := s.toks) kp hd ⟨?_, out, n, vals_back h3, hn⟩, rfl, q (klAt s.heap) _ d k1 (SrtO.srtd_map h1) hb (I.hok.fresh hd)⟩
    rw [hb.len]
    exact hz
end
end DL
namespace DL
open PySem PySem.Spec PyProof.Rows L2 LamX
def CVs (K : PySem.W.Frag) (F : Nat → Addr) (ds : List D) (vs : List V) : Prop := ∀ (G : Sg) (H : Hp) (ι : Io), G.K = K → G.F = F → RA G H ι ds vs
section
variable {K : PySem.W.Frag} {F : Nat → Addr}
theorem cvs_nil : CVs K F [] [] := fun _ _ _ _ _ => rfl
theorem cvs_cons {d : D} {v : V} {ds : List D} {vs : List V} (h : CV K F d v) (t : CVs K F ds vs) : CVs K F (d :: ds) (v :: vs) := fun G H ι e f => RA.cons (h G H ι e f) (t G H ι e f)
theorem cv_bl {b : Bool} : CV K F (.bl b) (.bl b) := fun _ _ _ _ _ => rfl
theorem cv_non : CV K F .non .non := fun _ _ _ _ _ => rfl
theorem cv_tupd {a : Addr} {ds : List D} {vs : List V} {its : Array Value} {n : Nat} {sl : Array (Option Value)} (hl : K.lookup a = some ⟨.type "tuple", none, .seq its n, sl⟩) (hz : its.size ≤ sizeLine) (r : Vals vs its.toList) (c : CVs K F ds vs) : CV K F (.ctu ds) (.ref a) :=
  fun G H ι e f => by
    have q := c G H ι e f
    subst e
    exact ⟨a, vs, rfl, fun H' => .inr ⟨_, its, n, hl, rfl, rfl, hz, r⟩, q⟩
end
def klD : D → Option KL
  | .tup xs => keysD xs
  | _ => none
def klsD (xs : List D) : Option (List KL) := xs.mapM klD
abbrev klTo (k : KL) : D := .tup (k.map kD)
def insKL (a : KL) : List KL → List KL
  | [] => [a]
  | b :: r => if ltK b a = true then b :: insKL a r else a :: b :: r
def sortKL : List KL → List KL
  | [] => []
  | a :: r => insKL a (sortKL r)
def okSort (ks : List KL) : Prop := (∀ k ∈ ks, firstT k = true) ∧ ∀ a ∈ ks, ∀ b ∈ ks, cmpK a b = true
theorem insKL_perm (a : KL) : ∀ l, (insKL a l).Perm (a :: l)
  | [] => List.Perm.refl _
  | b :: r => by
    unfold insKL
    split
    · exact ((insKL_perm a r).cons b).trans (List.Perm.swap a b r)
    · exact List.Perm.refl _
theorem sortKL_perm : ∀ l, (sortKL l).Perm l
  | [] => List.Perm.refl _
  | a :: r => (insKL_perm a _).trans ((sortKL_perm r).cons a)
def leK (a b : KL) : Prop := ltK b a = false
theorem leK_trans {a b c : KL} (h1 : leK a b) (h2 : leK b c) : leK a c := (ltK_swo (α := KL) id).2 a b c h1 h2
theorem leK_of_lt {a b : KL} (h : ltK a b = true) : leK a b := (ltK_swo (α := KL) id).1 a b h
theorem leK_anti {a b : KL} (h1 : leK a b) (h2 : leK b a) : a = b := ltK_anti h2 h1
theorem insKL_srt (a : KL) : ∀ l, l.Pairwise leK → (insKL a l).Pairwise leK
  | [], _ => List.pairwise_singleton _ _
  | b :: r, h => by
    obtain ⟨h1, h2⟩ := List.pairwise_cons.mp h
    unfold insKL
    split
    · rename_i hab
      refine List.pairwise_cons.mpr ⟨fun c hc => ?_, insKL_srt a r h2⟩
      rcases List.mem_cons.mp ((insKL_perm a r).mem_iff.mp hc) with rfl | hc
      · exact leK_of_lt hab
      · exact h1 c hc
    · rename_i hab
      have hab : leK a b := by
        unfold leK
        simpa using hab
      refine List.pairwise_cons.mpr ⟨fun c hc => ?_, h⟩
      rcases List.mem_cons.mp hc with rfl | hc
      · exact hab
      · exact leK_trans hab (h1 c hc)
theorem sortKL_srt : ∀ l, (sortKL l).Pairwise leK
  | [] => List.Pairwise.nil
  | a :: r => insKL_srt a _ (sortKL_srt r)
theorem sortKL_uniq {l l' : List KL} (h : l'.Pairwise leK) (p : l'.Perm l) : l' = sortKL l :=
  List.Perm.eq_of_pairwise (le := leK) (fun a b _ _ => leK_anti) h (sortKL_srt l) (p.trans (sortKL_perm l).symm)
noncomputable def sortEK (M : Mem) : Option (List D) → Out D
  | some xs => (match klsD xs with | some ks => if dec (okSort ks) = true then .ok (.lst ((sortKL ks).map klTo)) M else .undef | none => .undef)
  | none => .undef
noncomputable def fSortE : List D → Mem → Out D := fun ds M => match ds with
  | [d] => sortEK M (seqL M d)
  | _ => .undef
section
variable {G : Sg} {X : Cx} {W : WX} {pos : Pos} {H : Hp} {ι : Io}
theorem klsD_RA : ∀ {xs : List D} {vs : List V} {ks : List KL}, RA G H ι xs vs → klsD xs = some ks → KsAt H vs ks
  | [], vs, ks, r, e => by
    have r : vs = [] := r
    simp [klsD] at e
    subst r e
    exact rfl
  | d :: xs, vs, ks, ⟨v, w, e1, rv, t⟩, e => by
    subst e1
    simp only [klsD, List.mapM_cons] at e
    cases h : klD d with
    | none => rw [h] at e; cases e
    | some k =>
      cases h2 : xs.mapM klD with
      | none => rw [h, h2] at e; cases e
      | some l =>
        rw [h, h2] at e
        cases e
        have ih := klsD_RA t h2
        cases d with
        | tup ys =>
          obtain ⟨a, us, rfl, q, ra⟩ := rv
          have eu : us = k.map kV := keysD_RA ra h
          subst eu
          exact ⟨k, l, rfl, ⟨a, rfl, q⟩, ih⟩
        | _ => cases h
theorem kl_RA {kk : V → KL} : ∀ {ys : List V}, (∀ x ∈ ys, ∃ t, x = V.ref t ∧ H t = some (.tup ((kk x).map kV))) → RA G H ι ((ys.map kk).map klTo) ys
  | [], _ => rfl
  | y :: ys, h => by
    obtain ⟨t, e, ht⟩ := h y List.mem_cons_self
    exact RA.cons (G := G) (H := H) (ι := ι) ⟨t, _, e, ht, kD_RA _⟩ (kl_RA fun x hx => h x (List.mem_cons_of_mem _ hx))
theorem KsAt.mem {kk : V → KL} : ∀ {xs : List V} {ks : List KL}, KsAt H xs ks → xs.map kk = ks → ∀ x ∈ xs, ∃ t, x = V.ref t ∧ H t = some (.tup ((kk x).map kV))
  | [], _, _, _, x, hx => by cases hx
  | y :: xs, _, ⟨k, r, rfl, q, s⟩, e, x, hx => by
    rw [List.map_cons] at e
    injection e with e1 e2
    rcases List.mem_cons.mp hx with rfl | hx
    · obtain ⟨t, e3, q⟩ := q
      exact ⟨t, e3, by rw [e1]; exact q⟩
    · exact KsAt.mem s e2 x hx
theorem je_sortE {e : Expr} {m : E (List D)} {p : Pos} (hK : X.K = G.K) (hg : Gl X "sorted") (hm : X.mg "sorted" = none) (ha : JA G X W [e] m) (he : starEach [e] X.env = (false, eval e X.env) :: starEach [] X.env := by rfl) :
    JE G X W (.Call (.Name "sorted" p) [e] [] pos) (eCall fSortE m) :=
  pe_imp (pe_callB cr_sortE hg hm (by decide +kernel) ha (by decide) (by decide) he) fun σ H Q h => rd_call (f := fSortE) (r := rSortE X.K) h fun vs H1 ι1 M1 ds hr r f => by
    rcases ds with _ | ⟨d, _ | ⟨d2, ds⟩⟩
    · exact f.elim
    rotate_left
    · exact f.elim
    · obtain ⟨v, e1, rv⟩ := r.one
      clear r
      subst e1
      simp only [fSortE] at f
      cases e2 : seqL M1 d with
      | none => rw [e2] at f; exact f.elim
      | some xs =>
        rw [e2] at f
        obtain ⟨a, ws, rfl, h2, h3⟩ := seqL_ok hr rv e2
        unfold sortEK at f
        dsimp only at f
        cases e3 : klsD xs with
        | none => rw [e3] at f; exact f.elim
        | some ks =>
          rw [e3] at f
          dsimp only at f
          by_cases ho : dec (okSort ks) = true
          · rw [if_pos ho] at f
            have ho := dec_iff.mp ho
            have ka := klsD_RA h3 e3
            rw [hK]
            refine ⟨a, ws, ks, rfl, h2, ka, ho.1, ho.2, fun kk ys q ek hs hb nq => ?_⟩
            have ky : ys.map kk = sortKL ks := by
              refine sortKL_uniq (List.pairwise_map.mpr (hs.imp fun {x y} h => h)) ?_
              have pm := hb.perm.map kk
              rw [ek] at pm
              exact pm
            have k4 : ∀ x ∈ ys, ∃ t, x = V.ref t ∧ H1 t = some (.tup ((kk x).map kV)) := fun x hx => ka.mem ek x (hb.perm.mem_iff.mp hx)
            have ra := kl_RA (G := G) (ι := ι1) k4
            rw [ky] at ra
            exact f _ _ ι1 (Ext.fresh nq) (hr.fresh nq) ⟨q, _, rfl, ⟨upd_same, hr.out nq⟩, RA.ext hr (Ext.fresh nq) ra⟩
          · rw [if_neg ho] at f; exact f.elim
end
def dInL (a b : D) : Option Bool := match toP a, (match b with | .lst xs => toPs xs | .rol xs => toPs xs | _ => none) with
  | some p, some ps => if SeqAt.shaped p = true ∧ SeqAt.shaped (.list ps) = true then some (ps.any fun z => PyData.eqv z p) else none
  | _, _ => none
def dInVB (M : Mem) (a b : D) : Option Bool := match dInP M a b with
  | some k => some k
  | none => dInL a b
def dInV : Op2 := fun M a b => (dInVB M a b).map .bl
def isBB : D → Bool → Option Bool
  | .bl x, y => some (decide (x = y))
  | .int _, _ => some false
  | .str _, _ => some false
  | .non, _ => some false
  | _, _ => none
def dIsF : Op2 := fun _ a b => match b with | .bl y => (isBB a y).map .bl | _ => none
def dIsNotF : Op2 := fun _ a b => match b with | .bl y => (isBB a y).map fun k => .bl (!k) | _ => none
section
variable {G : Sg} {X : Cx} {H : Hp} {ι : Io}
theorem dInL_ok {M : Mem} {a b : D} {x y : V} {k : Bool} (hr : HRel G H ι M) (ra : R G H ι a x) (rb : R G H ι b y) (e : dInL a b = some k) :
    ∃ d ds, Dp G.K H x d ∧ Dp G.K H y (.list ds) ∧ SeqAt.shaped d = true ∧ SeqAt.shaped (.list ds) = true ∧ (ds.any fun z => PyData.eqv z d) = k := by
  unfold dInL at e
  split at e
  · rename_i p ps e1 e2
    split at e
    · rename_i h
      cases e
      cases b with
      | lst xs =>
        obtain ⟨q, vs, rfl, q1, q2⟩ := rb
        exact ⟨p, ps, toP_ok ra e1, .lst (.inl (.inl q1.1)) (toPs_ok q2 e2), h.1, h.2, rfl⟩
      | rol xs =>
        obtain ⟨q, vs, rfl, q1, q2⟩ := rb
        exact ⟨p, ps, toP_ok ra e1, .lst q1.sq (toPs_ok q2 e2), h.1, h.2, rfl⟩
      | _ => cases e2
    · cases e
  · cases e
theorem jo_inV (hK : X.K = G.K) (hu : X.A.units + 65 < cLine) : JO G X (compareOp .In) dInV := by
  refine opr_imp (opr_or (opr_or op_in_seq (op_inT hu)) (op_inD hu)) fun x y H Q ⟨ι, M, a, b, r, hr, ra, rb, e, q⟩ => ?_
  simp only [dInV, Option.map_eq_some_iff] at e
  obtain ⟨k, e1, e2⟩ := e
  subst e2
  unfold dInVB at e1
  split at e1
  · rename_i k1 e1'
    cases e1
    unfold dInP at e1'
    split at e1'
    · rename_i k2 e3
      cases e1'
      obtain ⟨p, xs, h1, h2, h3, h4, h5⟩ := dInB_ok hr ra rb e3
      exact .inl (.inl ⟨p, xs, h1, by rw [hK]; exact h2, h3, h4, q _ H ι (Ext.refl _ _) hr (by rw [h5]; rfl)⟩)
    · obtain ⟨d, ds, h1, h2, h3, h4, h5⟩ := dInT_ok ra rb e1'
      exact .inl (.inr ⟨d, ds, by rw [hK]; exact h1, by rw [hK]; exact h2, h3, h4, q _ H ι (Ext.refl _ _) hr (by rw [h5]; rfl)⟩)
  · obtain ⟨d, ds, h1, h2, h3, h4, h5⟩ := dInL_ok hr ra rb e1
    exact .inr ⟨d, ds, by rw [hK]; exact h1, by rw [hK]; exact h2, h3, h4, q _ H ι (Ext.refl _ _) hr (by rw [h5]; rfl)⟩
def plainV : V → Bool
  | .non => true
  | .bl _ => true
  | .int _ => true
  | .str _ => true
  | _ => false
theorem op_isF : OpR X (compareOp .Is) (fun x y H Q => ∃ b, y = .bl b ∧ plainV x = true ∧ Q (.bl (decide (x = .bl b))) H) := by
  intro pins s σ H x y v u Q I rx ry h
  obtain ⟨b, rfl, hp, q⟩ := h
  cases (show u = Value.bool b from ry)
  by_cases e : x = .bl b
  · subst e
    cases (show v = Value.bool b from rx)
    exact wpAny_is_self rfl ⟨.bl true, H, I, rfl, by simpa using q⟩
  · have hq : Q (.bl false) H := by simpa [e] using q
    cases x with
    | bl a =>
      cases (show v = Value.bool a from rx)
      exact wpAny_is_other rfl (fun z => e (by rw [Value.bool.inj z])) ⟨.bl false, H, I, rfl, hq⟩
    | non =>
      cases (show v = Value.none from rx)
      exact wpAny_is_other rfl (fun z => by cases z) ⟨.bl false, H, I, rfl, hq⟩
    | int i =>
      obtain ⟨t, rfl⟩ := rx
      exact wpAny_is_other rfl (fun z => by cases z) ⟨.bl false, H, I, rfl, hq⟩
    | str i =>
      obtain ⟨t, rfl⟩ := rx
      exact wpAny_is_other rfl (fun z => by cases z) ⟨.bl false, H, I, rfl, hq⟩
    | _ => cases hp
theorem op_isNotF : OpR X (compareOp .IsNot) (fun x y H Q => ∃ b, y = .bl b ∧ plainV x = true ∧ Q (.bl (!decide (x = .bl b))) H) := by
  intro pins s σ H x y v u Q I rx ry h
  obtain ⟨b, rfl, hp, q⟩ := h
  cases (show u = Value.bool b from ry)
  by_cases e : x = .bl b
  · subst e
    cases (show v = Value.bool b from rx)
    exact wpAny_isNot_self rfl ⟨.bl false, H, I, rfl, by simpa using q⟩
  · have hq : Q (.bl true) H := by simpa [e] using q
    cases x with
    | bl a =>
      cases (show v = Value.bool a from rx)
      exact wpAny_isNot_other rfl (fun z => e (by rw [Value.bool.inj z])) ⟨.bl true, H, I, rfl, hq⟩
    | non =>
      cases (show v = Value.none from rx)
      exact wpAny_isNot_other rfl (fun z => by cases z) ⟨.bl true, H, I, rfl, hq⟩
    | int i =>
      obtain ⟨t, rfl⟩ := rx
      exact wpAny_isNot_other rfl (fun z => by cases z) ⟨.bl true, H, I, rfl, hq⟩
    | str i =>
      obtain ⟨t, rfl⟩ := rx
      exact wpAny_isNot_other rfl (fun z => by cases z) ⟨.bl true, H, I, rfl, hq⟩
    | _ => cases hp
theorem isBB_ok {a : D} {y k : Bool} {x : V} (r : R G H ι a x) (e : isBB a y = some k) : plainV x = true ∧ decide (x = .bl y) = k := by
  cases a <;> first
    | (cases e; done)
    | (obtain rfl : x = _ := r; cases e; refine ⟨rfl, ?_⟩; simp)
theorem jo_isF : JO G X (compareOp .Is) dIsF := by
  refine opr_imp op_isF fun x y H Q ⟨ι, M, a, b, r, hr, ra, rb, e, q⟩ => ?_
  cases b <;> first
    | (cases e; done)
    | skip
  simp only [dIsF, Option.map_eq_some_iff] at e
  obtain ⟨k, e1, rfl⟩ := e
  obtain ⟨h1, h2⟩ := isBB_ok ra e1
  exact ⟨_, rb, h1, q _ H ι (Ext.refl _ _) hr (by rw [h2]; rfl)⟩
theorem jo_isnotF : JO G X (compareOp .IsNot) dIsNotF := by
  refine opr_imp op_isNotF fun x y H Q ⟨ι, M, a, b, r, hr, ra, rb, e, q⟩ => ?_
  cases b <;> first
    | (cases e; done)
    | skip
  simp only [dIsNotF, Option.map_eq_some_iff] at e
  obtain ⟨k, e1, rfl⟩ := e
  obtain ⟨h1, h2⟩ := isBB_ok ra e1
  exact ⟨_, rb, h1, q _ H ι (Ext.refl _ _) hr (by rw [h2]; rfl)⟩
end
section
variable {G : Sg} {X : Cx} {W : WX} {pos p : Pos}
theorem pe_callS0 {CX : CXT} {k : Nat} {f : Addr} {fd : FuncData} {ps : List Str} {sp : Sp} {E : L2.St → XK} {x : Str} (F : FnOk X.prog X.w X.K X.mg X.base CX k f fd ps sp) (hr : Room k X.A) (hg : Gl X x) (hm : X.mg x = some (.ref f)) (hk : PySem.W.keepIn X.K (.ref f) = true) (hb : Binds X.K fd ps []) (hx : ∀ σ, PassesAt CX X σ (E σ))
    (hdb : (x == ("__debug__" : Str)) = false := by decide) : PE X (.Call (.Name x p) [] [] pos) (fun σ H Q => sp [] H Q (E σ)) := by
  refine ⟨fun pins s σ H Q I h => ?_⟩
  refine wpAny_Call_Name_kw (ld_glob I hg hm ?_ hdb)
  exact PySem.W.callWith_K0 I.kIn hk (run_fnS (us := []) F hr hb (hx σ) I .nil h)
theorem je_call0 {CX : CXT} {k : Nat} {f : Addr} {fd : FuncData} {ps : List Str} {fm : List D → Mem → Out D} {x : Str} (F : FnOk X.prog X.w X.K X.mg X.base CX k f fd ps (spD G 0 fm)) (hr : Room k X.A) (hg : Gl X x) (hm : X.mg x = some (.ref f))
    (hk : PySem.W.keepIn X.K (.ref f) = true) (hb : Binds X.K fd ps []) (hx : ∀ σ, PassesAt CX X σ (WE W σ)) (hdb : (x == ("__debug__" : Str)) = false := by decide) :
    JE G X W (.Call (.Name x p) [] [] pos) (eCall fm aNil) :=
  pe_imp (pe_callS0 F hr hg hm hk hb hx hdb) fun σ H Q ⟨ι, M, δ, hr, er, f⟩ => ⟨ι, M, [], hr, rfl, rfl, f⟩
end
end DL
namespace DL
open PySem PySem.Spec PyProof.Rows L2 LamX
section
variable {G : Sg} {X : Cx} {W : WX} {pos : Pos}
theorem klD_R {H : Hp} {ι : Io} {d : D} {v : V} {k : KL} (r : R G H ι d v) (e : klD d = some k) : ∃ b, v = .ref b ∧ H b = some (.tup (k.map kV)) := by
  cases d with
  | tup xs =>
    obtain ⟨b, us, rfl, q, ra⟩ := r
    have eu : us = k.map kV := keysD_RA ra e
    subst eu
    exact ⟨b, rfl, q⟩
  | _ => cases e
end
def mergeV (acc kvs : List (KL × V)) : List (KL × V) := kvs.foldl (fun acc kv => L2.putK acc kv.1 kv.2) acc
structure PrsOk (P : Program) (w : World) (H : Hp) (h : Heap) (its : List Value) (ps : List (KL × V)) (qs : List (KL × Addr × Value)) : Prop where
  len : qs.length = its.length
  len2 : ps.length = its.length
  it : ∀ (j : Nat) (k : KL) (b : Addr) (u : Value), qs[j]? = some (k, b, u) → ∃ t, its[j]? = some (.ref t) ∧ h.IsTuple t #[.ref b, u]
  kt : ∀ (acc : List (KL × V)) (bcc : List (KL × Addr × Value)), KT H acc bcc → KT H (mergeV acc ps) (storedAllH bcc qs)
  ky : ∀ x ∈ qs, H x.2.1 = some (.tup (x.1.map kV))
end DL
namespace DL
open PySem PySem.Spec PyProof.Rows L2 LamX
end DL
namespace DL
section
open PySem PySem.SeqAt
open PySem.AutoSeq1 (wpAny_loadPart')
open PySem.MeetsSeq PySem.MeetsSeq2 PySem.MeetsSeq3
open Ob
theorem tuple_ltAt2 (l b : Addr) (items items2 : Array Value) (n n2 : Nat) (dd dd2 : Option Addr) (sl sl2 : Array (Option Value)) (e r : Nat → Bool) :
    Meets (Builtin.«tuple.__lt__» ⟨[.ref l, .ref b], []⟩)
      (fun A R s => s.heap.get? l = some { cls := .type "tuple", dict := dd, data := .seq items n, slots := sl } ∧ s.heap.get? b = some { cls := .type "tuple", dict := dd2, data := .seq items2 n2, slots := sl2 } ∧
        (∀ j (h1 : j < items.size) (h2 : j < items2.size), EqAt A.in1 s items[j] items2[j] (e j)) ∧
        (∀ j (h1 : j < items.size) (h2 : j < items2.size), (∀ i, i < j → e i = true) → e j = false → Ob.RcOp .Lt A.in1 s items[j] items2[j] (r j)) ∧
        R (.ok (.ret (.bool (lexAt e r (decide (items.size < items2.size)) 0 (min items.size items2.size))))) s) :=
  .of_wp fun prog w A R s h => by
    obtain ⟨hp, g, d, tk, os⟩ := s; obtain ⟨hl, hb, he, hr, h⟩ := h
    have f2 := AutoSeq1.sub_tuple_tuple
    have hZ : (items.toList.zip items2.toList).length = min items.size items2.size := by simp
    wp_walk using wpAny_loadPart' hl, wpAny_loadPart' hb, wpAny_forIn_list _ (fun rest b s' => b.1 = none ∧ s' = ⟨hp, g, d, tk, os⟩ ∧ ∃ i, (∀ j, j < i → e j = true) ∧ rest = (items.toList.zip items2.toList).drop i ∧
      R (.ok (.ret (.bool (lexAt e r (decide (items.size < items2.size)) i (min items.size items2.size - i))))) ⟨hp, g, d, tk, os⟩) _
    case turn =>
      rintro ⟨y, x⟩ rest b s' ⟨hb', rfl, i, hall, hz, hR⟩
      have hlt : i < (items.toList.zip items2.toList).length := by
        rcases Nat.lt_or_ge i (items.toList.zip items2.toList).length with h' | h'
        · exact h'
        · rw [List.drop_of_length_le h'] at hz; cases hz
      have hm : i < min items.size items2.size := hZ ▸ hlt
      have h1 : i < items.size := Nat.lt_of_lt_of_le hm (Nat.min_le_left _ _)
      have h2 : i < items2.size := Nat.lt_of_lt_of_le hm (Nat.min_le_right _ _)
      rw [List.drop_eq_getElem_cons hlt] at hz
      injection hz with hyx hrest
      have hy : y = items[i] := by have := congrArg Prod.fst hyx; simpa using this
      have hx : x = items2[i] := by have := congrArg Prod.snd hyx; simpa using this
      subst hy hx
      rw [show min items.size items2.size - i = (min items.size items2.size - (i + 1)) + 1 by omega, lexAt_succ] at hR
      refine wpAny_bind (he i h1 h2 prog w _ _ ?_)
      cases hei : e i with
      | true =>
        rw [hei, if_pos rfl] at hR
        wp_walk
        refine ⟨rfl, rfl, i + 1, fun j hj => ?_, hrest, hR⟩
        rcases Nat.lt_or_ge j i with k | k
        · exact hall j k
        · rw [show j = i by omega]; exact hei
      | false =>
        rw [hei, if_neg Bool.false_ne_true] at hR
        have hri := hr i h1 h2 hall hei prog w
        wp_walk using hri
        exact ⟨_, rfl, by simpa using hR⟩
    case fin =>
      rintro ⟨b1, b2⟩ s' ⟨hb', rfl, i, hall, hz, hR⟩
      simp only at hb'
      subst hb'
      have hge : min items.size items2.size ≤ i := by
        rcases Nat.lt_or_ge i (items.toList.zip items2.toList).length with h' | h'
        · rw [List.drop_eq_getElem_cons h'] at hz; cases hz
        · exact hZ ▸ h'
      rw [Nat.sub_eq_zero_of_le hge, lexAt_zero] at hR
      wp_walk
      exact ⟨_, rfl, by simpa [Builtin.Tuple.tupleCompareSizes] using hR⟩
    case h =>
      exact ⟨rfl, rfl, 0, fun j hj => absurd hj (Nat.not_lt_zero j), rfl, by simpa using h⟩
end
open PySem PySem.Spec PyProof.Rows L2 LamX
def eqKA : L2.Key → L2.Key → Bool
  | .inl a, .inl b => a == b
  | .inr a, .inr b => a == b
  | _, _ => false
def ltKA : L2.Key → L2.Key → Bool
  | .inl a, .inl b => decide (a < b)
  | .inr a, .inr b => decide (a.cps.toList < b.cps.toList)
  | _, _ => false
theorem eqKA_iff {a b : L2.Key} : eqKA a b = true ↔ a = b := by
  cases a <;> cases b <;> simp [eqKA]
def atK2 (f : L2.Key → L2.Key → Bool) (k j : KL) (i : Nat) : Bool := match k[i]?, j[i]? with
  | some a, some b => f a b
  | _, _ => false
theorem lexAt_shift {e r : Nat → Bool} {z : Bool} : ∀ (n i : Nat), Ob.lexAt e r z (i + 1) n = Ob.lexAt (fun j => e (j + 1)) (fun j => r (j + 1)) z i n
  | 0, _ => rfl
  | n + 1, i => by rw [Ob.lexAt_succ, Ob.lexAt_succ, lexAt_shift n (i + 1)]
theorem lexAt_ltK : ∀ k j : KL, cmpK k j = true → Ob.lexAt (atK2 eqKA k j) (atK2 ltKA k j) (decide (k.length < j.length)) 0 (min k.length j.length) = ltK k j
  | [], [], _ => rfl
  | [], _ :: _, _ => rfl
  | _ :: _, [], _ => rfl
  | a :: k, b :: j, h => by
    unfold cmpK at h
    rw [Bool.and_eq_true] at h
    have em : min (a :: k).length (b :: j).length = min k.length j.length + 1 := by simp only [List.length_cons]; omega
    have ez : decide ((a :: k).length < (b :: j).length) = decide (k.length < j.length) := by simp only [List.length_cons, Nat.add_lt_add_iff_right]
    rw [em, ez, Ob.lexAt_succ]
    have e0 : atK2 eqKA (a :: k) (b :: j) 0 = eqKA a b := rfl
    have r0 : atK2 ltKA (a :: k) (b :: j) 0 = ltKA a b := rfl
    rw [e0, r0]
    by_cases hab : a = b
    · subst hab
      rw [if_pos (eqKA_iff.mpr rfl), lexAt_shift]
      have hr : cmpK k j = true := by simpa using h.2
      show Ob.lexAt (atK2 eqKA k j) (atK2 ltKA k j) _ 0 _ = lexLt itemOrd (tokK a :: toksK k) (tokK a :: toksK j)
      rw [lex_self]
      exact lexAt_ltK k j hr
    · rw [if_neg (fun z => hab (eqKA_iff.mp z))]
      show ltKA a b = lexLt itemOrd (tokK a :: toksK k) (tokK b :: toksK j)
      rw [lex_diff (fun z => hab (tokK_inj z))]
      cases a with
      | inl n => cases b with
        | inl m => rfl
        | inr _ => cases h.1
      | inr x => cases b with
        | inl _ => cases h.1
        | inr y => rfl
theorem same_at : ∀ (k j : KL) (i : Nat) (a b : L2.Key), cmpK k j = true → (∀ m, m < i → atK2 eqKA k j m = true) → k[i]? = some a → j[i]? = some b → eqKA a b = false → sameK a b = true
  | [], _, _, _, _, _, _, e, _, _ => by simp at e
  | _ :: _, [], _, _, _, _, _, _, e, _ => by simp at e
  | x :: k, y :: j, 0, a, b, h, _, e1, e2, _ => by
    simp only [List.getElem?_cons_zero, Option.some.injEq] at e1 e2
    subst e1 e2
    unfold cmpK at h
    rw [Bool.and_eq_true] at h
    exact h.1
  | x :: k, y :: j, i + 1, a, b, h, hall, e1, e2, h3 => by
    simp only [List.getElem?_cons_succ] at e1 e2
    have h0 : eqKA x y = true := hall 0 (Nat.succ_pos i)
    have hxy := eqKA_iff.mp h0
    subst hxy
    unfold cmpK at h
    have hr : cmpK k j = true := by simpa using ((Bool.and_eq_true _ _).mp h).2
    exact same_at k j i a b hr (fun m hm => hall (m + 1) (Nat.succ_lt_succ hm)) e1 e2 h3
def rLtK (K : PySem.W.Frag) : R2 := fun x y H Q => ∃ a b k j, x = .ref a ∧ y = .ref b ∧ SqT K H a (k.map kV) ∧ SqT K H b (j.map kV) ∧ cmpK k j = true ∧ Q (.bl (ltK k j)) H
theorem vals_at : ∀ {k : KL} {us : List Value} (i : Nat) (h : i < us.length), Vals (k.map kV) us → ∃ a, k[i]? = some a ∧ RelV (kV a) us[i]
  | [], _, _, h, .nil => absurd h (Nat.not_lt_zero _)
  | a :: k, _, 0, _, .cons r _ => ⟨a, rfl, r⟩
  | a :: k, _, i + 1, h, .cons _ t => by
    obtain ⟨b, e, r⟩ := vals_at i (Nat.lt_of_succ_lt_succ h) t
    exact ⟨b, e, r⟩
section
variable {X : Cx}
theorem op_ltK (hu : X.A.units + 65 < cLine) : OpR X (compareOp .Lt) (rLtK X.K) := by
  intro pins s σ H x y v u Q I rx ry h
  obtain ⟨a, b, k, j, rfl, rfl, ha, hb, hc, q⟩ := h
  cases rx
  cases ry
  obtain ⟨its, r1, p1, _⟩ := I.tuple ha
  obtain ⟨its2, r2, p2, _⟩ := I.tuple hb
  obtain ⟨⟨cls, dd, data, sl⟩, ho, hcl, n, hd⟩ := p1
  obtain ⟨⟨cls2, dd2, data2, sl2⟩, ho2, hc2, n2, hd2⟩ := p2
  simp only at hcl hd hc2 hd2
  subst hcl hd hc2 hd2
  have l1 : its.length = k.length := by rw [← r1.length, List.length_map]
  have l2 : its2.length = j.length := by rw [← r2.length, List.length_map]
  have he : ∀ i (h1 : i < its.toArray.size) (h2 : i < its2.toArray.size), SeqAt.EqAt X.A.in1 s its.toArray[i] its2.toArray[i] (atK2 eqKA k j i) := fun i h1 h2 => by
    have h1' : i < its.length := by simpa using h1
    have h2' : i < its2.length := by simpa using h2
    obtain ⟨c, e1, q1⟩ := vals_at i h1' r1
    obtain ⟨d, e2, q2⟩ := vals_at i h2' r2
    have ea : atK2 eqKA k j i = eqKA c d := by unfold atK2; rw [e1, e2]
    rw [ea, List.getElem_toArray, List.getElem_toArray]
    cases c with
    | inl n =>
      obtain ⟨t, e3⟩ := q1
      rw [e3]
      cases d with
      | inl m =>
        obtain ⟨t2, e4⟩ := q2
        rw [e4]
        exact SeqAt.EqAt.int_int _ _ _ _
      | inr m =>
        obtain ⟨t2, e4⟩ := q2
        rw [e4]
        exact SeqAt.EqAt.int_str _ _ _ _
    | inr n =>
      obtain ⟨t, e3⟩ := q1
      rw [e3]
      cases d with
      | inl m =>
        obtain ⟨t2, e4⟩ := q2
        rw [e4]
        exact SeqAt.EqAt.str_int _ _ _ _
      | inr m =>
        obtain ⟨t2, e4⟩ := q2
        rw [e4]
        exact SeqAt.EqAt.str_str _ _ _ _
  have hr : ∀ i (h1 : i < its.toArray.size) (h2 : i < its2.toArray.size), (∀ m, m < i → atK2 eqKA k j m = true) → atK2 eqKA k j i = false → Ob.RcOp .Lt X.A.in1 s its.toArray[i] its2.toArray[i] (atK2 ltKA k j i) := fun i h1 h2 hall hno => by
    have h1' : i < its.length := by simpa using h1
    have h2' : i < its2.length := by simpa using h2
    obtain ⟨c, e1, q1⟩ := vals_at i h1' r1
    obtain ⟨d, e2, q2⟩ := vals_at i h2' r2
    have ea : atK2 eqKA k j i = eqKA c d := by unfold atK2; rw [e1, e2]
    have er : atK2 ltKA k j i = ltKA c d := by unfold atK2; rw [e1, e2]
    rw [ea] at hno
    have sm := same_at k j i c d hc hall e1 e2 hno
    rw [er, List.getElem_toArray, List.getElem_toArray]
    cases c with
    | inl n =>
      obtain ⟨t, e3⟩ := q1
      rw [e3]
      cases d with
      | inl m =>
        obtain ⟨t2, e4⟩ := q2
        rw [e4]
        exact Ob.RcOp.lt_int _ _ _ _
      | inr m => cases sm
    | inr n =>
      obtain ⟨t, e3⟩ := q1
      rw [e3]
      cases d with
      | inl m => cases sm
      | inr m =>
        obtain ⟨t2, e4⟩ := q2
        rw [e4]
        exact fun prog w E Q h => DT.rcLt_str _ _ _ _ _ _ prog w E Q h
  refine richCompare_meets_room (op := .Lt) ⟨_, ho, rfl⟩ ⟨_, ho2, rfl⟩ PySem.F.slot_tuple_lt PySem.F.entry_tuple_lt (PySem.F.args_tuple_lt_2 _ _) (tuple_ltAt2 a b its.toArray its2.toArray n n2 dd dd2 sl sl2 (atK2 eqKA k j) (atK2 ltKA k j))
    ⟨ho, ho2, he, hr, ⟨(fun x => nomatch x), ?_⟩⟩ (by omega)
  have hz : Ob.lexAt (atK2 eqKA k j) (atK2 ltKA k j) (decide (its.toArray.size < its2.toArray.size)) 0 (min its.toArray.size its2.toArray.size) = ltK k j := by
    rw [List.size_toArray, List.size_toArray, l1, l2]
    exact lexAt_ltK k j hc
  rw [hz]
  exact ⟨.bl _, H, I, rfl, q⟩
end
def ltKK : Option KL → Option KL → Option D
  | some k, some j => if cmpK k j = true then some (.bl (ltK k j)) else none
  | _, _ => none
def dLtK : Op2 := fun _ a b => ltKK (klD a) (klD b)
section
variable {G : Sg} {X : Cx}
theorem jo_ltK (hK : X.K = G.K) (hu : X.A.units + 65 < cLine) : JO G X (compareOp .Lt) dLtK := by
  refine opr_imp (op_ltK hu) fun x y H Q ⟨ι, M, a, b, r, hr, ra, rb, e, q⟩ => ?_
  unfold dLtK at e
  cases h1 : klD a with
  | none => rw [h1] at e; cases e
  | some k =>
    cases h2 : klD b with
    | none => rw [h1, h2] at e; cases e
    | some j =>
      rw [h1, h2] at e
      unfold ltKK at e
      dsimp only at e
      split at e
      · rename_i hc
        cases e
        obtain ⟨p1, rfl, q1⟩ := klD_R ra h1
        obtain ⟨p2, rfl, q2⟩ := klD_R rb h2
        exact ⟨p1, p2, k, j, rfl, rfl, .of q1, .of q2, hc, q _ H ι (Ext.refl _ _) hr rfl⟩
      · cases e
end
end DL
namespace DL
open PySem PySem.Spec PyProof.Rows L2 LamX
end DL
namespace DL
open PySem PySem.Spec PyProof.Rows L2 LamX
end DL
namespace DL
open PySem PySem.Spec PyProof.Rows L2 LamX
end DL
namespace DL
open PySem PySem.Spec PyProof.Rows L2 LamX
end DL
namespace DL
open PySem PySem.Spec PyProof.Rows L2 LamX
end DL
namespace DL
open PySem PySem.Spec PyProof.Rows L2 LamX
end DL
namespace DL
open PySem PySem.Spec PyProof.Rows L2 LamX
end DL
namespace DL
open PySem PySem.Spec PyProof.Rows L2 LamX
def fldV (fs : List (Str × D)) (f : Str) : Option D := match fs.lookup f with
  | some (.int i) => some (.int i)
  | some .non => some .non
  | _ => none
def eFld (fs : Bool) (a dx : Addr) (f : Str) (ob : Option Bool) (i : Nat) : E D := fun δ M => match fs, ob, δ[i]?.join with
  | true, some true, some (.obx a' dx' fs') => if a' = a ∧ dx' = dx then Out.opt (fldV fs' f) M else .undef
  | _, _, _ => .undef
end DL
namespace DL
open PySem PySem.Spec PyProof.Rows L2 LamX HT
end DL
namespace DL
open PySem PySem.Spec PyProof.Rows L2 LamX
section
variable {G : Sg} {H : Hp} {ι : Io}
def putFD (f : Str) (x : D) : List (Str × D) → List (Str × D)
  | [] => [(f, x)]
  | (g, y) :: r => if g = f then (g, x) :: r else (g, y) :: putFD f x r
theorem RF.get {f : Str} {d : D} : ∀ {fs : List (Str × D)} {ws : List (Str × V)}, RF G H ι fs ws → fs.lookup f = some d → ∃ v, ws.lookup f = some v ∧ R G H ι d v
  | [], _, _, e => by cases e
  | (k, x) :: r, ws, ⟨v, us, e1, q, t⟩, e => by
    subst e1
    by_cases h : f = k
    · subst h
      simp only [List.lookup, beq_self_eq_true, Option.some.injEq] at e ⊢
      subst e
      exact ⟨v, rfl, q⟩
    · have hb : (f == k) = false := by simpa using h
      simp only [List.lookup, hb] at e ⊢
      exact RF.get t e
theorem RF.no {f : Str} : ∀ {fs : List (Str × D)} {ws : List (Str × V)}, RF G H ι fs ws → fs.lookup f = none → ws.lookup f = none
  | [], _, r, _ => by have q : _ = [] := r; subst q; rfl
  | (k, x) :: r, ws, ⟨v, us, e1, q, t⟩, e => by
    subst e1
    by_cases h : f = k
    · subst h; simp [List.lookup] at e
    · have hb : (f == k) = false := by simpa using h
      simp only [List.lookup, hb] at e ⊢
      exact RF.no t e
theorem RF.put {f : Str} {d : D} {v : V} (rv : R G H ι d v) : ∀ {fs : List (Str × D)} {ws : List (Str × V)}, RF G H ι fs ws → RF G H ι (putFD f d fs) (L2.putF f v ws)
  | [], _, r => by have q : _ = [] := r; subst q; exact ⟨v, [], rfl, rv, rfl⟩
  | (k, x) :: r, ws, ⟨u, us, e1, q, t⟩ => by
    subst e1
    unfold putFD L2.putF
    by_cases h : k = f
    · rw [if_pos h, if_pos h]; exact ⟨v, us, rfl, rv, t⟩
    · rw [if_neg h, if_neg h]; exact ⟨u, _, rfl, q, RF.put rv t⟩
theorem RF.len : ∀ {fs : List (Str × D)} {ws : List (Str × V)}, RF G H ι fs ws → fs.length = ws.length
  | [], _, r => by have q : _ = [] := r; subst q; rfl
  | (k, x) :: r, ws, ⟨u, us, e1, q, t⟩ => by subst e1; simp [RF.len t]
end
end DL
namespace DL
open PySem PySem.Spec PyProof.Rows L2 LamX
section
variable {G : Sg} {X : Cx} {W : WX} {CX : CXT} {j n nd : Nat} {g Cl : Addr} {fd : FuncData} {ps : List Str} {x nm : Str} {p pos apos : Pos} {e o : Expr} {es : List Expr} {dvs : List V} {ds : List Value} {dd : List D} {c : Nat}
  {fm : List D → Mem → Out D} {a : E D} {m : E (List D)}
end
end DL
namespace DL
open PySem PySem.Spec PyProof.Rows L2 LamX
structure Mf (K : PySem.W.Frag) (m qual : Str) (st : Stmt) (f : Addr) (fd : FuncData) (Cl : Addr) : Prop where
  ex : ∃ (oc : Value) (od : Option Addr) (dV kV doc pm : Value) (an : Option Addr) (cdv ct : Value) (osl : Array (Option Value)),
    fd = PySem.W.fnOf m qual (defArgs st) (defBody st) (defScope st) dV kV doc pm an cdv ct ∧ K.lookup f = some ⟨oc, od, .func fd, osl⟩ ∧ PySem.W.codeIn K cdv qual = true
  me : Meth K Cl m f
section
variable {P : Program} {w : World} {K : PySem.W.Frag} {mg : Str → Option Value} {base : Heap} {G : Sg} {m qual : Str} {st : Stmt} {f Cl : Addr} {fd : FuncData} {N ps : List Str} {k n : Nat}
structure Ck (K : PySem.W.Frag) (mg : Str → Option Value) (x : Str) (Cl fi : Addr) : Prop where
  cls : Cls K Cl
  mkk : Mk K Cl fi
  gl : mg x = some (.ref Cl)
end
end DL
namespace DL
open PySem PySem.Spec PyProof.Rows L2 LamX GenW
end DL
namespace DL
open PySem PySem.Spec PyProof.Rows L2 LamX _root_.RT
end DL
namespace DL
open PySem PySem.Spec PyProof.Rows L2 LamX GenW
end DL
namespace DL
open PySem PySem.Spec PyProof.Rows L2 LamX
end DL
namespace DL
open PySem PySem.Spec PyProof.Rows L2 LamX
abbrev TGH := D → DEnv → Mem → Option (DEnv × Mem)
def hN (i : Nat) : TGH := fun d δ M => some (δ.set i (some d), M)
end DL
namespace DL
open PySem PySem.Spec PyProof.Rows L2 LamX
def EntI : List DictEntry → List (Int × Int) → Prop
  | [], [] => True
  | e :: es, (k, v) :: r => e.hash = hashInt k ∧ (∃ t, e.key = .int k t) ∧ (∃ t, e.val = .int v t) ∧ EntI es r
  | _, _ => False
structure KIntD (K : PySem.W.Frag) (t : Addr) (kvs : List (Int × Int)) : Prop where
  ex : ∃ es n, K.lookup t = some ⟨.type "dict", none, .dict es n, #[]⟩ ∧ EntI es.toList kvs
  nd : (kvs.map (·.1)).Nodup
end DL
namespace DL
open PySem PySem.Spec PyProof.Rows L2 LamX
end DL
namespace DL
open PySem PySem.Spec PyProof.Rows L2 LamX
end DL
namespace DL
open PySem PySem.Spec PyProof.Rows L2 LamX
end DL
namespace DL
open PySem PySem.Spec PyProof.Rows L2 LamX
end DL
namespace DL
open PySem PySem.Spec PyProof.Rows L2 LamX
end DL
namespace DL
open PySem PySem.Spec PyProof.Rows L2 LamX
def obO (K : PySem.W.Frag) (a : Addr) : Obj := match K.lookup a with
  | some o => o
  | none => ⟨.none, none, .plain, #[]⟩
def fdO (K : PySem.W.Frag) (a : Addr) : FuncData := match (obO K a).data with
  | .func d => d
  | _ => default
abbrev fnAs (K : PySem.W.Frag) (x qual : Str) (st : Stmt) (dV : Value) (f : Addr) : FuncData := PySem.W.fnOf x qual (defArgs st) (defBody st) (defScope st) dV (fdO K f).kwdefaults (fdO K f).doc (fdO K f).pyModule (fdO K f).annotations (fdO K f).code (fdO K f).closureTuple
def Bd (fd : FuncData) (ps : List Str) : Prop := ∀ us : List Value, us.length = ps.length → bindArgs fd ⟨us, []⟩ = pure (ps.zip us)
section
variable {w : World} {K : PySem.W.Frag} {mg : Str → Option Value} {h : Heap} {x m qual : Str} {st : Stmt} {ps : List Str} {f Cl : Addr} {fd : FuncData}
theorem b0 (n : ps.length = 0 := by rfl) (b : bindArgs fd ⟨[], []⟩ = pure (ps.zip []) := by kernel_rfl) : Bd fd ps := fun us hl => match us, hl.trans n with | [], _ => b
theorem b1 (n : ps.length = 1 := by rfl) (b : ∀ a, bindArgs fd ⟨[a], []⟩ = pure (ps.zip [a]) := by intros; kernel_rfl) : Bd fd ps := fun us hl => match us, hl.trans n with | [a], _ => b a
theorem b2 (n : ps.length = 2 := by rfl) (b : ∀ a1 a2, bindArgs fd ⟨[a1, a2], []⟩ = pure (ps.zip [a1, a2]) := by intros; kernel_rfl) : Bd fd ps := fun us hl => match us, hl.trans n with | [a1, a2], _ => b a1 a2
theorem b3 (n : ps.length = 3 := by rfl) (b : ∀ a1 a2 a3, bindArgs fd ⟨[a1, a2, a3], []⟩ = pure (ps.zip [a1, a2, a3]) := by intros; kernel_rfl) : Bd fd ps := fun us hl => match us, hl.trans n with | [a1, a2, a3], _ => b a1 a2 a3
theorem b4 (n : ps.length = 4 := by rfl) (b : ∀ a1 a2 a3 a4, bindArgs fd ⟨[a1, a2, a3, a4], []⟩ = pure (ps.zip [a1, a2, a3, a4]) := by intros; kernel_rfl) : Bd fd ps := fun us hl => match us, hl.trans n with | [a1, a2, a3, a4], _ => b a1 a2 a3 a4
theorem b5 (n : ps.length = 5 := by rfl) (b : ∀ a1 a2 a3 a4 a5, bindArgs fd ⟨[a1, a2, a3, a4, a5], []⟩ = pure (ps.zip [a1, a2, a3, a4, a5]) := by intros; kernel_rfl) : Bd fd ps := fun us hl => match us, hl.trans n with | [a1, a2, a3, a4, a5], _ => b a1 a2 a3 a4 a5
theorem dk_ (X : K.In h) (G : h.Ns mainGlobals mg) (b : Bd (fdO K f) ps) (a : PySem.W.nsIn K mainGlobals x = some (some (.ref f)) := by kernel_rfl)
    (e : fdO K f = fnAs K x x st .none f := by kernel_rfl) (l : K.lookup f = some ⟨(obO K f).cls, (obO K f).dict, .func (fdO K f), (obO K f).slots⟩ := by kernel_rfl)
    (c : PySem.W.codeIn K (fdO K f).code x = true := by kernel_rfl) (k : PySem.W.keepIn K (.ref f) = true := by kernel_rfl) : Df K mg x st ps f (fdO K f) :=
  ⟨⟨⟨_, _, _, _, _, _, _, _, _, e, l, c⟩, k⟩, .all b, PySem.W.mg_of X G a⟩
def okCls (K : PySem.W.Frag) (C : Addr) : Bool := PySem.W.plainGet K C Str.empty && (PySem.W.hasDictIn K C && (PySem.W.plainOver K C && decide (PySem.W.findIn K (.ref C) "__setattr__" = some (some (.builtin "object.__setattr__")))))
theorem okCls_ok {C : Addr} (e : okCls K C = true) : Cls K C := by
  obtain ⟨a, e⟩ := Bool.and_eq_true_iff.mp e
  obtain ⟨b, e⟩ := Bool.and_eq_true_iff.mp e
  obtain ⟨c, e⟩ := Bool.and_eq_true_iff.mp e
  exact ⟨a, b, c, of_decide_eq_true e⟩
theorem at_ {cs : List Nat} {C : Nat → Addr} {g : Str} (e : cs.all (fun c => okCls K (C c) && decide (PySem.W.findIn K (.ref (C c)) g = some none)) = true := by kernel_rfl) : ∀ c ∈ cs, Cls K (C c) ∧ PySem.W.findIn K (.ref (C c)) g = some none := fun c hc => by
  obtain ⟨a, b⟩ := Bool.and_eq_true_iff.mp (List.all_eq_true.mp e c hc)
  exact ⟨okCls_ok a, of_decide_eq_true b⟩
theorem tm_ {p : Addr} {q : Str} {T : List (Addr × Str)} (e : (T.any (fun y => Nat.beq y.1 p && decide (y.2 = q)) && T.all (fun y => !Nat.beq y.1 p || decide (y.2 = q))) = true := by kernel_rfl) : (p, q) ∈ T ∧ ∀ y ∈ T, y.1 = p → y.2 = q := by
  obtain ⟨a, b⟩ := Bool.and_eq_true_iff.mp e
  constructor
  · obtain ⟨y, hy, z⟩ := List.any_eq_true.mp a
    obtain ⟨z1, z2⟩ := Bool.and_eq_true_iff.mp z
    obtain ⟨y1, y2⟩ := y
    cases Nat.eq_of_beq_eq_true z1
    cases of_decide_eq_true z2
    exact hy
  · intro y hy z
    rcases Bool.or_eq_true_iff.mp (List.all_eq_true.mp b y hy) with q | q
    · rw [z, show Nat.beq p p = true from Nat.beq_refl p] at q
      cases q
    · exact of_decide_eq_true q
theorem tb_ {c p : Addr} {T : List (Addr × Addr)} (e : T.any (fun y => Nat.beq y.1 c && Nat.beq y.2 p) = true := by kernel_rfl) : (c, p) ∈ T := by
  obtain ⟨y, hy, z⟩ := List.any_eq_true.mp e
  obtain ⟨z1, z2⟩ := Bool.and_eq_true_iff.mp z
  obtain ⟨y1, y2⟩ := y
  cases Nat.eq_of_beq_eq_true z1
  cases Nat.eq_of_beq_eq_true z2
  exact hy
theorem ttb_ {T : List (Addr × Str)} {B : List (Addr × Addr)} (e : T.all (fun p => B.any fun q => Nat.beq q.2 p.1) = true := by kernel_rfl) : ∀ p ∈ T, p.1 ∈ B.map (·.2) := fun p hp => by
  obtain ⟨q, hq, z⟩ := List.any_eq_true.mp (List.all_eq_true.mp e p hp)
  exact List.mem_map.mpr ⟨q, hq, Nat.eq_of_beq_eq_true z⟩
theorem gd_ {c : Addr} (e : fdO K f = PySem.W.fnOf x x (defArgs st) (defBody st) (defScope st) .none (fdO K f).kwdefaults (fdO K f).doc (fdO K f).pyModule (fdO K f).annotations (.ref c) (fdO K f).closureTuple := by kernel_rfl)
    (l : K.lookup f = some ⟨(obO K f).cls, (obO K f).dict, .func (fdO K f), (obO K f).slots⟩ := by kernel_rfl) (d : PySem.W.codeIn K (.ref c) x = true := by kernel_rfl) : Gd K x st f c (fdO K f) :=
  ⟨⟨_, _, _, _, _, _, _, _, e, l.trans (congrArg (fun z => some (Obj.mk (obO K f).cls (obO K f).dict (.func z) (obO K f).slots)) e)⟩, d⟩
theorem ex_ {C : Addr} (X : K.In h) (G : h.Ns mainGlobals mg) (a : PySem.W.nsIn K mainGlobals x = some (some (.ref C)) := by kernel_rfl) (e : PySem.W.excIn K C veL "ValueError.__new__" = true := by kernel_rfl)
    (k : PySem.W.keepIn K (.ref C) = true := by kernel_rfl) (s : PySem.W.subIn K (.ref C) (.type "BaseException") = some true := by kernel_rfl) (t : PySem.W.typeIn K (.ref C) = some (.type "type") := by kernel_rfl) : Ex K mg x C := ⟨PySem.W.mg_of X G a, e, k, s, t⟩
theorem mq_ {v : Value} (X : K.In h) (G : h.Ns mainGlobals mg) (a : PySem.W.nsIn K mainGlobals x = some (some v) := by kernel_rfl) : mg x = some v := PySem.W.mg_of X G a
theorem mn_ (X : K.In h) (G : h.Ns mainGlobals mg) (a : PySem.W.nsIn K mainGlobals x = some none := by kernel_rfl) : mg x = none := PySem.W.mg_none_of X G a
def intO : Option (Option Value) → Option Int
  | some (some (.int i _)) => some i
  | _ => none
theorem ci_ {i : Int} (X : K.In h) (G : h.Ns mainGlobals mg) (a : intO (PySem.W.nsIn K mainGlobals x) = some i := by kernel_rfl) : ∃ t, mg x = some (.int i t) := by
  match e : PySem.W.nsIn K mainGlobals x, a with
  | some (some (.int j t)), a =>
    cases a
    exact ⟨t, PySem.W.mg_of X G e⟩
def chkS : List Str → List Value → Bool
  | [], [] => true
  | y :: ys, .str z _ :: us => decide (y = z) && chkS ys us
  | _, _ => false
theorem chkS_ok : ∀ {ys : List Str} {us : List Value}, chkS ys us = true → Vals (ys.map V.str) us
  | [], [], _ => .nil
  | y :: ys, .str z t :: us, e => by
    obtain ⟨a, b⟩ := Bool.and_eq_true_iff.mp e
    cases of_decide_eq_true a
    exact .cons ⟨t, rfl⟩ (chkS_ok b)
def tupO (K : PySem.W.Frag) (a : Addr) : Option (Array Value) := match K.lookup a with
  | some ⟨.type s, none, .seq its _, _⟩ => if decide (s = "tuple") && Nat.ble its.size sizeLine then some its else none
  | _ => none
theorem tupO_ok {a : Addr} {its : Array Value} (e : tupO K a = some its) : ∃ n sl, K.lookup a = some ⟨.type "tuple", none, .seq its n, sl⟩ ∧ its.size ≤ sizeLine := by
  unfold tupO at e
  split at e
  · rename_i s its' n sl q
    split at e
    · rename_i c
      cases e
      obtain ⟨c1, c2⟩ := Bool.and_eq_true_iff.mp c
      cases of_decide_eq_true c1
      exact ⟨n, sl, q, Nat.le_of_ble_eq_true c2⟩
    · cases e
  · cases e
def chk (K : PySem.W.Frag) (F : Nat → Addr) : Nat → D → Value → Bool
  | _ + 1, .int i, .int j _ => decide (i = j)
  | _ + 1, .str x, .str y _ => decide (x = y)
  | _ + 1, .bl b, .bool c => decide (b = c)
  | _ + 1, .non, .none => true
  | _ + 1, .fn k, .ref a => Nat.beq a (F k)
  | _ + 1, .ktu ys, .ref a => (match tupO K a with
      | some its => chkS ys its.toList
      | none => false)
  | n + 1, .ctu ds, .ref a => (match tupO K a with
      | some its => Nat.beq ds.length its.toList.length && (ds.zip its.toList).all fun p => chk K F n p.1 p.2
      | none => false)
  | _, _, _ => false
theorem chkL_ok {F : Nat → Addr} {n : Nat} (ih : ∀ {d : D} {u : Value}, chk K F n d u = true → ∃ v, RelV v u ∧ CV K F d v) : ∀ {ds : List D} {us : List Value}, ds.length = us.length → (ds.zip us).all (fun p => chk K F n p.1 p.2) = true → ∃ vs, Vals vs us ∧ CVs K F ds vs
  | [], [], _, _ => ⟨[], .nil, cvs_nil⟩
  | d :: ds, u :: us, l, e => by
    rw [List.zip_cons_cons, List.all_cons, Bool.and_eq_true_iff] at e
    obtain ⟨v, r, c⟩ := ih e.1
    obtain ⟨vs, rs, cs⟩ := chkL_ok ih (Nat.succ.inj l) e.2
    exact ⟨v :: vs, .cons r rs, cvs_cons c cs⟩
theorem chk_step {F : Nat → Addr} {n : Nat} (ih' : ∀ {d : D} {u : Value}, chk K F n d u = true → ∃ v, RelV v u ∧ CV K F d v) {d : D} {u : Value} (e : chk K F (n + 1) d u = true) : ∃ v, RelV v u ∧ CV K F d v := by
    unfold chk at e
    split at e
    · cases of_decide_eq_true e; exact ⟨.int _, ⟨_, rfl⟩, cv_int⟩
    · cases of_decide_eq_true e; exact ⟨.str _, ⟨_, rfl⟩, cv_str⟩
    · cases of_decide_eq_true e; exact ⟨.bl _, rfl, cv_bl⟩
    · exact ⟨.non, rfl, cv_non⟩
    · rw [Nat.eq_of_beq_eq_true e]; exact ⟨.ref _, rfl, cv_fn⟩
    · split at e
      · rename_i q
        obtain ⟨_, sl, l, z⟩ := tupO_ok q
        exact ⟨.ref _, rfl, cv_tup l z (chkS_ok e)⟩
      · cases e
    · split at e
      · rename_i he _ _ q
        cases he
        obtain ⟨n1, sl, l, z⟩ := tupO_ok q
        obtain ⟨e1, e2⟩ := Bool.and_eq_true_iff.mp e
        obtain ⟨vs, rs, cs⟩ := chkL_ok ih' (Nat.eq_of_beq_eq_true e1) e2
        exact ⟨.ref _, rfl, cv_tupd l z rs cs⟩
      · cases e
    · cases e
theorem chk_ok {F : Nat → Addr} : ∀ {n : Nat} {d : D} {u : Value}, chk K F n d u = true → ∃ v, RelV v u ∧ CV K F d v
  | 0, _, _, e => by unfold chk at e; cases e
  | _ + 1, _, _, e => chk_step chk_ok e
def chkN (K : PySem.W.Frag) (F : Nat → Addr) (a : Addr) (p : Str × D) : Bool := match PySem.W.nsIn K a p.1 with
  | some (some u) => chk K F 9 p.2 u
  | _ => false
theorem chkN_ok {F : Nat → Addr} {a : Addr} {p : Str × D} (e : chkN K F a p = true) : ∃ u v, PySem.W.nsIn K a p.1 = some (some u) ∧ RelV v u ∧ CV K F p.2 v := by
  unfold chkN at e
  split at e
  · rename_i u q
    obtain ⟨v, r, c⟩ := chk_ok e
    exact ⟨u, v, q, r, c⟩
  · cases e
theorem cq_ {F : Nat → Addr} {d : D} (X : K.In h) (G : h.Ns mainGlobals mg) (a : chkN K F mainGlobals (x, d) = true := by kernel_rfl) : ∃ u v, mg x = some u ∧ RelV v u ∧ CV K F d v := by
  obtain ⟨u, v, q, r, c⟩ := chkN_ok a
  exact ⟨u, v, PySem.W.mg_of X G q, r, c⟩
theorem t_ {F : Nat → Addr} {a : Addr} {tb : List (Str × D)} (d : He.dicW K a = some (He.keysIn w.params (tb.map (·.1))) := by kernel_rfl) (e : tb.all (chkN K F a) = true := by kernel_rfl) : TabAt K F w a tb :=
  tab_mk d fun p hp => chkN_ok (List.all_eq_true.mp e p hp)
def chkC (K : PySem.W.Frag) (c P : Addr) : Bool := match K.lookup c with
  | some ⟨.type s, _, .fields vs, _⟩ => decide (s = "code") && (decide (vs[11]? = some (.ref P)) && (decide (vs.getD 11 .none = .ref P) && ((match vs.getD 18 .none, vs.getD 7 .none, vs.getD 9 .none, vs.getD 10 .none with
      | .str _ _, .int _ _, .bool _, .int _ _ => true
      | _, _, _, _ => false) && (!Nat.beq c P && (K.lookup P).isNone))))
  | _ => false
theorem chkC_ok {c P : Addr} (e : chkC K c P = true) : CodeFacts K c P := by
  unfold chkC at e
  split at e
  · rename_i s dd vs sl q
    obtain ⟨a, e⟩ := Bool.and_eq_true_iff.mp e
    obtain ⟨e1, e⟩ := Bool.and_eq_true_iff.mp e
    obtain ⟨e2, e⟩ := Bool.and_eq_true_iff.mp e
    obtain ⟨e3, e⟩ := Bool.and_eq_true_iff.mp e
    obtain ⟨e4, e5⟩ := Bool.and_eq_true_iff.mp e
    cases of_decide_eq_true a
    split at e3
    · rename_i q1 q2 q3 q4
      refine ⟨⟨_, _, _, _, _, _, _, _, _, _, q, of_decide_eq_true e1, of_decide_eq_true e2, q1, q2, q3, q4⟩, fun z => ?_, Option.isNone_iff_eq_none.mp e5⟩
      rw [z, show Nat.beq P P = true from Nat.beq_refl P] at e4
      cases e4
    · cases e3
  · cases e
abbrev OL := List (Str × Addr × Addr × Addr)
def chkO (K : PySem.W.Frag) (p : Str × Addr × Addr × Addr) : Bool := chkC K p.2.2.1 p.2.2.2 && ((match PySem.W.nsIn K mainGlobals p.1 with
    | some (some (.ref g)) => Nat.beq g p.2.1
    | _ => false) && (match K.lookup p.2.1 with
    | some ⟨_, _, .func fd, _⟩ => (match fd.code with
      | .ref c => Nat.beq c p.2.2.1
      | _ => false)
    | _ => false))
def csO (L : OL) : List (Addr × Addr) := L.map fun q => (q.2.2.1, q.2.2.2)
theorem own_ {names : List Str} {L : OL} (X : K.In h) (G : h.Ns mainGlobals mg) (own : ∀ s ∈ names, ∀ f, mg s = some (.ref f) → OwnTab K f h) (hn : L.map (·.1) = names) (e : L.all (chkO K) = true) :
    ∀ p ∈ csO L, CodeFacts K p.1 p.2 ∧ h.get? p.2 = some { cls := .none, data := .fields #[] } := by
  intro p hp
  obtain ⟨⟨n, f, c, P⟩, hq, rfl⟩ := List.mem_map.mp hp
  have e1 := List.all_eq_true.mp e _ hq
  obtain ⟨e1, e2⟩ := Bool.and_eq_true_iff.mp e1
  obtain ⟨e2, e3⟩ := Bool.and_eq_true_iff.mp e2
  have cf := chkC_ok e1
  refine ⟨cf, ?_⟩
  dsimp only at e2 e3 cf ⊢
  split at e2
  · rename_i hg
    cases Nat.eq_of_beq_eq_true e2
    have h1 := own n (hn ▸ List.mem_map.mpr ⟨_, hq, rfl⟩) _ (PySem.W.mg_of X G hg)
    split at e3
    · rename_i oc od fd osl lk
      split at e3
      · rename_i c' hc
        cases Nat.eq_of_beq_eq_true e3
        obtain ⟨dd, vs, sl, file, tf, flags, tg, inF, text, tt, h3, h2, _⟩ := cf.ex
        exact h1 _ P _ _ _ dd vs sl lk rfl hc h3 h2
      · cases e3
    · cases e3
  · cases e2
end
section
variable {K : PySem.W.Frag}
theorem xm_ {tx : List (Nat × Bool)} {C : Nat → Addr} {c : Addr} (e : tx.all (fun p => decide (PySem.W.exmOne K (.ref (C p.1)) (.ref c) = some p.2)) = true := by kernel_rfl) : ∀ p ∈ tx, PySem.W.exmOne K (.ref (C p.1)) (.ref c) = some p.2 := fun p hp => of_decide_eq_true (List.all_eq_true.mp e p hp)
theorem ki_ {tx : List (Nat × Bool)} {C : Nat → Addr} {c : Addr} (e : tx.all (fun p => decide (PySem.W.kitOne K (.ref (C p.1)) (.ref c) = some p.2)) = true := by kernel_rfl) : ∀ p ∈ tx, PySem.W.kitOne K (.ref (C p.1)) (.ref c) = some p.2 := fun p hp => of_decide_eq_true (List.all_eq_true.mp e p hp)
def okX (K : PySem.W.Frag) (D : Addr) : Bool := decide (PySem.W.findIn K (.ref D) "__getattribute__" = some (some (.builtin "BaseException.__getattribute__"))) && (decide (PySem.W.findIn K (.ref D) "__getattr__" = some none) && (decide (PySem.W.subIn K (.ref D) (.type "BaseException") = some true) && (PySem.W.hasDictIn K D && (decide (PySem.W.findIn K (.ref D) "__class__" = some (some (.builtin "object.__class__"))) && (decide (PySem.W.specialIn K (.builtin "object.__class__") "__get__" = some (some (.builtin "getset_descriptor.__get__"))) && (decide (PySem.W.takesIn K (.builtin "object.__class__") = some true) && decide (PySem.W.mroIn K D (.type "object") = some true)))))))
theorem xc_ {tx : List (Nat × Bool)} {C : Nat → Addr} (e : tx.all (fun p => okX K (C p.1)) = true := by kernel_rfl) : ∀ p ∈ tx, ExcC K (C p.1) := fun p hp => by
  have e := List.all_eq_true.mp e p hp
  unfold okX at e
  simp only [Bool.and_eq_true_iff, decide_eq_true_eq] at e
  obtain ⟨a, b, c, d, e, f, g, i⟩ := e
  exact ⟨a, b, c, d, e, f, g, i⟩
end
end DL
namespace DL
open PySem PySem.Spec PyProof.Rows L2 LamX
structure Pk (K : PySem.W.Frag) (C : Addr) (f fld : Str) : Prop where
  ex : ∃ (p g : Addr) (fd : FuncData), PropOf K C f p g ∧ Binds K fd ["self"] [] ∧ ∀ (P : Program) (w : World) (mg : Str → Option Value) (base : Heap), FnOk P w K mg base CX0 1 g fd ["self"] (getSp C fld)
  cl : Cls K C
end DL
namespace DL
open PySem PySem.Spec PyProof.Rows L2 LamX
structure SimE (i : Nat) (fs : List (Str × D)) (a dx : Addr) (δ δ' : DEnv) : Prop where
  l : δ[i]?.join = some (if (!fs.isEmpty) = true then .obx a dx fs else .ob a)
  r : δ'[i]?.join = some (if (!fs.isEmpty) = true then .obx 0 0 fs else .ob 0)
  o : ∀ k, k ≠ i → δ[k]? = δ'[k]?
def SimO (i : Nat) (fs : List (Str × D)) (a dx : Addr) : SO → SO → Prop
  | .nx δ M, .nx δ' M' => SimE i fs a dx δ δ' ∧ M = M'
  | .rt d M, .rt d' M' => d = d' ∧ M = M'
  | .undef, .undef => True
  | _, _ => False
def SmE {α : Type} (i : Nat) (fs : List (Str × D)) (a dx : Addr) (e e' : E α) : Prop := ∀ δ δ' M, SimE i fs a dx δ δ' → e δ M = e' δ' M ∧ ∀ x M', e' δ' M ≠ .exc x M'
def SmS (i : Nat) (fs : List (Str × D)) (a dx : Addr) (s s' : S) : Prop := ∀ δ δ' M, SimE i fs a dx δ δ' → SimO i fs a dx (s δ M) (s' δ' M)
theorem opt_ne {α : Type} {o : Option α} {M : Mem} {x : XV} {M' : Mem} : Out.opt o M ≠ .exc x M' := by cases o <;> intro h <;> cases h
section
variable {i k : Nat} {fs : List (Str × D)} {a dx : Addr} {e e' f f' : E D} {m m' : E (List D)} {t t' : E Bool} {s s' u u' : S} {d : D}
theorem sm_bind {α β : Type} {e e' : E α} {k k' : DEnv → α → Mem → Out β} {δ δ' : DEnv} {M : Mem} (q : SimE i fs a dx δ δ') (h : SmE i fs a dx e e') (hk : ∀ x M1, k δ x M1 = k' δ' x M1 ∧ ∀ y M', k' δ' x M1 ≠ .exc y M') : (e δ M).bind (k δ) = (e' δ' M).bind (k' δ') ∧ ∀ x M', (e' δ' M).bind (k' δ') ≠ .exc x M' := by
  obtain ⟨h1, h2⟩ := h δ δ' M q
  rw [h1]
  cases hh : e' δ' M with
  | ok x M1 => exact hk x M1
  | exc y M1 => exact absurd hh (h2 y M1)
  | undef => exact ⟨rfl, fun _ _ z => by cases z⟩
theorem sm_c : SmE i fs a dx (eC d) (eC d) := fun _ _ _ _ => ⟨rfl, fun _ _ z => by cases z⟩
theorem sm_v (hk : k ≠ i) : SmE i fs a dx (eV k) (eV k) := fun δ δ' M q => ⟨by unfold eV; rw [q.o k hk], fun _ _ => opt_ne⟩
theorem sm_is {ob : Option Bool} : SmE i fs a dx (eIsE (!fs.isEmpty) a dx ob i) (eIsE (!fs.isEmpty) 0 0 ob i) := fun δ δ' M q => by
  unfold eIsE
  rw [q.l, q.r]
  cases fs.isEmpty <;> cases ob <;> simp
theorem sm_fld {n : Str} {ob : Option Bool} : SmE i fs a dx (eFld (!fs.isEmpty) a dx n ob i) (eFld (!fs.isEmpty) 0 0 n ob i) := fun δ δ' M q => by
  unfold eFld
  rw [q.l, q.r]
  cases fs.isEmpty <;> rcases ob with _ | (_ | _) <;> simp [opt_ne]
theorem sm_nil : SmE i fs a dx aNil aNil := fun _ _ _ _ => ⟨rfl, fun _ _ z => by cases z⟩
theorem sm_cons (h : SmE i fs a dx e e') (g : SmE i fs a dx m m') : SmE i fs a dx (aCons e m) (aCons e' m') := fun δ δ' M q =>
  sm_bind (k := fun δ x M1 => (m δ M1).bind fun xs M2 => .ok (x :: xs) M2) (k' := fun δ x M1 => (m' δ M1).bind fun xs M2 => .ok (x :: xs) M2) q h fun x M1 => sm_bind (β := List D) (k := fun _ xs M2 => .ok (x :: xs) M2) (k' := fun _ xs M2 => .ok (x :: xs) M2) q g fun _ _ => ⟨rfl, fun _ _ z => by cases z⟩
theorem sm_tup (h : SmE i fs a dx m m') : SmE i fs a dx (eTup m) (eTup m') := fun δ δ' M q => sm_bind (β := D) (k := fun _ xs M1 => .ok (D.tup xs) M1) (k' := fun _ xs M1 => .ok (D.tup xs) M1) q h fun _ _ => ⟨rfl, fun _ _ z => by cases z⟩
theorem sm_lst (h : SmE i fs a dx m m') : SmE i fs a dx (eLst m) (eLst m') := fun δ δ' M q => sm_bind (β := D) (k := fun _ xs M1 => .ok (D.lst xs) M1) (k' := fun _ xs M1 => .ok (D.lst xs) M1) q h fun _ _ => ⟨rfl, fun _ _ z => by cases z⟩
theorem sm_bin {op : Op2} (h : SmE i fs a dx e e') (g : SmE i fs a dx f f') : SmE i fs a dx (eBin op e f) (eBin op e' f') := fun δ δ' M q =>
  sm_bind (k := fun δ x M1 => (f δ M1).bind fun y M2 => Out.opt (op M2 x y) M2) (k' := fun δ x M1 => (f' δ M1).bind fun y M2 => Out.opt (op M2 x y) M2) q h fun x M1 => sm_bind (k := fun _ y M2 => Out.opt (op M2 x y) M2) (k' := fun _ y M2 => Out.opt (op M2 x y) M2) q g fun _ _ => ⟨rfl, fun _ _ => opt_ne⟩
theorem sm_of (h : SmE i fs a dx e e') : SmE i fs a dx (tOf e) (tOf e') := fun δ δ' M q => by
  unfold tOf
  exact sm_bind (k := fun _ x M1 => match x with | .bl b => .ok b M1 | _ => .undef) (k' := fun _ x M1 => match x with | .bl b => .ok b M1 | _ => .undef) q h fun x _ => ⟨rfl, fun _ _ z => by cases x <;> cases z⟩
theorem sm_tr (h : SmE i fs a dx e e') : SmE i fs a dx (tTr e) (tTr e') := fun δ δ' M q => sm_bind (k := fun _ x M1 => Out.opt (truth M1 x) M1) (k' := fun _ x M1 => Out.opt (truth M1 x) M1) q h fun _ _ => ⟨rfl, fun _ _ => opt_ne⟩
theorem sm_eif (ht : SmE i fs a dx t t') (h : SmE i fs a dx e e') (g : SmE i fs a dx f f') : SmE i fs a dx (eIf t e f) (eIf t' e' f') := fun δ δ' M q =>
  sm_bind (k := fun δ x M1 => if x = true then e δ M1 else f δ M1) (k' := fun δ x M1 => if x = true then e' δ M1 else f' δ M1) q ht fun x M1 => by
    cases x
    · exact g δ δ' M1 q
    · exact h δ δ' M1 q
theorem sm_cnt (h : SmE i fs a dx e e') (g : SmE i fs a dx f f') : SmE i fs a dx (eCountL e f) (eCountL e' f') := fun δ δ' M q => sm_bind (k := fun δ => cntK f δ) (k' := fun δ => cntK f' δ) q h fun x M1 => by
  cases x <;> first
    | exact ⟨rfl, fun _ _ z => by cases z⟩
    | skip
  rename_i xs
  exact sm_bind (β := D) (k := fun _ y M2 => if flatD y = true ∧ xs.all flatD = true then .ok (D.int (xs.countP fun z => eqvD z y : Nat)) M2 else .undef) (k' := fun _ y M2 => if flatD y = true ∧ xs.all flatD = true then .ok (D.int (xs.countP fun z => eqvD z y : Nat)) M2 else .undef) q g fun y M2 => ⟨rfl, fun _ _ z => by split at z <;> cases z⟩
theorem sm_idx (h : SmE i fs a dx e e') (g : SmE i fs a dx f f') : SmE i fs a dx (eIndexL e f) (eIndexL e' f') := fun δ δ' M q => sm_bind (k := fun δ => idxK f δ) (k' := fun δ => idxK f' δ) q h fun x M1 => by
  cases x <;> first
    | exact ⟨rfl, fun _ _ z => by cases z⟩
    | skip
  rename_i xs
  exact sm_bind (β := D) (k := fun _ y M2 => if flatD y = true ∧ xs.all flatD = true then Out.opt ((firstE xs y).map fun j => D.int (j : Nat)) M2 else .undef) (k' := fun _ y M2 => if flatD y = true ∧ xs.all flatD = true then Out.opt ((firstE xs y).map fun j => D.int (j : Nat)) M2 else .undef) q g fun y M2 => ⟨rfl, fun _ _ z => by split at z; exact opt_ne z; cases z⟩
theorem ss_e {α : Type} {e e' : E α} {k k' : DEnv → α → Mem → SO} {δ δ' : DEnv} {M : Mem} (q : SimE i fs a dx δ δ') (h : SmE i fs a dx e e') (hk : ∀ x M1, SimO i fs a dx (k δ x M1) (k' δ' x M1)) : SimO i fs a dx (sE (e δ M) δ (k δ)) (sE (e' δ' M) δ' (k' δ')) := by
  obtain ⟨h1, h2⟩ := h δ δ' M q
  rw [h1]
  cases hh : e' δ' M with
  | ok x M1 => exact hk x M1
  | exc y M1 => exact absurd hh (h2 y M1)
  | undef => trivial
theorem ss_nx : SmS i fs a dx sNx sNx := fun _ _ _ q => ⟨q, rfl⟩
theorem ss_ret (h : SmE i fs a dx e e') : SmS i fs a dx (sRet e) (sRet e') := fun δ δ' M q => ss_e (k := fun _ d M1 => .rt d M1) (k' := fun _ d M1 => .rt d M1) q h fun _ _ => ⟨rfl, rfl⟩
theorem ss_set (hk : k ≠ i) (h : SmE i fs a dx e e') : SmS i fs a dx (sSet k e) (sSet k e') := fun δ δ' M q => ss_e (k := fun δ d M1 => .nx (δ.set k (some d)) M1) (k' := fun δ d M1 => .nx (δ.set k (some d)) M1) q h fun d M1 => by
  have len : k < δ.length ↔ k < δ'.length := by
    have := q.o k hk
    constructor <;> intro hh
    · rw [List.getElem?_eq_getElem hh] at this
      exact (List.getElem?_eq_some_iff.mp this.symm).1
    · rw [List.getElem?_eq_getElem hh] at this
      exact (List.getElem?_eq_some_iff.mp this).1
  refine ⟨⟨?_, ?_, fun j hj => ?_⟩, rfl⟩
  · rw [List.getElem?_set_ne hk]; exact q.l
  · rw [List.getElem?_set_ne hk]; exact q.r
  · by_cases hjk : k = j
    · subst hjk
      by_cases hh : k < δ.length
      · rw [List.getElem?_set_self hh, List.getElem?_set_self (len.mp hh)]
      · rw [List.getElem?_eq_none (by rw [List.length_set]; omega), List.getElem?_eq_none (by rw [List.length_set]; have := mt len.mpr hh; omega)]
    · rw [List.getElem?_set_ne hjk, List.getElem?_set_ne hjk]; exact q.o j hj
theorem ss_if (ht : SmE i fs a dx t t') (h : SmS i fs a dx s s') (g : SmS i fs a dx u u') : SmS i fs a dx (sIf t s u) (sIf t' s' u') := fun δ δ' M q =>
  ss_e (k := fun δ x M1 => if x = true then s δ M1 else u δ M1) (k' := fun δ x M1 => if x = true then s' δ M1 else u' δ M1) q ht fun x M1 => by
    cases x
    · exact g δ δ' M1 q
    · exact h δ δ' M1 q
theorem ss_seq (h : SmS i fs a dx s s') (g : SmS i fs a dx u u') : SmS i fs a dx (sSeq s u) (sSeq s' u') := fun δ δ' M q => by
  have r := h δ δ' M q
  show SimO i fs a dx (sThen (s δ M) u) (sThen (s' δ' M) u')
  cases h1 : s δ M <;> cases h2 : s' δ' M <;> rw [h1, h2] at r <;> first
    | exact r.elim
    | skip
  · obtain ⟨r1, rfl⟩ := r
    exact g _ _ _ r1
  · exact r
  · trivial
theorem ss_ends {sh : Addr → Addr → S} {n : Nat} {M : Mem} (hi : i < n) (h : SmS i fs a dx (sh a dx) (sh 0 0)) (hn : ∀ δ M δ' M', sh 0 0 δ M ≠ .nx δ' M') : sh a dx (exEnv n i fs a dx) M = sh 0 0 (exEnv n i fs 0 0) M := by
  have q : SimE i fs a dx (exEnv n i fs a dx) (exEnv n i fs 0 0) := by
    refine ⟨?_, ?_, fun k hk => ?_⟩
    · unfold exEnv; rw [List.getElem?_set_self (by rw [List.length_replicate]; exact hi)]; rfl
    · unfold exEnv; rw [List.getElem?_set_self (by rw [List.length_replicate]; exact hi)]; rfl
    · unfold exEnv; rw [List.getElem?_set_ne (Ne.symm hk), List.getElem?_set_ne (Ne.symm hk)]
  have r := h _ _ M q
  cases h1 : sh a dx (exEnv n i fs a dx) M <;> cases h2 : sh 0 0 (exEnv n i fs 0 0) M <;> rw [h1, h2] at r <;> first
    | exact r.elim
    | skip
  · exact absurd h2 (hn _ _ _ _)
  · obtain ⟨rfl, rfl⟩ := r; rfl
def NoNx (s : S) : Prop := ∀ δ M δ' M', s δ M ≠ .nx δ' M'
theorem nn_ret : NoNx (sRet e) := fun δ M δ' M' h => by
  unfold sRet sE at h
  split at h <;> cases h
theorem nn_seq (h : NoNx u) : NoNx (sSeq s u) := fun δ M δ' M' z => by
  have z : sThen (s δ M) u = .nx δ' M' := z
  cases hh : s δ M <;> rw [hh] at z <;> first
    | exact h _ _ _ _ z
    | cases z
theorem nn_if (h : NoNx s) (g : NoNx u) : NoNx (sIf t s u) := fun δ M δ' M' z => by
  unfold sIf sE at z
  split at z
  · dsimp only at z
    split at z
    · exact h _ _ _ _ z
    · exact g _ _ _ _ z
  · cases z
  · cases z
end
end DL
namespace ST
open PySem PySem.Spec PyProof.Rows L2
structure Msk (m : Nat) : Prop where
  odd : m % 2 = 1
  top : m ≤ 2047
  go : ∀ i j, i ≤ m → j ≤ m → ∃ k, k ≤ m ∧ lcgI m i k = j
def noZ (m : Nat) : Nat → Nat → Bool
  | 0, _ => true
  | n + 1, x => match (x * 5 + 1) % (m + 1) with
    | 0 => false
    | y + 1 => noZ m n (y + 1)
theorem noZ_ne {m : Nat} : ∀ (n a : Nat), noZ m n (lcgN m a) = true → ∀ k, a < k → k ≤ a + n → lcgN m k ≠ 0
  | 0, a, _, k, h1, h2 => by omega
  | n + 1, a, h, k, h1, h2 => by
    have hs : lcgN m (a + 1) = (lcgN m a * 5 + 1) % (m + 1) := rfl
    unfold noZ at h
    cases e : (lcgN m a * 5 + 1) % (m + 1) with
    | zero => rw [e] at h; cases h
    | succ y =>
      rw [e] at h hs
      by_cases c : k = a + 1
      · rw [c, hs]; omega
      · exact noZ_ne n (a + 1) (by rw [hs]; exact h) k (by omega) (by omega)
section
variable {m : Nat} (inj : ∀ a b, a ≤ m → b ≤ m → (a * 5 + 1) % (m + 1) = (b * 5 + 1) % (m + 1) → a = b) (z : noZ m m 0 = true)
include inj z
theorem lcgN_le : ∀ k, lcgN m k ≤ m
  | 0 => Nat.zero_le _
  | k + 1 => Nat.le_of_lt_succ (Nat.mod_lt _ (Nat.succ_pos _))
theorem lcg_apart : ∀ a b, a < b → b ≤ m → lcgN m a ≠ lcgN m b
  | 0, b, h1, h2, e => noZ_ne m 0 (by exact z) b h1 (by omega) (by rw [← e]; rfl)
  | a + 1, b + 1, h1, h2, e => lcg_apart a b (by omega) (by omega) (inj _ _ (lcgN_le inj z a) (lcgN_le inj z b) e)
theorem lcg_hits {j : Nat} (hj : j ≤ m) : ∃ b, b ≤ m ∧ lcgN m b = j := by
  rcases Classical.em (∃ b, b ≤ m ∧ lcgN m b = j) with c | c
  · exact c
  exfalso
  have nd : ((List.range (m + 1)).map (lcgN m)).Nodup := by
    refine List.pairwise_map.mpr (List.Pairwise.imp_of_mem (fun {a b} ha hb hlt => ?_) List.pairwise_lt_range)
    exact lcg_apart inj z a b hlt (Nat.le_of_lt_succ (List.mem_range.mp hb))
  have sub : ∀ x ∈ (List.range (m + 1)).map (lcgN m), x ∈ (List.range (m + 1)).erase j := fun x hx => by
    obtain ⟨b, hb, e⟩ := List.mem_map.mp hx
    have hbm := Nat.le_of_lt_succ (List.mem_range.mp hb)
    refine (List.mem_erase_of_ne fun q => c ⟨b, hbm, e.trans q⟩).mpr ?_
    rw [← e]
    exact List.mem_range.mpr (Nat.lt_succ_of_le (lcgN_le inj z b))
  have q := nat_nodup_len _ _ nd sub
  rw [List.length_map, List.length_erase_of_mem (List.mem_range.mpr (Nat.lt_succ_of_le hj)), List.length_range] at q
  omega
theorem lcg_home : lcgN m (m + 1) = 0 := by
  obtain ⟨b, hb, e⟩ := lcg_hits inj z (lcgN_le inj z (m + 1))
  cases b with
  | zero => exact e.symm
  | succ b => exact absurd (inj _ _ (lcgN_le inj z b) (lcgN_le inj z m) e) (lcg_apart inj z b m (by omega) (Nat.le_refl _))
theorem lcg_again : ∀ k, lcgN m (m + 1 + k) = lcgN m k
  | 0 => lcg_home inj z
  | k + 1 => by
    show (lcgN m (m + 1 + k) * 5 + 1) % (m + 1) = (lcgN m k * 5 + 1) % (m + 1)
    rw [lcg_again k]
theorem lcg_way {i j : Nat} (hi : i ≤ m) (hj : j ≤ m) : ∃ k, k ≤ m ∧ lcgI m i k = j := by
  obtain ⟨a, ha, ea⟩ := lcg_hits inj z hi
  obtain ⟨b, hb, eb⟩ := lcg_hits inj z hj
  subst ea
  by_cases c : a ≤ b
  · exact ⟨b - a, by omega, by rw [lcgN_add, show a + (b - a) = b by omega, eb]⟩
  · exact ⟨m + 1 + b - a, by omega, by rw [lcgN_add, show a + (m + 1 + b - a) = m + 1 + b by omega, lcg_again inj z, eb]⟩
end
theorem m7 : Msk 7 := ⟨rfl, by omega, fun i j => lcg_way (fun a b _ _ e => by omega) (by decide +kernel)⟩
theorem m31 : Msk 31 := ⟨rfl, by omega, fun i j => lcg_way (fun a b _ _ e => by omega) (by decide +kernel)⟩
theorem m127 : Msk 127 := ⟨rfl, by omega, fun i j => lcg_way (fun a b _ _ e => by omega) (by decide +kernel)⟩
theorem m511 : Msk 511 := ⟨rfl, by omega, fun i j => lcg_way (fun a b _ _ e => by omega) (by decide +kernel)⟩
theorem m2047 : Msk 2047 := ⟨rfl, by omega, fun i j => lcg_way (fun a b _ _ e => by omega) (by decide +kernel)⟩
end ST
namespace ST
open PySem PySem.Spec PyProof.Rows L2
variable {m : Nat}
theorem way_in (h : Int) (k : Nat) : way m h k ≤ m := by
  have a : SetTable.bits h % (m + 1) ≤ m := Nat.le_of_lt_succ (Nat.mod_lt _ (Nat.succ_pos _))
  have b := runEnd_bd a
  have c := nth_in (m := m) k (runAt m (SetTable.bits h % (m + 1)) (SetTable.bits h)) (by simp only [runAt]; omega)
  exact Nat.le_trans (Nat.le_add_right _ _) c
theorem way_runs (g : Msk m) (h : Int) {j : Nat} (hj : j ≤ m) : ∃ n, n ≤ m + 12 ∧ runI m (SetTable.bits h) n = j :=
  let ⟨k, a, b⟩ := g.go _ j (runI_le m (SetTable.bits h) 12) hj
  ⟨12 + k, by omega, (runI_tail (bits_lt h) k).trans b⟩
theorem way_meets (g : Msk m) (h : Int) {j : Nat} (hj : j ≤ m) : ∃ k, k < 10 * SetTable.turns m ∧ way m h k = j := by
  obtain ⟨n, a, b⟩ := way_runs g h hj
  obtain ⟨k, c, d⟩ := run_nth m (SetTable.bits h) n
  refine ⟨k, by simp only [SetTable.turns]; omega, ?_⟩
  simp only [way, d]
  exact b
structure Lies (t : SetTable) (hs : List Int) : Prop where
  asc : Ris t.place.toList
  clear : t.dummies = #[]
  many : t.place.toList.length = hs.length
  msk : Msk t.mask
  low : ∀ x ∈ t.place.toList, x ≤ t.mask
  met : ∀ (i : Nat) (h : Int) (j : Nat), hs[i]? = some h → t.place.toList[i]? = some j → ∃ k, way t.mask h k = j ∧ ∀ q, q < k → way t.mask h q ∈ t.place.toList
def Free (t : SetTable) (h : Int) (K : Nat) : Prop := way t.mask h K ∉ t.place.toList ∧ ∀ q, q < K → way t.mask h q ∈ t.place.toList
section
variable {t : SetTable} {hs : List Int}
theorem Lies.free (T : Lies t hs) (hl : hs.length ≤ t.mask) (h : Int) : ∃ K, K < 10 * SetTable.turns t.mask ∧ Free t h K := by
  obtain ⟨j, hj, hn⟩ := st_missing t.place.toList (t.mask + 1) (by have := T.many; omega)
  obtain ⟨k, hk, e⟩ := way_meets T.msk h (Nat.le_of_lt_succ hj)
  obtain ⟨K, a, b, c⟩ := st_least (p := fun k => way t.mask h k ∉ t.place.toList) k (fun z => hn (e ▸ z))
  exact ⟨K, Nat.lt_of_le_of_lt a hk, b, fun q hq => Classical.not_not.mp (c q hq)⟩
abbrev putIn {α : Type} (l : List α) (p : Nat) (x : α) : List α := l.take p ++ x :: l.drop p
theorem Lies.put (T : Lies t hs) {h : Int} {K : Nat} (f : Free t h K) :
    SetTable.below t.place (way t.mask h K) ≤ hs.length ∧ Lies (t.put (way t.mask h K)).1 (putIn hs (SetTable.below t.place (way t.mask h K)) h) ∧ (t.put (way t.mask h K)).1.fill = hs.length + 1 := by
  have hp := (below_cut T.asc (way t.mask h K)).1
  have hn : t.place[SetTable.below t.place (way t.mask h K)]? ≠ some (way t.mask h K) := fun e => f.1 (List.mem_of_getElem? (by rw [Array.getElem?_toList]; exact e))
  have hq : SetTable.below t.place (way t.mask h K) ≤ t.place.toList.length := by rw [Array.length_toList]; exact hp
  have hh : SetTable.below t.place (way t.mask h K) ≤ hs.length := by have := T.many; omega
  have pl := put_place t (way t.mask h K)
  have len1 : (t.put (way t.mask h K)).1.place.toList.length = hs.length + 1 := by rw [pl, len_ins _ hq, T.many]
  have inn : ∀ {x}, x ∈ t.place.toList → x ∈ (t.put (way t.mask h K)).1.place.toList := fun {x} z => by
    rw [pl]
    exact mem_ins.mpr (.inr z)
  refine ⟨hh, ⟨ris_insert T.asc hn, put_dm T.clear _, by rw [len1, len_ins _ hh], T.msk, fun x z => ?_, fun i g j a b => ?_⟩, ?_⟩
  · rw [pl] at z
    rcases mem_ins.mp z with e | z
    · rw [e]; exact way_in h K
    · exact T.low x z
  · rw [tins_get hs hh] at a
    rw [pl, tins_get _ hq] at b
    have old : ∀ i', hs[i']? = some g → t.place.toList[i']? = some j → ∃ k, way t.mask g k = j ∧ ∀ q, q < k → way t.mask g q ∈ (t.put (way t.mask h K)).1.place.toList := fun i' a b => by
      obtain ⟨k, c, d⟩ := T.met i' g j a b
      exact ⟨k, c, fun q hq => inn (d q hq)⟩
    split at a
    · rw [if_pos (by assumption)] at b
      exact old i a b
    · rw [if_neg (by assumption)] at b
      split at a
      · rw [if_pos (by assumption)] at b
        injection a with a
        injection b with b
        subst a
        subst b
        exact ⟨K, rfl, fun q hq => inn (f.2 q hq)⟩
      · rw [if_neg (by assumption)] at b
        exact old (i - 1) a b
  · simp only [SetTable.fill]
    rw [← Array.length_toList, len1, put_dm T.clear]
    rfl
end
end ST
namespace ST
open PySem PySem.Spec PyProof.Rows L2
abbrev Ks := List L2.Key
abbrev hM (P : Program) (w : World) (k : Ks) : Int := tupleKeyHash (mixKind P w) k
abbrev IsM (P : Program) (w : World) (h : Heap) (k : Ks) (a : Addr) : Prop := IsTupleKey (mixKind P w) h k a
section
variable {P : Program} {w : World} {A : Around} {E : Value → Shared → Prop} {s : Shared}
def rowsM (P : Program) (w : World) (L : List (Addr × Ks)) : List (Int × Value) := L.map fun p => (hM P w p.2, Value.ref p.1)
abbrev hsM (P : Program) (w : World) (L : List (Addr × Ks)) : List Int := L.map fun p => hM P w p.2
def masks (m : Nat) : Prop := m = 7 ∨ m = 31 ∨ m = 127 ∨ m = 511 ∨ m = 2047
theorem masks.msk {m : Nat} (h : masks m) : Msk m := by
  rcases h with rfl | rfl | rfl | rfl | rfl
  · exact m7
  · exact m31
  · exact m127
  · exact m511
  · exact m2047
structure SM (P : Program) (w : World) (h : Heap) (a : Addr) (L : List (Addr × Ks)) (es : Array (Int × Value)) (ep : Nat) (t : SetTable) : Prop where
  ob : ∃ o, h.get? a = some o ∧ o.ExactSet ∧ o.data = .set es ep t
  row : es.toList = rowsM P w L
  lie : Lies t (hsM P w L)
  msk : masks t.mask
  nd : (L.map (·.2)).Nodup
  tup : ∀ p ∈ L, IsM P w h p.2 p.1
  led : w.params.followText "set-order" = true ∨ t.led = true
  room : L.length * 5 < t.mask * 3
variable {a : Addr} {L : List (Addr × Ks)} {es : Array (Int × Value)} {ep : Nat} {t : SetTable}
theorem row_len (h : es.toList = rowsM P w L) : es.size = L.length := by
  have := congrArg List.length h
  simpa [rowsM] using this
theorem lie_fits (T : Lies t (hsM P w L)) (h : es.toList = rowsM P w L) (hl : L.length ≤ t.mask) : t.fits es.size = true := by
  have m := T.many
  have e := row_len h
  simp only [hsM, List.length_map, Array.length_toList] at m
  simp only [SetTable.fits, SetTable.fill, T.clear, Bool.and_eq_true, beq_iff_eq, decide_eq_true_eq, List.size_toArray, List.length_nil]
  omega
theorem SM.fits (R : SM P w s.heap a L es ep t) : t.fits es.size = true := lie_fits R.lie R.row (by have := R.room; omega)
end
end ST
namespace ST
open PySem PySem.Spec PyProof.Rows L2
end ST
namespace ST
open PySem PySem.Spec PyProof.Rows L2
structure Took (ks : List (Addr × Ks)) (i : Nat) (L : List (Addr × Ks)) : Prop where
  src : ∀ p ∈ L, p ∈ ks.take i
  all : ∀ p ∈ ks.take i, p.2 ∈ L.map (·.2)
  few : L.length ≤ i
section
variable {P : Program} {w : World} {A : Around} {E : Value → Shared → Prop} {s : Shared}
theorem Took.next {ks L L' : List (Addr × Ks)} {i : Nat} {x : Addr × Ks} (g : Took ks i L) (h : ks[i]? = some x) (c1 : x.2 ∈ L.map (·.2) → L' = L) (c2 : x.2 ∉ L.map (·.2) → L'.Perm (x :: L)) : Took ks (i + 1) L' := by
  have tn : ks.take (i + 1) = ks.take i ++ [x] := by rw [List.take_succ, h]; rfl
  by_cases c : x.2 ∈ L.map (·.2)
  · rw [c1 c]
    refine ⟨fun p hp => by rw [tn]; exact List.mem_append_left _ (g.src p hp), fun p hp => ?_, Nat.le_succ_of_le g.few⟩
    rw [tn, List.mem_append, List.mem_singleton] at hp
    rcases hp with hp | rfl
    · exact g.all p hp
    · exact c
  · have pm := c2 c
    refine ⟨fun p hp => ?_, fun p hp => ?_, by rw [pm.length_eq]; exact Nat.succ_le_succ g.few⟩
    · rw [tn, List.mem_append, List.mem_singleton]
      rcases List.mem_cons.mp (pm.mem_iff.mp hp) with e | hp
      · exact .inr e
      · exact .inl (g.src p hp)
    · rw [(pm.map (·.2)).mem_iff, List.map_cons]
      rw [tn, List.mem_append, List.mem_singleton] at hp
      rcases hp with hp | rfl
      · exact List.mem_cons_of_mem _ (g.all p hp)
      · exact List.mem_cons_self
theorem SM.keep {h h' : Heap} {a : Addr} {L : List (Addr × Ks)} {es : Array (Int × Value)} {ep : Nat} {t : SetTable} (R : SM P w h a L es ep t) (ha : ∀ o, h.get? a = some o → h'.get? a = some o) (ht : ∀ p ∈ L, IsM P w h' p.2 p.1) :
    SM P w h' a L es ep t :=
  let ⟨o, ho, r⟩ := R.ob
  ⟨⟨o, ha o ho, r⟩, R.row, R.lie, R.msk, R.nd, ht, R.led, R.room⟩
abbrev bare (w : World) : Obj := { cls := .type "set", dict := none, data := .set #[] 0 (.fresh 0 0 (!w.params.followText "set-order")) }
theorem SM.new {h : Heap} {a : Addr} (ho : h.get? a = some (bare w)) : SM P w h a [] #[] 0 (.fresh 0 0 (!w.params.followText "set-order")) where
  ob := ⟨_, ho, ⟨rfl, rfl, rfl⟩, rfl⟩
  row := rfl
  lie := ⟨List.Pairwise.nil, rfl, rfl, m7, fun x hx => (by cases hx), fun i h j hi => (by simp [hsM] at hi)⟩
  msk := .inl rfl
  nd := List.nodup_nil
  tup := fun p hp => (by cases hp)
  led := by
    cases e : w.params.followText "set-order"
    · exact .inr rfl
    · exact .inl rfl
  room := by simp [SetTable.fresh]
set_option maxHeartbeats 3200000 in
end
end ST
namespace ST
open PySem PySem.Spec PyProof.Rows L2
section
variable {P : Program} {w : World} {A : Around} {E : Value → Shared → Prop} {s : Shared}
set_option maxHeartbeats 3200000 in
end
end ST
namespace ST
open PySem PySem.Spec PyProof.Rows L2
end ST
namespace ST
open PySem PySem.Spec PyProof.Rows L2
structure SM0 (P : Program) (w : World) (h : Heap) (a : Addr) (L : List (Addr × Ks)) : Prop where
  ex : ∃ (es : Array (Int × Value)) (ep : Nat) (t : SetTable), (∃ o, h.get? a = some o ∧ o.ExactSet ∧ o.data = .set es ep t) ∧ es.toList = rowsM P w L ∧ Lies t (hsM P w L) ∧ masks t.mask ∧ (L.map (·.2)).Nodup ∧
    (w.params.followText "set-order" = true ∨ t.led = true) ∧ L.length * 5 < t.mask * 3
section
variable {P : Program} {w : World} {h : Heap} {a : Addr} {L : List (Addr × Ks)}
theorem SM.m0 {es : Array (Int × Value)} {ep : Nat} {t : SetTable} (R : SM P w h a L es ep t) : SM0 P w h a L := ⟨es, ep, t, R.ob, R.row, R.lie, R.msk, R.nd, R.led, R.room⟩
end
end ST
namespace DL
open PySem PySem.Spec PyProof.Rows L2 LamX ST
noncomputable def dd : List KL → List KL
  | [] => []
  | a :: r => if dec (a ∈ r) = true then dd r else a :: dd r
end DL
namespace ST
open PySem PySem.Spec PyProof.Rows L2
end ST
namespace DL
open PySem PySem.Spec PyProof.Rows L2 LamX ST
end DL
namespace ST
open PySem PySem.Spec PyProof.Rows L2
section
theorem SM0.to {P : Program} {w : World} {h h' : Heap} {a : Addr} {L : List (Addr × Ks)} (R : SM0 P w h a L) (k : ∀ o, h.get? a = some o → h'.get? a = some o) : SM0 P w h' a L := by
  obtain ⟨es, ep, t, ⟨o, ho, r⟩, q⟩ := R.ex
  exact ⟨es, ep, t, ⟨o, k o ho, r⟩, q⟩
theorem SM0.obj {P : Program} {w : World} {h : Heap} {a : Addr} {L : List (Addr × Ks)} (R : SM0 P w h a L) : ∃ o, h.get? a = some o ∧ ∀ v, o.data ≠ .cell v := by
  obtain ⟨es, ep, t, ⟨o, ho, _, r⟩, q⟩ := R.ex
  exact ⟨o, ho, fun v z => by rw [r] at z; cases z⟩
end
end ST
namespace DL
open PySem PySem.Spec PyProof.Rows L2 LamX ST
end DL
namespace DL
open PySem PySem.Spec PyProof.Rows L2 LamX ST
noncomputable def addK (acc : List KL) (k : KL) : List KL := if dec (k ∈ acc) = true then acc else k :: acc
theorem addK_in {acc : List KL} {k : KL} (h : k ∈ acc) : addK acc k = acc := if_pos (dec_iff.mpr h)
theorem addK_out {acc : List KL} {k : KL} (h : k ∉ acc) : addK acc k = k :: acc := if_neg fun z => h (dec_iff.mp z)
section
variable {G : Sg} {X : Cx} {W : WX} {H : Hp} {ι : Io} {pos : Pos} {P : Program} {w : World}
def InS (H : Hp) (ys : List KL) (L : List (Addr × KL)) : Prop := (L.map (·.2)).Perm ys ∧ ∀ p ∈ L, H p.1 = some (.tup (p.2.map kV))
theorem InS.ext {H' : Hp} {ι' : Io} {M : Mem} {ys : List KL} {L : List (Addr × KL)} (h : InS H ys L) (hr : HRel G H ι M) (x : ExtW H ι H' ι') : InS H' ys L :=
  ⟨h.1, fun p hp => x.keep p.1 _ (hr.tupOut (.inl (h.2 p hp))) (fun _ z => by cases z) (h.2 p hp)⟩
theorem InS.add {ys : List KL} {L L' : List (Addr × KL)} {k : KL} {b : Addr} (h : InS H ys L) (hb : H b = some (.tup (k.map kV))) (c1 : k ∈ L.map (·.2) → L' = L) (c2 : k ∉ L.map (·.2) → L'.Perm ((b, k) :: L)) : InS H (addK ys k) L' := by
  by_cases hk : k ∈ L.map (·.2)
  · rw [c1 hk, addK_in (h.1.mem_iff.mp hk)]
    exact h
  · rw [addK_out fun z => hk (h.1.mem_iff.mpr z)]
    have q := c2 hk
    have q2 : (L'.map (·.2)).Perm (k :: L.map (·.2)) := q.map (·.2)
    refine ⟨q2.trans (List.Perm.cons k h.1), fun p hp => ?_⟩
    rcases List.mem_cons.mp (q.mem_iff.mp hp) with rfl | hp
    · exact hb
    · exact h.2 p hp
end
end DL
namespace DL
open PySem PySem.Spec PyProof.Rows L2 LamX
end DL
namespace L10
open PySem PySem.Spec PyProof.Rows L2 DL LamX
def tb_BadEntry : List (Nat × Bool) := [(1, false), (2, true), (3, false)]
def tx_BeltError : List (Nat × Bool) := [(1, true), (2, true), (3, true)]
def tab_PLACES : List (Str × D) := [("set", (.ktu ["made", "written"])), ("sum", (.ktu ["used", "made", "written"])), ("mul", (.ktu ["used", "made", "written"])), ("load", (.ktu ["used", "fetched", "written"])), ("store", (.ktu ["used a", "used b", "put"])), ("zero", (.ktu ["used", "decided"])), ("go", (.ktu ["decided"])), ("out", (.ktu ["used", "shown"]))]
noncomputable def m_is_whole : S := (sRet (eAnd (eIsi "int" (eV 0)) (eNot (eIsi "bool" (eV 0)))))
noncomputable def f_is_whole : List D → Mem → Out D := runS 0 m_is_whole
noncomputable def m_is_within : S := (sRet (eAnd (eCall f_is_whole (aCons (eV 0) aNil)) (eChain dLe dLe (eV 1) (eV 0) (eV 2))))
noncomputable def f_is_within : List D → Mem → Out D := runS 0 m_is_within
noncomputable def m_are_ascending : S := (sRet (eAllG [1, 2] (iZip (aCons (eV 0) (aCons (eSl (eV 0) (oSome (eC (.int 1))) oNone) aNil))) (gTupD 2 (gCons0 (gN 1) (gCons0 (gN 2) gNil0))) (eBin dLtK (eV 1) (eV 2))))
noncomputable def f_are_ascending : List D → Mem → Out D := runS 2 m_are_ascending
noncomputable def m_is_place : S := (sRet (eCall f_is_within (aCons (eV 0) (aCons (eC (.int 0)) (aCons (eC (.int 7)) aNil)))))
noncomputable def f_is_place : List D → Mem → Out D := runS 0 m_is_place
noncomputable def m_is_row : S := (sSeq (sIf (tOrE (tNotE (tTr (eIsi "tuple" (eV 0)))) (tOf (eBin dNe (eCall fLen (aCons (eV 0) aNil)) (eV 1)))) (sRet (eC (.bl false))) sNx)
  (sRet (eAll 2 (iSeq (eV 0)) (eCall f_is_place (aCons (eV 2) aNil)))))
noncomputable def f_is_row : List D → Mem → Out D := runS 1 m_is_row
noncomputable def m_in_order : S := (sSeq (sIf (tOf (eBin dEq (eV 0) (eC (.str "go")))) (sRet (eC (.bl true))) sNx)
  (sSeq (sIf (tOf (eBin dEq (eV 0) (eC (.str "set")))) (sSeq (sAsg (eV 1) (gTupD 2 (gCons0 (gN 3) (gCons0 (gN 4) gNil0))))
  (sRet (eAnd (eBin dLt (eV 3) (eV 4)) (eBin dLt (eV 2) (eV 4))))) sNx)
  (sSeq (sIf (tOf (eBin dEq (eV 0) (eC (.str "store")))) (sSeq (sAsg (eV 1) (gTupD 3 (gCons0 (gN 5) (gCons0 (gN 6) (gCons0 (gN 7) gNil0)))))
  (sRet (eAnd (eChain dLe dLt (eV 2) (eV 5) (eV 7)) (eChain dLe dLt (eV 2) (eV 6) (eV 7))))) sNx)
  (sSeq (sIf (tOf (eBin dIn (eV 0) (eTup (aCons (eC (.str "zero")) (aCons (eC (.str "out")) aNil))))) (sSeq (sAsg (eV 1) (gTupD 2 (gCons0 (gN 8) (gCons0 (gN 9) gNil0))))
  (sRet (eChain dLe dLe (eV 2) (eV 8) (eV 9)))) sNx)
  (sSeq (sAsg (eV 1) (gTupD 3 (gCons0 (gN 8) (gCons0 (gN 3) (gCons0 (gN 4) gNil0)))))
  (sRet (eChain3 dLe dLe dLt (eV 2) (eV 8) (eV 3) (eV 4))))))))
noncomputable def f_in_order : List D → Mem → Out D := runS 7 m_in_order
noncomputable def m_are_places : S := (sSeq (sIf (tOrE (tNotE (tTr (eIsi "tuple" (eV 0)))) (tOf (eBin dNe (eCall fLen (aCons (eV 0) aNil)) (eCall fLen (aCons (eC (.ktu ["set", "sum", "mul", "load", "store", "zero", "go", "out"])) aNil))))) (sRet (eC (.bl false))) sNx)
  (sSeq (sFor (iZip (aCons (eC (.ktu ["set", "sum", "mul", "load", "store", "zero", "go", "out"])) (aCons (eV 0) aNil))) (gTupD 2 (gCons0 (gN 2) (gCons0 (gN 3) gNil0))) (sIf (tOrE (tNotE (tTr (eCall f_is_row (aCons (eV 3) (aCons (eCall fLen (aCons (eTabIx tab_PLACES (eV 2)) aNil)) aNil))))) (tNotE (tTr (eCall f_in_order (aCons (eV 2) (aCons (eV 3) (aCons (eV 1) aNil))))))) (sRet (eC (.bl false))) sNx))
  (sRet (eC (.bl true)))))
noncomputable def f_are_places : List D → Mem → Out D := runS 2 m_are_places
noncomputable def m_is_path : S := (sRet (eAnd (eCall f_is_row (aCons (eV 0) (aCons (eC (.int 2)) aNil))) (eBin dLt (eBin dIx (eV 0) (eC (.int 1))) (eBin dIx (eV 0) (eC (.int 0))))))
noncomputable def f_is_path : List D → Mem → Out D := runS 0 m_is_path
noncomputable def m_are_paths : S := (sSeq (sIf (tNotE (tTr (eIsi "tuple" (eV 0)))) (sRet (eC (.bl false))) sNx)
  (sRet (eAnd (eAll 1 (iSeq (eV 0)) (eCall f_is_path (aCons (eV 1) aNil))) (eCall f_are_ascending (aCons (eV 0) aNil)))))
noncomputable def f_are_paths : List D → Mem → Out D := runS 1 m_are_paths
noncomputable def m_is_pair_told : S := (sSeq (sIf (tOf (eBin dEq (eCall fLen (aCons (eV 0) aNil)) (eC (.int 4)))) (sRet (eAnd (eBin dEq (eBin dIx (eV 0) (eC (.int 0))) (eC (.str "value"))) (eAnd (eBin dInU (eBin dIx (eV 0) (eC (.int 1))) (eC (.ktu ["set", "sum", "mul", "load"]))) (eBin dInU (eSl (eV 0) (oSome (eC (.int 2))) oNone) (eC (.ctu [(.ctu [(.str "sum"), (.str "a")]), (.ctu [(.str "mul"), (.str "a")]), (.ctu [(.str "load"), (.str "a")]), (.ctu [(.str "store"), (.str "a")]), (.ctu [(.str "store"), (.str "b")]), (.ctu [(.str "zero"), (.str "a")]), (.ctu [(.str "out"), (.str "a")])])))))) sNx)
  (sSeq (sIf (tOf (eBin dNe (eCall fLen (aCons (eV 0) aNil)) (eC (.int 3)))) (sRet (eC (.bl false))) sNx)
  (sSeq (sAsg (eV 0) (gTupD 3 (gCons0 (gN 1) (gCons0 (gN 2) (gCons0 (gN 3) gNil0)))))
  (sSeq (sIf (tOf (eBin dEq (eV 1) (eC (.str "order")))) (sRet (eAnd (eBin dInU (eV 2) (eC (.ktu ["set", "sum", "mul", "load"]))) (eBin dInU (eV 3) (eC (.ktu ["set", "sum", "mul", "load"]))))) sNx)
  (sSeq (sIf (tOf (eBin dEq (eV 1) (eC (.str "memory")))) (sRet (eBin dInU (eTup (aCons (eV 2) (aCons (eV 3) aNil))) (eC (.ctu [(.ctu [(.str "store"), (.str "load")]), (.ctu [(.str "load"), (.str "store")])])))) sNx)
  (sRet (eAnd (eBin dEq (eV 1) (eC (.str "wrong"))) (eAnd (eBin dInU (eV 2) (eC (.ktu ["zero", "go"]))) (eBin dInU (eV 3) (eC (.ktu ["set", "sum", "mul", "load", "store", "out"])))))))))))
noncomputable def f_is_pair_told : List D → Mem → Out D := runS 3 m_is_pair_told
noncomputable def m_is_entry : S := (sSeq (sIf (tOrE (tNotE (tTr (eIsi "tuple" (eV 0)))) (tOf (eBin dEq (eCall fLen (aCons (eV 0) aNil)) (eC (.int 0))))) (sRet (eC (.bl false))) sNx)
  (sSeq (sIf (tNotE (tTr (eCall f_is_within (aCons (eBin dIx (eV 0) (eUn dNeg (eC (.int 1)))) (aCons (eC (.int 1)) (aCons (eC (.int 7)) aNil)))))) (sRet (eC (.bl false))) sNx)
  (sRet (eCall f_is_pair_told (aCons (eSl (eV 0) oNone (oSome (eUn dNeg (eC (.int 1))))) aNil)))))
noncomputable def f_is_entry : List D → Mem → Out D := runS 0 m_is_entry
noncomputable def m_are_waits : S := (sSeq (sIf (tNotE (tTr (eIsi "tuple" (eV 0)))) (sRet (eC (.bl false))) sNx)
  (sRet (eAnd (eAll 1 (iSeq (eV 0)) (eCall f_is_entry (aCons (eV 1) aNil))) (eCall f_are_ascending (aCons (eV 0) aNil)))))
noncomputable def f_are_waits : List D → Mem → Out D := runS 1 m_are_waits
noncomputable def m_is_design : S := (sSeq (sIf (tOrE (tNotE (tTr (eIsi "tuple" (eV 0)))) (tOf (eBin dNe (eCall fLen (aCons (eV 0) aNil)) (eC (.int 5))))) (sRet (eC (.bl false))) sNx)
  (sSeq (sAsg (eV 0) (gTupD 5 (gCons0 (gN 1) (gCons0 (gN 2) (gCons0 (gN 3) (gCons0 (gN 4) (gCons0 (gN 5) gNil0)))))))
  (sRet (eAnd (eCall f_is_place (aCons (eV 1) aNil)) (eAnd (eIsi "bool" (eV 2)) (eAnd (eCall f_are_places (aCons (eV 3) (aCons (eV 1) aNil))) (eAnd (eCall f_are_paths (aCons (eV 4) aNil)) (eCall f_are_waits (aCons (eV 5) aNil)))))))))
noncomputable def f_is_design : List D → Mem → Out D := runS 5 m_is_design
noncomputable def m_check_design : S := (sIf (tNotE (tTr (eCall f_is_design (aCons (eV 0) aNil)))) (sRaise 1 (aCons (eC (.str "no design")) aNil)) sNx)
noncomputable def f_check_design : List D → Mem → Out D := runS 0 m_check_design
noncomputable def m_check_entry : S := (sIf (tNotE (tTr (eCall f_is_entry (aCons (eV 0) aNil)))) (sRaise 2 (aCons (eC (.str "no entry")) aNil)) sNx)
noncomputable def f_check_entry : List D → Mem → Out D := runS 0 m_check_entry
noncomputable def m_is_open : S := (sSeq (sEx (eCall f_check_design (aCons (eV 0) aNil)))
  (sSeq (sEx (eCall f_check_entry (aCons (eV 1) aNil)))
  sUn))
noncomputable def f_is_open : List D → Mem → Out D := runS 0 m_is_open
noncomputable def m_shown : S := (sSeq (sEx (eCall f_check_design (aCons (eV 0) aNil)))
  (sSeq (sEx (eCall f_check_entry (aCons (eV 1) aNil)))
  (sSeq sUn
  sUn)))
noncomputable def f_shown : List D → Mem → Out D := runS 0 m_shown
noncomputable def m_distance : S := (sSeq (sEx (eCall f_check_design (aCons (eV 0) aNil)))
  (sSeq (sEx (eCall f_check_entry (aCons (eV 1) aNil)))
  (sSeq sUn
  sUn)))
noncomputable def f_distance : List D → Mem → Out D := runS 0 m_distance
noncomputable def m__law_taken : S := (sSeq (sIf (tOf (eBin dGt (eBin dIx (eV 0) (eC (.int 3))) (eC (.int 0)))) (sSeq (sSet 2 (eBin dMod (eCall fInt (aCons (eBin dIx (eV 0) (eC (.int 3))) aNil)) (eV 1)))
  (sSeq (sPut (eV 0) (eC (.int 3)) (eBin dFdiv (eBin dIx (eV 0) (eC (.int 3))) (eV 1)))
  (sRet (eV 2)))) sNx)
  (sSeq (sPut (eV 0) (eC (.int 1)) (eBin dAdd (eBin dIx (eV 0) (eC (.int 1))) (eC (.int 1))))
  (sSeq (sIf (tOf (eBin dGt (eBin dIx (eV 0) (eC (.int 1))) (eCall fLen (aCons (eBin dIx (eV 0) (eC (.int 0))) aNil)))) (sSeq (sPut (eV 0) (eC (.int 2)) (eBin dMod (eCall fInt (aCons (eBin dAdd (eBin dMul (eBin dIx (eV 0) (eC (.int 2))) (eC (.int 48271))) (eC (.int 11))) aNil)) (eC (.int 2147483647))))
  (sRet (eBin dMod (eCall fInt (aCons (eBin dFdiv (eBin dIx (eV 0) (eC (.int 2))) (eC (.int 7))) aNil)) (eV 1)))) sNx)
  (sSeq (sSet 3 (eBin dIx (eBin dIx (eV 0) (eC (.int 0))) (eBin dSub (eBin dIx (eV 0) (eC (.int 1))) (eC (.int 1)))))
  (sSeq (sPut (eV 0) (eC (.int 2)) (eBin dMod (eCall fInt (aCons (eBin dAdd (eBin dAdd (eBin dMul (eBin dIx (eV 0) (eC (.int 2))) (eC (.int 48271))) (eV 3)) (eC (.int 11))) aNil)) (eC (.int 2147483647))))
  (sSeq (sIf (tOf (eBin dGe (eV 3) (eBin dPow (eC (.int 10)) (eC (.int 18))))) (sPut (eV 0) (eC (.int 3)) (eBin dFdiv (eV 3) (eV 1))) sNx)
  (sRet (eBin dMod (eCall fInt (aCons (eV 3) aNil)) (eV 1)))))))))
noncomputable def f__law_taken : List D → Mem → Out D := runS 2 m__law_taken
noncomputable def m__law_pick : S := (sRet (eBin dIx (eV 1) (eCall f__law_taken (aCons (eV 0) (aCons (eCall fLen (aCons (eV 1) aNil)) aNil)))))
noncomputable def f__law_pick : List D → Mem → Out D := runS 0 m__law_pick
noncomputable def m__law_alike (rec : List D → Mem → Out D) : S := (sSeq (sIf (tTr (eIsi2 "tuple" "list" (eV 1))) (sSeq (sIf (tOrE (tNotE (tTr (eIsi2 "tuple" "list" (eV 0)))) (tOf (eBin dNe (eIsi "list" (eV 0)) (eIsi "list" (eV 1))))) (sRet (eC (.bl false))) sNx)
  (sSeq (sIf (tOf (eBin dNe (eCall fLen (aCons (eV 0) aNil)) (eCall fLen (aCons (eV 1) aNil)))) (sRet (eC (.bl false))) sNx)
  (sRet (eBin dEq (eLc [2] (iRange (aCons (eCall fLen (aCons (eV 1) aNil)) aNil)) (gN 2) (tNotE (tTr (eCall rec (aCons (eBin dIx (eV 0) (eV 2)) (aCons (eBin dIx (eV 1) (eV 2)) aNil))))) (eV 2)) (eLst aNil))))) sNx)
  (sSeq (sIf (tOrE (tOf (eBin dIs (eV 1) (eC .non))) (tTr (eIsi "str" (eV 1)))) (sRet (eAnd (eBin dEq (eV 0) (eV 1)) (eBin dEq (eIsi "str" (eV 0)) (eIsi "str" (eV 1))))) sNx)
  (sRet (eAnd (eIsi "int" (eV 0)) (eAnd (eBin dEq (eIsi "bool" (eV 0)) (eIsi "bool" (eV 1))) (eBin dEq (eV 0) (eV 1)))))))
noncomputable def f__law_alike : Nat → List D → Mem → Out D
  | 0 => fun _ _ => .undef
  | n + 1 => runS 1 (m__law_alike (f__law_alike n))
noncomputable def m__law_up : S := (sRet (eCall fMin (aCons (eV 2) (aCons (eBin dAdd (eV 1) (eCall f__law_taken (aCons (eV 0) (aCons (eC (.int 3)) aNil)))) aNil))))
noncomputable def f__law_up : List D → Mem → Out D := runS 0 m__law_up
noncomputable def m__law_design : S := (sSeq (sSet 1 (eCall f__law_taken (aCons (eV 0) (aCons (eC (.int 3)) aNil))))
  (sSeq (sSet 2 (eCall f__law_taken (aCons (eV 0) (aCons (eC (.int 3)) aNil))))
  (sSeq (sSet 3 (eMut (aCons (eTup (aCons (eV 2) (aCons (eCall f__law_up (aCons (eV 0) (aCons (eBin dAdd (eCall fMax (aCons (eV 2) (aCons (eV 1) aNil))) (eC (.int 1))) (aCons (eC (.int 7)) aNil)))) aNil))) aNil)))
  (sSeq (sFor (iSeq (eLst (aCons (eC (.str "sum")) (aCons (eC (.str "mul")) (aCons (eC (.str "load")) aNil))))) (gN 4) (sSeq (sSet 5 (eCall f__law_up (aCons (eV 0) (aCons (eV 1) (aCons (eC (.int 5)) aNil)))))
  (sSeq (sSet 2 (eCall f__law_up (aCons (eV 0) (aCons (eV 5) (aCons (eC (.int 6)) aNil)))))
  (sApp (eV 3) (eTup (aCons (eV 5) (aCons (eV 2) (aCons (eCall f__law_up (aCons (eV 0) (aCons (eBin dAdd (eV 2) (eC (.int 1))) (aCons (eC (.int 7)) aNil)))) aNil))))))))
  (sSeq (sPar 6 7 (aCons (eCall f__law_up (aCons (eV 0) (aCons (eV 1) (aCons (eC (.int 5)) aNil)))) (aCons (eCall f__law_up (aCons (eV 0) (aCons (eV 1) (aCons (eC (.int 5)) aNil)))) aNil)))
  (sSeq (sApp (eV 3) (eTup (aCons (eV 6) (aCons (eV 7) (aCons (eCall f__law_up (aCons (eV 0) (aCons (eBin dAdd (eCall fMax (aCons (eV 6) (aCons (eV 7) aNil))) (eC (.int 1))) (aCons (eC (.int 7)) aNil)))) aNil)))))
  (sSeq (sSet 5 (eCall f__law_up (aCons (eV 0) (aCons (eV 1) (aCons (eC (.int 5)) aNil)))))
  (sSeq (sApp (eV 3) (eTup (aCons (eV 5) (aCons (eCall f__law_up (aCons (eV 0) (aCons (eV 5) (aCons (eC (.int 7)) aNil)))) aNil))))
  (sSeq (sApp (eV 3) (eTup (aCons (eCall f__law_taken (aCons (eV 0) (aCons (eC (.int 4)) aNil))) aNil)))
  (sSeq (sSet 5 (eCall f__law_up (aCons (eV 0) (aCons (eV 1) (aCons (eC (.int 5)) aNil)))))
  (sSeq (sApp (eV 3) (eTup (aCons (eV 5) (aCons (eCall f__law_up (aCons (eV 0) (aCons (eV 5) (aCons (eC (.int 7)) aNil)))) aNil))))
  (sSeq (sSet 8 eNewT)
  (sSeq (sFor (iRange (aCons (eCall f__law_taken (aCons (eV 0) (aCons (eC (.int 10)) aNil))) aNil)) (gN 9) (sSeq (sSet 10 (eCall f__law_taken (aCons (eV 0) (aCons (eC (.int 5)) aNil))))
  (sTPut (eV 8) (aCons (eBin dAdd (eBin dAdd (eV 10) (eC (.int 1))) (eCall f__law_taken (aCons (eV 0) (aCons (eBin dSub (eC (.int 7)) (eV 10)) aNil)))) (aCons (eV 10) aNil)) (eC (.bl true)))))
  (sRet (eTup (aCons (eV 1) (aCons (eBin dEq (eCall f__law_taken (aCons (eV 0) (aCons (eC (.int 2)) aNil))) (eC (.int 0))) (aCons (eCall fTuple (aCons (eV 3) aNil)) (aCons (eCall fTuple (aCons (eCall fSortK (aCons (eV 8) aNil)) aNil)) (aCons (eTup aNil) aNil))))))))))))))))))))
noncomputable def f__law_design : List D → Mem → Out D := runS 10 m__law_design
noncomputable def m__law_entries : S := (sSeq (sPar 0 1 (aCons (eLst (aCons (eC (.str "set")) (aCons (eC (.str "sum")) (aCons (eC (.str "mul")) (aCons (eC (.str "load")) aNil))))) (aCons (eLst aNil) aNil)))
  (sSeq (sSet 2 (eLst (aCons (eTup (aCons (eC (.str "sum")) (aCons (eC (.str "a")) aNil))) (aCons (eTup (aCons (eC (.str "mul")) (aCons (eC (.str "a")) aNil))) (aCons (eTup (aCons (eC (.str "load")) (aCons (eC (.str "a")) aNil))) (aCons (eTup (aCons (eC (.str "store")) (aCons (eC (.str "a")) aNil))) (aCons (eTup (aCons (eC (.str "store")) (aCons (eC (.str "b")) aNil))) (aCons (eTup (aCons (eC (.str "zero")) (aCons (eC (.str "a")) aNil))) (aCons (eTup (aCons (eC (.str "out")) (aCons (eC (.str "a")) aNil))) aNil)))))))))
  (sSeq (sFor (iRange (aCons (eC (.int 1)) (aCons (eC (.int 8)) aNil))) (gN 3) (sSeq (sFor (iSeq (eV 0)) (gN 4) (sSeq (sSet 1 (eBin dAdd (eV 1) (eLc [5, 6] (iSeq (eV 2)) (gTupD 2 (gCons0 (gN 5) (gCons0 (gN 6) gNil0))) tTrue (eTup (aCons (eC (.str "value")) (aCons (eV 4) (aCons (eV 5) (aCons (eV 6) (aCons (eV 3) aNil)))))))))
  (sSet 1 (eBin dAdd (eV 1) (eLc [5] (iSeq (eV 0)) (gN 5) tTrue (eTup (aCons (eC (.str "order")) (aCons (eV 4) (aCons (eV 5) (aCons (eV 3) aNil))))))))))
  (sSeq (sSet 1 (eBin dAdd (eV 1) (eLst (aCons (eTup (aCons (eC (.str "memory")) (aCons (eC (.str "store")) (aCons (eC (.str "load")) (aCons (eV 3) aNil))))) (aCons (eTup (aCons (eC (.str "memory")) (aCons (eC (.str "load")) (aCons (eC (.str "store")) (aCons (eV 3) aNil))))) aNil)))))
  (sFor (iSeq (eLst (aCons (eC (.str "zero")) (aCons (eC (.str "go")) aNil)))) (gN 4) (sSet 1 (eBin dAdd (eV 1) (eLc [5] (iSeq (eBin dAdd (eV 0) (eLst (aCons (eC (.str "store")) (aCons (eC (.str "out")) aNil))))) (gN 5) tTrue (eTup (aCons (eC (.str "wrong")) (aCons (eV 4) (aCons (eV 5) (aCons (eV 3) aNil))))))))))))
  (sRet (eCall fSortE (aCons (eV 1) aNil))))))
noncomputable def f__law_entries : List D → Mem → Out D := runS 7 m__law_entries
noncomputable def sh__law_bad (y : XV) (a1 dx : Addr) : S := (sRet (eIsE (!y.fs.isEmpty) a1 dx (tb_BadEntry.lookup y.cls) 1))
noncomputable def mr__law_bad : S := (sRet (eC (.bl false)))
noncomputable def gm__law_bad : (Mem → Out D) → Mem → Out D := gCaught tx_BeltError 2 1 sh__law_bad mr__law_bad
noncomputable def th_law : Nat → E D
  | 0 => (eCall f_is_open (aCons (eV 8) (aCons (eV 7) aNil)))
  | 1 => (eCall f_shown (aCons (eV 8) (aCons (eV 7) aNil)))
  | 2 => (eCall f_distance (aCons (eV 8) (aCons (eV 7) aNil)))
  | _ => fun _ _ => .undef
def df_law : Nat → List V
  | 1 => [.int 0]
  | 2 => [.int 0]
  | _ => []
noncomputable def m_law : S := (sSeq (sSet 1 (eMut (aCons (eV 0) (aCons (eC (.int 0)) (aCons (eC (.int 14310)) (aCons (eC (.int 0)) aNil))))))
  (sSeq (sSet 2 (eCall f__law_pick (aCons (eV 1) (aCons (eCall f__law_entries aNil) aNil))))
  (sSeq (sIf (tOf (eBin dIsNotF (eCall f_is_entry (aCons (eV 2) aNil)) (eC (.bl true)))) (sRet (eC (.bl false))) sNx)
  (sSeq (sSet 3 (eCall f__law_taken (aCons (eV 1) (aCons (eCall fLen (aCons (eV 2) aNil)) aNil))))
  (sSeq (sSet 4 (eLst (aCons (eC (.str "value")) (aCons (eC (.str "order")) (aCons (eC (.str "memory")) (aCons (eC (.str "wrong")) (aCons (eC (.str "set")) (aCons (eC (.str "sum")) (aCons (eC (.str "load")) (aCons (eC (.str "store")) (aCons (eC (.str "zero")) (aCons (eC (.str "out")) (aCons (eC (.str "a")) (aCons (eC (.str "b")) (aCons (eC (.int 0)) (aCons (eC (.int 1)) (aCons (eC (.int 7)) (aCons (eC (.int 8)) (aCons (eC .non) (aCons (eC (.bl true)) aNil))))))))))))))))))))
  (sSeq (sSet 5 (eBin dAdd (eBin dAdd (eSl (eV 2) oNone (oSome (eV 3))) (eTup (aCons (eCall f__law_pick (aCons (eV 1) (aCons (eV 4) aNil))) aNil))) (eSl (eV 2) (oSome (eBin dAdd (eV 3) (eC (.int 1)))) oNone)))
  (sSeq (sIf (tNotE (tTr (eCall (f__law_alike 8) (aCons (eCall f_is_entry (aCons (eV 5) aNil)) (aCons (eAnd (eBin dInV (eV 5) (eCall f__law_entries aNil)) (eBin dIsNotF (eBin dIx (eV 5) (eUn dNeg (eC (.int 1)))) (eC (.bl true)))) aNil))))) (sRet (eC (.bl false))) sNx)
  (sSeq (sSet 6 (eLst (aCons (eC .non) (aCons (eTup aNil) (aCons (eSl (eV 2) oNone (oSome (eUn dNeg (eC (.int 1))))) (aCons (eBin dAdd (eV 2) (eTup (aCons (eC (.int 1)) aNil))) (aCons (eCall fList (aCons (eV 2) aNil)) (aCons (eTup (aCons (eC (.str "value")) (aCons (eC (.str "set")) (aCons (eC (.str "sum")) (aCons (eC (.str "b")) (aCons (eC (.int 1)) aNil)))))) (aCons (eTup (aCons (eC (.str "value")) (aCons (eC (.str "store")) (aCons (eC (.str "sum")) (aCons (eC (.str "a")) (aCons (eC (.int 1)) aNil)))))) aNil)))))))))
  (sSeq (sSet 6 (eBin dAdd (eV 6) (eLst (aCons (eTup (aCons (eC (.str "value")) (aCons (eC (.str "set")) (aCons (eC (.str "go")) (aCons (eC (.str "a")) (aCons (eC (.int 1)) aNil)))))) (aCons (eTup (aCons (eC (.str "order")) (aCons (eC (.str "store")) (aCons (eC (.str "set")) (aCons (eC (.int 1)) aNil))))) (aCons (eTup (aCons (eC (.str "memory")) (aCons (eC (.str "load")) (aCons (eC (.str "load")) (aCons (eC (.int 1)) aNil))))) (aCons (eTup (aCons (eC (.str "wrong")) (aCons (eC (.str "zero")) (aCons (eC (.str "go")) (aCons (eC (.int 1)) aNil))))) aNil)))))))
  (sSeq (sSet 6 (eBin dAdd (eV 6) (eLst (aCons (eTup (aCons (eC (.str "memory")) (aCons (eC (.str "store")) (aCons (eC (.str "store")) (aCons (eC (.int 1)) aNil))))) (aCons (eTup (aCons (eC (.str "order")) (aCons (eC (.str "set")) (aCons (eC (.str "sum")) (aCons (eC (.int 0)) aNil))))) (aCons (eTup (aCons (eC (.str "order")) (aCons (eC (.str "set")) (aCons (eC (.str "sum")) (aCons (eC (.int 8)) aNil))))) (aCons (eTup (aCons (eC (.str "wrong")) (aCons (eC (.str "out")) (aCons (eC (.str "set")) (aCons (eC (.int 1)) aNil))))) (aCons (eC (.int 7)) aNil))))))))
  (sSeq (sSet 7 (eBin dIx (eV 6) (eCall f__law_taken (aCons (eV 1) (aCons (eCall fLen (aCons (eV 6) aNil)) aNil)))))
  (sSeq (sSet 8 (eCall f__law_design (aCons (eV 1) aNil)))
  (sSeq (sSet 9 (eLst (aCons (eC (.clo 0)) (aCons (eC (.clo 1)) (aCons (eC (.clo 2)) aNil)))))
  (sRet (eAnd (eBin dIsF (eCall f_is_entry (aCons (eV 7) aNil)) (eC (.bl false))) (eClo (eBin dIx (eV 9) (eCall f__law_taken (aCons (eV 1) (aCons (eC (.int 3)) aNil)))) gm__law_bad th_law))))))))))))))))
end L10
namespace L10
open PySem PySem.Spec PyProof.Rows L2 DL LamX
def flatT : D → Bool
  | .non => true | .bl _ => true | .int _ => true | .str _ => true | .tup _ => true | .lst _ => true
  | _ => false
def isI : D → Bool
  | .int _ => true
  | _ => false
theorem is_whole_eq {d : D} (h : flatT d = true) (M : Mem) : f_is_whole [d] M = .ok (.bl (isI d)) M := by
  cases d <;> first
    | (cases h; done)
    | simp [f_is_whole, m_is_whole, isI]
def inI (lo hi : Int) : D → Bool
  | .int i => decide (lo ≤ i) && decide (i ≤ hi)
  | _ => false
theorem is_within_eq {d : D} {lo hi : Int} (h : flatT d = true) (M : Mem) : f_is_within [d, .int lo, .int hi] M = .ok (.bl (inI lo hi d)) M := by
  cases d with
  | int i =>
    by_cases h1 : lo ≤ i <;> simp [f_is_within, m_is_within, is_whole_eq h, isI, inI, h1]
  | mu _ => cases h
  | clo _ => cases h
  | fn _ => cases h
  | ob _ => cases h
  | obx _ _ => cases h
  | dk _ => cases h
  | rol _ => cases h
  | _ => simp [f_is_within, m_is_within, is_whole_eq h, isI, inI]
def rowO (xs : List Int) (i s r : Int) : MO := .lst [.rol (xs.map D.int), .int i, .int s, .int r]
theorem taken_ok {xs : List Int} {i s r many : Int} {Mt : Mem} (hi : 0 ≤ i) (h1 : 1 ≤ many) (h2 : many < 1073741824) : ∃ v i' s' r', 0 ≤ i' ∧ 0 ≤ v ∧ v < many ∧
    f__law_taken [.mu 0, .int many] (rowO xs i s r :: Mt) = .ok (.int v) (rowO xs i' s' r' :: Mt) := by
  have hm : cMul s 48271 = true := dec_iff.mpr (.inr (by omega))
  have h3 : 0 < many := by omega
  have md : ∀ z : Int, 0 ≤ z % many ∧ z % many < many := fun z => ⟨Int.emod_nonneg _ (by omega), Int.emod_lt_of_pos _ (by omega)⟩
  by_cases hr : 0 < r
  · refine ⟨r % many, i, s, r / many, hi, (md _).1, (md _).2, ?_⟩
    simp [f__law_taken, m__law_taken, rowO, hr, ixN, h3, h2]
  · by_cases hl : (xs.length : Int) < i + 1
    · refine ⟨((s * 48271 + 11) % 2147483647 / 7) % many, i + 1, (s * 48271 + 11) % 2147483647, r, by omega, (md _).1, (md _).2, ?_⟩
      simp [f__law_taken, m__law_taken, rowO, hr, ixN, h3, h2, hl, hm]
    · have hlt : i.toNat < xs.length := by omega
      have hg : xs[i.toNat]? = some xs[i.toNat] := List.getElem?_eq_getElem hlt
      have hat : atI (xs.map D.int) i = some (.int xs[i.toNat]) := by
        rw [atI_lt hi (by rw [List.length_map]; omega), List.getElem?_map, hg]
        rfl
      generalize xs[i.toNat] = c at hat
      by_cases hc : 1000000000000000000 ≤ c
      · refine ⟨c % many, i + 1, (s * 48271 + c + 11) % 2147483647, c / many, by omega, (md _).1, (md _).2, ?_⟩
        simp [f__law_taken, m__law_taken, rowO, hr, ixN, h3, h2, hl, hm, hat, hc]
      · refine ⟨c % many, i + 1, (s * 48271 + c + 11) % 2147483647, r, by omega, (md _).1, (md _).2, ?_⟩
        simp [f__law_taken, m__law_taken, rowO, hr, ixN, h3, h2, hl, hm, hat, hc]
def Row (xs : List Int) (o : MO) : Prop := ∃ i s r, 0 ≤ i ∧ o = rowO xs i s r
theorem taken_row {xs : List Int} {o : MO} {many : Int} (Mt : Mem) (h : Row xs o) (h1 : 1 ≤ many) (h2 : many < 1073741824) : ∃ v o', Row xs o' ∧ 0 ≤ v ∧ v < many ∧ f__law_taken [.mu 0, .int many] (o :: Mt) = .ok (.int v) (o' :: Mt) := by
  obtain ⟨i, s, r, hi, rfl⟩ := h
  obtain ⟨v, i', s', r', a1, a2, a3, a4⟩ := taken_ok (xs := xs) (s := s) (r := r) (Mt := Mt) hi h1 h2
  exact ⟨v, _, ⟨i', s', r', a1, rfl⟩, a2, a3, a4⟩
theorem pick_row {xs : List Int} {o : MO} {ks : List D} (Mt : Mem) (h : Row xs o) (h1 : 1 ≤ ks.length) (h2 : ks.length < 1000) : ∃ v o', Row xs o' ∧ v ∈ ks ∧ f__law_pick [.mu 0, .lst ks] (o :: Mt) = .ok v (o' :: Mt) := by
  obtain ⟨j, o', r', a1, a2, a3⟩ := taken_row (many := ks.length) Mt h (by omega) (by omega)
  have hl : j.toNat < ks.length := by omega
  refine ⟨ks[j.toNat], o', r', List.getElem_mem hl, ?_⟩
  simp [f__law_pick, m__law_pick, a3, atI_lt a1 a2, List.getElem?_eq_getElem hl]
def okD : Nat → D → Bool
  | _, .non => true
  | _, .bl _ => true
  | _, .int _ => true
  | _, .str x => PyData.strOk x
  | n + 1, .tup xs => decide (xs.length ≤ 1000000) && xs.all (okD n)
  | n + 1, .lst xs => decide (xs.length ≤ 1000000) && xs.all (okD n)
  | _, _ => false
theorem sl6 {n : Nat} (h : n ≤ 1000000) : n ≤ sizeLine := by
  have : sizeLine = 16777216 := rfl
  omega
theorem okD_len {n : Nat} {d : D} {xs : List D} (hd : d = .tup xs ∨ d = .lst xs) (h : okD n d = true) : xs.length ≤ 1000000 := by
  cases n with
  | zero => rcases hd with rfl | rfl <;> cases h
  | succ n =>
    have h' : (decide (xs.length ≤ 1000000) && xs.all (okD n)) = true := by rcases hd with rfl | rfl <;> exact h
    simp only [Bool.and_eq_true, decide_eq_true_eq] at h'
    exact h'.1
theorem okD_mem {n : Nat} {d : D} {xs : List D} (hd : d = .tup xs ∨ d = .lst xs) (h : okD (n + 1) d = true) : ∀ e ∈ xs, okD n e = true := by
  have h' : (decide (xs.length ≤ 1000000) && xs.all (okD n)) = true := by rcases hd with rfl | rfl <;> exact h
  simp only [Bool.and_eq_true, List.all_eq_true] at h'
  exact h'.2
theorem alike_step {n : Nat} {d : D} {M : Mem} {rec : List D → Mem → Out D} (h : okD n d = true) (hr : ∀ xs : List D, d = .tup xs ∨ d = .lst xs → ∀ e ∈ xs, rec [e, e] M = .ok (.bl true) M) : runS 1 (m__law_alike rec) [d, d] M = .ok (.bl true) M := by
  have seq : ∀ xs : List D, (∀ e ∈ xs, rec [e, e] M = .ok (.bl true) M) → ∀ (dd : D), (∀ k : Nat, k < xs.length → dIx M dd (.int k) = xs[k]?) →
      dLc (gN 2) (tNotE (tTr (eCall rec (aCons (eBin dIx (eV 0) (eV 2)) (aCons (eBin dIx (eV 1) (eV 2)) aNil))))) (eV 2) [some dd, some dd, none] ((List.range xs.length).map fun k => .int (k : Nat)) [] M = .ok [] M := by
    intro xs hrr dd hd
    refine dLc_none fun x hm => ?_
    obtain ⟨k, hk, rfl⟩ := List.mem_map.mp hm
    have hk : k < xs.length := List.mem_range.mp hk
    exact ⟨_, rfl, by simp [hd k hk, List.getElem?_eq_getElem hk, hrr _ (List.getElem_mem hk)]⟩
  cases d with
  | tup xs =>
    have hl : xs.length ≤ 1000000 := okD_len (.inl rfl) h
    have s := seq xs (hr xs (.inl rfl)) (.tup xs) (fun k hk => by rw [dIx_tup, atI_lt (by omega) (by omega)]; rfl)
    simp [m__law_alike, rangeK_1 (M := M) (show xs.length ≤ 1000000000 by omega), sl6 hl, wipeD, s]
  | lst xs =>
    have hl : xs.length ≤ 1000000 := okD_len (.inr rfl) h
    have s := seq xs (hr xs (.inr rfl)) (.lst xs) (fun k hk => by rw [dIx_lst, atI_lt (by omega) (by omega)]; rfl)
    simp [m__law_alike, rangeK_1 (M := M) (show xs.length ≤ 1000000000 by omega), sl6 hl, wipeD, s]
  | rol _ => cases n <;> cases h
  | ktu _ => cases n <;> cases h
  | ctu _ => cases n <;> cases h
  | mu _ => cases n <;> cases h
  | clo _ => cases n <;> cases h
  | fn _ => cases n <;> cases h
  | ob _ => cases n <;> cases h
  | obx _ _ => cases n <;> cases h
  | dk _ => cases n <;> cases h
  | str x =>
    have h : PyData.strOk x = true := by cases n <;> exact h
    simp [m__law_alike, h]
  | _ => simp [m__law_alike]
theorem alike_self : ∀ (n : Nat) (d : D) (M : Mem), okD n d = true → f__law_alike (n + 1) [d, d] M = .ok (.bl true) M
  | 0, d, M, h => alike_step (rec := f__law_alike 0) h fun xs hx => by rcases hx with rfl | rfl <;> cases h
  | n + 1, d, M, h => alike_step (rec := f__law_alike (n + 1)) h fun xs hx e he => alike_self n e M (okD_mem hx h e he)
theorem up_row {xs : List Int} {o : MO} {lo hi : Int} (Mt : Mem) (h : Row xs o) (hl : lo ≤ hi) : ∃ v o', Row xs o' ∧ lo ≤ v ∧ v ≤ hi ∧ f__law_up [.mu 0, .int lo, .int hi] (o :: Mt) = .ok (.int v) (o' :: Mt) := by
  obtain ⟨t, o', r, a1, a2, a3⟩ := taken_row (many := 3) Mt h (by omega) (by omega)
  refine ⟨if lo + t < hi then lo + t else hi, o', r, by split <;> omega, by split <;> omega, ?_⟩
  simp [f__law_up, m__law_up, a3, fMin]
end L10
namespace L10
open PySem PySem.Spec PyProof.Rows L2 DL LamX
noncomputable def d0 : S := (sSet 1 (eCall f__law_taken (aCons (eV 0) (aCons (eC (.int 3)) aNil))))
noncomputable def d1 : S := (sSet 2 (eCall f__law_taken (aCons (eV 0) (aCons (eC (.int 3)) aNil))))
noncomputable def d2 : S := (sSet 3 (eMut (aCons (eTup (aCons (eV 2) (aCons (eCall f__law_up (aCons (eV 0) (aCons (eBin dAdd (eCall fMax (aCons (eV 2) (aCons (eV 1) aNil))) (eC (.int 1))) (aCons (eC (.int 7)) aNil)))) aNil))) aNil)))
noncomputable def d3b0 : S := (sSet 5 (eCall f__law_up (aCons (eV 0) (aCons (eV 1) (aCons (eC (.int 5)) aNil)))))
noncomputable def d3b1 : S := (sSet 2 (eCall f__law_up (aCons (eV 0) (aCons (eV 5) (aCons (eC (.int 6)) aNil)))))
noncomputable def d3b2 : S := (sApp (eV 3) (eTup (aCons (eV 5) (aCons (eV 2) (aCons (eCall f__law_up (aCons (eV 0) (aCons (eBin dAdd (eV 2) (eC (.int 1))) (aCons (eC (.int 7)) aNil)))) aNil)))))
noncomputable def d3b : S := (sSeq d3b0 (sSeq d3b1 d3b2))
noncomputable def d3 : S := (sFor (iSeq (eLst (aCons (eC (.str "sum")) (aCons (eC (.str "mul")) (aCons (eC (.str "load")) aNil))))) (gN 4) d3b)
noncomputable def d4 : S := (sPar 6 7 (aCons (eCall f__law_up (aCons (eV 0) (aCons (eV 1) (aCons (eC (.int 5)) aNil)))) (aCons (eCall f__law_up (aCons (eV 0) (aCons (eV 1) (aCons (eC (.int 5)) aNil)))) aNil)))
noncomputable def d5 : S := (sApp (eV 3) (eTup (aCons (eV 6) (aCons (eV 7) (aCons (eCall f__law_up (aCons (eV 0) (aCons (eBin dAdd (eCall fMax (aCons (eV 6) (aCons (eV 7) aNil))) (eC (.int 1))) (aCons (eC (.int 7)) aNil)))) aNil)))))
noncomputable def d6 : S := (sSet 5 (eCall f__law_up (aCons (eV 0) (aCons (eV 1) (aCons (eC (.int 5)) aNil)))))
noncomputable def d7 : S := (sApp (eV 3) (eTup (aCons (eV 5) (aCons (eCall f__law_up (aCons (eV 0) (aCons (eV 5) (aCons (eC (.int 7)) aNil)))) aNil))))
noncomputable def d8 : S := (sApp (eV 3) (eTup (aCons (eCall f__law_taken (aCons (eV 0) (aCons (eC (.int 4)) aNil))) aNil)))
noncomputable def d9 : S := (sSet 5 (eCall f__law_up (aCons (eV 0) (aCons (eV 1) (aCons (eC (.int 5)) aNil)))))
noncomputable def d10 : S := (sApp (eV 3) (eTup (aCons (eV 5) (aCons (eCall f__law_up (aCons (eV 0) (aCons (eV 5) (aCons (eC (.int 7)) aNil)))) aNil))))
noncomputable def d11 : S := (sSet 8 eNewT)
noncomputable def d12b0 : S := (sSet 10 (eCall f__law_taken (aCons (eV 0) (aCons (eC (.int 5)) aNil))))
noncomputable def d12b1 : S := (sTPut (eV 8) (aCons (eBin dAdd (eBin dAdd (eV 10) (eC (.int 1))) (eCall f__law_taken (aCons (eV 0) (aCons (eBin dSub (eC (.int 7)) (eV 10)) aNil)))) (aCons (eV 10) aNil)) (eC (.bl true)))
noncomputable def d12b : S := (sSeq d12b0 d12b1)
noncomputable def d12 : S := (sFor (iRange (aCons (eCall f__law_taken (aCons (eV 0) (aCons (eC (.int 10)) aNil))) aNil)) (gN 9) d12b)
noncomputable def d13 : S := (sRet (eTup (aCons (eV 1) (aCons (eBin dEq (eCall f__law_taken (aCons (eV 0) (aCons (eC (.int 2)) aNil))) (eC (.int 0))) (aCons (eCall fTuple (aCons (eV 3) aNil)) (aCons (eCall fTuple (aCons (eCall fSortK (aCons (eV 8) aNil)) aNil)) (aCons (eTup aNil) aNil)))))))
theorem m__law_design_eq : m__law_design = (sSeq d0 (sSeq d1 (sSeq d2 (sSeq d3 (sSeq d4 (sSeq d5 (sSeq d6 (sSeq d7 (sSeq d8 (sSeq d9 (sSeq d10 (sSeq d11 (sSeq d12 d13))))))))))))) := rfl
theorem seq_nx {a b : S} {δ δ' : DEnv} {M M' : Mem} (h : a δ M = .nx δ' M') : sSeq a b δ M = b δ' M' := by simp [h]
def kvsOf (ps : List (Int × Int)) : List (List L2.Key × D) := ps.map fun p => ([.inl p.1, .inl p.2], D.bl true)
structure PsOk (ps : List (Int × Int)) : Prop where
  at_ : ∀ p ∈ ps, 0 ≤ p.2 ∧ p.2 < p.1 ∧ p.1 ≤ 7
  nd : ps.Nodup
theorem kvs_any {ps : List (Int × Int)} {a b : Int} : ((kvsOf ps).any fun kv => decide (kv.1 = [.inl a, .inl b])) = decide ((a, b) ∈ ps) := by
  induction ps with
  | nil => rfl
  | cons p ps ih =>
    obtain ⟨x, y⟩ := p
    have e : (([.inl x, .inl y] : List L2.Key) = [.inl a, .inl b]) ↔ ((a, b) = (x, y)) := by
      refine ⟨fun z => ?_, fun z => ?_⟩
      · injection z with z1 z2
        injection z2 with z2 _
        cases z1
        cases z2
        rfl
      · cases z
        rfl
    show (decide (([.inl x, .inl y] : List L2.Key) = [.inl a, .inl b]) || (kvsOf ps).any fun kv => decide (kv.1 = [.inl a, .inl b])) = _
    rw [ih]
    by_cases hx : ([.inl x, .inl y] : List L2.Key) = [.inl a, .inl b]
    · rw [decide_eq_true hx, Bool.true_or]
      exact (decide_eq_true (by rw [e.mp hx]; exact List.mem_cons_self)).symm
    · rw [decide_eq_false hx, Bool.false_or]
      have hn : ¬ (a, b) = (x, y) := fun z => hx (e.mpr z)
      simp only [List.mem_cons, hn, false_or]
theorem put_kvs {ps : List (Int × Int)} {a b : Int} : putT (kvsOf ps) [.inl a, .inl b] (.bl true) = kvsOf (if (a, b) ∈ ps then ps else ps ++ [(a, b)]) := by
  unfold putT
  rw [kvs_any]
  by_cases h : (a, b) ∈ ps
  · rw [if_pos (by simp [h]), if_pos h]
    unfold kvsOf
    rw [List.map_map]
    refine List.map_congr_left fun p hp => ?_
    show (if ([.inl p.1, .inl p.2] : List L2.Key) = [.inl a, .inl b] then (([.inl p.1, .inl p.2] : List L2.Key), D.bl true) else ([.inl p.1, .inl p.2], D.bl true)) = ([.inl p.1, .inl p.2], D.bl true)
    split <;> rfl
  · rw [if_neg (by simp [h]), if_neg h]
    simp [kvsOf]
theorem PsOk.put {ps : List (Int × Int)} {a b : Int} (h : PsOk ps) (h1 : 0 ≤ b) (h2 : b < a) (h3 : a ≤ 7) : PsOk (if (a, b) ∈ ps then ps else ps ++ [(a, b)]) := by
  split
  · exact h
  · rename_i n
    refine ⟨fun p hp => ?_, List.nodup_append.mpr ⟨h.nd, by simp, fun x hx y hy => ?_⟩⟩
    · rcases List.mem_append.mp hp with hp | hp
      · exact h.at_ p hp
      · rw [List.mem_singleton.mp hp]
        exact ⟨h1, h2, h3⟩
    · rw [List.mem_singleton.mp hy]
      exact fun z => n (z ▸ hx)
theorem pairs_kvs : ∀ ps : List (Int × Int), pairsK (kvsOf ps) = some ps
  | [] => rfl
  | p :: ps => by
    show ((pairK [.inl p.1, .inl p.2]).bind fun q => (pairsK (kvsOf ps)).map (q :: ·)) = _
    rw [pairs_kvs ps]
    rfl
theorem d3b_run {xs : List Int} {o : MO} {r : Int} {x2 x5 x6 x7 x8 x9 x10 : Option D} {k : Str} {acc : List D} (R : Row xs o) (r0 : r ≤ 2) (hl : acc.length < 1000) : ∃ u m w o', Row xs o' ∧ r ≤ u ∧ u ≤ m ∧ m < w ∧ w ≤ 7 ∧
    d3b [some (.mu 0), some (.int r), x2, some (.mu 1), some (.str k), x5, x6, x7, x8, x9, x10] [o, .lst acc] = .nx [some (.mu 0), some (.int r), some (.int m), some (.mu 1), some (.str k), some (.int u), x6, x7, x8, x9, x10] [o', .lst (acc ++ [.tup [.int u, .int m, .int w]])] := by
  obtain ⟨u, o1, R1, a1, a2, e1⟩ := up_row (lo := r) (hi := 5) [.lst acc] R (by omega)
  obtain ⟨m, o2, R2, b1, b2, e2⟩ := up_row (lo := u) (hi := 6) [.lst acc] R1 (by omega)
  obtain ⟨w, o3, R3, c1, c2, e3⟩ := up_row (lo := m + 1) (hi := 7) [.lst acc] R2 (by omega)
  have hl : acc.length < sizeLine := by
    have : sizeLine = 16777216 := rfl
    omega
  refine ⟨u, m, w, o3, R3, a1, b1, by omega, c2, ?_⟩
  simp [d3b, d3b0, d3b1, d3b2, e1, e2, e3, sApp, hl]
theorem d12b_run {xs : List Int} {o P : MO} {x1 x2 x4 x5 x6 x7 x9 x10 : Option D} {ps : List (Int × Int)} (R : Row xs o) (h : PsOk ps) (hl : ps.length < 1000000) : ∃ t o' ps', Row xs o' ∧ PsOk ps' ∧ ps'.length ≤ ps.length + 1 ∧
    d12b [some (.mu 0), x1, x2, some (.mu 1), x4, x5, x6, x7, some (.mu 2), x9, x10] [o, P, .dt (kvsOf ps)] = .nx [some (.mu 0), x1, x2, some (.mu 1), x4, x5, x6, x7, some (.mu 2), x9, some (.int t)] [o', P, .dt (kvsOf ps')] := by
  obtain ⟨t, o1, R1, a1, a2, e1⟩ := taken_row (many := 5) [P, .dt (kvsOf ps)] R (by omega) (by omega)
  obtain ⟨f, o2, R2, b1, b2, e2⟩ := taken_row (many := 7 - t) [P, .dt (kvsOf ps)] R1 (by omega) (by omega)
  have hk : (kvsOf ps).length < 1000000 := by simpa [kvsOf] using hl
  refine ⟨t, o2, _, R2, h.put (a := t + 1 + f) (b := t) a1 (by omega) (by omega), by split <;> simp, ?_⟩
  rw [← put_kvs]
  simp [d12b, d12b0, d12b1, e1, e2, sTPut, tputK, tpK, keysD, keyD, hk]
theorem d12_loop {xs : List Int} {P : MO} {x1 x2 x4 x5 x6 x7 : Option D} : ∀ (js : List D) {o : MO} {ps : List (Int × Int)} (x9 x10 : Option D), Row xs o → PsOk ps → ps.length + js.length < 1000000 → ∃ y9 y10 o' ps', Row xs o' ∧ PsOk ps' ∧
    dFor (gN 9) d12b js [some (.mu 0), x1, x2, some (.mu 1), x4, x5, x6, x7, some (.mu 2), x9, x10] [o, P, .dt (kvsOf ps)] = .nx [some (.mu 0), x1, x2, some (.mu 1), x4, x5, x6, x7, some (.mu 2), y9, y10] [o', P, .dt (kvsOf ps')]
  | [], o, ps, x9, x10, R, h, hl => ⟨x9, x10, o, ps, R, h, rfl⟩
  | j :: js, o, ps, x9, x10, R, h, hl => by
    rw [List.length_cons] at hl
    obtain ⟨t, o1, ps1, R1, h1, l1, e1⟩ := d12b_run (P := P) (x1 := x1) (x2 := x2) (x4 := x4) (x5 := x5) (x6 := x6) (x7 := x7) (x9 := some j) (x10 := x10) R h (by omega)
    obtain ⟨y9, y10, o2, ps2, R2, h2, e2⟩ := d12_loop js (some j) (some (.int t)) R1 h1 (by omega)
    exact ⟨y9, y10, o2, ps2, R2, h2, by rw [dFor_cons (δ1 := [some (.mu 0), x1, x2, some (.mu 1), x4, x5, x6, x7, some (.mu 2), some j, x10]) rfl, e1, forK_nx, e2]⟩
end L10
namespace L10
open PySem PySem.Spec PyProof.Rows L2 DL LamX
structure Z where
  r : Int
  sm : Bool
  m0 : Int
  w0 : Int
  u1 : Int
  m1 : Int
  w1 : Int
  u2 : Int
  m2 : Int
  w2 : Int
  u3 : Int
  m3 : Int
  w3 : Int
  a4 : Int
  b4 : Int
  p4 : Int
  u5 : Int
  d5 : Int
  d6 : Int
  u7 : Int
  s7 : Int
  ps : List (Int × Int)
def Z.rows (z : Z) : List D := [.tup [.int z.m0, .int z.w0], .tup [.int z.u1, .int z.m1, .int z.w1], .tup [.int z.u2, .int z.m2, .int z.w2], .tup [.int z.u3, .int z.m3, .int z.w3], .tup [.int z.a4, .int z.b4, .int z.p4], .tup [.int z.u5, .int z.d5], .tup [.int z.d6], .tup [.int z.u7, .int z.s7]]
def Z.D (z : Z) : DL.D := .tup [.int z.r, .bl z.sm, .tup z.rows, .tup (z.ps.map pD), .tup []]
def ltP (a b : Int × Int) : Prop := a.1 < b.1 ∨ a.1 = b.1 ∧ a.2 < b.2
structure Z.Ok (z : Z) : Prop where
  r0 : 0 ≤ z.r
  r1 : z.r ≤ 2
  set0 : 0 ≤ z.m0
  set1 : z.m0 < z.w0
  set2 : z.r < z.w0
  set3 : z.w0 ≤ 7
  sum0 : z.r ≤ z.u1
  sum1 : z.u1 ≤ z.m1
  sum2 : z.m1 < z.w1
  sum3 : z.w1 ≤ 7
  mul0 : z.r ≤ z.u2
  mul1 : z.u2 ≤ z.m2
  mul2 : z.m2 < z.w2
  mul3 : z.w2 ≤ 7
  load0 : z.r ≤ z.u3
  load1 : z.u3 ≤ z.m3
  load2 : z.m3 < z.w3
  load3 : z.w3 ≤ 7
  st0 : z.r ≤ z.a4
  st1 : z.r ≤ z.b4
  st2 : z.a4 < z.p4
  st3 : z.b4 < z.p4
  st4 : z.p4 ≤ 7
  ze0 : z.r ≤ z.u5
  ze1 : z.u5 ≤ z.d5
  ze2 : z.d5 ≤ 7
  go0 : 0 ≤ z.d6
  go1 : z.d6 ≤ 7
  ou0 : z.r ≤ z.u7
  ou1 : z.u7 ≤ z.s7
  ou2 : z.s7 ≤ 7
  pa : ∀ p ∈ z.ps, 0 ≤ p.2 ∧ p.2 < p.1 ∧ p.1 ≤ 7
  asc : z.ps.Pairwise ltP
theorem sort_lt {ps : List (Int × Int)} (h : ps.Nodup) : (sortP ps).Pairwise ltP := by
  have h1 := sortP_srt ps
  have h2 : (sortP ps).Nodup := (sortP_perm ps).nodup_iff.mpr h
  refine (List.Pairwise.and h1 h2).imp fun {a b} ⟨h, n⟩ => ?_
  obtain ⟨a1, a2⟩ := a
  obtain ⟨b1, b2⟩ := b
  unfold leP at h
  unfold ltP
  dsimp only at h ⊢
  by_cases e : a1 = b1 ∧ a2 = b2
  · exact absurd (by rw [e.1, e.2]) n
  · omega
theorem sizeL {n : Nat} (h : n < 1000) : n < sizeLine := by
  have : sizeLine = 16777216 := rfl
  omega
theorem design_row {xs : List Int} {o : MO} (R : Row xs o) : ∃ z o' Mt, Z.Ok z ∧ Row xs o' ∧ f__law_design [.mu 0] [o] = .ok z.D (o' :: Mt) ∧ Mt.length = 2 := by
  obtain ⟨r, o1, R1, r0, r1, e1⟩ := taken_row (many := 3) [] R (by omega) (by omega)
  obtain ⟨m0, o2, R2, m00, m01, e2⟩ := taken_row (many := 3) [] R1 (by omega) (by omega)
  obtain ⟨w0, o3, R3, w00, w01, e3⟩ := up_row (lo := (if r > m0 then r else m0) + 1) (hi := 7) [] R2 (by split <;> omega)
  have g3 : m0 < w0 ∧ r < w0 := by split at w00 <;> omega
  obtain ⟨u1, m1, w1, o4, R4, a11, a12, a13, a14, e4⟩ := d3b_run (k := "sum") (x2 := some (.int m0)) (x5 := none) (x6 := none) (x7 := none) (x8 := none) (x9 := none) (x10 := none) (acc := [.tup [.int m0, .int w0]]) R3 (show r ≤ 2 by omega) (by simp)
  obtain ⟨u2, m2, w2, o5, R5, a21, a22, a23, a24, e5⟩ := d3b_run (k := "mul") (x2 := some (.int m1)) (x5 := some (.int u1)) (x6 := none) (x7 := none) (x8 := none) (x9 := none) (x10 := none) (acc := [.tup [.int m0, .int w0], .tup [.int u1, .int m1, .int w1]]) R4 (show r ≤ 2 by omega) (by simp)
  obtain ⟨u3, m3, w3, o6, R6, a31, a32, a33, a34, e6⟩ := d3b_run (k := "load") (x2 := some (.int m2)) (x5 := some (.int u2)) (x6 := none) (x7 := none) (x8 := none) (x9 := none) (x10 := none) (acc := [.tup [.int m0, .int w0], .tup [.int u1, .int m1, .int w1], .tup [.int u2, .int m2, .int w2]]) R5 (show r ≤ 2 by omega) (by simp)
  simp only [List.cons_append, List.nil_append] at e4 e5 e6
  generalize hA : ([.tup [.int m0, .int w0], .tup [.int u1, .int m1, .int w1], .tup [.int u2, .int m2, .int w2], .tup [.int u3, .int m3, .int w3]] : List D) = A6 at e6
  have lA : A6.length = 4 := by rw [← hA]; rfl
  obtain ⟨a4, o7, R7, s1, s2, e7⟩ := up_row (lo := r) (hi := 5) [.lst A6] R6 (by omega)
  obtain ⟨b4, o8, R8, s3, s4, e8⟩ := up_row (lo := r) (hi := 5) [.lst A6] R7 (by omega)
  obtain ⟨p4, o9, R9, s5, s6, e9⟩ := up_row (lo := (if b4 > a4 then b4 else a4) + 1) (hi := 7) [.lst A6] R8 (by split <;> omega)
  have g9 : a4 < p4 ∧ b4 < p4 := by split at s5 <;> omega
  obtain ⟨u5, o10, R10, t1, t2, e10⟩ := up_row (lo := r) (hi := 5) [.lst (A6 ++ [.tup [.int a4, .int b4, .int p4]])] R9 (by omega)
  obtain ⟨dd5, o11, R11, t3, t4, e11⟩ := up_row (lo := u5) (hi := 7) [.lst (A6 ++ [.tup [.int a4, .int b4, .int p4]])] R10 (by omega)
  obtain ⟨dd6, o12, R12, t5, t6, e12⟩ := taken_row (many := 4) [.lst (A6 ++ [.tup [.int a4, .int b4, .int p4]] ++ [.tup [.int u5, .int dd5]])] R11 (by omega) (by omega)
  obtain ⟨u7, o13, R13, t7, t8, e13⟩ := up_row (lo := r) (hi := 5) [.lst (A6 ++ [.tup [.int a4, .int b4, .int p4]] ++ [.tup [.int u5, .int dd5]] ++ [.tup [.int dd6]])] R12 (by omega)
  obtain ⟨s7, o14, R14, t9, t10, e14⟩ := up_row (lo := u7) (hi := 7) [.lst (A6 ++ [.tup [.int a4, .int b4, .int p4]] ++ [.tup [.int u5, .int dd5]] ++ [.tup [.int dd6]])] R13 (by omega)
  generalize hB : A6 ++ [.tup [.int a4, .int b4, .int p4]] ++ [.tup [.int u5, .int dd5]] ++ [.tup [.int dd6]] ++ [.tup [.int u7, .int s7]] = B
  obtain ⟨n, o15, R15, n0, n1, e15⟩ := taken_row (many := 10) [.lst B, .dt []] R14 (by omega) (by omega)
  obtain ⟨k, rfl⟩ : ∃ k : Nat, n = k := ⟨n.toNat, by omega⟩
  obtain ⟨y9, y10, o16, ps, R16, q1, e16⟩ := d12_loop (P := .lst B) (x1 := some (.int r)) (x2 := some (.int m3)) (x4 := some (.str "load")) (x5 := some (.int u7)) (x6 := some (.int a4)) (x7 := some (.int b4)) ((List.range k).map fun k => .int (k : Nat)) (ps := []) none none R15 ⟨by simp, by simp⟩ (by simp; omega)
  obtain ⟨v, o17, R17, v0, v1, e17⟩ := taken_row (many := 2) [.lst B, .dt (kvsOf ps)] R16 (by omega) (by omega)
  have hz : B = [.tup [.int m0, .int w0], .tup [.int u1, .int m1, .int w1], .tup [.int u2, .int m2, .int w2], .tup [.int u3, .int m3, .int w3], .tup [.int a4, .int b4, .int p4], .tup [.int u5, .int dd5], .tup [.int dd6], .tup [.int u7, .int s7]] := by rw [← hB, ← hA]; rfl
  have lB : B.length = 8 := by rw [hz]; rfl
  refine ⟨⟨r, v == 0, m0, w0, u1, m1, w1, u2, m2, w2, u3, m3, w3, a4, b4, p4, u5, dd5, dd6, u7, s7, sortP ps⟩, o17, [.lst B, .dt (kvsOf ps)], ⟨r0, show r ≤ 2 by omega, m00, g3.1, g3.2, w01, a11, a12, a13, a14, a21, a22, a23, a24, a31, a32, a33, a34, s1, s3, g9.1, g9.2, s6, t1, t3, t4, t5, show dd6 ≤ 7 by omega, t7, t9, t10, fun p hp => q1.at_ p ((sortP_perm ps).mem_iff.mp hp), sort_lt q1.nd⟩, R17, ?_, rfl⟩
  have h0 : d0 [some (.mu 0), none, none, none, none, none, none, none, none, none, none] [o] = .nx [some (.mu 0), some (.int r), none, none, none, none, none, none, none, none, none] [o1] := by simp [d0, e1]
  have h1 : d1 [some (.mu 0), some (.int r), none, none, none, none, none, none, none, none, none] [o1] = .nx [some (.mu 0), some (.int r), some (.int m0), none, none, none, none, none, none, none, none] [o2] := by simp [d1, e2]
  have h2 : d2 [some (.mu 0), some (.int r), some (.int m0), none, none, none, none, none, none, none, none] [o2] = .nx [some (.mu 0), some (.int r), some (.int m0), some (.mu 1), none, none, none, none, none, none, none] [o3, .lst [.tup [.int m0, .int w0]]] := by simp [d2, fMax, e3]
  have h3 : d3 [some (.mu 0), some (.int r), some (.int m0), some (.mu 1), none, none, none, none, none, none, none] [o3, .lst [.tup [.int m0, .int w0]]] = .nx [some (.mu 0), some (.int r), some (.int m3), some (.mu 1), some (.str "load"), some (.int u3), none, none, none, none, none] [o6, .lst A6] := by simp [d3, e4, e5, e6]
  have h4 : d4 [some (.mu 0), some (.int r), some (.int m3), some (.mu 1), some (.str "load"), some (.int u3), none, none, none, none, none] [o6, .lst A6] = .nx [some (.mu 0), some (.int r), some (.int m3), some (.mu 1), some (.str "load"), some (.int u3), some (.int a4), some (.int b4), none, none, none] [o8, .lst A6] := by simp [d4, e7, e8]
  have h5 : d5 [some (.mu 0), some (.int r), some (.int m3), some (.mu 1), some (.str "load"), some (.int u3), some (.int a4), some (.int b4), none, none, none] [o8, .lst A6] = .nx [some (.mu 0), some (.int r), some (.int m3), some (.mu 1), some (.str "load"), some (.int u3), some (.int a4), some (.int b4), none, none, none] [o9, .lst (A6 ++ [.tup [.int a4, .int b4, .int p4]])] := by
    simp [d5, sApp, fMax, e9, sizeL, lA]
  have h6 : d6 [some (.mu 0), some (.int r), some (.int m3), some (.mu 1), some (.str "load"), some (.int u3), some (.int a4), some (.int b4), none, none, none] [o9, .lst (A6 ++ [.tup [.int a4, .int b4, .int p4]])] = .nx [some (.mu 0), some (.int r), some (.int m3), some (.mu 1), some (.str "load"), some (.int u5), some (.int a4), some (.int b4), none, none, none] [o10, .lst (A6 ++ [.tup [.int a4, .int b4, .int p4]])] := by
    simp [d6, e10]
  have h7 : d7 [some (.mu 0), some (.int r), some (.int m3), some (.mu 1), some (.str "load"), some (.int u5), some (.int a4), some (.int b4), none, none, none] [o10, .lst (A6 ++ [.tup [.int a4, .int b4, .int p4]])] = .nx [some (.mu 0), some (.int r), some (.int m3), some (.mu 1), some (.str "load"), some (.int u5), some (.int a4), some (.int b4), none, none, none] [o11, .lst (A6 ++ [.tup [.int a4, .int b4, .int p4]] ++ [.tup [.int u5, .int dd5]])] := by
    simp [d7, sApp, e11, sizeL, lA]
  have h8 : d8 [some (.mu 0), some (.int r), some (.int m3), some (.mu 1), some (.str "load"), some (.int u5), some (.int a4), some (.int b4), none, none, none] [o11, .lst (A6 ++ [.tup [.int a4, .int b4, .int p4]] ++ [.tup [.int u5, .int dd5]])] = .nx [some (.mu 0), some (.int r), some (.int m3), some (.mu 1), some (.str "load"), some (.int u5), some (.int a4), some (.int b4), none, none, none] [o12, .lst (A6 ++ [.tup [.int a4, .int b4, .int p4]] ++ [.tup [.int u5, .int dd5]] ++ [.tup [.int dd6]])] := by
    simp only [List.append_assoc, List.cons_append, List.nil_append] at e12 ⊢
    simp [d8, sApp, e12, sizeL, lA]
  have h9 : d9 [some (.mu 0), some (.int r), some (.int m3), some (.mu 1), some (.str "load"), some (.int u5), some (.int a4), some (.int b4), none, none, none] [o12, .lst (A6 ++ [.tup [.int a4, .int b4, .int p4]] ++ [.tup [.int u5, .int dd5]] ++ [.tup [.int dd6]])] = .nx [some (.mu 0), some (.int r), some (.int m3), some (.mu 1), some (.str "load"), some (.int u7), some (.int a4), some (.int b4), none, none, none] [o13, .lst (A6 ++ [.tup [.int a4, .int b4, .int p4]] ++ [.tup [.int u5, .int dd5]] ++ [.tup [.int dd6]])] := by
    simp only [List.append_assoc, List.cons_append, List.nil_append] at e13 ⊢
    simp [d9, e13]
  have h10 : d10 [some (.mu 0), some (.int r), some (.int m3), some (.mu 1), some (.str "load"), some (.int u7), some (.int a4), some (.int b4), none, none, none] [o13, .lst (A6 ++ [.tup [.int a4, .int b4, .int p4]] ++ [.tup [.int u5, .int dd5]] ++ [.tup [.int dd6]])] = .nx [some (.mu 0), some (.int r), some (.int m3), some (.mu 1), some (.str "load"), some (.int u7), some (.int a4), some (.int b4), none, none, none] [o14, .lst B] := by
    rw [← hB]
    simp only [List.append_assoc, List.cons_append, List.nil_append] at e14 ⊢
    simp [d10, sApp, e14, sizeL, lA]
  have h11 : d11 [some (.mu 0), some (.int r), some (.int m3), some (.mu 1), some (.str "load"), some (.int u7), some (.int a4), some (.int b4), none, none, none] [o14, .lst B] = .nx [some (.mu 0), some (.int r), some (.int m3), some (.mu 1), some (.str "load"), some (.int u7), some (.int a4), some (.int b4), some (.mu 2), none, none] [o14, .lst B, .dt []] := by
    simp [d11, eNewT]
  have h12 : d12 [some (.mu 0), some (.int r), some (.int m3), some (.mu 1), some (.str "load"), some (.int u7), some (.int a4), some (.int b4), some (.mu 2), none, none] [o14, .lst B, .dt []] = .nx [some (.mu 0), some (.int r), some (.int m3), some (.mu 1), some (.str "load"), some (.int u7), some (.int a4), some (.int b4), some (.mu 2), y9, y10] [o16, .lst B, .dt (kvsOf ps)] := by
    have e16 : dFor (gN 9) d12b ((List.range k).map fun k => .int (k : Nat)) [some (.mu 0), some (.int r), some (.int m3), some (.mu 1), some (.str "load"), some (.int u7), some (.int a4), some (.int b4), some (.mu 2), none, none] [o15, .lst B, .dt []] = .nx [some (.mu 0), some (.int r), some (.int m3), some (.mu 1), some (.str "load"), some (.int u7), some (.int a4), some (.int b4), some (.mu 2), y9, y10] [o16, .lst B, .dt (kvsOf ps)] := e16
    simp only [d12, sFor_d]
    simp [e15, rangeK_1 (show k ≤ 1000000000 by omega), e16]
  have h13 : d13 [some (.mu 0), some (.int r), some (.int m3), some (.mu 1), some (.str "load"), some (.int u7), some (.int a4), some (.int b4), some (.mu 2), y9, y10] [o16, .lst B, .dt (kvsOf ps)] = .rt (.tup [.int r, .bl (v == 0), .tup B, .tup ((sortP ps).map pD), .tup []]) [o17, .lst B, .dt (kvsOf ps)] := by
    have t1 : fTuple [.mu 1] [o17, .lst B, .dt (kvsOf ps)] = .ok (.tup B) [o17, .lst B, .dt (kvsOf ps)] := rfl
    have t2 : fSortK [.mu 2] [o17, .lst B, .dt (kvsOf ps)] = .ok (.lst ((sortP ps).map pD)) [o17, .lst B, .dt (kvsOf ps)] := by
      show sortK _ (some (.dt (kvsOf ps))) = _
      unfold sortK
      dsimp only
      rw [pairs_kvs]
    simp [d13, e17, t1, t2]
  have hD : (Z.D ⟨r, v == 0, m0, w0, u1, m1, w1, u2, m2, w2, u3, m3, w3, a4, b4, p4, u5, dd5, dd6, u7, s7, sortP ps⟩) = .tup [.int r, .bl (v == 0), .tup B, .tup ((sortP ps).map pD), .tup []] := by rw [hz]; rfl
  rw [hD]
  unfold f__law_design
  rw [m__law_design_eq, runS_d]
  show endS (sSeq d0 _ [some (.mu 0), none, none, none, none, none, none, none, none, none, none] [o]) = _
  rw [seq_nx h0, seq_nx h1, seq_nx h2, seq_nx h3, seq_nx h4, seq_nx h5, seq_nx h6, seq_nx h7, seq_nx h8, seq_nx h9, seq_nx h10, seq_nx h11, seq_nx h12, h13]
  rfl
end L10
namespace L10
open PySem PySem.Spec PyProof.Rows L2 DL LamX
theorem place_t {i : Int} (M : Mem) (h0 : 0 ≤ i) (h1 : i ≤ 7) : f_is_place [.int i] M = .ok (.bl true) M := by
  simp [f_is_place, m_is_place, is_within_eq (d := .int i) rfl, inI, h0, h1]
theorem all_true {j : Nat} {me : E D} {δ : DEnv} {M : Mem} : ∀ {ds : List D}, (∀ d ∈ ds, me (δ.set j (some d)) M = .ok (.bl true) M) → dAll j me δ ds M = .ok (.bl true) M
  | [], _ => rfl
  | d :: ds, h => by
    simp only [dAll, h d List.mem_cons_self, noX_ok, bind_ok, allK]
    exact all_true fun e he => h e (List.mem_cons_of_mem _ he)
def isP : D → Prop
  | .int i => 0 ≤ i ∧ i ≤ 7
  | _ => False
theorem row_t {ds : List D} (M : Mem) (h : ∀ d ∈ ds, isP d) : f_is_row [.tup ds, .int ds.length] M = .ok (.bl true) M := by
  have a : dAll 2 (eCall f_is_place (aCons (eV 2) aNil)) [some (.tup ds), some (.int ds.length), none] ds M = .ok (.bl true) M := all_true fun d hd => by
    have := h d hd
    cases d with
    | int i => simp [place_t M this.1 this.2]
    | _ => exact this.elim
  simp [f_is_row, m_is_row, eAll, a]
theorem path_t {p : Int × Int} (M : Mem) (h : 0 ≤ p.2 ∧ p.2 < p.1 ∧ p.1 ≤ 7) : f_is_path [pD p] M = .ok (.bl true) M := by
  have e : f_is_row [.tup [.int p.1, .int p.2], .int 2] M = .ok (.bl true) M := row_t (ds := [.int p.1, .int p.2]) M fun d hd => by
    simp only [List.mem_cons, List.not_mem_nil, or_false] at hd
    rcases hd with rfl | rfl
    · exact ⟨by omega, h.2.2⟩
    · exact ⟨h.1, by omega⟩
  simp [f_is_path, m_is_path, e, h.2.1]
def ascB : List KL → Bool
  | a :: b :: r => ltK a b && ascB (b :: r)
  | _ => true
def cmpAdj : List KL → Bool
  | a :: b :: r => cmpK a b && cmpAdj (b :: r)
  | _ => true
theorem asc_all {δ : DEnv} (hl : δ.length = 3) (M : Mem) : ∀ (ds : List D) (ks : List KL), klsD ds = some ks → cmpAdj ks = true → dAllG (gTupD 2 (gCons0 (gN 1) (gCons0 (gN 2) gNil0))) (eBin dLtK (eV 1) (eV 2)) δ (List.zipWith (fun x y => D.tup [x, y]) ds (ds.drop 1)) M = .ok (.bl (ascB ks)) M
  | [], ks, e, _ => by
    simp [klsD] at e
    subst e
    rfl
  | [d], ks, e, _ => by
    simp only [klsD, List.mapM_cons, List.mapM_nil] at e
    cases h : klD d with
    | none => rw [h] at e; cases e
    | some k => rw [h] at e; cases e; rfl
  | d1 :: d2 :: ds, ks, e, hc => by
    simp only [klsD, List.mapM_cons] at e
    cases h : klD d1 with
    | none => rw [h] at e; cases e
    | some k1 =>
    cases h2 : klD d2 with
    | none => rw [h, h2] at e; cases e
    | some k2 =>
    cases h3 : ds.mapM klD with
    | none => rw [h, h2, h3] at e; cases e
    | some ks =>
    rw [h, h2, h3] at e
    cases e
    unfold cmpAdj at hc
    rw [Bool.and_eq_true] at hc
    have ih := asc_all hl M (d2 :: ds) (k2 :: ks) (by simp only [klsD, List.mapM_cons, h2, h3]; rfl) hc.2
    rcases δ with _ | ⟨a, _ | ⟨b, _ | ⟨c, _ | ⟨d, δ⟩⟩⟩⟩ <;> first
      | (cases hl; done)
      | skip
    have e : dLtK M d1 d2 = some (.bl (ltK k1 k2)) := by
      unfold dLtK
      rw [h, h2]
      unfold ltKK
      dsimp only
      rw [if_pos hc.1]
    simp only [List.drop_succ_cons, List.drop_zero, List.zipWith_cons_cons] at ih ⊢
    unfold dAllG
    have g : gTupD 2 (gCons0 (gN 1) (gCons0 (gN 2) gNil0)) (.tup [d1, d2]) [a, b, c] M = some [a, some d1, some d2] := rfl
    rw [g]
    dsimp only
    have e2 : eBin dLtK (eV 1) (eV 2) [a, some d1, some d2] M = .ok (.bl (ltK k1 k2)) M := by
      show Out.opt (dLtK M d1 d2) M = _
      rw [e]
      rfl
    rw [e2]
    unfold ascB
    cases hk : ltK k1 k2 with
    | true => exact ih
    | false => rfl
theorem cut_1 {xs : List D} (M : Mem) : dCut M (.tup xs) (some 1) none = some (.tup (xs.drop 1)) := by
  cases xs with
  | nil => rfl
  | cons x xs => exact cut_t1
theorem zipK_tt {xs ys : List D} (M : Mem) : iZipK [.tup xs, .tup ys] M = .ok (List.zipWith (fun x y => D.tup [x, y]) xs ys) M := rfl
theorem asc_run {ds : List D} {ks : List KL} (M : Mem) (h : klsD ds = some ks) (hc : cmpAdj ks = true) : f_are_ascending [.tup ds] M = .ok (.bl (ascB ks)) M := by
  have a := asc_all (δ := [some (.tup ds), none, none]) rfl M ds ks h hc
  rw [List.drop_one] at a
  simp [f_are_ascending, m_are_ascending, eAllG, wipeD, cut_1, zipK_tt, a]
def kP (p : Int × Int) : KL := [.inl p.1, .inl p.2]
theorem pairs_kl : ∀ ps : List (Int × Int), klsD (ps.map pD) = some (ps.map kP)
  | [] => rfl
  | p :: ps => by
    have ih := pairs_kl ps
    unfold klsD at ih ⊢
    rw [List.map_cons, List.mapM_cons, ih]
    rfl
theorem pairs_cmp : ∀ ps : List (Int × Int), cmpAdj (ps.map kP) = true
  | [] => rfl
  | [_] => rfl
  | p :: q :: ps => by
    have ih := pairs_cmp (q :: ps)
    rw [List.map_cons, List.map_cons, cmpAdj]
    rw [List.map_cons] at ih
    rw [ih, Bool.and_true]
    simp [cmpK, kP, sameK]
instance (p q : Int × Int) : Decidable (ltP p q) := by unfold ltP; infer_instance
theorem ltK_P {p q : Int × Int} : ltK (kP p) (kP q) = decide (ltP p q) := by
  show PyProof.Rows.lexLt PyProof.Rows.itemOrd [.inl p.1, .inl p.2] [.inl q.1, .inl q.2] = _
  by_cases h : p.1 = q.1
  · by_cases h2 : p.2 = q.2
    · rw [h, h2, PyProof.Rows.lex_irrefl]
      symm
      rw [decide_eq_false_iff_not]
      unfold ltP
      omega
    · rw [h, PyProof.Rows.lex_self, PyProof.Rows.lex_diff (fun z => h2 (Sum.inl.inj z))]
      show decide (p.2 < q.2) = decide (ltP p q)
      rw [decide_eq_decide]
      unfold ltP
      omega
  · rw [PyProof.Rows.lex_diff (fun z => h (Sum.inl.inj z))]
    show decide (p.1 < q.1) = decide (ltP p q)
    rw [decide_eq_decide]
    unfold ltP
    omega
theorem asc_P : ∀ ps : List (Int × Int), ps.Pairwise ltP → ascB (ps.map kP) = true
  | [], _ => rfl
  | [_], _ => rfl
  | p :: q :: ps, h => by
    obtain ⟨h1, h2⟩ := List.pairwise_cons.mp h
    have ih := asc_P (q :: ps) h2
    rw [List.map_cons] at ih
    rw [List.map_cons, List.map_cons, ascB, ih, ltK_P, decide_eq_true (h1 q List.mem_cons_self)]
    rfl
theorem asc_t {ps : List (Int × Int)} (M : Mem) (h : ps.Pairwise ltP) : f_are_ascending [.tup (ps.map pD)] M = .ok (.bl true) M := by
  rw [asc_run M (pairs_kl ps) (pairs_cmp ps), asc_P ps h]
theorem paths_t {ps : List (Int × Int)} (M : Mem) (h : ∀ p ∈ ps, 0 ≤ p.2 ∧ p.2 < p.1 ∧ p.1 ≤ 7) (h2 : ps.Pairwise ltP) : f_are_paths [.tup (ps.map pD)] M = .ok (.bl true) M := by
  have a : dAll 1 (eCall f_is_path (aCons (eV 1) aNil)) [some (.tup (ps.map pD)), none] (ps.map pD) M = .ok (.bl true) M := all_true fun d hd => by
    obtain ⟨p, hp, rfl⟩ := List.mem_map.mp hd
    simp [path_t M (h p hp)]
  simp [f_are_paths, m_are_paths, eAll, a, asc_t M h2]
theorem waits_t (M : Mem) : f_are_waits [.tup []] M = .ok (.bl true) M := by
  have a : f_are_ascending [.tup []] M = .ok (.bl true) M := asc_t (ps := []) M .nil
  simp [f_are_waits, m_are_waits, eAll, dAll, a]
end L10
namespace L10
open PySem PySem.Spec PyProof.Rows L2 DL LamX
section
variable {r a b c : Int}
theorem row1 (M : Mem) (h : 0 ≤ a ∧ a ≤ 7) : f_is_row [.tup [.int a], .int 1] M = .ok (.bl true) M := row_t (ds := [.int a]) M fun d hd => by
  rw [List.mem_singleton.mp hd]
  exact h
theorem row2 (M : Mem) (h : 0 ≤ a ∧ a ≤ 7) (h2 : 0 ≤ b ∧ b ≤ 7) : f_is_row [.tup [.int a, .int b], .int 2] M = .ok (.bl true) M := row_t (ds := [.int a, .int b]) M fun d hd => by
  simp only [List.mem_cons, List.not_mem_nil, or_false] at hd
  rcases hd with rfl | rfl
  · exact h
  · exact h2
theorem row3 (M : Mem) (h : 0 ≤ a ∧ a ≤ 7) (h2 : 0 ≤ b ∧ b ≤ 7) (h3 : 0 ≤ c ∧ c ≤ 7) : f_is_row [.tup [.int a, .int b, .int c], .int 3] M = .ok (.bl true) M := row_t (ds := [.int a, .int b, .int c]) M fun d hd => by
  simp only [List.mem_cons, List.not_mem_nil, or_false] at hd
  rcases hd with rfl | rfl | rfl
  · exact h
  · exact h2
  · exact h3
theorem or_go (d : D) (M : Mem) : f_in_order [.str "go", d, .int r] M = .ok (.bl true) M := by
  simp [f_in_order, m_in_order]
theorem or_set (M : Mem) (h1 : a < b) (h2 : r < b) : f_in_order [.str "set", .tup [.int a, .int b], .int r] M = .ok (.bl true) M := by
  simp [f_in_order, m_in_order, h1, h2]
theorem or_store (M : Mem) (h1 : r ≤ a) (h2 : a < c) (h3 : r ≤ b) (h4 : b < c) : f_in_order [.str "store", .tup [.int a, .int b, .int c], .int r] M = .ok (.bl true) M := by
  simp [f_in_order, m_in_order, h1, h2, h3, h4]
theorem or_zero (M : Mem) (h1 : r ≤ a) (h2 : a ≤ b) : f_in_order [.str "zero", .tup [.int a, .int b], .int r] M = .ok (.bl true) M := by
  simp [f_in_order, m_in_order, h1, h2]
theorem or_out (M : Mem) (h1 : r ≤ a) (h2 : a ≤ b) : f_in_order [.str "out", .tup [.int a, .int b], .int r] M = .ok (.bl true) M := by
  simp [f_in_order, m_in_order, h1, h2]
theorem or_sum (M : Mem) (h1 : r ≤ a) (h2 : a ≤ b) (h3 : b < c) : f_in_order [.str "sum", .tup [.int a, .int b, .int c], .int r] M = .ok (.bl true) M := by
  simp [f_in_order, m_in_order, eChain3, chK2, chK3, h1, h2, h3]
theorem or_mul (M : Mem) (h1 : r ≤ a) (h2 : a ≤ b) (h3 : b < c) : f_in_order [.str "mul", .tup [.int a, .int b, .int c], .int r] M = .ok (.bl true) M := by
  simp [f_in_order, m_in_order, eChain3, chK2, chK3, h1, h2, h3]
theorem or_load (M : Mem) (h1 : r ≤ a) (h2 : a ≤ b) (h3 : b < c) : f_in_order [.str "load", .tup [.int a, .int b, .int c], .int r] M = .ok (.bl true) M := by
  simp [f_in_order, m_in_order, eChain3, chK2, chK3, h1, h2, h3]
end
theorem places_t {z : Z} (h : z.Ok) (M : Mem) : f_are_places [.tup z.rows, .int z.r] M = .ok (.bl true) M := by
  obtain ⟨r0, r1, set0, set1, set2, set3, sum0, sum1, sum2, sum3, mul0, mul1, mul2, mul3, load0, load1, load2, load3, st0, st1, st2, st3, st4, ze0, ze1, ze2, go0, go1, ou0, ou1, ou2, _, _⟩ := h
  have a0 := row2 (a := z.m0) (b := z.w0) M (by omega) (by omega)
  have a1 := row3 (a := z.u1) (b := z.m1) (c := z.w1) M (by omega) (by omega) (by omega)
  have a2 := row3 (a := z.u2) (b := z.m2) (c := z.w2) M (by omega) (by omega) (by omega)
  have a3 := row3 (a := z.u3) (b := z.m3) (c := z.w3) M (by omega) (by omega) (by omega)
  have a4 := row3 (a := z.a4) (b := z.b4) (c := z.p4) M (by omega) (by omega) (by omega)
  have a5 := row2 (a := z.u5) (b := z.d5) M (by omega) (by omega)
  have a6 := row1 (a := z.d6) M ⟨go0, go1⟩
  have a7 := row2 (a := z.u7) (b := z.s7) M (by omega) (by omega)
  simp [f_are_places, m_are_places, Z.rows, tab_PLACES, a0, a1, a2, a3, a4, a5, a6, a7, or_go, or_set M set1 set2, or_store M st0 st2 st1 st3, or_zero M ze0 ze1, or_out M ou0 ou1, or_sum M sum0 sum1 sum2, or_mul M mul0 mul1 mul2, or_load M load0 load1 load2]
theorem design_t {z : Z} (h : z.Ok) (M : Mem) : f_is_design [z.D] M = .ok (.bl true) M := by
  have a := places_t h M
  have b := paths_t M h.pa h.asc
  have c := place_t (i := z.r) M h.r0 (by have := h.r1; omega)
  have d := waits_t M
  simp [f_is_design, m_is_design, Z.D, a, b, c, d]
theorem check_t {z : Z} (h : z.Ok) (M : Mem) : f_check_design [z.D] M = .ok .non M := by
  simp [f_check_design, m_check_design, design_t h M]
end L10
namespace L10
open PySem PySem.Spec PyProof.Rows L2 DL LamX
inductive At where
  | w (s : String) | i (z : Int) | b (p : Bool) | n
  deriving DecidableEq
def atD : At → D
  | .w s => .str (.ofString s)
  | .i z => .int z
  | .b p => .bl p
  | .n => .non
def pA : At → PyData
  | .w s => .str (.ofString s)
  | .i z => .int z
  | .b p => .bool p
  | .n => .none
def kA : At → L2.Key
  | .w s => .inr (.ofString s)
  | .i z => .inl z
  | _ => .inl 0
def tA (xs : List At) : D := .tup (xs.map atD)
def WA : List At := [.w "set", .w "sum", .w "mul", .w "load"]
def UA : List (At × At) := [(.w "sum", .w "a"), (.w "mul", .w "a"), (.w "load", .w "a"), (.w "store", .w "a"), (.w "store", .w "b"), (.w "zero", .w "a"), (.w "out", .w "a")]
def MA : List (At × At) := [(.w "store", .w "load"), (.w "load", .w "store")]
def GA : List At := [.w "zero", .w "go"]
def XA : List At := [.w "set", .w "sum", .w "mul", .w "load", .w "store", .w "out"]
def isPair : List At → Bool
  | [a, b, c, d] => decide (a = .w "value") && (decide (b ∈ WA) && decide ((c, d) ∈ UA))
  | [a, b, c] => if a = .w "order" then decide (b ∈ WA) && decide (c ∈ WA) else if a = .w "memory" then decide ((b, c) ∈ MA) else decide (a = .w "wrong") && (decide (b ∈ GA) && decide (c ∈ XA))
  | _ => false
def inD7 : At → Bool
  | .i z => decide (1 ≤ z) && decide (z ≤ 7)
  | _ => false
theorem toP_at (a : At) : toP (atD a) = some (pA a) := by cases a <;> rfl
theorem toPs_at : ∀ xs : List At, toPs (xs.map atD) = some (xs.map pA)
  | [] => rfl
  | a :: xs => by
    rw [List.map_cons, toPs, toP_at, toPs_at xs]
    rfl
theorem toP_tA (xs : List At) : toP (tA xs) = some (.tuple (xs.map pA)) := by
  unfold tA
  rw [toP, toPs_at]
  rfl
theorem lay_at (a : At) : (pA a).canLay0 = true := by cases a <;> simp [pA, PyData.canLay0, ofs_ok]
theorem dep_at (a : At) : (pA a).depth = 0 := by cases a <;> simp [pA, PyData.depth]
theorem lay_ats : ∀ xs : List At, PyData.canLayAll0 (xs.map pA) = true
  | [] => by simp [PyData.canLayAll0]
  | a :: xs => by simp [PyData.canLayAll0, lay_at, lay_ats xs]
theorem dep_ats : ∀ xs : List At, PyData.depthAll (xs.map pA) = 0
  | [] => by simp [PyData.depthAll]
  | a :: xs => by simp [PyData.depthAll, dep_at, dep_ats xs]
theorem shaped_tA (xs : List At) : SeqAt.shaped (.tuple (xs.map pA)) = true := by simp [SeqAt.shaped, PyData.canLay0, PyData.depth, lay_ats, dep_ats]
theorem shaped_at (a : At) : SeqAt.shaped (pA a) = true := by simp [SeqAt.shaped, lay_at, dep_at]
theorem lay_tAs : ∀ xs : List (List At), PyData.canLayAll0 (xs.map fun x => .tuple (x.map pA)) = true
  | [] => by simp [PyData.canLayAll0]
  | a :: xs => by simp [PyData.canLayAll0, PyData.canLay0, lay_ats, lay_tAs xs]
theorem dep_tAs : ∀ xs : List (List At), PyData.depthAll (xs.map fun x => .tuple (x.map pA)) ≤ 1
  | [] => by simp [PyData.depthAll]
  | a :: xs => by
    have := dep_tAs xs
    simp [PyData.depthAll, PyData.depth, dep_ats]
    omega
theorem shaped_tAs (xs : List (List At)) : SeqAt.shaped (.tuple (xs.map fun x => .tuple (x.map pA))) = true := by
  have := dep_tAs xs
  simp only [SeqAt.shaped, PyData.canLay0, PyData.depth, lay_tAs, Bool.true_and, decide_eq_true_eq]
  exact decide_eq_true (Nat.le_trans (Nat.succ_le_succ this) (by decide : 2 ≤ 64))
theorem shaped_lAs (xs : List (List At)) : SeqAt.shaped (.list (xs.map fun x => .tuple (x.map pA))) = true := by
  have := dep_tAs xs
  simp only [SeqAt.shaped, PyData.canLay0, PyData.depth, lay_tAs, Bool.true_and, decide_eq_true_eq]
  exact decide_eq_true (Nat.le_trans (Nat.succ_le_succ this) (by decide : 2 ≤ 64))
theorem toPs_tAs : ∀ xs : List (List At), toPs (xs.map tA) = some (xs.map fun x => .tuple (x.map pA))
  | [] => rfl
  | a :: xs => by
    rw [List.map_cons, toPs, toP_tA, toPs_tAs xs]
    rfl
def cA (xs : List At) : D := .ctu (xs.map atD)
theorem toP_cA (xs : List At) : toP (cA xs) = some (.tuple (xs.map pA)) := by
  unfold cA
  rw [toP, toPs_at]
  rfl
theorem toPs_cAs : ∀ xs : List (List At), toPs (xs.map cA) = some (xs.map fun x => .tuple (x.map pA))
  | [] => rfl
  | a :: xs => by
    rw [List.map_cons, toPs, toP_cA, toPs_cAs xs]
    rfl
def eqA : At → At → Bool
  | .n, .n => true
  | .b a, .b b => a == b
  | .b a, .i j => (if a then 1 else 0) == j
  | .i i, .b b => i == (if b then 1 else 0)
  | .i i, .i j => i == j
  | .w x, .w y => decide (x = y)
  | _, _ => false
def eqAs : List At → List At → Bool
  | [], [] => true
  | x :: xs, y :: ys => eqA x y && eqAs xs ys
  | _, _ => false
theorem eqv_at (a b : At) : PyData.eqv (pA a) (pA b) = eqA a b := by
  cases a <;> cases b <;> simp [pA, eqA, PyData.eqv]
  rename_i x y
  rw [Bool.eq_iff_iff, beq_iff_eq, decide_eq_true_iff]
  exact ofs_inj
theorem eqv_ats : ∀ xs ys : List At, PyData.eqvAll (xs.map pA) (ys.map pA) = eqAs xs ys
  | [], [] => by simp [eqAs, PyData.eqvAll]
  | [], _ :: _ => by simp [eqAs, PyData.eqvAll]
  | _ :: _, [] => by simp [eqAs, PyData.eqvAll]
  | x :: xs, y :: ys => by simp [eqAs, PyData.eqvAll, eqv_at, eqv_ats xs ys]
theorem eqA_w (a : At) (s : String) : eqA a (.w s) = decide (a = .w s) := by cases a <;> simp [eqA]
theorem eqA_w' (a : At) (s : String) : eqA (.w s) a = decide (a = .w s) := by
  cases a <;> simp [eqA]
  exact eq_comm
theorem eqB_w (a : At) (s : String) : dEqB (atD a) (.str (.ofString s)) = some (decide (a = .w s)) := by
  have e : toP (.str (.ofString s)) = some (pA (.w s)) := rfl
  unfold dEqB
  rw [toP_at, e]
  dsimp only
  rw [if_pos ⟨shaped_at _, shaped_at _⟩, eqv_at, eqA_w]
theorem flat_at (a : At) : flatD (atD a) = true := by cases a <;> rfl
theorem eqvD_at (a b : At) : eqvD (atD a) (atD b) = eqA a b := by
  cases a <;> cases b <;> simp [atD, eqA, eqvD]
  rename_i x y
  rw [Bool.eq_iff_iff, beq_iff_eq, decide_eq_true_iff]
  exact ofs_inj
theorem any_ws (a : At) : ∀ ss : List String, (ss.any fun s => eqA (.w s) a) = decide (a ∈ ss.map At.w)
  | [] => by simp
  | s :: ss => by
    rw [List.any_cons, any_ws a ss, eqA_w', List.map_cons]
    by_cases h : a = .w s
    · simp [h]
    · simp [h]
theorem inU_ws (M : Mem) (a : At) (ss : List String) : dInU M (atD a) (.ktu (ss.map Str.ofString)) = some (.bl (decide (a ∈ ss.map At.w))) := by
  have e : dInB M (atD a) (.ktu (ss.map Str.ofString)) = some (decide (a ∈ ss.map At.w)) := by
    rw [inB_k, if_pos (flat_at a), List.any_map, ← any_ws]
    congr 1
    refine congrArg _ (funext fun s => ?_)
    exact eqvD_at (.w s) a
  unfold dInU dInP
  rw [e]
  rfl
theorem any_ps (a b : At) : ∀ ps : List (String × String), (ps.any fun p => eqAs [.w p.1, .w p.2] [a, b]) = decide ((a, b) ∈ ps.map fun p => (At.w p.1, At.w p.2))
  | [] => by simp
  | p :: ps => by
    rw [List.any_cons, any_ps a b ps, List.map_cons]
    simp only [eqAs, eqA_w', Bool.and_true]
    by_cases h : a = .w p.1 <;> by_cases h2 : b = .w p.2 <;> simp [h, h2]
theorem inU_ps (M : Mem) (a b : At) (ps : List (String × String)) : dInU M (.tup [atD a, atD b]) (.ctu (ps.map fun p => cA [.w p.1, .w p.2])) = some (.bl (decide ((a, b) ∈ ps.map fun p => (At.w p.1, At.w p.2)))) := by
  have e0 : dInB M (.tup [atD a, atD b]) (.ctu (ps.map fun p => cA [.w p.1, .w p.2])) = none := by
    rfl
  have e1 : toP (.tup [atD a, atD b]) = some (.tuple ([a, b].map pA)) := toP_tA [a, b]
  have e2 : toPs (ps.map fun p => cA [.w p.1, .w p.2]) = some ((ps.map fun p => [At.w p.1, At.w p.2]).map fun x => .tuple (x.map pA)) := by
    rw [← toPs_cAs, List.map_map]
    rfl
  have e3 : dInT (.tup [atD a, atD b]) (.ctu (ps.map fun p => cA [.w p.1, .w p.2])) = some (decide ((a, b) ∈ ps.map fun p => (At.w p.1, At.w p.2))) := by
    unfold dInT
    rw [e1]
    simp only [seqT, Option.bind_some, e2]
    rw [if_pos ⟨shaped_tA _, shaped_tAs _⟩, List.any_map, List.any_map, ← any_ps]
    congr 1
    refine congrArg _ (funext fun p => ?_)
    simp only [Function.comp, PyData.eqv]
    exact eqv_ats _ _
  unfold dInU dInP
  rw [e0]
  dsimp only
  rw [e3]
  rfl
end L10
namespace L10
open PySem PySem.Spec PyProof.Rows L2 DL LamX
theorem inU_WA (M : Mem) (a : At) : dInU M (atD a) (.ktu ["set", "sum", "mul", "load"]) = some (.bl (decide (a ∈ WA))) := inU_ws M a ["set", "sum", "mul", "load"]
theorem inU_GA (M : Mem) (a : At) : dInU M (atD a) (.ktu ["zero", "go"]) = some (.bl (decide (a ∈ GA))) := inU_ws M a ["zero", "go"]
theorem inU_XA (M : Mem) (a : At) : dInU M (atD a) (.ktu ["set", "sum", "mul", "load", "store", "out"]) = some (.bl (decide (a ∈ XA))) := inU_ws M a ["set", "sum", "mul", "load", "store", "out"]
theorem inU_UA (M : Mem) (a b : At) : dInU M (.tup [atD a, atD b]) (.ctu [(.ctu [(.str "sum"), (.str "a")]), (.ctu [(.str "mul"), (.str "a")]), (.ctu [(.str "load"), (.str "a")]), (.ctu [(.str "store"), (.str "a")]), (.ctu [(.str "store"), (.str "b")]), (.ctu [(.str "zero"), (.str "a")]), (.ctu [(.str "out"), (.str "a")])]) = some (.bl (decide ((a, b) ∈ UA))) :=
  inU_ps M a b [("sum", "a"), ("mul", "a"), ("load", "a"), ("store", "a"), ("store", "b"), ("zero", "a"), ("out", "a")]
theorem inU_MA (M : Mem) (a b : At) : dInU M (.tup [atD a, atD b]) (.ctu [(.ctu [(.str "store"), (.str "load")]), (.ctu [(.str "load"), (.str "store")])]) = some (.bl (decide ((a, b) ∈ MA))) := inU_ps M a b [("store", "load"), ("load", "store")]
theorem cut_42 {a b c d : D} (M : Mem) : dCut M (.tup [a, b, c, d]) (some 2) none = some (.tup [c, d]) := rfl
theorem pair_run (M : Mem) : ∀ xs : List At, f_is_pair_told [tA xs] M = .ok (.bl (isPair xs)) M
  | [] => by simp [f_is_pair_told, m_is_pair_told, tA, isPair]
  | [a] => by simp [f_is_pair_told, m_is_pair_told, tA, isPair]
  | [a, b] => by simp [f_is_pair_told, m_is_pair_told, tA, isPair]
  | [a, b, c] => by
    by_cases h1 : a = .w "order"
    · by_cases h2 : b ∈ WA <;> simp [f_is_pair_told, m_is_pair_told, tA, isPair, eqB_w, inU_WA, h1, h2]
    · by_cases h3 : a = .w "memory"
      · simp [f_is_pair_told, m_is_pair_told, tA, isPair, eqB_w, inU_MA, h3]
      · by_cases h4 : a = .w "wrong"
        · by_cases h5 : b ∈ GA <;> simp [f_is_pair_told, m_is_pair_told, tA, isPair, eqB_w, inU_GA, inU_XA, h4, h5]
        · simp [f_is_pair_told, m_is_pair_told, tA, isPair, eqB_w, h1, h3, h4]
  | [a, b, c, d] => by
    by_cases h1 : a = .w "value"
    · by_cases h2 : b ∈ WA <;> simp [f_is_pair_told, m_is_pair_told, tA, isPair, eqB_w, inU_WA, inU_UA, cut_42, h1, h2]
    · simp [f_is_pair_told, m_is_pair_told, tA, isPair, eqB_w, h1]
  | a :: b :: c :: d :: e :: r => by
    have h1 : ¬ ((r.length : Int) + 1 + 1 + 1 + 1 + 1 = 4) := by omega
    have h2 : ¬ ((r.length : Int) + 1 + 1 + 1 + 1 + 1 = 3) := by omega
    simp [f_is_pair_told, m_is_pair_told, tA, isPair, h1, h2]
def isEntB (xs : List At) : Bool := match xs.getLast? with
  | none => false
  | some l => inD7 l && isPair xs.dropLast
theorem within_at (a : At) (M : Mem) : f_is_within [atD a, .int 1, .int 7] M = .ok (.bl (inD7 a)) M := by
  rw [is_within_eq (by cases a <;> rfl)]
  cases a <;> rfl
theorem atI_last {α : Type} {xs : List α} {x : α} : atI (xs ++ [x]) (-1) = some x := by
  have h1 : ¬ (0 : Int) ≤ -1 := by omega
  have h2 : -((xs ++ [x]).length : Int) ≤ -1 := by rw [List.length_append, List.length_singleton]; omega
  have h3 : (-1 + ((xs ++ [x]).length : Int)).toNat = xs.length := by rw [List.length_append, List.length_singleton]; omega
  unfold atI ixN
  rw [if_neg h1, if_pos h2, h3]
  simp
theorem cut_init {xs : List D} {x : D} (M : Mem) : dCut M (.tup (xs ++ [x])) none (some (-1)) = some (.tup xs) := by
  have e1 : HT.sIx (xs ++ [x]).length 0 none = 0 := rfl
  have e2 : HT.sIx (xs ++ [x]).length (xs ++ [x]).length (some (-1)) = xs.length := by
    show (if (-1 : Int) < 0 then ((-1 : Int) + ((xs ++ [x]).length : Nat)).toNat else min (-1 : Int).toNat (xs ++ [x]).length) = _
    rw [if_pos (by omega), List.length_append, List.length_singleton]
    omega
  simp only [dCut, DL.cutD, e1, e2]
  simp
theorem entry_run (M : Mem) (xs : List At) : f_is_entry [tA xs] M = .ok (.bl (isEntB xs)) M := by
  rcases List.eq_nil_or_concat xs with rfl | ⟨init, l, rfl⟩
  · simp [f_is_entry, m_is_entry, tA, isEntB]
  · rw [List.concat_eq_append]
    have e1 : (init ++ [l]).map atD = init.map atD ++ [atD l] := by simp
    have e2 : atI (init.map atD ++ [atD l]) (-1) = some (atD l) := atI_last
    have e3 := cut_init (xs := init.map atD) (x := atD l) M
    have e4 := pair_run M init
    have e5 : isEntB (init ++ [l]) = (inD7 l && isPair init) := by simp [isEntB]
    unfold tA at e4 ⊢
    rw [e1, e5]
    have h : ¬ ((init.length : Int) + 1 = 0) := by omega
    cases h6 : inD7 l <;> simp [f_is_entry, m_is_entry, e2, e3, e4, within_at, h6, h]
theorem entry_no {d : D} (M : Mem) (h : d = .non ∨ (∃ i, d = .int i) ∨ (∃ s, d = .str s) ∨ (∃ b, d = .bl b) ∨ ∃ xs, d = .lst xs) : f_is_entry [d] M = .ok (.bl false) M := by
  rcases h with rfl | ⟨_, rfl⟩ | ⟨_, rfl⟩ | ⟨_, rfl⟩ | ⟨_, rfl⟩ <;> simp [f_is_entry, m_is_entry]
theorem isPair_iff {t : List At} : isPair t = true ↔ (∃ b ∈ WA, ∃ u ∈ UA, t = [.w "value", b, u.1, u.2]) ∨ (∃ b ∈ WA, ∃ c ∈ WA, t = [.w "order", b, c]) ∨ (∃ p ∈ MA, t = [.w "memory", p.1, p.2]) ∨ (∃ b ∈ GA, ∃ c ∈ XA, t = [.w "wrong", b, c]) := by
  constructor
  · intro h
    unfold isPair at h
    split at h
    · rename_i a b c d
      simp only [Bool.and_eq_true, decide_eq_true_eq] at h
      obtain ⟨rfl, h2, h3⟩ := h
      exact .inl ⟨b, h2, (c, d), h3, rfl⟩
    · rename_i a b c
      split at h
      · rename_i h1
        simp only [Bool.and_eq_true, decide_eq_true_eq] at h
        exact .inr (.inl ⟨b, h.1, c, h.2, by rw [h1]⟩)
      · split at h
        · rename_i h1
          simp only [decide_eq_true_eq] at h
          exact .inr (.inr (.inl ⟨(b, c), h, by rw [h1]⟩))
        · simp only [Bool.and_eq_true, decide_eq_true_eq] at h
          exact .inr (.inr (.inr ⟨b, h.2.1, c, h.2.2, by rw [h.1]⟩))
    · cases h
  · rintro (⟨b, h1, u, h2, rfl⟩ | ⟨b, h1, c, h2, rfl⟩ | ⟨p, h1, rfl⟩ | ⟨b, h1, c, h2, rfl⟩)
    · simp [isPair, h1, h2]
    · simp [isPair, h1, h2]
    · simp [isPair, h1]
    · simp [isPair, h1, h2]
theorem isEntB_snoc {t : List At} {l : At} : isEntB (t ++ [l]) = (inD7 l && isPair t) := by simp [isEntB]
def blockA (d : Int) : List (List At) := (WA.flatMap fun one => (UA.map fun u => [.w "value", one, u.1, u.2, .i d]) ++ WA.map fun o => [.w "order", one, o, .i d]) ++ [[.w "memory", .w "store", .w "load", .i d], [.w "memory", .w "load", .w "store", .i d]] ++ (GA.flatMap fun j => XA.map fun l => [.w "wrong", j, l, .i d])
def lawA : List (List At) := (List.range 7).flatMap fun k => blockA (1 + (k : Nat))
theorem mem_block {d : Int} {xs : List At} : xs ∈ blockA d ↔ ∃ t, isPair t = true ∧ xs = t ++ [.i d] := by
  constructor
  · intro h
    unfold blockA at h
    rw [List.mem_append, List.mem_append, List.mem_flatMap, List.mem_flatMap] at h
    rcases h with (⟨a, h1, h2⟩ | h) | ⟨a, h1, h2⟩
    · rw [List.mem_append, List.mem_map, List.mem_map] at h2
      rcases h2 with ⟨u, h2, rfl⟩ | ⟨u, h2, rfl⟩
      · exact ⟨[.w "value", a, u.1, u.2], isPair_iff.mpr (.inl ⟨a, h1, u, h2, rfl⟩), rfl⟩
      · exact ⟨[.w "order", a, u], isPair_iff.mpr (.inr (.inl ⟨a, h1, u, h2, rfl⟩)), rfl⟩
    · simp only [List.mem_cons, List.not_mem_nil, or_false] at h
      rcases h with rfl | rfl
      · exact ⟨[.w "memory", .w "store", .w "load"], by decide, rfl⟩
      · exact ⟨[.w "memory", .w "load", .w "store"], by decide, rfl⟩
    · rw [List.mem_map] at h2
      obtain ⟨u, h2, rfl⟩ := h2
      exact ⟨[.w "wrong", a, u], isPair_iff.mpr (.inr (.inr (.inr ⟨a, h1, u, h2, rfl⟩))), rfl⟩
  · rintro ⟨t, h, rfl⟩
    unfold blockA
    rw [List.mem_append, List.mem_append, List.mem_flatMap, List.mem_flatMap]
    rcases isPair_iff.mp h with ⟨b, h1, u, h2, rfl⟩ | ⟨b, h1, c, h2, rfl⟩ | ⟨p, h1, rfl⟩ | ⟨b, h1, c, h2, rfl⟩
    · exact .inl (.inl ⟨b, h1, List.mem_append.mpr (.inl (List.mem_map.mpr ⟨u, h2, rfl⟩))⟩)
    · exact .inl (.inl ⟨b, h1, List.mem_append.mpr (.inr (List.mem_map.mpr ⟨c, h2, rfl⟩))⟩)
    · simp only [MA, List.mem_cons, List.not_mem_nil, or_false] at h1
      rcases h1 with rfl | rfl
      · exact .inl (.inr (by simp))
      · exact .inl (.inr (by simp))
    · exact .inr ⟨b, h1, List.mem_map.mpr ⟨c, h2, rfl⟩⟩
theorem mem_lawA {xs : List At} : xs ∈ lawA ↔ isEntB xs = true := by
  unfold lawA
  rw [List.mem_flatMap]
  constructor
  · rintro ⟨k, hk, h⟩
    obtain ⟨t, h1, rfl⟩ := mem_block.mp h
    have hk := List.mem_range.mp hk
    rw [isEntB_snoc, h1, Bool.and_true]
    simp only [inD7, Bool.and_eq_true, decide_eq_true_eq]
    omega
  · intro h
    rcases List.eq_nil_or_concat xs with rfl | ⟨t, l, rfl⟩
    · cases h
    · rw [List.concat_eq_append] at h ⊢
      rw [isEntB_snoc, Bool.and_eq_true] at h
      cases l with
      | i d =>
        have h1 := h.1
        simp only [inD7, Bool.and_eq_true, decide_eq_true_eq] at h1
        refine ⟨(d - 1).toNat, List.mem_range.mpr (by omega), ?_⟩
        have e : (1 : Int) + ((d - 1).toNat : Nat) = d := by omega
        rw [e]
        exact mem_block.mpr ⟨t, h.2, rfl⟩
      | _ => cases h.1
theorem block_len (d : Int) : (blockA d).length = 58 := rfl
end L10
namespace L10
open PySem PySem.Spec PyProof.Rows L2 DL LamX
theorem dLc_map {α : Type} {g : TGD} {e : E D} {δ : DEnv} {M : Mem} {f fv : α → D} : ∀ {xs : List α} {acc : List D}, (∀ x ∈ xs, ∃ δ1, g (f x) δ M = some δ1 ∧ e δ1 M = .ok (fv x) M) → dLc g tTrue e δ (xs.map f) acc M = .ok (acc ++ xs.map fv) M
  | [], acc, _ => by simp [dLc]
  | x :: xs, acc, h => by
    obtain ⟨δ1, h1, h3⟩ := h x List.mem_cons_self
    have ih := dLc_map (g := g) (e := e) (f := f) (fv := fv) (xs := xs) (acc := acc ++ [fv x]) fun z hz => h z (List.mem_cons_of_mem _ hz)
    simp only [List.map_cons, dLc, h1, tTrue, noX_ok, bind_ok, h3, if_true, ih]
    simp
def e3b0b0 : S := (sSet 1 (eBin dAdd (eV 1) (eLc [5, 6] (iSeq (eV 2)) (gTupD 2 (gCons0 (gN 5) (gCons0 (gN 6) gNil0))) tTrue (eTup (aCons (eC (.str "value")) (aCons (eV 4) (aCons (eV 5) (aCons (eV 6) (aCons (eV 3) aNil)))))))))
def e3b0b1 : S := (sSet 1 (eBin dAdd (eV 1) (eLc [5] (iSeq (eV 0)) (gN 5) tTrue (eTup (aCons (eC (.str "order")) (aCons (eV 4) (aCons (eV 5) (aCons (eV 3) aNil))))))))
def e3b0b : S := (sSeq e3b0b0 e3b0b1)
def e3b0 : S := (sFor (iSeq (eV 0)) (gN 4) e3b0b)
def e3b1 : S := (sSet 1 (eBin dAdd (eV 1) (eLst (aCons (eTup (aCons (eC (.str "memory")) (aCons (eC (.str "store")) (aCons (eC (.str "load")) (aCons (eV 3) aNil))))) (aCons (eTup (aCons (eC (.str "memory")) (aCons (eC (.str "load")) (aCons (eC (.str "store")) (aCons (eV 3) aNil))))) aNil)))))
def e3b2b : S := (sSet 1 (eBin dAdd (eV 1) (eLc [5] (iSeq (eBin dAdd (eV 0) (eLst (aCons (eC (.str "store")) (aCons (eC (.str "out")) aNil))))) (gN 5) tTrue (eTup (aCons (eC (.str "wrong")) (aCons (eV 4) (aCons (eV 5) (aCons (eV 3) aNil))))))))
def e3b2 : S := (sFor (iSeq (eLst (aCons (eC (.str "zero")) (aCons (eC (.str "go")) aNil)))) (gN 4) e3b2b)
def e3b : S := (sSeq e3b0 (sSeq e3b1 e3b2))
noncomputable def e3 : S := (sFor (iRange (aCons (eC (.int 1)) (aCons (eC (.int 8)) aNil))) (gN 3) e3b)
def Wl : D := .lst (WA.map atD)
def Ul : D := .lst (UA.map fun u => .tup [atD u.1, atD u.2])
section
variable {acc : List (List At)} {d : Int} {a : At} {x4 x5 x6 : Option D} {M : Mem}
theorem e3b0b_run (hl : acc.length ≤ 900) : ∃ y5 y6, e3b0b [some Wl, some (.lst (acc.map tA)), some Ul, some (.int d), some (atD a), x5, x6] M =
    .nx [some Wl, some (.lst ((acc ++ ((UA.map fun u => [At.w "value", a, u.1, u.2, .i d]) ++ WA.map fun o => [At.w "order", a, o, .i d])).map tA)), some Ul, some (.int d), some (atD a), y5, y6] M := by
  refine ⟨x5, x6, ?_⟩
  have c1 : dLc (gTupD 2 (gCons0 (gN 5) (gCons0 (gN 6) gNil0))) tTrue (eTup (aCons (eC (.str "value")) (aCons (eV 4) (aCons (eV 5) (aCons (eV 6) (aCons (eV 3) aNil)))))) [some Wl, some (.lst (acc.map tA)), some Ul, some (.int d), some (atD a), none, none] (UA.map fun u => .tup [atD u.1, atD u.2]) [] M = .ok ((UA.map fun u => [At.w "value", a, u.1, u.2, .i d]).map tA) M := by
    rw [dLc_map (fv := fun u => tA [At.w "value", a, u.1, u.2, .i d])]
    · rw [List.nil_append, List.map_map]; rfl
    · intro u _
      exact ⟨_, rfl, rfl⟩
  have c2 : ∀ X : Option D, dLc (gN 5) tTrue (eTup (aCons (eC (.str "order")) (aCons (eV 4) (aCons (eV 5) (aCons (eV 3) aNil))))) [some Wl, X, some Ul, some (.int d), some (atD a), none, x6] (WA.map atD) [] M = .ok ((WA.map fun o => [At.w "order", a, o, .i d]).map tA) M := fun X => by
    rw [dLc_map (fv := fun o => tA [At.w "order", a, o, .i d])]
    · rw [List.nil_append, List.map_map]; rfl
    · intro u _
      exact ⟨_, rfl, rfl⟩
  have s1 : e3b0b0 [some Wl, some (.lst (acc.map tA)), some Ul, some (.int d), some (atD a), x5, x6] M = .nx [some Wl, some (.lst ((acc ++ (UA.map fun u => [At.w "value", a, u.1, u.2, .i d])).map tA)), some Ul, some (.int d), some (atD a), x5, x6] M := by
    have l1 : (UA.map fun u => D.tup [atD u.1, atD u.2]).length ≤ sizeLine := by decide
    have l2 : (acc.map tA).length + ((UA.map fun u => [At.w "value", a, u.1, u.2, .i d]).map tA).length ≤ 1000 := by
      have : ((UA.map fun u => [At.w "value", a, u.1, u.2, .i d]).map tA).length = 7 := rfl
      rw [this, List.length_map]; omega
    have e : Ul = .lst (UA.map fun u => D.tup [atD u.1, atD u.2]) := rfl
    unfold e3b0b0
    simp only [sSet_d, eBin_d, eV_d, eLc_d, iSeq_d, List.getElem?_cons_succ, List.getElem?_cons_zero, Option.join, Option.bind_some, id, opt_some, bind_ok]
    rw [e]
    simp only [frz_l, if_true, seqA_l, opt_some, bind_ok, l1, wipeD, List.set_cons_succ, List.set_cons_zero]
    rw [← e, c1]
    simp only [noX_ok, bind_ok, dAdd_l l2, opt_some, sE_ok, List.map_append, List.set_cons_succ, List.set_cons_zero]
  have s2 : ∀ acc2 : List (List At), acc2.length ≤ 950 → e3b0b1 [some Wl, some (.lst (acc2.map tA)), some Ul, some (.int d), some (atD a), x5, x6] M = .nx [some Wl, some (.lst ((acc2 ++ (WA.map fun o => [At.w "order", a, o, .i d])).map tA)), some Ul, some (.int d), some (atD a), x5, x6] M := fun acc2 h2 => by
    have l1 : (WA.map atD).length ≤ sizeLine := by decide
    have l2 : (acc2.map tA).length + ((WA.map fun o => [At.w "order", a, o, .i d]).map tA).length ≤ 1000 := by
      have : ((WA.map fun o => [At.w "order", a, o, .i d]).map tA).length = 4 := rfl
      rw [this, List.length_map]; omega
    have e : Wl = .lst (WA.map atD) := rfl
    unfold e3b0b1
    simp only [sSet_d, eBin_d, eV_d, eLc_d, iSeq_d, List.getElem?_cons_succ, List.getElem?_cons_zero, Option.join, Option.bind_some, id, opt_some, bind_ok]
    rw [e]
    simp only [frz_l, if_true, seqA_l, opt_some, bind_ok, l1, wipeD, List.set_cons_succ, List.set_cons_zero]
    rw [← e, c2]
    simp only [noX_ok, bind_ok, dAdd_l l2, opt_some, sE_ok, List.map_append, List.set_cons_succ, List.set_cons_zero]
  unfold e3b0b
  rw [seq_nx s1, s2 _ (by rw [List.length_append]; have : (UA.map fun u => [At.w "value", a, u.1, u.2, .i d]).length = 7 := rfl; omega), List.append_assoc]
theorem e3b0_run : ∀ (ks : List At) (acc : List (List At)) (x4 x5 x6 : Option D), acc.length + 11 * ks.length ≤ 900 → ∃ y4 y5 y6, dFor (gN 4) e3b0b (ks.map atD) [some Wl, some (.lst (acc.map tA)), some Ul, some (.int d), x4, x5, x6] M =
    .nx [some Wl, some (.lst ((acc ++ ks.flatMap fun one => (UA.map fun u => [At.w "value", one, u.1, u.2, .i d]) ++ WA.map fun o => [At.w "order", one, o, .i d]).map tA)), some Ul, some (.int d), y4, y5, y6] M
  | [], acc, x4, x5, x6, _ => ⟨x4, x5, x6, by simp⟩
  | k :: ks, acc, x4, x5, x6, h => by
    rw [List.length_cons] at h
    obtain ⟨y5, y6, e⟩ := e3b0b_run (acc := acc) (d := d) (a := k) (x5 := x5) (x6 := x6) (M := M) (by omega)
    obtain ⟨z4, z5, z6, ih⟩ := e3b0_run ks (acc ++ ((UA.map fun u => [At.w "value", k, u.1, u.2, .i d]) ++ WA.map fun o => [At.w "order", k, o, .i d])) (some (atD k)) y5 y6 (by
      have : ((UA.map fun u => [At.w "value", k, u.1, u.2, .i d]) ++ WA.map fun o => [At.w "order", k, o, .i d]).length = 11 := rfl
      rw [List.length_append, this]; omega)
    refine ⟨z4, z5, z6, ?_⟩
    rw [List.map_cons, dFor_cons (δ1 := [some Wl, some (.lst (acc.map tA)), some Ul, some (.int d), some (atD k), x5, x6]) rfl, e, forK_nx, ih, List.flatMap_cons, List.append_assoc]
theorem e3b1_run (hl : acc.length ≤ 900) : e3b1 [some Wl, some (.lst (acc.map tA)), some Ul, some (.int d), x4, x5, x6] M = .nx [some Wl, some (.lst ((acc ++ [[At.w "memory", .w "store", .w "load", .i d], [At.w "memory", .w "load", .w "store", .i d]]).map tA)), some Ul, some (.int d), x4, x5, x6] M := by
  have l2 : (acc.map tA).length + [tA [At.w "memory", .w "store", .w "load", .i d], tA [.w "memory", .w "load", .w "store", .i d]].length ≤ 1000 := by
    rw [List.length_map]; simp; omega
  unfold e3b1
  simp only [sSet_d, eBin_d, eV_d, eLst_d, eTup_d, aCons_d, aNil_d, eC_d, List.getElem?_cons_succ, List.getElem?_cons_zero, Option.join, Option.bind_some, id, opt_some, bind_ok]
  have e' : dAdd M (.lst (acc.map tA)) (.lst [.tup [.str "memory", .str "store", .str "load", .int d], .tup [.str "memory", .str "load", .str "store", .int d]]) = some (.lst ((acc ++ [[At.w "memory", .w "store", .w "load", .i d], [At.w "memory", .w "load", .w "store", .i d]]).map tA)) := by
    refine (dAdd_l (by rw [List.length_map]; simp; omega)).trans ?_
    rw [List.map_append]
    rfl
  rw [e']
  rfl
theorem e3b2b_run (hl : acc.length ≤ 900) : ∃ y5, e3b2b [some Wl, some (.lst (acc.map tA)), some Ul, some (.int d), some (atD a), x5, x6] M =
    .nx [some Wl, some (.lst ((acc ++ (XA.map fun l => [At.w "wrong", a, l, .i d])).map tA)), some Ul, some (.int d), some (atD a), y5, x6] M := by
  refine ⟨x5, ?_⟩
  have c2 : dLc (gN 5) tTrue (eTup (aCons (eC (.str "wrong")) (aCons (eV 4) (aCons (eV 5) (aCons (eV 3) aNil))))) [some Wl, some (.lst (acc.map tA)), some Ul, some (.int d), some (atD a), none, x6] (XA.map atD) [] M = .ok ((XA.map fun o => [At.w "wrong", a, o, .i d]).map tA) M := by
    rw [dLc_map (fv := fun o => tA [At.w "wrong", a, o, .i d])]
    · rw [List.nil_append, List.map_map]; rfl
    · intro u _
      exact ⟨_, rfl, rfl⟩
  have l1 : (XA.map atD).length ≤ sizeLine := by decide
  have l2 : (acc.map tA).length + ((XA.map fun o => [At.w "wrong", a, o, .i d]).map tA).length ≤ 1000 := by
    have : ((XA.map fun o => [At.w "wrong", a, o, .i d]).map tA).length = 6 := rfl
    rw [this, List.length_map]; omega
  have e : dAdd M Wl (.lst [.str "store", .str "out"]) = some (.lst (XA.map atD)) := (dAdd_l (by decide)).trans rfl
  unfold e3b2b
  simp only [sSet_d, eBin_d, eV_d, eLc_d, iSeq_d, eLst_d, aCons_d, aNil_d, eC_d, List.getElem?_cons_succ, List.getElem?_cons_zero, Option.join, Option.bind_some, id, opt_some, bind_ok, e]
  simp only [frz_l, if_true, seqA_l, opt_some, bind_ok, l1, wipeD, List.set_cons_succ, List.set_cons_zero]
  rw [c2]
  simp only [noX_ok, bind_ok, dAdd_l l2, opt_some, sE_ok, List.map_append, List.set_cons_succ, List.set_cons_zero]
theorem e3b2_run : ∀ (ks : List At) (acc : List (List At)) (x4 x5 x6 : Option D), acc.length + 6 * ks.length ≤ 900 → ∃ y4 y5, dFor (gN 4) e3b2b (ks.map atD) [some Wl, some (.lst (acc.map tA)), some Ul, some (.int d), x4, x5, x6] M =
    .nx [some Wl, some (.lst ((acc ++ ks.flatMap fun j => XA.map fun l => [At.w "wrong", j, l, .i d]).map tA)), some Ul, some (.int d), y4, y5, x6] M
  | [], acc, x4, x5, x6, _ => ⟨x4, x5, by simp⟩
  | k :: ks, acc, x4, x5, x6, h => by
    rw [List.length_cons] at h
    obtain ⟨y5, e⟩ := e3b2b_run (acc := acc) (d := d) (a := k) (x5 := x5) (x6 := x6) (M := M) (by omega)
    obtain ⟨z4, z5, ih⟩ := e3b2_run ks (acc ++ (XA.map fun l => [At.w "wrong", k, l, .i d])) (some (atD k)) y5 x6 (by
      have : (XA.map fun l => [At.w "wrong", k, l, .i d]).length = 6 := rfl
      rw [List.length_append, this]; omega)
    refine ⟨z4, z5, ?_⟩
    rw [List.map_cons, dFor_cons (δ1 := [some Wl, some (.lst (acc.map tA)), some Ul, some (.int d), some (atD k), x5, x6]) rfl, e, forK_nx, ih, List.flatMap_cons, List.append_assoc]
theorem e3b_run (hl : acc.length ≤ 800) : ∃ y4 y5 y6, e3b [some Wl, some (.lst (acc.map tA)), some Ul, some (.int d), x4, x5, x6] M =
    .nx [some Wl, some (.lst ((acc ++ blockA d).map tA)), some Ul, some (.int d), y4, y5, y6] M := by
  obtain ⟨a4, a5, a6, e1⟩ := e3b0_run (d := d) (M := M) WA acc x4 x5 x6 (by rw [show WA.length = 4 from rfl]; omega)
  generalize h1 : (WA.flatMap fun one => (UA.map fun u => [At.w "value", one, u.1, u.2, .i d]) ++ WA.map fun o => [At.w "order", one, o, .i d]) = B1 at e1
  have l1 : B1.length = 44 := by rw [← h1]; rfl
  have e2 := e3b1_run (acc := acc ++ B1) (d := d) (x4 := a4) (x5 := a5) (x6 := a6) (M := M) (by rw [List.length_append, l1]; omega)
  generalize h2 : [[At.w "memory", .w "store", .w "load", .i d], [At.w "memory", .w "load", .w "store", .i d]] = B2 at e2
  have l2 : B2.length = 2 := by rw [← h2]; rfl
  obtain ⟨b4, b5, e3⟩ := e3b2_run (d := d) (M := M) GA (acc ++ B1 ++ B2) a4 a5 a6 (by rw [List.length_append, List.length_append, l1, l2, show GA.length = 2 from rfl]; omega)
  have hb : blockA d = B1 ++ B2 ++ (GA.flatMap fun j => XA.map fun l => [At.w "wrong", j, l, .i d]) := by rw [← h1, ← h2]; rfl
  refine ⟨b4, b5, a6, ?_⟩
  have s1 : e3b0 [some Wl, some (.lst (acc.map tA)), some Ul, some (.int d), x4, x5, x6] M = .nx [some Wl, some (.lst ((acc ++ B1).map tA)), some Ul, some (.int d), a4, a5, a6] M := e1
  have s3 : e3b2 [some Wl, some (.lst ((acc ++ B1 ++ B2).map tA)), some Ul, some (.int d), a4, a5, a6] M = .nx [some Wl, some (.lst ((acc ++ B1 ++ B2 ++ GA.flatMap fun j => XA.map fun l => [At.w "wrong", j, l, .i d]).map tA)), some Ul, some (.int d), b4, b5, a6] M := e3
  unfold e3b
  rw [seq_nx s1, seq_nx e2, s3, hb]
  simp only [List.append_assoc]
theorem e3_loop : ∀ (ks : List Nat) (acc : List (List At)) (x3 x4 x5 x6 : Option D), acc.length + 58 * ks.length ≤ 800 → ∃ y3 y4 y5 y6, dFor (gN 3) e3b (ks.map fun k => .int (1 + (k : Nat))) [some Wl, some (.lst (acc.map tA)), some Ul, x3, x4, x5, x6] M =
    .nx [some Wl, some (.lst ((acc ++ ks.flatMap fun k => blockA (1 + (k : Nat))).map tA)), some Ul, y3, y4, y5, y6] M
  | [], acc, x3, x4, x5, x6, _ => ⟨x3, x4, x5, x6, by simp⟩
  | k :: ks, acc, x3, x4, x5, x6, h => by
    rw [List.length_cons] at h
    obtain ⟨y4, y5, y6, e⟩ := e3b_run (acc := acc) (d := 1 + (k : Nat)) (x4 := x4) (x5 := x5) (x6 := x6) (M := M) (by omega)
    obtain ⟨z3, z4, z5, z6, ih⟩ := e3_loop ks (acc ++ blockA (1 + (k : Nat))) (some (.int (1 + (k : Nat)))) y4 y5 y6 (by rw [List.length_append, block_len]; omega)
    refine ⟨z3, z4, z5, z6, ?_⟩
    rw [List.map_cons, dFor_cons (δ1 := [some Wl, some (.lst (acc.map tA)), some Ul, some (.int (1 + (k : Nat))), x4, x5, x6]) rfl, e, forK_nx, ih, List.flatMap_cons, List.append_assoc]
end
end L10
namespace L10
open PySem PySem.Spec PyProof.Rows L2 DL LamX
def kAs (xs : List At) : KL := xs.map kA
def insA (a : List At) : List (List At) → List (List At)
  | [] => [a]
  | b :: r => if ltK (kAs b) (kAs a) = true then b :: insA a r else a :: b :: r
def sortA : List (List At) → List (List At)
  | [] => []
  | a :: r => insA a (sortA r)
theorem insA_map (a : List At) : ∀ l, insKL (kAs a) (l.map kAs) = (insA a l).map kAs
  | [] => rfl
  | b :: r => by
    rw [List.map_cons, insKL, insA]
    split
    · rw [insA_map a r, List.map_cons]
    · rfl
theorem sortA_map : ∀ l, sortKL (l.map kAs) = (sortA l).map kAs
  | [] => rfl
  | a :: r => by rw [List.map_cons, sortKL, sortA_map r, insA_map, sortA]
theorem insA_perm (a : List At) : ∀ l, (insA a l).Perm (a :: l)
  | [] => List.Perm.refl _
  | b :: r => by
    unfold insA
    split
    · exact ((insA_perm a r).cons b).trans (List.Perm.swap a b r)
    · exact List.Perm.refl _
theorem sortA_perm : ∀ l, (sortA l).Perm l
  | [] => List.Perm.refl _
  | a :: r => (insA_perm a _).trans ((sortA_perm r).cons a)
def FormA (xs : List At) : Prop := (∃ a b c d, xs = [.w "value", .w a, .w b, .w c, .i d]) ∨ (∃ r a b d, r ≠ "value" ∧ xs = [.w r, .w a, .w b, .i d])
theorem wA {a : At} (h : a ∈ WA) : ∃ s, a = .w s := by
  simp only [WA, List.mem_cons, List.not_mem_nil, or_false] at h
  rcases h with rfl | rfl | rfl | rfl <;> exact ⟨_, rfl⟩
theorem gA {a : At} (h : a ∈ GA) : ∃ s, a = .w s := by
  simp only [GA, List.mem_cons, List.not_mem_nil, or_false] at h
  rcases h with rfl | rfl <;> exact ⟨_, rfl⟩
theorem xA {a : At} (h : a ∈ XA) : ∃ s, a = .w s := by
  simp only [XA, List.mem_cons, List.not_mem_nil, or_false] at h
  rcases h with rfl | rfl | rfl | rfl | rfl | rfl <;> exact ⟨_, rfl⟩
theorem uA {u : At × At} (h : u ∈ UA) : (∃ s, u.1 = .w s) ∧ ∃ s, u.2 = .w s := by
  simp only [UA, List.mem_cons, List.not_mem_nil, or_false] at h
  rcases h with rfl | rfl | rfl | rfl | rfl | rfl | rfl <;> exact ⟨⟨_, rfl⟩, ⟨_, rfl⟩⟩
theorem mA {u : At × At} (h : u ∈ MA) : (∃ s, u.1 = .w s) ∧ ∃ s, u.2 = .w s := by
  simp only [MA, List.mem_cons, List.not_mem_nil, or_false] at h
  rcases h with rfl | rfl <;> exact ⟨⟨_, rfl⟩, ⟨_, rfl⟩⟩
theorem ent_cases {xs : List At} (h : isEntB xs = true) : ∃ t d, isPair t = true ∧ 1 ≤ d ∧ d ≤ 7 ∧ xs = t ++ [.i d] := by
  rcases List.eq_nil_or_concat xs with rfl | ⟨t, l, rfl⟩
  · cases h
  · rw [List.concat_eq_append] at h ⊢
    rw [isEntB_snoc, Bool.and_eq_true] at h
    cases l with
    | i d =>
      have h1 := h.1
      simp only [inD7, Bool.and_eq_true, decide_eq_true_eq] at h1
      exact ⟨t, d, h.2, h1.1, h1.2, rfl⟩
    | _ => cases h.1
theorem ent_form {xs : List At} (h : isEntB xs = true) : FormA xs := by
  obtain ⟨t, d, ht, _, _, rfl⟩ := ent_cases h
  rcases isPair_iff.mp ht with ⟨b, h1, u, h2, rfl⟩ | ⟨b, h1, c, h2, rfl⟩ | ⟨p, h1, rfl⟩ | ⟨b, h1, c, h2, rfl⟩
  · obtain ⟨s, rfl⟩ := wA h1
    obtain ⟨⟨s1, e1⟩, ⟨s2, e2⟩⟩ := uA h2
    exact .inl ⟨s, s1, s2, d, by rw [e1, e2]; rfl⟩
  · obtain ⟨s, rfl⟩ := wA h1
    obtain ⟨s2, rfl⟩ := wA h2
    exact .inr ⟨"order", s, s2, d, by decide, rfl⟩
  · obtain ⟨⟨s1, e1⟩, ⟨s2, e2⟩⟩ := mA h1
    exact .inr ⟨"memory", s1, s2, d, by decide, by rw [e1, e2]; rfl⟩
  · obtain ⟨s, rfl⟩ := gA h1
    obtain ⟨s2, rfl⟩ := xA h2
    exact .inr ⟨"wrong", s, s2, d, by decide, rfl⟩
theorem form_first {xs : List At} (h : FormA xs) : firstT (kAs xs) = true := by
  rcases h with ⟨_, _, _, _, rfl⟩ | ⟨_, _, _, _, _, rfl⟩ <;> rfl
theorem form_cmp {xs ys : List At} (h : FormA xs) (h2 : FormA ys) : cmpK (kAs xs) (kAs ys) = true := by
  rcases h with ⟨a, b, c, d, rfl⟩ | ⟨r, a, b, d, hr, rfl⟩ <;> rcases h2 with ⟨a', b', c', d', rfl⟩ | ⟨r', a', b', d', hr', rfl⟩
  · simp [kAs, kA, cmpK, sameK]
  · have e : ¬ (Str.ofString "value" = Str.ofString r') := fun z => hr' (ofs_inj.mp z).symm
    simp [kAs, kA, cmpK, sameK]
    exact .inl fun z => hr' z.symm
  · simp [kAs, kA, cmpK, sameK]
    exact .inl hr
  · simp [kAs, kA, cmpK, sameK]
theorem form_to {xs : List At} (h : FormA xs) : klTo (kAs xs) = tA xs := by
  rcases h with ⟨_, _, _, _, rfl⟩ | ⟨_, _, _, _, _, rfl⟩ <;> rfl
theorem form_kl {xs : List At} (h : FormA xs) : klD (tA xs) = some (kAs xs) := by
  rcases h with ⟨_, _, _, _, rfl⟩ | ⟨_, _, _, _, _, rfl⟩ <;> rfl
theorem forms_kl : ∀ {xs : List (List At)}, (∀ x ∈ xs, FormA x) → klsD (xs.map tA) = some (xs.map kAs)
  | [], _ => rfl
  | x :: xs, h => by
    have ih := forms_kl (xs := xs) fun y hy => h y (List.mem_cons_of_mem _ hy)
    unfold klsD at ih ⊢
    rw [List.map_cons, List.mapM_cons, form_kl (h x List.mem_cons_self), ih]
    rfl
theorem forms_to : ∀ {xs : List (List At)}, (∀ x ∈ xs, FormA x) → (xs.map kAs).map klTo = xs.map tA
  | [], _ => rfl
  | x :: xs, h => by rw [List.map_cons, List.map_cons, List.map_cons, form_to (h x List.mem_cons_self), forms_to fun y hy => h y (List.mem_cons_of_mem _ hy)]
theorem sortE_run {xs : List (List At)} (M : Mem) (h : ∀ x ∈ xs, FormA x) : fSortE [.lst (xs.map tA)] M = .ok (.lst ((sortA xs).map tA)) M := by
  have ok : okSort (xs.map kAs) := ⟨fun k hk => by
    obtain ⟨x, hx, rfl⟩ := List.mem_map.mp hk
    exact form_first (h x hx), fun a ha b hb => by
    obtain ⟨x, hx, rfl⟩ := List.mem_map.mp ha
    obtain ⟨y, hy, rfl⟩ := List.mem_map.mp hb
    exact form_cmp (h x hx) (h y hy)⟩
  show sortEK M (some (xs.map tA)) = _
  unfold sortEK
  dsimp only
  rw [forms_kl h]
  dsimp only
  rw [if_pos (dec_iff.mpr ok), sortA_map, forms_to fun x hx => h x ((sortA_perm xs).mem_iff.mp hx)]
noncomputable def SA : List (List At) := sortA lawA
theorem mem_SA {xs : List At} : xs ∈ SA ↔ isEntB xs = true := (sortA_perm lawA).mem_iff.trans mem_lawA
theorem len_SA : SA.length = 406 := (sortA_perm lawA).length_eq
theorem law_entries (M : Mem) : f__law_entries [] M = .ok (.lst (SA.map tA)) M := by
  have hf : ∀ x ∈ lawA, FormA x := fun x hx => ent_form (mem_lawA.mp hx)
  obtain ⟨y3, y4, y5, y6, e⟩ := e3_loop (M := M) (List.range 7) [] none none none none (by decide)
  have s0 : (sPar 0 1 (aCons (eLst (aCons (eC (.str "set")) (aCons (eC (.str "sum")) (aCons (eC (.str "mul")) (aCons (eC (.str "load")) aNil))))) (aCons (eLst aNil) aNil))) [none, none, none, none, none, none, none] M = .nx [some Wl, some (.lst (([] : List (List At)).map tA)), none, none, none, none, none] M := rfl
  have hm : m__law_entries = sSeq (sPar 0 1 (aCons (eLst (aCons (eC (.str "set")) (aCons (eC (.str "sum")) (aCons (eC (.str "mul")) (aCons (eC (.str "load")) aNil))))) (aCons (eLst aNil) aNil)))
      (sSeq (sSet 2 (eLst (aCons (eTup (aCons (eC (.str "sum")) (aCons (eC (.str "a")) aNil))) (aCons (eTup (aCons (eC (.str "mul")) (aCons (eC (.str "a")) aNil))) (aCons (eTup (aCons (eC (.str "load")) (aCons (eC (.str "a")) aNil))) (aCons (eTup (aCons (eC (.str "store")) (aCons (eC (.str "a")) aNil))) (aCons (eTup (aCons (eC (.str "store")) (aCons (eC (.str "b")) aNil))) (aCons (eTup (aCons (eC (.str "zero")) (aCons (eC (.str "a")) aNil))) (aCons (eTup (aCons (eC (.str "out")) (aCons (eC (.str "a")) aNil))) aNil)))))))))
      (sSeq e3 (sRet (eCall fSortE (aCons (eV 1) aNil))))) := rfl
  have s1 : (sSet 2 (eLst (aCons (eTup (aCons (eC (.str "sum")) (aCons (eC (.str "a")) aNil))) (aCons (eTup (aCons (eC (.str "mul")) (aCons (eC (.str "a")) aNil))) (aCons (eTup (aCons (eC (.str "load")) (aCons (eC (.str "a")) aNil))) (aCons (eTup (aCons (eC (.str "store")) (aCons (eC (.str "a")) aNil))) (aCons (eTup (aCons (eC (.str "store")) (aCons (eC (.str "b")) aNil))) (aCons (eTup (aCons (eC (.str "zero")) (aCons (eC (.str "a")) aNil))) (aCons (eTup (aCons (eC (.str "out")) (aCons (eC (.str "a")) aNil))) aNil))))))))) [some Wl, some (.lst (([] : List (List At)).map tA)), none, none, none, none, none] M = .nx [some Wl, some (.lst (([] : List (List At)).map tA)), some Ul, none, none, none, none] M := rfl
  have s2 : e3 [some Wl, some (.lst (([] : List (List At)).map tA)), some Ul, none, none, none, none] M = .nx [some Wl, some (.lst (lawA.map tA)), some Ul, y3, y4, y5, y6] M := by
    have r : rangeK [.int 1, .int 8] M = .ok ((List.range 7).map fun k => .int (1 + (k : Nat))) M := by
      have a1 : smallI 1 = true := dec_iff.mpr (by decide)
      have a2 : smallI 8 = true := dec_iff.mpr (by decide)
      simp [rangeK, a1, a2]
    unfold e3
    simp only [sFor_d, iRange_d, aCons_d, aNil_d, eC_d, bind_ok, r, sE_ok]
    exact e
  have s3 := sortE_run M hf
  unfold f__law_entries
  rw [hm, runS_d]
  show endS (sSeq _ _ [none, none, none, none, none, none, none] M) = _
  rw [seq_nx s0, seq_nx s1, seq_nx s2]
  simp only [sRet_d, eCall_d, aCons_d, aNil_d, eV_d, List.getElem?_cons_succ, List.getElem?_cons_zero, Option.join, Option.bind_some, id, opt_some, bind_ok, s3, sE_ok, end_rt]
  rfl
end L10
namespace L10
open PySem PySem.Spec PyProof.Rows L2 DL LamX
theorem flat_tA (x : List At) : flatD (tA x) = false := rfl
theorem any_eqv (x : List At) (xs : List (List At)) : ((xs.map fun y => PyData.tuple (y.map pA)).any fun z => PyData.eqv z (.tuple (x.map pA))) = xs.any fun y => eqAs y x := by
  rw [List.any_map]
  congr 1
  funext y
  simp only [Function.comp, PyData.eqv]
  exact eqv_ats _ _
noncomputable def l0 : S := (sSet 1 (eMut (aCons (eV 0) (aCons (eC (.int 0)) (aCons (eC (.int 14310)) (aCons (eC (.int 0)) aNil))))))
noncomputable def l1 : S := (sSet 2 (eCall f__law_pick (aCons (eV 1) (aCons (eCall f__law_entries aNil) aNil))))
noncomputable def l2 : S := (sIf (tOf (eBin dIsNotF (eCall f_is_entry (aCons (eV 2) aNil)) (eC (.bl true)))) (sRet (eC (.bl false))) sNx)
noncomputable def l3 : S := (sSet 3 (eCall f__law_taken (aCons (eV 1) (aCons (eCall fLen (aCons (eV 2) aNil)) aNil))))
noncomputable def l4 : S := (sSet 4 (eLst (aCons (eC (.str "value")) (aCons (eC (.str "order")) (aCons (eC (.str "memory")) (aCons (eC (.str "wrong")) (aCons (eC (.str "set")) (aCons (eC (.str "sum")) (aCons (eC (.str "load")) (aCons (eC (.str "store")) (aCons (eC (.str "zero")) (aCons (eC (.str "out")) (aCons (eC (.str "a")) (aCons (eC (.str "b")) (aCons (eC (.int 0)) (aCons (eC (.int 1)) (aCons (eC (.int 7)) (aCons (eC (.int 8)) (aCons (eC .non) (aCons (eC (.bl true)) aNil))))))))))))))))))))
noncomputable def l5 : S := (sSet 5 (eBin dAdd (eBin dAdd (eSl (eV 2) oNone (oSome (eV 3))) (eTup (aCons (eCall f__law_pick (aCons (eV 1) (aCons (eV 4) aNil))) aNil))) (eSl (eV 2) (oSome (eBin dAdd (eV 3) (eC (.int 1)))) oNone)))
noncomputable def l6 : S := (sIf (tNotE (tTr (eCall (f__law_alike 8) (aCons (eCall f_is_entry (aCons (eV 5) aNil)) (aCons (eAnd (eBin dInV (eV 5) (eCall f__law_entries aNil)) (eBin dIsNotF (eBin dIx (eV 5) (eUn dNeg (eC (.int 1)))) (eC (.bl true)))) aNil))))) (sRet (eC (.bl false))) sNx)
noncomputable def l7 : S := (sSet 6 (eLst (aCons (eC .non) (aCons (eTup aNil) (aCons (eSl (eV 2) oNone (oSome (eUn dNeg (eC (.int 1))))) (aCons (eBin dAdd (eV 2) (eTup (aCons (eC (.int 1)) aNil))) (aCons (eCall fList (aCons (eV 2) aNil)) (aCons (eTup (aCons (eC (.str "value")) (aCons (eC (.str "set")) (aCons (eC (.str "sum")) (aCons (eC (.str "b")) (aCons (eC (.int 1)) aNil)))))) (aCons (eTup (aCons (eC (.str "value")) (aCons (eC (.str "store")) (aCons (eC (.str "sum")) (aCons (eC (.str "a")) (aCons (eC (.int 1)) aNil)))))) aNil)))))))))
noncomputable def l8 : S := (sSet 6 (eBin dAdd (eV 6) (eLst (aCons (eTup (aCons (eC (.str "value")) (aCons (eC (.str "set")) (aCons (eC (.str "go")) (aCons (eC (.str "a")) (aCons (eC (.int 1)) aNil)))))) (aCons (eTup (aCons (eC (.str "order")) (aCons (eC (.str "store")) (aCons (eC (.str "set")) (aCons (eC (.int 1)) aNil))))) (aCons (eTup (aCons (eC (.str "memory")) (aCons (eC (.str "load")) (aCons (eC (.str "load")) (aCons (eC (.int 1)) aNil))))) (aCons (eTup (aCons (eC (.str "wrong")) (aCons (eC (.str "zero")) (aCons (eC (.str "go")) (aCons (eC (.int 1)) aNil))))) aNil)))))))
noncomputable def l9 : S := (sSet 6 (eBin dAdd (eV 6) (eLst (aCons (eTup (aCons (eC (.str "memory")) (aCons (eC (.str "store")) (aCons (eC (.str "store")) (aCons (eC (.int 1)) aNil))))) (aCons (eTup (aCons (eC (.str "order")) (aCons (eC (.str "set")) (aCons (eC (.str "sum")) (aCons (eC (.int 0)) aNil))))) (aCons (eTup (aCons (eC (.str "order")) (aCons (eC (.str "set")) (aCons (eC (.str "sum")) (aCons (eC (.int 8)) aNil))))) (aCons (eTup (aCons (eC (.str "wrong")) (aCons (eC (.str "out")) (aCons (eC (.str "set")) (aCons (eC (.int 1)) aNil))))) (aCons (eC (.int 7)) aNil))))))))
noncomputable def l10 : S := (sSet 7 (eBin dIx (eV 6) (eCall f__law_taken (aCons (eV 1) (aCons (eCall fLen (aCons (eV 6) aNil)) aNil)))))
noncomputable def l11 : S := (sSet 8 (eCall f__law_design (aCons (eV 1) aNil)))
noncomputable def l12 : S := (sSet 9 (eLst (aCons (eC (.clo 0)) (aCons (eC (.clo 1)) (aCons (eC (.clo 2)) aNil)))))
noncomputable def l13 : S := (sRet (eAnd (eBin dIsF (eCall f_is_entry (aCons (eV 7) aNil)) (eC (.bl false))) (eClo (eBin dIx (eV 9) (eCall f__law_taken (aCons (eV 1) (aCons (eC (.int 3)) aNil)))) gm__law_bad th_law)))
theorem m_law_eq : m_law = (sSeq l0 (sSeq l1 (sSeq l2 (sSeq l3 (sSeq l4 (sSeq l5 (sSeq l6 (sSeq l7 (sSeq l8 (sSeq l9 (sSeq l10 (sSeq l11 (sSeq l12 l13))))))))))))) := rfl
theorem inE {x : List At} (M : Mem) : dInV M (tA x) (.lst (SA.map tA)) = some (.bl (SA.any fun y => eqAs y x)) := by
  have e1 : dInB M (tA x) (.lst (SA.map tA)) = none := by
    unfold dInB
    rw [seqA_l]
    dsimp only
    rw [flat_tA, if_neg (fun z => Bool.false_ne_true z.1)]
  have e2 : dInT (tA x) (.lst (SA.map tA)) = none := by
    unfold dInT
    rw [toP_tA]
    rfl
  have e3 : dInL (tA x) (.lst (SA.map tA)) = some (SA.any fun y => eqAs y x) := by
    unfold dInL
    rw [toP_tA]
    simp only [toPs_tAs]
    rw [if_pos ⟨shaped_tA _, shaped_lAs _⟩, any_eqv]
  unfold dInV dInVB dInP
  rw [e1]
  dsimp only
  rw [e2]
  dsimp only
  rw [e3]
  rfl
theorem eqAs_w : ∀ {t x : List At}, (∀ a ∈ t, ∃ s, a = .w s) → eqAs t x = true → t = x
  | [], [], _, _ => rfl
  | [], _ :: _, _, h => by cases h
  | _ :: _, [], _, h => by cases h
  | a :: t, b :: x, ht, h => by
    obtain ⟨s, rfl⟩ := ht a List.mem_cons_self
    rw [eqAs, Bool.and_eq_true, eqA_w', decide_eq_true_eq] at h
    rw [h.1, eqAs_w (fun c hc => ht c (List.mem_cons_of_mem _ hc)) h.2]
theorem eqAs_len : ∀ {x y : List At}, eqAs x y = true → x.length = y.length
  | [], [], _ => rfl
  | [], _ :: _, h => by cases h
  | _ :: _, [], h => by cases h
  | a :: x, b :: y, h => by
    rw [eqAs, Bool.and_eq_true] at h
    rw [List.length_cons, List.length_cons, eqAs_len h.2]
theorem eqAs_app : ∀ {x x' y y' : List At}, x.length = x'.length → eqAs (x ++ y) (x' ++ y') = (eqAs x x' && eqAs y y')
  | [], [], _, _, _ => by simp [eqAs]
  | [], _ :: _, _, _, h => by cases h
  | _ :: _, [], _, _, h => by cases h
  | a :: x, b :: x', y, y', h => by
    rw [List.cons_append, List.cons_append, eqAs, eqAs, eqAs_app (by simpa using h), Bool.and_assoc]
theorem eqAs_self : ∀ x : List At, eqAs x x = true
  | [] => rfl
  | a :: x => by
    rw [eqAs, eqAs_self x, Bool.and_true]
    cases a <;> simp [eqA]
theorem pair_w {t : List At} (h : isPair t = true) : ∀ a ∈ t, ∃ s, a = .w s := by
  rcases isPair_iff.mp h with ⟨b, hb, u, hu, rfl⟩ | ⟨b, hb, c, hc, rfl⟩ | ⟨p, hp, rfl⟩ | ⟨b, hb, c, hc, rfl⟩ <;> intro a ha <;> simp only [List.mem_cons, List.not_mem_nil, or_false] at ha
  · rcases ha with rfl | rfl | rfl | rfl
    · exact ⟨_, rfl⟩
    · exact wA hb
    · exact (uA hu).1
    · exact (uA hu).2
  · rcases ha with rfl | rfl | rfl
    · exact ⟨_, rfl⟩
    · exact wA hb
    · exact wA hc
  · rcases ha with rfl | rfl | rfl
    · exact ⟨_, rfl⟩
    · exact (mA hp).1
    · exact (mA hp).2
  · rcases ha with rfl | rfl | rfl
    · exact ⟨_, rfl⟩
    · exact gA hb
    · exact xA hc
def notT (a : At) : Bool := match a with
  | .b true => false
  | _ => true
theorem inE_ent (t : List At) (l : At) : ((SA.any fun y => eqAs y (t ++ [l])) && notT l) = isEntB (t ++ [l]) := by
  rw [Bool.eq_iff_iff, Bool.and_eq_true, List.any_eq_true]
  constructor
  · rintro ⟨⟨y, hy, q⟩, nt⟩
    obtain ⟨t', d, h1, h2, h3, rfl⟩ := ent_cases (mem_SA.mp hy)
    have ln := eqAs_len q
    rw [List.length_append, List.length_append] at ln
    rw [eqAs_app (by simpa using ln), Bool.and_eq_true] at q
    have e := eqAs_w (pair_w h1) q.1
    subst e
    have q2 := q.2
    rw [eqAs, eqAs, Bool.and_true] at q2
    cases l with
    | i j =>
      have : d = j := by simpa [eqA] using q2
      subst this
      rw [isEntB_snoc, h1]
      simp [inD7, h2, h3]
    | b p =>
      cases p with
      | true => cases nt
      | false =>
        have : d = 0 := by simpa [eqA] using q2
        omega
    | w s => cases q2
    | n => cases q2
  · intro h
    refine ⟨⟨t ++ [l], mem_SA.mpr h, eqAs_self _⟩, ?_⟩
    rw [isEntB_snoc, Bool.and_eq_true] at h
    cases l with
    | i j => rfl
    | b p => cases h.1
    | w s => rfl
    | n => rfl
def en (x0 x2 x3 x4 x5 x6 x7 x8 x9 : Option D) : DEnv := [x0, some (.mu 0), x2, x3, x4, x5, x6, x7, x8, x9]
def someA : List At := [.w "value", .w "order", .w "memory", .w "wrong", .w "set", .w "sum", .w "load", .w "store", .w "zero", .w "out", .w "a", .w "b", .i 0, .i 1, .i 7, .i 8, .n, .b true]
noncomputable def El : D := .lst (SA.map tA)
theorem alike_bl (b : Bool) (M : Mem) : f__law_alike 8 [.bl b, .bl b] M = .ok (.bl true) M := alike_self 7 _ M rfl
theorem cut_to {xs : List D} (M : Mem) (j : Nat) : dCut M (.tup xs) none (some (j : Nat)) = some (.tup (xs.take j)) := by
  have e1 : HT.sIx xs.length 0 none = 0 := rfl
  simp only [dCut, DL.cutD, e1, HT.sIx_nat, List.drop_zero, Nat.sub_zero]
  congr 2
  by_cases h : j ≤ xs.length
  · rw [Nat.min_eq_left h]
  · rw [Nat.min_eq_right (by omega), List.take_of_length_le (Nat.le_refl _), List.take_of_length_le (by omega)]
theorem cut_fr {xs : List D} (M : Mem) (j : Nat) : dCut M (.tup xs) (some (j : Nat)) none = some (.tup (xs.drop j)) := by
  have e1 : HT.sIx xs.length xs.length none = xs.length := rfl
  simp only [dCut, DL.cutD, e1, HT.sIx_nat]
  congr 2
  by_cases h : j ≤ xs.length
  · rw [Nat.min_eq_left h, List.take_of_length_le (by rw [List.length_drop]; omega)]
  · rw [Nat.min_eq_right (by omega), List.drop_of_length_le (Nat.le_refl _), List.drop_of_length_le (by omega), List.take_nil]
theorem dAdd_t {xs ys : List D} (M : Mem) (h : xs.length + ys.length ≤ 1000) : dAdd M (.tup xs) (.tup ys) = some (.tup (xs ++ ys)) := by
  have : xs.length + ys.length ≤ sizeLine := by
    have e : sizeLine = 16777216 := rfl
    omega
  simp [dAdd, this]
theorem ent_len {e : List At} (h : isEntB e = true) : e.length ≤ 5 ∧ 1 ≤ e.length := by
  rcases ent_form h with ⟨_, _, _, _, rfl⟩ | ⟨_, _, _, _, _, rfl⟩ <;> simp
section
variable {x0 x2 x3 x4 x5 x6 x7 x8 x9 : Option D} {xs : List Int} {o : MO} {Mt : Mem} {e : List At}
theorem l1_run (R : Row xs o) : ∃ e o', Row xs o' ∧ isEntB e = true ∧ l1 (en x0 x2 x3 x4 x5 x6 x7 x8 x9) (o :: Mt) = .nx (en x0 (some (tA e)) x3 x4 x5 x6 x7 x8 x9) (o' :: Mt) := by
  obtain ⟨v, o1, R1, hv, e1⟩ := pick_row (ks := SA.map tA) Mt R (by rw [List.length_map, len_SA]; decide) (by rw [List.length_map, len_SA]; decide)
  obtain ⟨e, he, rfl⟩ := List.mem_map.mp hv
  have en0 := law_entries (o :: Mt)
  exact ⟨e, o1, R1, mem_SA.mp he, by simp [l1, en, en0, e1]⟩
theorem l2_run (he : isEntB e = true) (M : Mem) : l2 (en x0 (some (tA e)) x3 x4 x5 x6 x7 x8 x9) M = .nx (en x0 (some (tA e)) x3 x4 x5 x6 x7 x8 x9) M := by
  have a := entry_run M e
  rw [he] at a
  simp [l2, en, a, dIsNotF, isBB]
theorem l3_run (he : isEntB e = true) (R : Row xs o) : ∃ (k : Nat) (o' : MO), Row xs o' ∧ k < e.length ∧ l3 (en x0 (some (tA e)) x3 x4 x5 x6 x7 x8 x9) (o :: Mt) = .nx (en x0 (some (tA e)) (some (.int k)) x4 x5 x6 x7 x8 x9) (o' :: Mt) := by
  obtain ⟨l1, l2⟩ := ent_len he
  obtain ⟨t, o1, R1, t0, t1, e1⟩ := taken_row (many := (e.length : Nat)) Mt R (by omega) (by omega)
  obtain ⟨k, rfl⟩ := Int.eq_ofNat_of_zero_le t0
  refine ⟨k, o1, R1, by omega, ?_⟩
  simp [l3, en, tA, e1]
theorem l4_run (M : Mem) : l4 (en x0 x2 x3 x4 x5 x6 x7 x8 x9) M = .nx (en x0 x2 x3 (some (.lst (someA.map atD))) x5 x6 x7 x8 x9) M := rfl
theorem l5_run (he : isEntB e = true) {k : Nat} (hk : k < e.length) (R : Row xs o) : ∃ (a : At) (o' : MO), Row xs o' ∧ l5 (en x0 (some (tA e)) (some (.int k)) (some (.lst (someA.map atD))) x5 x6 x7 x8 x9) (o :: Mt) = .nx (en x0 (some (tA e)) (some (.int k)) (some (.lst (someA.map atD))) (some (tA (e.take k ++ [a] ++ e.drop (k + 1)))) x6 x7 x8 x9) (o' :: Mt) := by
  obtain ⟨v, o1, R1, hv, e1⟩ := pick_row (ks := someA.map atD) Mt R (by decide) (by decide)
  obtain ⟨a, _, rfl⟩ := List.mem_map.mp hv
  refine ⟨a, o1, R1, ?_⟩
  have l := (ent_len he).1
  have c1 : dCut (o :: Mt) (tA e) none (some (k : Nat)) = some (.tup ((e.map atD).take k)) := cut_to _ k
  have c2 : dCut (o1 :: Mt) (tA e) (some ((k + 1 : Nat) : Int)) none = some (.tup ((e.map atD).drop (k + 1))) := cut_fr _ (k + 1)
  rw [Int.natCast_add, Int.natCast_one] at c2
  have a1 : dAdd (o1 :: Mt) (.tup ((e.map atD).take k)) (.tup [atD a]) = some (.tup ((e.map atD).take k ++ [atD a])) := dAdd_t _ (by simp; omega)
  have a2 : dAdd (o1 :: Mt) (.tup ((e.map atD).take k ++ [atD a])) (.tup ((e.map atD).drop (k + 1))) = some (tA (e.take k ++ [a] ++ e.drop (k + 1))) := by
    rw [dAdd_t _ (by simp; omega)]
    unfold tA
    simp [List.map_take, List.map_drop]
  have e1 : f__law_pick [.mu 0, .lst (someA.map atD)] (o :: Mt) = .ok (atD a) (o1 :: Mt) := e1
  generalize (D.lst (someA.map atD)) = L at e1 ⊢
  generalize tA (e.take k ++ [a] ++ e.drop (k + 1)) = B at a2 ⊢
  simp [l5, en, c1, c2, e1, a1, a2]
theorem last_ne : ∀ {e : List At} {k : Nat} {a : At}, ∃ t l, e.take k ++ [a] ++ e.drop (k + 1) = t ++ [l] := fun {e k a} => by
  rcases List.eq_nil_or_concat (e.take k ++ [a] ++ e.drop (k + 1)) with h | ⟨t, l, h⟩
  · simp at h
  · exact ⟨t, l, by rw [h, List.concat_eq_append]⟩
theorem l6_run (t : List At) (l : At) (M : Mem) : l6 (en x0 x2 x3 x4 (some (tA (t ++ [l]))) x6 x7 x8 x9) M = .nx (en x0 x2 x3 x4 (some (tA (t ++ [l]))) x6 x7 x8 x9) M := by
  have a := entry_run M (t ++ [l])
  have b := inE (x := t ++ [l]) M
  have q := inE_ent t l
  have en0 : f__law_entries [] M = .ok El M := law_entries M
  have b : dInV M (tA (t ++ [l])) El = some (.bl (SA.any fun y => eqAs y (t ++ [l]))) := b
  have i : dIx M (tA (t ++ [l])) (.int (-1)) = some (atD l) := by
    unfold tA
    rw [List.map_append, dIx_tup]
    exact atI_last
  have nt : dIsNotF M (atD l) (.bl true) = some (.bl (notT l)) := by
    cases l with
    | b p => cases p <;> rfl
    | _ => rfl
  have al := alike_bl (isEntB (t ++ [l])) M
  generalize isEntB (t ++ [l]) = r at a q al
  generalize (SA.any fun y => eqAs y (t ++ [l])) = s at b q
  generalize tA (t ++ [l]) = B at a b i ⊢
  generalize notT l = n at nt q
  cases s with
  | false =>
    simp only [Bool.false_and] at q
    subst q
    simp [l6, en, a, b, en0, al]
  | true =>
    simp only [Bool.true_and] at q
    subst q
    simp [l6, en, a, b, i, nt, en0, al]
def oddL (e : List At) : List D := [.non, tA [], tA e.dropLast, tA (e ++ [.i 1]), .lst (e.map atD), tA [.w "value", .w "set", .w "sum", .w "b", .i 1], tA [.w "value", .w "store", .w "sum", .w "a", .i 1], tA [.w "value", .w "set", .w "go", .w "a", .i 1], tA [.w "order", .w "store", .w "set", .i 1], tA [.w "memory", .w "load", .w "load", .i 1], tA [.w "wrong", .w "zero", .w "go", .i 1],
  tA [.w "memory", .w "store", .w "store", .i 1], tA [.w "order", .w "set", .w "sum", .i 0], tA [.w "order", .w "set", .w "sum", .i 8], tA [.w "wrong", .w "out", .w "set", .i 1], .int 7]
theorem odd_bad (he : isEntB e = true) {d : D} (h : d ∈ oddL e) (M : Mem) : f_is_entry [d] M = .ok (.bl false) M := by
  obtain ⟨t, dd, h1, h2, h3, rfl⟩ := ent_cases he
  have pl : isEntB t = false := by
    rcases List.eq_nil_or_concat t with rfl | ⟨t', l, rfl⟩
    · rfl
    · rw [List.concat_eq_append] at h1 ⊢
      obtain ⟨s, rfl⟩ := pair_w h1 l (by simp)
      rw [isEntB_snoc]
      rfl
  have pm : isEntB (t ++ [At.i dd] ++ [At.i 1]) = false := by
    rw [isEntB_snoc]
    have : isPair (t ++ [At.i dd]) = false := by
      cases q : isPair (t ++ [At.i dd]) with
      | false => rfl
      | true =>
        obtain ⟨s, h⟩ := pair_w q (At.i dd) (by simp)
        cases h
    rw [this, Bool.and_false]
  simp only [oddL, List.mem_cons, List.not_mem_nil, or_false] at h
  rcases h with rfl | rfl | rfl | rfl | rfl | rfl | rfl | rfl | rfl | rfl | rfl | rfl | rfl | rfl | rfl | rfl
  · exact entry_no M (.inl rfl)
  · exact entry_run M []
  · rw [List.dropLast_concat, entry_run, pl]
  · rw [entry_run, pm]
  · exact entry_no M (.inr (.inr (.inr (.inr ⟨_, rfl⟩))))
  · rw [entry_run]; rfl
  · rw [entry_run]; rfl
  · rw [entry_run]; rfl
  · rw [entry_run]; rfl
  · rw [entry_run]; rfl
  · rw [entry_run]; rfl
  · rw [entry_run]; rfl
  · rw [entry_run]; rfl
  · rw [entry_run]; rfl
  · rw [entry_run]; rfl
  · exact entry_no M (.inr (.inl ⟨_, rfl⟩))
theorem l7_run (he : isEntB e = true) (M : Mem) : l7 (en x0 (some (tA e)) x3 x4 x5 x6 x7 x8 x9) M = .nx (en x0 (some (tA e)) x3 x4 x5 (some (.lst ((oddL e).take 7))) x7 x8 x9) M := by
  obtain ⟨t, d, h1, h2, h3, rfl⟩ := ent_cases he
  have c : dCut M (tA (t ++ [At.i d])) none (some (-1)) = some (tA t) := by
    unfold tA
    rw [List.map_append]
    exact cut_init M
  have l := (ent_len he).1
  have a : dAdd M (tA (t ++ [At.i d])) (.tup [.int 1]) = some (tA (t ++ [At.i d] ++ [At.i 1])) := by
    have := dAdd_t M (xs := (t ++ [At.i d]).map atD) (ys := [.int 1]) (by rw [List.length_map]; simp at l ⊢; omega)
    unfold tA
    rw [this, List.map_append (l₁ := t ++ [At.i d])]
    rfl
  have f : fList [tA (t ++ [At.i d])] M = .ok (.lst ((t ++ [At.i d]).map atD)) M := rfl
  have o : (oddL (t ++ [At.i d])).take 7 = [.non, tA [], tA t, tA (t ++ [At.i d] ++ [At.i 1]), .lst ((t ++ [At.i d]).map atD), tA [.w "value", .w "set", .w "sum", .w "b", .i 1], tA [.w "value", .w "store", .w "sum", .w "a", .i 1]] := by
    simp [oddL]
  rw [o]
  generalize tA (t ++ [At.i d] ++ [At.i 1]) = A at a ⊢
  generalize (D.lst ((t ++ [At.i d]).map atD)) = L at f ⊢
  generalize tA (t ++ [At.i d]) = B at a c f ⊢
  generalize hT : tA t = T at c ⊢
  simp [l7, en, c, a, f]
  exact ⟨rfl, rfl, rfl⟩
theorem l8_run (M : Mem) : l8 (en x0 x2 x3 x4 x5 (some (.lst ((oddL e).take 7))) x7 x8 x9) M = .nx (en x0 x2 x3 x4 x5 (some (.lst ((oddL e).take 11))) x7 x8 x9) M := rfl
theorem l9_run (M : Mem) : l9 (en x0 x2 x3 x4 x5 (some (.lst ((oddL e).take 11))) x7 x8 x9) M = .nx (en x0 x2 x3 x4 x5 (some (.lst (oddL e))) x7 x8 x9) M := rfl
theorem l10_run (R : Row xs o) : ∃ d o', Row xs o' ∧ d ∈ oddL e ∧ l10 (en x0 x2 x3 x4 x5 (some (.lst (oddL e))) x7 x8 x9) (o :: Mt) = .nx (en x0 x2 x3 x4 x5 (some (.lst (oddL e))) (some d) x8 x9) (o' :: Mt) := by
  obtain ⟨t, o1, R1, t0, t1, e1⟩ := taken_row (many := 16) Mt R (by omega) (by omega)
  have ln : (oddL e).length = 16 := rfl
  have hl : t.toNat < (oddL e).length := by rw [ln]; omega
  have ix : dIx (o1 :: Mt) (.lst (oddL e)) (.int t) = some (oddL e)[t.toNat] := by
    rw [dIx_lst, atI_lt t0 (by rw [ln]; omega), List.getElem?_eq_getElem hl]
  refine ⟨(oddL e)[t.toNat], o1, R1, List.getElem_mem hl, ?_⟩
  have fl : fLen [.lst (oddL e)] (o :: Mt) = .ok (.int 16) (o :: Mt) := rfl
  generalize (oddL e)[t.toNat] = d at ix ⊢
  generalize (D.lst (oddL e)) = L at ix fl ⊢
  simp [l10, en, fl, e1, ix]
theorem bad_run {th : Mem → Out D} {M M' : Mem} (h : th M = .exc ⟨2, []⟩ M') : gm__law_bad th M = .ok (.bl true) M' := by
  simp [gm__law_bad, gCaught, h, tx_BeltError, sh__law_bad, tb_BadEntry, List.lookup, eIsE, exEnv, eCountL, cntK, List.countP_cons, List.countP_nil, eIndexL, idxK, firstE, eqvD, flatD]
theorem l13_run {z : Z} (hz : z.Ok) (he : isEntB e = true) {d : D} (hd : d ∈ oddL e) (R : Row xs o) : ∃ M', l13 (en x0 x2 x3 x4 x5 x6 (some d) (some z.D) (some (.lst [.clo 0, .clo 1, .clo 2]))) (o :: Mt) = .rt (.bl true) M' := by
  obtain ⟨t, o1, R1, t0, t1, e1⟩ := taken_row (many := 3) Mt R (by omega) (by omega)
  have b0 := odd_bad he hd (o :: Mt)
  have b1 := odd_bad he hd (o1 :: Mt)
  have cd := check_t hz (o1 :: Mt)
  refine ⟨o1 :: Mt, ?_⟩
  generalize hδ : en x0 x2 x3 x4 x5 x6 (some d) (some z.D) (some (.lst [.clo 0, .clo 1, .clo 2])) = δ
  have d1 : δ[1]? = some (some (.mu 0)) := by rw [← hδ]; rfl
  have d7 : δ[7]? = some (some d) := by rw [← hδ]; rfl
  have d8 : δ[8]? = some (some z.D) := by rw [← hδ]; rfl
  have d9 : δ[9]? = some (some (.lst [.clo 0, .clo 1, .clo 2])) := by rw [← hδ]; rfl
  have hc : ∃ k : Nat, (k = 0 ∨ k = 1 ∨ k = 2) ∧ dIx (o1 :: Mt) (.lst [.clo 0, .clo 1, .clo 2]) (.int t) = some (.clo k) := by
    have : t = 0 ∨ t = 1 ∨ t = 2 := by omega
    rcases this with rfl | rfl | rfl
    · exact ⟨0, .inl rfl, rfl⟩
    · exact ⟨1, .inr (.inl rfl), rfl⟩
    · exact ⟨2, .inr (.inr rfl), rfl⟩
  obtain ⟨k, hk, ix⟩ := hc
  have w : gm__law_bad (th_law k δ) (o1 :: Mt) = .ok (.bl true) (o1 :: Mt) := bad_run (by
    rcases hk with rfl | rfl | rfl <;> simp [th_law, d7, d8, f_is_open, m_is_open, f_shown, m_shown, f_distance, m_distance, f_check_entry, m_check_entry, cd, b1])
  simp [l13, d1, d7, d9, b0, e1, ix, eClo, cloK, w, dIsF, isBB]
end
theorem math_law : ∀ ns : List Int, ns.length ≤ 63 → (∀ z ∈ ns, Builtin.Int.intBits z ≤ 1048576) → ∃ M', runS (10 - 1) m_law [.rol (ns.map D.int)] [] = .ok (.bl true) M' := by
  intro ns _ _
  have R : Row ns (rowO ns 0 14310 0) := ⟨0, 14310, 0, Int.le_refl _, rfl⟩
  have s0 : l0 (([some (.rol (ns.map D.int))] : List (Option D)) ++ List.replicate 9 none) [] = .nx (en (some (.rol (ns.map D.int))) none none none none none none none none) [rowO ns 0 14310 0] := by simp [l0, rowO, List.replicate, en]
  generalize hx : some (D.rol (ns.map D.int)) = x0 at s0
  obtain ⟨e, o1, R1, he, s1⟩ := l1_run (x0 := x0) (x2 := none) (x3 := none) (x4 := none) (x5 := none) (x6 := none) (x7 := none) (x8 := none) (x9 := none) (Mt := []) R
  have s2 := l2_run (x0 := x0) (x3 := none) (x4 := none) (x5 := none) (x6 := none) (x7 := none) (x8 := none) (x9 := none) he [o1]
  obtain ⟨k, o3, R3, hk, s3⟩ := l3_run (x0 := x0) (x3 := none) (x4 := none) (x5 := none) (x6 := none) (x7 := none) (x8 := none) (x9 := none) (Mt := []) he R1
  have s4 := l4_run (x0 := x0) (x2 := some (tA e)) (x3 := some (.int k)) (x4 := none) (x5 := none) (x6 := none) (x7 := none) (x8 := none) (x9 := none) [o3]
  obtain ⟨a, o5, R5, s5⟩ := l5_run (x0 := x0) (x5 := none) (x6 := none) (x7 := none) (x8 := none) (x9 := none) (Mt := []) he hk R3
  obtain ⟨t, l, ht⟩ := last_ne (e := e) (k := k) (a := a)
  rw [ht] at s5
  have s6 := l6_run (x0 := x0) (x2 := some (tA e)) (x3 := some (.int k)) (x4 := some (.lst (someA.map atD))) (x6 := none) (x7 := none) (x8 := none) (x9 := none) t l [o5]
  have s7 := l7_run (x0 := x0) (x3 := some (.int k)) (x4 := some (.lst (someA.map atD))) (x5 := some (tA (t ++ [l]))) (x6 := none) (x7 := none) (x8 := none) (x9 := none) he [o5]
  have s8 := l8_run (e := e) (x0 := x0) (x2 := some (tA e)) (x3 := some (.int k)) (x4 := some (.lst (someA.map atD))) (x5 := some (tA (t ++ [l]))) (x7 := none) (x8 := none) (x9 := none) [o5]
  have s9 := l9_run (e := e) (x0 := x0) (x2 := some (tA e)) (x3 := some (.int k)) (x4 := some (.lst (someA.map atD))) (x5 := some (tA (t ++ [l]))) (x7 := none) (x8 := none) (x9 := none) [o5]
  obtain ⟨d, o10, R10, hd, s10⟩ := l10_run (e := e) (x0 := x0) (x2 := some (tA e)) (x3 := some (.int k)) (x4 := some (.lst (someA.map atD))) (x5 := some (tA (t ++ [l]))) (x7 := none) (x8 := none) (x9 := none) (Mt := []) R5
  obtain ⟨z, o11, M11, hz, R11, e11, _⟩ := design_row R10
  have s11 : l11 (en x0 (some (tA e)) (some (.int k)) (some (.lst (someA.map atD))) (some (tA (t ++ [l]))) (some (.lst (oddL e))) (some d) none none) [o10] = .nx (en x0 (some (tA e)) (some (.int k)) (some (.lst (someA.map atD))) (some (tA (t ++ [l]))) (some (.lst (oddL e))) (some d) (some z.D) none) (o11 :: M11) := by
    simp [l11, en, e11]
  have s12 : l12 (en x0 (some (tA e)) (some (.int k)) (some (.lst (someA.map atD))) (some (tA (t ++ [l]))) (some (.lst (oddL e))) (some d) (some z.D) none) (o11 :: M11) = .nx (en x0 (some (tA e)) (some (.int k)) (some (.lst (someA.map atD))) (some (tA (t ++ [l]))) (some (.lst (oddL e))) (some d) (some z.D) (some (.lst [.clo 0, .clo 1, .clo 2]))) (o11 :: M11) := by
    simp [l12, en]
  obtain ⟨M', s13⟩ := l13_run (x0 := x0) (x2 := some (tA e)) (x3 := some (.int k)) (x4 := some (.lst (someA.map atD))) (x5 := some (tA (t ++ [l]))) (x6 := some (.lst (oddL e))) (Mt := M11) hz he hd R11
  refine ⟨M', ?_⟩
  rw [m_law_eq, runS_d]
  show endS (sSeq l0 _ (([some (.rol (ns.map D.int))] : List (Option D)) ++ List.replicate 9 none) []) = _
  rw [hx, seq_nx s0, seq_nx s1, seq_nx s2, seq_nx s3, seq_nx s4, seq_nx s5, seq_nx s6, seq_nx s7, seq_nx s8, seq_nx s9, seq_nx s10, seq_nx s11, seq_nx s12, s13]
  rfl
end L10
namespace L10
open PySem PySem.Spec PyProof.Rows L2 DL LamX
def top (i : Nat) : Stmt := PySem.Challenge.pw_stagebelt_k10_whole_entries_told.main.body.getD i (.Pass ⟨0, 0, 0, 0⟩)
abbrev s_is_whole : Stmt := top 6
abbrev s_is_within : Stmt := top 7
abbrev s_are_ascending : Stmt := top 19
abbrev s_is_place : Stmt := top 20
abbrev s_is_row : Stmt := top 21
abbrev s_in_order : Stmt := top 22
abbrev s_are_places : Stmt := top 23
abbrev s_is_path : Stmt := top 24
abbrev s_are_paths : Stmt := top 25
abbrev s_is_pair_told : Stmt := top 29
abbrev s_is_entry : Stmt := top 30
abbrev s_are_waits : Stmt := top 26
abbrev s_is_design : Stmt := top 27
abbrev s_check_design : Stmt := top 28
abbrev s_check_entry : Stmt := top 31
abbrev s_is_open : Stmt := top 50
abbrev s_shown : Stmt := top 53
abbrev s_distance : Stmt := top 60
abbrev s__law_taken : Stmt := top 62
abbrev s__law_pick : Stmt := top 63
abbrev s__law_alike : Stmt := top 64
abbrev s__law_up : Stmt := top 65
abbrev s__law_design : Stmt := top 66
abbrev s__law_entries : Stmt := top 67
abbrev s__law_bad : Stmt := top 68
abbrev s_law : Stmt := top 69
structure Tx (K : PySem.W.Frag) (w : World) (mg : Str → Option Value) (A : Ad) : Prop where
  d_is_whole : Df K mg "is_whole" s_is_whole ["value"] (A.f 6) (A.fd 6)
  d_is_within : Df K mg "is_within" s_is_within ["value", "low", "high"] (A.f 7) (A.fd 7)
  d_are_ascending : Df K mg "are_ascending" s_are_ascending ["items"] (A.f 19) (A.fd 19)
  d_is_place : Df K mg "is_place" s_is_place ["value"] (A.f 20) (A.fd 20)
  d_is_row : Df K mg "is_row" s_is_row ["value", "many"] (A.f 21) (A.fd 21)
  d_in_order : Df K mg "in_order" s_in_order ["kind", "row", "read"] (A.f 22) (A.fd 22)
  d_are_places : Df K mg "are_places" s_are_places ["value", "read"] (A.f 23) (A.fd 23)
  d_is_path : Df K mg "is_path" s_is_path ["value"] (A.f 24) (A.fd 24)
  d_are_paths : Df K mg "are_paths" s_are_paths ["value"] (A.f 25) (A.fd 25)
  d_is_pair_told : Df K mg "is_pair_told" s_is_pair_told ["words"] (A.f 29) (A.fd 29)
  d_is_entry : Df K mg "is_entry" s_is_entry ["value"] (A.f 30) (A.fd 30)
  d_are_waits : Df K mg "are_waits" s_are_waits ["value"] (A.f 26) (A.fd 26)
  d_is_design : Df K mg "is_design" s_is_design ["value"] (A.f 27) (A.fd 27)
  d_check_design : Df K mg "check_design" s_check_design ["design"] (A.f 28) (A.fd 28)
  d_check_entry : Df K mg "check_entry" s_check_entry ["entry"] (A.f 31) (A.fd 31)
  d_is_open : Df K mg "is_open" s_is_open ["design", "entry"] (A.f 50) (A.fd 50)
  d_shown : Df K mg "shown" s_shown ["design", "entry"] (A.f 53) (A.fd 53)
  d_distance : Df K mg "distance" s_distance ["design", "entry"] (A.f 60) (A.fd 60)
  d__law_taken : Df K mg "_law_taken" s__law_taken ["row", "many"] (A.f 62) (A.fd 62)
  d__law_pick : Df K mg "_law_pick" s__law_pick ["row", "kinds"] (A.f 63) (A.fd 63)
  d__law_alike : Df K mg "_law_alike" s__law_alike ["found", "due"] (A.f 64) (A.fd 64)
  d__law_up : Df K mg "_law_up" s__law_up ["row", "least", "most"] (A.f 65) (A.fd 65)
  d__law_design : Df K mg "_law_design" s__law_design ["row"] (A.f 66) (A.fd 66)
  d__law_entries : Df K mg "_law_entries" s__law_entries [] (A.f 67) (A.fd 67)
  d__law_bad : Df K mg "_law_bad" s__law_bad ["work"] (A.f 68) (A.fd 68)
  tm_are_ascending : (A.pt 19, (envOfC "are_ascending" (defScope s_are_ascending) 0 0 .none).qual ++ "<genexpr>") ∈ A.T ∧ ∀ p ∈ A.T, p.1 = A.pt 19 → p.2 = (envOfC "are_ascending" (defScope s_are_ascending) 0 0 .none).qual ++ "<genexpr>"
  tbm_are_ascending : (A.c 19, A.pt 19) ∈ A.tb
  gd_are_ascending : Gd K "are_ascending" s_are_ascending (A.f 19) (A.c 19) (A.fd 19)
  tm_is_row : (A.pt 21, (envOfC "is_row" (defScope s_is_row) 0 0 .none).qual ++ "<genexpr>") ∈ A.T ∧ ∀ p ∈ A.T, p.1 = A.pt 21 → p.2 = (envOfC "is_row" (defScope s_is_row) 0 0 .none).qual ++ "<genexpr>"
  tbm_is_row : (A.c 21, A.pt 21) ∈ A.tb
  gd_is_row : Gd K "is_row" s_is_row (A.f 21) (A.c 21) (A.fd 21)
  tm_are_paths : (A.pt 25, (envOfC "are_paths" (defScope s_are_paths) 0 0 .none).qual ++ "<genexpr>") ∈ A.T ∧ ∀ p ∈ A.T, p.1 = A.pt 25 → p.2 = (envOfC "are_paths" (defScope s_are_paths) 0 0 .none).qual ++ "<genexpr>"
  tbm_are_paths : (A.c 25, A.pt 25) ∈ A.tb
  gd_are_paths : Gd K "are_paths" s_are_paths (A.f 25) (A.c 25) (A.fd 25)
  tm_are_waits : (A.pt 26, (envOfC "are_waits" (defScope s_are_waits) 0 0 .none).qual ++ "<genexpr>") ∈ A.T ∧ ∀ p ∈ A.T, p.1 = A.pt 26 → p.2 = (envOfC "are_waits" (defScope s_are_waits) 0 0 .none).qual ++ "<genexpr>"
  tbm_are_waits : (A.c 26, A.pt 26) ∈ A.tb
  gd_are_waits : Gd K "are_waits" s_are_waits (A.f 26) (A.c 26) (A.fd 26)
  tm_law : (A.pt 69, (envOfC "law" (defScope s_law) 0 0 .none).qual ++ "<lambda>") ∈ A.T ∧ ∀ p ∈ A.T, p.1 = A.pt 69 → p.2 = (envOfC "law" (defScope s_law) 0 0 .none).qual ++ "<lambda>"
  tbm_law : (A.c 69, A.pt 69) ∈ A.tb
  ttb : ∀ p ∈ A.T, p.1 ∈ A.tb.map (·.2)
  e_BadDesign : Ex K mg "BadDesign" (A.C 1)
  e_BadEntry : Ex K mg "BadEntry" (A.C 2)
  g_BeltError : mg "BeltError" = some (.ref (A.C 0))
  x_BeltError : ∀ p ∈ tx_BeltError, PySem.W.exmOne K (.ref (A.C p.1)) (.ref (A.C 0)) = some p.2
  k_BadEntry : ∀ p ∈ tb_BadEntry, PySem.W.kitOne K (.ref (A.C p.1)) (.ref (A.C 2)) = some p.2
  xc : ∀ p ∈ tx_BeltError, ExcC K (A.C p.1)
  z_all : mg "all" = none
  z_bool : mg "bool" = none
  z_int : mg "int" = none
  z_isinstance : mg "isinstance" = none
  z_len : mg "len" = none
  z_list : mg "list" = none
  z_max : mg "max" = none
  z_min : mg "min" = none
  z_range : mg "range" = none
  z_sorted : mg "sorted" = none
  z_str : mg "str" = none
  z_tuple : mg "tuple" = none
  z_zip : mg "zip" = none
  c_JUMPS : ∃ u v, mg "JUMPS" = some u ∧ RelV v u ∧ CV K A.f (.ktu ["zero", "go"]) v
  c_KINDS_OF_DESIGN : ∃ u v, mg "KINDS_OF_DESIGN" = some u ∧ RelV v u ∧ CV K A.f (.ktu ["set", "sum", "mul", "load", "store", "zero", "go", "out"]) v
  c_LAST_PLACE : ∃ t, mg "LAST_PLACE" = some (.int 7 t)
  c_MEMORY : ∃ u v, mg "MEMORY" = some u ∧ RelV v u ∧ CV K A.f (.ctu [(.ctu [(.str "store"), (.str "load")]), (.ctu [(.str "load"), (.str "store")])]) v
  c_MOST_APART : ∃ t, mg "MOST_APART" = some (.int 7 t)
  c_USES : ∃ u v, mg "USES" = some u ∧ RelV v u ∧ CV K A.f (.ctu [(.ctu [(.str "sum"), (.str "a")]), (.ctu [(.str "mul"), (.str "a")]), (.ctu [(.str "load"), (.str "a")]), (.ctu [(.str "store"), (.str "a")]), (.ctu [(.str "store"), (.str "b")]), (.ctu [(.str "zero"), (.str "a")]), (.ctu [(.str "out"), (.str "a")])]) v
  c_WITH_EFFECT : ∃ u v, mg "WITH_EFFECT" = some u ∧ RelV v u ∧ CV K A.f (.ktu ["set", "sum", "mul", "load", "store", "out"]) v
  c_WRITING : ∃ u v, mg "WRITING" = some u ∧ RelV v u ∧ CV K A.f (.ktu ["set", "sum", "mul", "load"]) v
  gt_PLACES : mg "PLACES" = some (.ref (A.t 11))
  t_PLACES : TabAt K A.f w (A.t 11) tab_PLACES
theorem scm {N P : List Str} {sc : Scope} (a : sc.kind = .function := by rfl) (b : sc.isCoroutine = false := by rfl) (c : sc.isGenerator = false := by rfl) (d : N.Nodup := by decide +kernel) (e : N.take P.length = P := by rfl) (f : ∀ x ∈ P, sc.names.lookup x = some .local ∨ sc.names.lookup x = some .cell := by decide +kernel) (g : ∀ y ∈ sc.names, y.2 ≠ .free := by decide +kernel) : FnScope N P sc := ⟨a, b, c, d, e, f, g⟩
theorem ln1 {a : E D} : Len 1 (aCons a aNil) := len_cons len_nil
theorem ln2 {a b : E D} : Len 2 (aCons a (aCons b aNil)) := len_cons (len_cons len_nil)
theorem ln3 {a b c : E D} : Len 3 (aCons a (aCons b (aCons c aNil))) := len_cons (len_cons (len_cons len_nil))
theorem ln4 {a b c d : E D} : Len 4 (aCons a (aCons b (aCons c (aCons d aNil)))) := len_cons (len_cons (len_cons (len_cons len_nil)))
theorem ln5 {a b c d e : E D} : Len 5 (aCons a (aCons b (aCons c (aCons d (aCons e aNil))))) := len_cons (len_cons (len_cons (len_cons (len_cons len_nil))))
theorem ln6 {a b c d e f : E D} : Len 6 (aCons a (aCons b (aCons c (aCons d (aCons e (aCons f aNil)))))) := len_cons (len_cons (len_cons (len_cons (len_cons (len_cons len_nil)))))
theorem ln7 {a b c d e f g : E D} : Len 7 (aCons a (aCons b (aCons c (aCons d (aCons e (aCons f (aCons g aNil))))))) := len_cons (len_cons (len_cons (len_cons (len_cons (len_cons (len_cons len_nil))))))
theorem ln8 {a b c d e f g h : E D} : Len 8 (aCons a (aCons b (aCons c (aCons d (aCons e (aCons f (aCons g (aCons h aNil)))))))) := len_cons (len_cons (len_cons (len_cons (len_cons (len_cons (len_cons (len_cons len_nil)))))))
theorem ln9 {a b c d e f g h i : E D} : Len 9 (aCons a (aCons b (aCons c (aCons d (aCons e (aCons f (aCons g (aCons h (aCons i aNil))))))))) := len_cons (len_cons (len_cons (len_cons (len_cons (len_cons (len_cons (len_cons (len_cons len_nil))))))))
theorem sc_is_whole : FnScope ["value"] ["value"] (defScope s_is_whole) := scm
theorem sc_is_within : FnScope ["value", "low", "high"] ["value", "low", "high"] (defScope s_is_within) := scm
theorem sc_are_ascending : FnScope ["items", "one", "other"] ["items"] (defScope s_are_ascending) := scm
theorem sc_is_place : FnScope ["value"] ["value"] (defScope s_is_place) := scm
theorem sc_is_row : FnScope ["value", "many", "item"] ["value", "many"] (defScope s_is_row) := scm
theorem sc_in_order : FnScope ["kind", "row", "read", "made", "written", "used_a", "used_b", "put", "used", "last"] ["kind", "row", "read"] (defScope s_in_order) := scm
theorem sc_are_places : FnScope ["value", "read", "kind", "row"] ["value", "read"] (defScope s_are_places) := scm
theorem sc_is_path : FnScope ["value"] ["value"] (defScope s_is_path) := scm
theorem sc_are_paths : FnScope ["value", "item"] ["value"] (defScope s_are_paths) := scm
theorem sc_is_pair_told : FnScope ["words", "rule", "earlier", "later"] ["words"] (defScope s_is_pair_told) := scm
theorem sc_is_entry : FnScope ["value"] ["value"] (defScope s_is_entry) := scm
theorem sc_are_waits : FnScope ["value", "item"] ["value"] (defScope s_are_waits) := scm
theorem sc_is_design : FnScope ["value", "read", "same", "places", "paths", "waits"] ["value"] (defScope s_is_design) := scm
theorem sc_check_design : FnScope ["design"] ["design"] (defScope s_check_design) := scm
theorem sc_check_entry : FnScope ["entry"] ["entry"] (defScope s_check_entry) := scm
theorem sc_is_open : FnScope ["design", "entry"] ["design", "entry"] (defScope s_is_open) := scm
theorem sc_shown : FnScope ["design", "entry"] ["design", "entry"] (defScope s_shown) := scm
theorem sc_distance : FnScope ["design", "entry"] ["design", "entry"] (defScope s_distance) := scm
theorem sc__law_taken : FnScope ["row", "many", "found", "cell"] ["row", "many"] (defScope s__law_taken) := scm
theorem sc__law_pick : FnScope ["row", "kinds"] ["row", "kinds"] (defScope s__law_pick) := scm
theorem sc__law_alike : FnScope ["found", "due", "k"] ["found", "due"] (defScope s__law_alike) := scm
theorem sc__law_up : FnScope ["row", "least", "most"] ["row", "least", "most"] (defScope s__law_up) := scm
theorem sc__law_design : FnScope ["row", "read", "made", "places", "kind", "used", "one", "other", "paths", "turn", "to"] ["row"] (defScope s__law_design) := scm
theorem sc__law_entries : FnScope ["makers", "found", "users", "d", "one", "other", "role"] [] (defScope s__law_entries) := scm
theorem sc__law_bad : FnScope ["work", "e"] ["work"] (defScope s__law_bad) := scm
theorem sc_law : FnScope ["script", "row", "entry", "k", "some", "bent", "odd", "bad", "design", "works"] ["script"] (defScope s_law) := scm
theorem fd_ {P : Program} {w : World} {K : PySem.W.Frag} {mg : Str → Option Value} {base : Heap} {A0 : Ad} {G : Sg} (hG : OkG G K A0) {x qual : Str} {st : Stmt} {f : Addr} {fd : FuncData} {N ps : List Str} {k n : Nat} {m : S} (F : L2.Fun K x qual st f fd) (Sc : FnScope N ps (defScope st)) (hn : ps.length = n)
    (hb : ∀ (cdv : Value) (A : Around) (outer : List Env) (s : Shared) (H : Hp) (Ex : XK), Room k (A.deeper (envOfC qual (defScope st) s.heap.objs.size f cdv)) → K = G.K → FnScope N ps (defScope st) → Takes (cxOf (L2.CX P w) P w K mg base N qual (defScope st) f cdv A outer s H Ex) (WF Ex) → PassesOwn (model P w) (cxOf (L2.CX P w) P w K mg base N qual (defScope st) f cdv A outer s H Ex).A (cxOf (L2.CX P w) P w K mg base N qual (defScope st) f cdv A outer s H Ex).env (cxOf (L2.CX P w) P w K mg base N qual (defScope st) f cdv A outer s H Ex).xe → JSs G (cxOf (L2.CX P w) P w K mg base N qual (defScope st) f cdv A outer s H Ex) (WF Ex) (defBody st) m) : FnOk P w K mg base (L2.CX P w) (k + 1) f fd ps (spD G n (runS (N.length - n) m)) :=
  fn_dl F Sc hn fun cdv A outer s H Ex hr => hb cdv A outer s H Ex hr hG.k.symm Sc (takes_of rfl rfl rfl rfl) (passes_of rfl)
theorem jv {G : Sg} {X : Cx} {W : WX} {pos : Pos} {i : Nat} {x : Str} (hN : X.N[i]? = some x) (hv : X.env.scope.names.lookup x = some .local) (hd : (x == ("__debug__" : Str)) = false := by decide) (hcd : (x == ("__classdict__" : Str)) = false := by decide) : JE G X W (.Name x pos) (eV i) := je_var hN (.inl hv) hd hcd
theorem gx__law_bad (th : Mem → Out D) (M : Mem) (e : XV) (M' : Mem) : gm__law_bad th M ≠ .exc e M' := gCaught_x th M e M'
theorem si__law_bad (y : XV) (a1 dx : Addr) (M : Mem) : sh__law_bad y a1 dx (exEnv 2 1 y.fs a1 dx) M = sh__law_bad y 0 0 (exEnv 2 1 y.fs 0 0) M := ss_ends (sh := fun a b => sh__law_bad y a b) (by decide) (by
  show SmS _ _ _ _ (sh__law_bad y a1 dx) (sh__law_bad y 0 0)
  unfold sh__law_bad
  with_reducible repeat' first | exact sm_is | exact sm_fld | exact sm_c | exact sm_nil | exact ss_nx | exact sm_v (by decide) | apply ss_seq | apply ss_if | apply ss_ret | apply ss_set (by decide) | apply sm_cons | apply sm_tup | apply sm_lst | apply sm_bin | apply sm_of | apply sm_tr | apply sm_eif | apply sm_cnt | apply sm_idx) (by
  show NoNx (sh__law_bad y 0 0)
  unfold sh__law_bad
  with_reducible repeat' first | apply nn_seq | exact nn_ret | apply nn_if)
theorem gv__law_bad {X : Cx} {A : Ad} {G : Sg} (T : Tx X.K X.w X.mg A) (hG : OkG G X.K A) : GivesD G X "_law_bad" s__law_bad (A.f 68) ["work", "e"] "work" gm__law_bad := by
  have hK : X.K = G.K := hG.k.symm
  have sc := sc__law_bad
  have ki_BadEntry : ∀ (k : Nat) (b : Bool), tb_BadEntry.lookup k = some b → PySem.W.kitOne X.K (.ref (G.C k)) (.ref (A.C 2)) = some b := fun k b hb => by rw [hG.c]; exact T.k_BadEntry (k, b) (mem_lookup0 hb)
  have xc : ∀ k, tx_BeltError.lookup k = some true → ExcC X.K (G.C k) := fun k hk => by rw [hG.c]; exact T.xc (k, true) (mem_lookup0 hk)
  exact caught_D rfl (by decide) rfl T.g_BeltError rfl (by decide +kernel) rfl rfl (by rw [hG.c]; exact T.x_BeltError) (fun y a1 dx oe cdg s H E0 pn ht hz hf hr => (jss_one (js_ret (je_isE (xc _ ht) hz hf rfl T.z_isinstance rfl (.inl rfl) rfl T.e_BadEntry.gl (fun b hb => ki_BadEntry _ b hb))))) si__law_bad (fun cdg s H E0 hr => (jss_one (js_ret je_bl)))
section
variable {P : Program} {w : World} {K : PySem.W.Frag} {mg : Str → Option Value} {base : Heap} {A : Ad} {G : Sg} (T : Tx K w mg A) (tb : ∀ p ∈ A.tb, LamX.TabB base mg p.1 p.2) (hG : OkG G K A)
include T tb hG
theorem ok_is_whole : FnOk P w K mg base (L2.CX P w) 1 (A.f 6) (A.fd 6) ["value"] (spD G 1 f_is_whole) := fd_ hG T.d_is_whole.fn sc_is_whole rfl fun _ _ _ _ _ _ hr hK sc tk po => by
    exact (jss_one (js_ret (je_and (je_isi (T := "int") hK rfl T.z_isinstance rfl T.z_int (by decide +kernel) (jv (i := 0) rfl rfl)) (je_one (je_not (je_isi (T := "bool") hK rfl T.z_isinstance rfl T.z_bool (by decide +kernel) (jv (i := 0) rfl rfl)))))))
theorem ok_is_within : FnOk P w K mg base (L2.CX P w) 2 (A.f 7) (A.fd 7) ["value", "low", "high"] (spD G 3 f_is_within) := fd_ hG T.d_is_within.fn sc_is_within rfl fun _ _ _ _ _ _ hr hK sc tk po => by
    exact (jss_one (js_ret (je_and (je_call (ok_is_whole T tb hG) (hr.mono (by decide)) rfl T.d_is_whole.gl T.d_is_whole.fn.kp T.d_is_whole.bd (passAt tk) (ja_cons (jv (i := 0) rfl rfl) ja_nil) ln1) (je_one (je_chain jo_le jo_le (jv (i := 1) rfl rfl) (jv (i := 0) rfl rfl) (jv (i := 2) rfl rfl))))))
end
theorem ok_are_ascending {P : Program} {w : World} {K : PySem.W.Frag} {mg : Str → Option Value} {base : Heap} {A : Ad} {G : Sg} (T : Tx K w mg A) (tb : ∀ p ∈ A.tb, LamX.TabB base mg p.1 p.2) (hG : OkG G K A) : FnOk P w K mg base (L2.CX P w) 3 (A.f 19) (A.fd 19) ["items"] (spD G 1 f_are_ascending) := fn_dlC T.gd_are_ascending sc_are_ascending rfl fun A' outer s H Ex hr => by
    have hK : K = G.K := hG.k.symm
    have sc := sc_are_ascending
    have tk : Takes (cxOf (L2.CX P w) P w K mg base ["items", "one", "other"] "are_ascending" (defScope s_are_ascending) (A.f 19) (.ref (A.c 19)) A' outer s H Ex) (WF Ex) := takes_of rfl rfl rfl rfl
    have po : PassesOwn (model P w) (cxOf (L2.CX P w) P w K mg base ["items", "one", "other"] "are_ascending" (defScope s_are_ascending) (A.f 19) (.ref (A.c 19)) A' outer s H Ex).A (cxOf (L2.CX P w) P w K mg base ["items", "one", "other"] "are_ascending" (defScope s_are_ascending) (A.f 19) (.ref (A.c 19)) A' outer s H Ex).env (cxOf (L2.CX P w) P w K mg base ["items", "one", "other"] "are_ascending" (defScope s_are_ascending) (A.f 19) (.ref (A.c 19)) A' outer s H Ex).xe := passes_of rfl
    exact (jss_one (js_ret (je_allG (c := A.c 19) (P := A.pt 19) (k := 0) (own := [("one", 1), ("other", 2)]) (hr.mono (by decide)) rfl T.z_all (tb _ T.tbm_are_ascending) rfl (by rw [hG.T]; exact T.tm_are_ascending.1) (by rw [hG.T]; exact T.tm_are_ascending.2) (show GenQ ["items", "one", "other"] (defScope s_are_ascending) _ [("one", 1), ("other", 2)] from genQ_by (by decide +kernel)) sc.nd (ji_zip hK rfl T.z_zip (ja_cons (jv (i := 0) rfl rfl) (ja_cons (je_sl hK (jv (i := 0) rfl rfl) (jop_some je_int) jop_none) ja_nil))) (fun A1 ex1 s1 H1 L1 code1 => by exact (jg_tup hK rfl (jgs_cons (jg_name (i := 1) sc.nd rfl (.inl rfl)) (jgs_cons (jg_name (i := 2) sc.nd rfl (.inl rfl)) jgs_nil)))) (by decide) (fun A1 ex1 s1 H1 L1 code1 hr => by exact (je_cmp (jo_ltK hK (units65 hr)) (jv (i := 1) rfl rfl) (jv (i := 2) rfl rfl) (nomark _))) (fun _ => rfl))))
section
variable {P : Program} {w : World} {K : PySem.W.Frag} {mg : Str → Option Value} {base : Heap} {A : Ad} {G : Sg} (T : Tx K w mg A) (tb : ∀ p ∈ A.tb, LamX.TabB base mg p.1 p.2) (hG : OkG G K A)
include T tb hG
theorem ok_is_place : FnOk P w K mg base (L2.CX P w) 3 (A.f 20) (A.fd 20) ["value"] (spD G 1 f_is_place) := fd_ hG T.d_is_place.fn sc_is_place rfl fun _ _ _ _ _ _ hr hK sc tk po => by
    exact (jss_one (js_ret (je_call (ok_is_within T tb hG) (hr.mono (by decide)) rfl T.d_is_within.gl T.d_is_within.fn.kp T.d_is_within.bd (passAt tk) (ja_cons (jv (i := 0) rfl rfl) (ja_cons je_int (ja_cons (je_globI rfl T.c_LAST_PLACE) ja_nil))) ln3)))
end
theorem ok_is_row {P : Program} {w : World} {K : PySem.W.Frag} {mg : Str → Option Value} {base : Heap} {A : Ad} {G : Sg} (T : Tx K w mg A) (tb : ∀ p ∈ A.tb, LamX.TabB base mg p.1 p.2) (hG : OkG G K A) : FnOk P w K mg base (L2.CX P w) 6 (A.f 21) (A.fd 21) ["value", "many"] (spD G 2 f_is_row) := fn_dlC T.gd_is_row sc_is_row rfl fun A' outer s H Ex hr => by
    have hK : K = G.K := hG.k.symm
    have sc := sc_is_row
    have tk : Takes (cxOf (L2.CX P w) P w K mg base ["value", "many", "item"] "is_row" (defScope s_is_row) (A.f 21) (.ref (A.c 21)) A' outer s H Ex) (WF Ex) := takes_of rfl rfl rfl rfl
    have po : PassesOwn (model P w) (cxOf (L2.CX P w) P w K mg base ["value", "many", "item"] "is_row" (defScope s_is_row) (A.f 21) (.ref (A.c 21)) A' outer s H Ex).A (cxOf (L2.CX P w) P w K mg base ["value", "many", "item"] "is_row" (defScope s_is_row) (A.f 21) (.ref (A.c 21)) A' outer s H Ex).env (cxOf (L2.CX P w) P w K mg base ["value", "many", "item"] "is_row" (defScope s_is_row) (A.f 21) (.ref (A.c 21)) A' outer s H Ex).xe := passes_of rfl
    exact (jss_cons (js_if (jw_pt (jw_or (jt_not (jt_val hK (je_isi (T := "tuple") hK rfl T.z_isinstance rfl T.z_tuple (by decide +kernel) (jv (i := 0) rfl rfl)))) (jw_or1 (jt_cmp (jo_ne hK hr.units) (je_len hK rfl T.z_len (ja_cons (jv (i := 0) rfl rfl) ja_nil)) (jv (i := 1) rfl rfl) (nomark _))))) (jss_one (js_ret je_bl)) jss_nil)
  (jss_one (js_ret (je_all (c := A.c 21) (P := A.pt 21) (k := 3) (j := 2) (hr.mono (by decide)) rfl T.z_all (tb _ T.tbm_is_row) rfl (by rw [hG.T]; exact T.tm_is_row.1) (by rw [hG.T]; exact T.tm_is_row.2) (show GenP ["value", "many", "item"] (defScope s_is_row) _ "item" from genP_by (by decide +kernel)) sc.nd rfl (ji_seq hK (jv (i := 0) rfl rfl)) (fun A1 ex1 s1 H1 L1 code1 hr => by exact (je_call (ok_is_place T tb hG) (hr.mono (by decide)) rfl T.d_is_place.gl T.d_is_place.fn.kp T.d_is_place.bd (fun σ => passAt L2.takes0 σ) (ja_cons (jv (i := 2) rfl rfl) ja_nil) ln1)) (fun _ => rfl)))))
theorem ok_in_order {P : Program} {w : World} {K : PySem.W.Frag} {mg : Str → Option Value} {base : Heap} {A : Ad} {G : Sg} (T : Tx K w mg A) (tb : ∀ p ∈ A.tb, LamX.TabB base mg p.1 p.2) (hG : OkG G K A) : FnOk P w K mg base (L2.CX P w) 1 (A.f 22) (A.fd 22) ["kind", "row", "read"] (spD G 3 f_in_order) := fd_ hG T.d_in_order.fn sc_in_order rfl fun _ _ _ _ _ _ hr hK sc tk po => by
    exact (jss_cons (js_if (jt_cmp (jo_eq hK hr.units) (jv (i := 0) rfl rfl) je_str (nomark _)) (jss_one (js_ret je_bl)) jss_nil)
  (jss_cons (js_if (jt_cmp (jo_eq hK hr.units) (jv (i := 0) rfl rfl) je_str (nomark _)) (jss_cons (js_asg (jv (i := 1) rfl rfl) (jg_tup hK rfl (jgs_cons (jg_name (i := 3) sc.nd rfl (.inl rfl)) (jgs_cons (jg_name (i := 4) sc.nd rfl (.inl rfl)) jgs_nil))))
  (jss_one (js_ret (je_and (je_cmp jo_lt (jv (i := 3) rfl rfl) (jv (i := 4) rfl rfl) (nomark _)) (je_one (je_cmp jo_lt (jv (i := 2) rfl rfl) (jv (i := 4) rfl rfl) (nomark _))))))) jss_nil)
  (jss_cons (js_if (jt_cmp (jo_eq hK hr.units) (jv (i := 0) rfl rfl) je_str (nomark _)) (jss_cons (js_asg (jv (i := 1) rfl rfl) (jg_tup hK rfl (jgs_cons (jg_name (i := 5) sc.nd rfl (.inl rfl)) (jgs_cons (jg_name (i := 6) sc.nd rfl (.inl rfl)) (jgs_cons (jg_name (i := 7) sc.nd rfl (.inl rfl)) jgs_nil)))))
  (jss_one (js_ret (je_and (je_chain jo_le jo_lt (jv (i := 2) rfl rfl) (jv (i := 5) rfl rfl) (jv (i := 7) rfl rfl)) (je_one (je_chain jo_le jo_lt (jv (i := 2) rfl rfl) (jv (i := 6) rfl rfl) (jv (i := 7) rfl rfl))))))) jss_nil)
  (jss_cons (js_if (jt_cmp (jo_in hK) (jv (i := 0) rfl rfl) (je_tup (ja_cons je_str (ja_cons je_str ja_nil)) ln2) (by with_unfolding_all rfl)) (jss_cons (js_asg (jv (i := 1) rfl rfl) (jg_tup hK rfl (jgs_cons (jg_name (i := 8) sc.nd rfl (.inl rfl)) (jgs_cons (jg_name (i := 9) sc.nd rfl (.inl rfl)) jgs_nil))))
  (jss_one (js_ret (je_chain jo_le jo_le (jv (i := 2) rfl rfl) (jv (i := 8) rfl rfl) (jv (i := 9) rfl rfl))))) jss_nil)
  (jss_cons (js_asg (jv (i := 1) rfl rfl) (jg_tup hK rfl (jgs_cons (jg_name (i := 8) sc.nd rfl (.inl rfl)) (jgs_cons (jg_name (i := 3) sc.nd rfl (.inl rfl)) (jgs_cons (jg_name (i := 4) sc.nd rfl (.inl rfl)) jgs_nil)))))
  (jss_one (js_ret (je_chain3 jo_le jo_le jo_lt (jv (i := 2) rfl rfl) (jv (i := 8) rfl rfl) (jv (i := 3) rfl rfl) (jv (i := 4) rfl rfl)))))))))
section
variable {P : Program} {w : World} {K : PySem.W.Frag} {mg : Str → Option Value} {base : Heap} {A : Ad} {G : Sg} (T : Tx K w mg A) (tb : ∀ p ∈ A.tb, LamX.TabB base mg p.1 p.2) (hG : OkG G K A)
include T tb hG
theorem ok_are_places : FnOk P w K mg base (L2.CX P w) 7 (A.f 23) (A.fd 23) ["value", "read"] (spD G 2 f_are_places) := fd_ hG T.d_are_places.fn sc_are_places rfl fun _ _ _ _ _ _ hr hK sc tk po => by
    exact (jss_cons (js_if (jw_pt (jw_or (jt_not (jt_val hK (je_isi (T := "tuple") hK rfl T.z_isinstance rfl T.z_tuple (by decide +kernel) (jv (i := 0) rfl rfl)))) (jw_or1 (jt_cmp (jo_ne hK hr.units) (je_len hK rfl T.z_len (ja_cons (jv (i := 0) rfl rfl) ja_nil)) (je_len hK rfl T.z_len (ja_cons (je_globC hK hG.f rfl T.c_KINDS_OF_DESIGN) ja_nil)) (nomark _))))) (jss_one (js_ret je_bl)) jss_nil)
  (jss_cons (js_for po rfl (ji_zip hK rfl T.z_zip (ja_cons (je_globC hK hG.f rfl T.c_KINDS_OF_DESIGN) (ja_cons (jv (i := 0) rfl rfl) ja_nil))) (jg_tup hK rfl (jgs_cons (jg_name (i := 2) sc.nd rfl (.inl rfl)) (jgs_cons (jg_name (i := 3) sc.nd rfl (.inl rfl)) jgs_nil))) (jss_one (js_if (jw_pt (jw_or (jt_not (jt_val hK (je_call (ok_is_row T tb hG) (hr.mono (by decide)) rfl T.d_is_row.gl T.d_is_row.fn.kp T.d_is_row.bd (passAt tk) (ja_cons (jv (i := 3) rfl rfl) (ja_cons (je_len hK rfl T.z_len (ja_cons (je_tabIx hK hG.f T.t_PLACES rfl T.gt_PLACES (jv (i := 2) rfl rfl) (fun _ _ => rfl)) ja_nil)) ja_nil)) ln2))) (jw_or1 (jt_not (jt_val hK (je_call (ok_in_order T tb hG) (hr.mono (by decide)) rfl T.d_in_order.gl T.d_in_order.fn.kp T.d_in_order.bd (passAt tk) (ja_cons (jv (i := 2) rfl rfl) (ja_cons (jv (i := 3) rfl rfl) (ja_cons (jv (i := 1) rfl rfl) ja_nil))) ln3)))))) (jss_one (js_ret je_bl)) jss_nil)))
  (jss_one (js_ret je_bl))))
theorem ok_is_path : FnOk P w K mg base (L2.CX P w) 7 (A.f 24) (A.fd 24) ["value"] (spD G 1 f_is_path) := fd_ hG T.d_is_path.fn sc_is_path rfl fun _ _ _ _ _ _ hr hK sc tk po => by
    exact (jss_one (js_ret (je_and (je_call (ok_is_row T tb hG) (hr.mono (by decide)) rfl T.d_is_row.gl T.d_is_row.fn.kp T.d_is_row.bd (passAt tk) (ja_cons (jv (i := 0) rfl rfl) (ja_cons je_int ja_nil)) ln2) (je_one (je_cmp jo_lt (je_ix hK (jv (i := 0) rfl rfl) je_int (fun _ _ => rfl)) (je_ix hK (jv (i := 0) rfl rfl) je_int (fun _ _ => rfl)) (nomark _))))))
end
theorem ok_are_paths {P : Program} {w : World} {K : PySem.W.Frag} {mg : Str → Option Value} {base : Heap} {A : Ad} {G : Sg} (T : Tx K w mg A) (tb : ∀ p ∈ A.tb, LamX.TabB base mg p.1 p.2) (hG : OkG G K A) : FnOk P w K mg base (L2.CX P w) 10 (A.f 25) (A.fd 25) ["value"] (spD G 1 f_are_paths) := fn_dlC T.gd_are_paths sc_are_paths rfl fun A' outer s H Ex hr => by
    have hK : K = G.K := hG.k.symm
    have sc := sc_are_paths
    have tk : Takes (cxOf (L2.CX P w) P w K mg base ["value", "item"] "are_paths" (defScope s_are_paths) (A.f 25) (.ref (A.c 25)) A' outer s H Ex) (WF Ex) := takes_of rfl rfl rfl rfl
    have po : PassesOwn (model P w) (cxOf (L2.CX P w) P w K mg base ["value", "item"] "are_paths" (defScope s_are_paths) (A.f 25) (.ref (A.c 25)) A' outer s H Ex).A (cxOf (L2.CX P w) P w K mg base ["value", "item"] "are_paths" (defScope s_are_paths) (A.f 25) (.ref (A.c 25)) A' outer s H Ex).env (cxOf (L2.CX P w) P w K mg base ["value", "item"] "are_paths" (defScope s_are_paths) (A.f 25) (.ref (A.c 25)) A' outer s H Ex).xe := passes_of rfl
    exact (jss_cons (js_if (jt_not (jt_val hK (je_isi (T := "tuple") hK rfl T.z_isinstance rfl T.z_tuple (by decide +kernel) (jv (i := 0) rfl rfl)))) (jss_one (js_ret je_bl)) jss_nil)
  (jss_one (js_ret (je_and (je_all (c := A.c 25) (P := A.pt 25) (k := 7) (j := 1) (hr.mono (by decide)) rfl T.z_all (tb _ T.tbm_are_paths) rfl (by rw [hG.T]; exact T.tm_are_paths.1) (by rw [hG.T]; exact T.tm_are_paths.2) (show GenP ["value", "item"] (defScope s_are_paths) _ "item" from genP_by (by decide +kernel)) sc.nd rfl (ji_seq hK (jv (i := 0) rfl rfl)) (fun A1 ex1 s1 H1 L1 code1 hr => by exact (je_call (ok_is_path T tb hG) (hr.mono (by decide)) rfl T.d_is_path.gl T.d_is_path.fn.kp T.d_is_path.bd (fun σ => passAt L2.takes0 σ) (ja_cons (jv (i := 1) rfl rfl) ja_nil) ln1)) (fun _ => rfl)) (je_one (je_call (ok_are_ascending T tb hG) (hr.mono (by decide)) rfl T.d_are_ascending.gl T.d_are_ascending.fn.kp T.d_are_ascending.bd (passAt tk) (ja_cons (jv (i := 0) rfl rfl) ja_nil) ln1))))))
theorem ok_is_pair_told {P : Program} {w : World} {K : PySem.W.Frag} {mg : Str → Option Value} {base : Heap} {A : Ad} {G : Sg} (T : Tx K w mg A) (tb : ∀ p ∈ A.tb, LamX.TabB base mg p.1 p.2) (hG : OkG G K A) : FnOk P w K mg base (L2.CX P w) 1 (A.f 29) (A.fd 29) ["words"] (spD G 1 f_is_pair_told) := fd_ hG T.d_is_pair_told.fn sc_is_pair_told rfl fun _ _ _ _ _ _ hr hK sc tk po => by
    exact (jss_cons (js_if (jt_cmp (jo_eq hK hr.units) (je_len hK rfl T.z_len (ja_cons (jv (i := 0) rfl rfl) ja_nil)) je_int (nomark _)) (jss_one (js_ret (je_and (je_cmp (jo_eq hK hr.units) (je_ix hK (jv (i := 0) rfl rfl) je_int (fun _ _ => rfl)) je_str (nomark _)) (je_and (je_cmp (jo_inU hK (units65 hr)) (je_ix hK (jv (i := 0) rfl rfl) je_int (fun _ _ => rfl)) (je_globC hK hG.f rfl T.c_WRITING) (by with_unfolding_all rfl)) (je_one (je_cmp (jo_inU hK (units65 hr)) (je_sl hK (jv (i := 0) rfl rfl) (jop_some je_int) jop_none) (je_globC hK hG.f rfl T.c_USES) (by with_unfolding_all rfl))))))) jss_nil)
  (jss_cons (js_if (jt_cmp (jo_ne hK hr.units) (je_len hK rfl T.z_len (ja_cons (jv (i := 0) rfl rfl) ja_nil)) je_int (nomark _)) (jss_one (js_ret je_bl)) jss_nil)
  (jss_cons (js_asg (jv (i := 0) rfl rfl) (jg_tup hK rfl (jgs_cons (jg_name (i := 1) sc.nd rfl (.inl rfl)) (jgs_cons (jg_name (i := 2) sc.nd rfl (.inl rfl)) (jgs_cons (jg_name (i := 3) sc.nd rfl (.inl rfl)) jgs_nil)))))
  (jss_cons (js_if (jt_cmp (jo_eq hK hr.units) (jv (i := 1) rfl rfl) je_str (nomark _)) (jss_one (js_ret (je_and (je_cmp (jo_inU hK (units65 hr)) (jv (i := 2) rfl rfl) (je_globC hK hG.f rfl T.c_WRITING) (by with_unfolding_all rfl)) (je_one (je_cmp (jo_inU hK (units65 hr)) (jv (i := 3) rfl rfl) (je_globC hK hG.f rfl T.c_WRITING) (by with_unfolding_all rfl)))))) jss_nil)
  (jss_cons (js_if (jt_cmp (jo_eq hK hr.units) (jv (i := 1) rfl rfl) je_str (nomark _)) (jss_one (js_ret (je_cmp (jo_inU hK (units65 hr)) (je_tup (ja_cons (jv (i := 2) rfl rfl) (ja_cons (jv (i := 3) rfl rfl) ja_nil)) ln2) (je_globC hK hG.f rfl T.c_MEMORY) (by with_unfolding_all rfl)))) jss_nil)
  (jss_one (js_ret (je_and (je_cmp (jo_eq hK hr.units) (jv (i := 1) rfl rfl) je_str (nomark _)) (je_and (je_cmp (jo_inU hK (units65 hr)) (jv (i := 2) rfl rfl) (je_globC hK hG.f rfl T.c_JUMPS) (by with_unfolding_all rfl)) (je_one (je_cmp (jo_inU hK (units65 hr)) (jv (i := 3) rfl rfl) (je_globC hK hG.f rfl T.c_WITH_EFFECT) (by with_unfolding_all rfl))))))))))))
section
variable {P : Program} {w : World} {K : PySem.W.Frag} {mg : Str → Option Value} {base : Heap} {A : Ad} {G : Sg} (T : Tx K w mg A) (tb : ∀ p ∈ A.tb, LamX.TabB base mg p.1 p.2) (hG : OkG G K A)
include T tb hG
theorem ok_is_entry : FnOk P w K mg base (L2.CX P w) 3 (A.f 30) (A.fd 30) ["value"] (spD G 1 f_is_entry) := fd_ hG T.d_is_entry.fn sc_is_entry rfl fun _ _ _ _ _ _ hr hK sc tk po => by
    exact (jss_cons (js_if (jw_pt (jw_or (jt_not (jt_val hK (je_isi (T := "tuple") hK rfl T.z_isinstance rfl T.z_tuple (by decide +kernel) (jv (i := 0) rfl rfl)))) (jw_or1 (jt_cmp (jo_eq hK hr.units) (je_len hK rfl T.z_len (ja_cons (jv (i := 0) rfl rfl) ja_nil)) je_int (nomark _))))) (jss_one (js_ret je_bl)) jss_nil)
  (jss_cons (js_if (jt_not (jt_val hK (je_call (ok_is_within T tb hG) (hr.mono (by decide)) rfl T.d_is_within.gl T.d_is_within.fn.kp T.d_is_within.bd (passAt tk) (ja_cons (je_ix hK (jv (i := 0) rfl rfl) (je_neg je_int) (fun _ _ => rfl)) (ja_cons je_int (ja_cons (je_globI rfl T.c_MOST_APART) ja_nil))) ln3))) (jss_one (js_ret je_bl)) jss_nil)
  (jss_one (js_ret (je_call (ok_is_pair_told T tb hG) (hr.mono (by decide)) rfl T.d_is_pair_told.gl T.d_is_pair_told.fn.kp T.d_is_pair_told.bd (passAt tk) (ja_cons (je_sl hK (jv (i := 0) rfl rfl) jop_none (jop_some (je_neg je_int))) ja_nil) ln1)))))
end
theorem ok_are_waits {P : Program} {w : World} {K : PySem.W.Frag} {mg : Str → Option Value} {base : Heap} {A : Ad} {G : Sg} (T : Tx K w mg A) (tb : ∀ p ∈ A.tb, LamX.TabB base mg p.1 p.2) (hG : OkG G K A) : FnOk P w K mg base (L2.CX P w) 6 (A.f 26) (A.fd 26) ["value"] (spD G 1 f_are_waits) := fn_dlC T.gd_are_waits sc_are_waits rfl fun A' outer s H Ex hr => by
    have hK : K = G.K := hG.k.symm
    have sc := sc_are_waits
    have tk : Takes (cxOf (L2.CX P w) P w K mg base ["value", "item"] "are_waits" (defScope s_are_waits) (A.f 26) (.ref (A.c 26)) A' outer s H Ex) (WF Ex) := takes_of rfl rfl rfl rfl
    have po : PassesOwn (model P w) (cxOf (L2.CX P w) P w K mg base ["value", "item"] "are_waits" (defScope s_are_waits) (A.f 26) (.ref (A.c 26)) A' outer s H Ex).A (cxOf (L2.CX P w) P w K mg base ["value", "item"] "are_waits" (defScope s_are_waits) (A.f 26) (.ref (A.c 26)) A' outer s H Ex).env (cxOf (L2.CX P w) P w K mg base ["value", "item"] "are_waits" (defScope s_are_waits) (A.f 26) (.ref (A.c 26)) A' outer s H Ex).xe := passes_of rfl
    exact (jss_cons (js_if (jt_not (jt_val hK (je_isi (T := "tuple") hK rfl T.z_isinstance rfl T.z_tuple (by decide +kernel) (jv (i := 0) rfl rfl)))) (jss_one (js_ret je_bl)) jss_nil)
  (jss_one (js_ret (je_and (je_all (c := A.c 26) (P := A.pt 26) (k := 3) (j := 1) (hr.mono (by decide)) rfl T.z_all (tb _ T.tbm_are_waits) rfl (by rw [hG.T]; exact T.tm_are_waits.1) (by rw [hG.T]; exact T.tm_are_waits.2) (show GenP ["value", "item"] (defScope s_are_waits) _ "item" from genP_by (by decide +kernel)) sc.nd rfl (ji_seq hK (jv (i := 0) rfl rfl)) (fun A1 ex1 s1 H1 L1 code1 hr => by exact (je_call (ok_is_entry T tb hG) (hr.mono (by decide)) rfl T.d_is_entry.gl T.d_is_entry.fn.kp T.d_is_entry.bd (fun σ => passAt L2.takes0 σ) (ja_cons (jv (i := 1) rfl rfl) ja_nil) ln1)) (fun _ => rfl)) (je_one (je_call (ok_are_ascending T tb hG) (hr.mono (by decide)) rfl T.d_are_ascending.gl T.d_are_ascending.fn.kp T.d_are_ascending.bd (passAt tk) (ja_cons (jv (i := 0) rfl rfl) ja_nil) ln1))))))
section
variable {P : Program} {w : World} {K : PySem.W.Frag} {mg : Str → Option Value} {base : Heap} {A : Ad} {G : Sg} (T : Tx K w mg A) (tb : ∀ p ∈ A.tb, LamX.TabB base mg p.1 p.2) (hG : OkG G K A)
include T tb hG
theorem ok_is_design : FnOk P w K mg base (L2.CX P w) 11 (A.f 27) (A.fd 27) ["value"] (spD G 1 f_is_design) := fd_ hG T.d_is_design.fn sc_is_design rfl fun _ _ _ _ _ _ hr hK sc tk po => by
    exact (jss_cons (js_if (jw_pt (jw_or (jt_not (jt_val hK (je_isi (T := "tuple") hK rfl T.z_isinstance rfl T.z_tuple (by decide +kernel) (jv (i := 0) rfl rfl)))) (jw_or1 (jt_cmp (jo_ne hK hr.units) (je_len hK rfl T.z_len (ja_cons (jv (i := 0) rfl rfl) ja_nil)) je_int (nomark _))))) (jss_one (js_ret je_bl)) jss_nil)
  (jss_cons (js_asg (jv (i := 0) rfl rfl) (jg_tup hK rfl (jgs_cons (jg_name (i := 1) sc.nd rfl (.inl rfl)) (jgs_cons (jg_name (i := 2) sc.nd rfl (.inl rfl)) (jgs_cons (jg_name (i := 3) sc.nd rfl (.inl rfl)) (jgs_cons (jg_name (i := 4) sc.nd rfl (.inl rfl)) (jgs_cons (jg_name (i := 5) sc.nd rfl (.inl rfl)) jgs_nil)))))))
  (jss_one (js_ret (je_and (je_call (ok_is_place T tb hG) (hr.mono (by decide)) rfl T.d_is_place.gl T.d_is_place.fn.kp T.d_is_place.bd (passAt tk) (ja_cons (jv (i := 1) rfl rfl) ja_nil) ln1) (je_and (je_isi (T := "bool") hK rfl T.z_isinstance rfl T.z_bool (by decide +kernel) (jv (i := 2) rfl rfl)) (je_and (je_call (ok_are_places T tb hG) (hr.mono (by decide)) rfl T.d_are_places.gl T.d_are_places.fn.kp T.d_are_places.bd (passAt tk) (ja_cons (jv (i := 3) rfl rfl) (ja_cons (jv (i := 1) rfl rfl) ja_nil)) ln2) (je_and (je_call (ok_are_paths T tb hG) (hr.mono (by decide)) rfl T.d_are_paths.gl T.d_are_paths.fn.kp T.d_are_paths.bd (passAt tk) (ja_cons (jv (i := 4) rfl rfl) ja_nil) ln1) (je_one (je_call (ok_are_waits T tb hG) (hr.mono (by decide)) rfl T.d_are_waits.gl T.d_are_waits.fn.kp T.d_are_waits.bd (passAt tk) (ja_cons (jv (i := 5) rfl rfl) ja_nil) ln1))))))))))
theorem ok_check_design : FnOk P w K mg base (L2.CX P w) 12 (A.f 28) (A.fd 28) ["design"] (spD G 1 f_check_design) := fd_ hG T.d_check_design.fn sc_check_design rfl fun _ _ _ _ _ _ hr hK sc tk po => by
    exact (jss_one (js_if (jt_not (jt_val hK (je_call (ok_is_design T tb hG) (hr.mono (by decide)) rfl T.d_is_design.gl T.d_is_design.fn.kp T.d_is_design.bd (passAt tk) (ja_cons (jv (i := 0) rfl rfl) ja_nil) ln1))) (jss_one (js_raise rfl tk PySem.F.excBase_ValueError T.e_BadDesign.exc T.e_BadDesign.gl T.e_BadDesign.kp (raises_own T.e_BadDesign.sb T.e_BadDesign.ty) rfl (by rw [hG.c]) (ja_cons je_str ja_nil) ln1)) jss_nil))
theorem ok_check_entry : FnOk P w K mg base (L2.CX P w) 4 (A.f 31) (A.fd 31) ["entry"] (spD G 1 f_check_entry) := fd_ hG T.d_check_entry.fn sc_check_entry rfl fun _ _ _ _ _ _ hr hK sc tk po => by
    exact (jss_one (js_if (jt_not (jt_val hK (je_call (ok_is_entry T tb hG) (hr.mono (by decide)) rfl T.d_is_entry.gl T.d_is_entry.fn.kp T.d_is_entry.bd (passAt tk) (ja_cons (jv (i := 0) rfl rfl) ja_nil) ln1))) (jss_one (js_raise rfl tk PySem.F.excBase_ValueError T.e_BadEntry.exc T.e_BadEntry.gl T.e_BadEntry.kp (raises_own T.e_BadEntry.sb T.e_BadEntry.ty) rfl (by rw [hG.c]) (ja_cons je_str ja_nil) ln1)) jss_nil))
theorem ok_is_open : FnOk P w K mg base (L2.CX P w) 13 (A.f 50) (A.fd 50) ["design", "entry"] (spD G 2 f_is_open) := fd_ hG T.d_is_open.fn sc_is_open rfl fun _ _ _ _ _ _ hr hK sc tk po => by
    exact (jss_cons (js_expr (je_call (ok_check_design T tb hG) (hr.mono (by decide)) rfl T.d_check_design.gl T.d_check_design.fn.kp T.d_check_design.bd (passAt tk) (ja_cons (jv (i := 0) rfl rfl) ja_nil) ln1))
  (jss_cons (js_expr (je_call (ok_check_entry T tb hG) (hr.mono (by decide)) rfl T.d_check_entry.gl T.d_check_entry.fn.kp T.d_check_entry.bd (passAt tk) (ja_cons (jv (i := 1) rfl rfl) ja_nil) ln1))
  (jss_one js_never)))
theorem ok_shown : FnOk P w K mg base (L2.CX P w) 13 (A.f 53) (A.fd 53) ["design", "entry"] (spD G 2 f_shown) := fd_ hG T.d_shown.fn sc_shown rfl fun _ _ _ _ _ _ hr hK sc tk po => by
    exact (jss_cons (js_expr (je_call (ok_check_design T tb hG) (hr.mono (by decide)) rfl T.d_check_design.gl T.d_check_design.fn.kp T.d_check_design.bd (passAt tk) (ja_cons (jv (i := 0) rfl rfl) ja_nil) ln1))
  (jss_cons (js_expr (je_call (ok_check_entry T tb hG) (hr.mono (by decide)) rfl T.d_check_entry.gl T.d_check_entry.fn.kp T.d_check_entry.bd (passAt tk) (ja_cons (jv (i := 1) rfl rfl) ja_nil) ln1))
  (jss_cons js_never
  (jss_one js_never))))
theorem ok_distance : FnOk P w K mg base (L2.CX P w) 13 (A.f 60) (A.fd 60) ["design", "entry"] (spD G 2 f_distance) := fd_ hG T.d_distance.fn sc_distance rfl fun _ _ _ _ _ _ hr hK sc tk po => by
    exact (jss_cons (js_expr (je_call (ok_check_design T tb hG) (hr.mono (by decide)) rfl T.d_check_design.gl T.d_check_design.fn.kp T.d_check_design.bd (passAt tk) (ja_cons (jv (i := 0) rfl rfl) ja_nil) ln1))
  (jss_cons (js_expr (je_call (ok_check_entry T tb hG) (hr.mono (by decide)) rfl T.d_check_entry.gl T.d_check_entry.fn.kp T.d_check_entry.bd (passAt tk) (ja_cons (jv (i := 1) rfl rfl) ja_nil) ln1))
  (jss_cons js_never
  (jss_one js_never))))
theorem ok__law_taken : FnOk P w K mg base (L2.CX P w) 1 (A.f 62) (A.fd 62) ["row", "many"] (spD G 2 f__law_taken) := fd_ hG T.d__law_taken.fn sc__law_taken rfl fun _ _ _ _ _ _ hr hK sc tk po => by
    exact (jss_cons (js_if (jt_cmp jo_gt (je_ix hK (jv (i := 0) rfl rfl) je_int (fun _ _ => rfl)) je_int (nomark _)) (jss_cons (js_set (i := 2) sc.nd rfl (.inl rfl) (je_bin jo_mod (je_intc rfl T.z_int (ja_cons (je_ix hK (jv (i := 0) rfl rfl) je_int (fun _ _ => rfl)) ja_nil)) (jv (i := 1) rfl rfl)))
  (jss_cons (js_put (jv (i := 0) rfl rfl) je_int (je_bin jo_fdiv (je_ix hK (jv (i := 0) rfl rfl) je_int (fun _ _ => rfl)) (jv (i := 1) rfl rfl)))
  (jss_one (js_ret (jv (i := 2) rfl rfl))))) jss_nil)
  (jss_cons (js_put (jv (i := 0) rfl rfl) je_int (je_bin (jo_add hK) (je_ix hK (jv (i := 0) rfl rfl) je_int (fun _ _ => rfl)) je_int))
  (jss_cons (js_if (jt_cmp jo_gt (je_ix hK (jv (i := 0) rfl rfl) je_int (fun _ _ => rfl)) (je_len hK rfl T.z_len (ja_cons (je_ix hK (jv (i := 0) rfl rfl) je_int (fun _ _ => rfl)) ja_nil)) (nomark _)) (jss_cons (js_put (jv (i := 0) rfl rfl) je_int (je_bin jo_mod (je_intc rfl T.z_int (ja_cons (je_bin (jo_add hK) (je_bin (jo_mul hK) (je_ix hK (jv (i := 0) rfl rfl) je_int (fun _ _ => rfl)) je_int) je_int) ja_nil)) je_int))
  (jss_one (js_ret (je_bin jo_mod (je_intc rfl T.z_int (ja_cons (je_bin jo_fdiv (je_ix hK (jv (i := 0) rfl rfl) je_int (fun _ _ => rfl)) je_int) ja_nil)) (jv (i := 1) rfl rfl))))) jss_nil)
  (jss_cons (js_set (i := 3) sc.nd rfl (.inl rfl) (je_ix hK (je_ix hK (jv (i := 0) rfl rfl) je_int (fun _ _ => rfl)) (je_bin jo_sub (je_ix hK (jv (i := 0) rfl rfl) je_int (fun _ _ => rfl)) je_int) (fun _ _ => rfl)))
  (jss_cons (js_put (jv (i := 0) rfl rfl) je_int (je_bin jo_mod (je_intc rfl T.z_int (ja_cons (je_bin (jo_add hK) (je_bin (jo_add hK) (je_bin (jo_mul hK) (je_ix hK (jv (i := 0) rfl rfl) je_int (fun _ _ => rfl)) je_int) (jv (i := 3) rfl rfl)) je_int) ja_nil)) je_int))
  (jss_cons (js_if (jt_cmp jo_ge (jv (i := 3) rfl rfl) (je_bin jo_pow je_int je_int) (nomark _)) (jss_one (js_put (jv (i := 0) rfl rfl) je_int (je_bin jo_fdiv (jv (i := 3) rfl rfl) (jv (i := 1) rfl rfl)))) jss_nil)
  (jss_one (js_ret (je_bin jo_mod (je_intc rfl T.z_int (ja_cons (jv (i := 3) rfl rfl) ja_nil)) (jv (i := 1) rfl rfl))))))))))
theorem ok__law_pick : FnOk P w K mg base (L2.CX P w) 2 (A.f 63) (A.fd 63) ["row", "kinds"] (spD G 2 f__law_pick) := fd_ hG T.d__law_pick.fn sc__law_pick rfl fun _ _ _ _ _ _ hr hK sc tk po => by
    exact (jss_one (js_ret (je_ix hK (jv (i := 1) rfl rfl) (je_call (ok__law_taken T tb hG) (hr.mono (by decide)) rfl T.d__law_taken.gl T.d__law_taken.fn.kp T.d__law_taken.bd (passAt tk) (ja_cons (jv (i := 0) rfl rfl) (ja_cons (je_len hK rfl T.z_len (ja_cons (jv (i := 1) rfl rfl) ja_nil)) ja_nil)) ln2) (fun _ _ => rfl))))
end
theorem ok__law_alike_all {P : Program} {w : World} {K : PySem.W.Frag} {mg : Str → Option Value} {base : Heap} {A : Ad} {G : Sg} (T : Tx K w mg A) (tb : ∀ p ∈ A.tb, LamX.TabB base mg p.1 p.2) (hG : OkG G K A) : ∀ n, FnOk P w K mg base (L2.CX P w) n (A.f 64) (A.fd 64) ["found", "due"] (spD G 2 (f__law_alike n))
  | 0 => fn_undef
  | n + 1 => fn_dl T.d__law_alike.fn sc__law_alike rfl fun cdv A' outer s H Ex hr => by
    have ih := ok__law_alike_all (P := P) (w := w) (base := base) T tb hG n
    have hK : K = G.K := hG.k.symm
    have sc := sc__law_alike
    have tk : Takes (cxOf (L2.CX P w) P w K mg base ["found", "due", "k"] "_law_alike" (defScope s__law_alike) (A.f 64) cdv A' outer s H Ex) (WF Ex) := takes_of rfl rfl rfl rfl
    have po : PassesOwn (model P w) (cxOf (L2.CX P w) P w K mg base ["found", "due", "k"] "_law_alike" (defScope s__law_alike) (A.f 64) cdv A' outer s H Ex).A (cxOf (L2.CX P w) P w K mg base ["found", "due", "k"] "_law_alike" (defScope s__law_alike) (A.f 64) cdv A' outer s H Ex).env (cxOf (L2.CX P w) P w K mg base ["found", "due", "k"] "_law_alike" (defScope s__law_alike) (A.f 64) cdv A' outer s H Ex).xe := passes_of rfl
    exact (jss_cons (js_if (jt_val hK (je_isi2 (T := "tuple") (U := "list") hK rfl T.z_isinstance rfl T.z_tuple (by decide +kernel) rfl T.z_list (by decide +kernel) (je_var (i := 1) rfl (.inr (.inl rfl))))) (jss_cons (js_if (jw_pt (jw_or (jt_not (jt_val hK (je_isi2 (T := "tuple") (U := "list") hK rfl T.z_isinstance rfl T.z_tuple (by decide +kernel) rfl T.z_list (by decide +kernel) (je_var (i := 0) rfl (.inr (.inl rfl)))))) (jw_or1 (jt_cmp (jo_ne hK hr.units) (je_isi (T := "list") hK rfl T.z_isinstance rfl T.z_list (by decide +kernel) (je_var (i := 0) rfl (.inr (.inl rfl)))) (je_isi (T := "list") hK rfl T.z_isinstance rfl T.z_list (by decide +kernel) (je_var (i := 1) rfl (.inr (.inl rfl)))) (nomark _))))) (jss_one (js_ret je_bl)) jss_nil)
  (jss_cons (js_if (jt_cmp (jo_ne hK hr.units) (je_len hK rfl T.z_len (ja_cons (je_var (i := 0) rfl (.inr (.inl rfl))) ja_nil)) (je_len hK rfl T.z_len (ja_cons (je_var (i := 1) rfl (.inr (.inl rfl))) ja_nil)) (nomark _)) (jss_one (js_ret je_bl)) jss_nil)
  (jss_one (js_ret (je_cmp (jo_eq hK hr.units) (je_lc (own := [("k", 2)]) rfl sc.nd (ji_range1 rfl T.z_range (ja_cons (je_len hK rfl T.z_len (ja_cons (je_var (i := 1) rfl (.inr (.inl rfl))) ja_nil)) ja_nil) ln1) (show BlkOk ["found", "due", "k"] (defScope s__law_alike) _ _ from blkOk_by (by decide +kernel)) (fun _ _ _ _ _ => by exact (jg_name (i := 2) sc.nd rfl (.inl rfl))) (fun _ _ _ _ _ => by exact (jts_one (jt_not (jt_val hK (je_call ih hr rfl T.d__law_alike.gl T.d__law_alike.fn.kp T.d__law_alike.bd (fun σ => passAt L2.takes0 σ) (ja_cons (je_ix hK (je_var (i := 0) rfl (.inr (.inl rfl))) (jv (i := 2) rfl rfl) (fun _ _ => rfl)) (ja_cons (je_ix hK (je_var (i := 1) rfl (.inr (.inl rfl))) (jv (i := 2) rfl rfl) (fun _ _ => rfl)) ja_nil)) ln2))))) (fun _ _ _ _ _ => by exact (jv (i := 2) rfl rfl)) (by decide)) (je_lst ja_nil len_nil) (nomark _)))))) jss_nil)
  (jss_cons (js_if (jw_pt (jw_or (jt_cmp jo_is (je_var (i := 1) rfl (.inr (.inl rfl))) je_non (nomark _)) (jw_or1 (jt_val hK (je_isi (T := "str") hK rfl T.z_isinstance rfl T.z_str (by decide +kernel) (je_var (i := 1) rfl (.inr (.inl rfl)))))))) (jss_one (js_ret (je_and (je_cmp (jo_eq hK hr.units) (je_var (i := 0) rfl (.inr (.inl rfl))) (je_var (i := 1) rfl (.inr (.inl rfl))) (nomark _)) (je_one (je_cmp (jo_eq hK hr.units) (je_isi (T := "str") hK rfl T.z_isinstance rfl T.z_str (by decide +kernel) (je_var (i := 0) rfl (.inr (.inl rfl)))) (je_isi (T := "str") hK rfl T.z_isinstance rfl T.z_str (by decide +kernel) (je_var (i := 1) rfl (.inr (.inl rfl)))) (nomark _)))))) jss_nil)
  (jss_one (js_ret (je_and (je_isi (T := "int") hK rfl T.z_isinstance rfl T.z_int (by decide +kernel) (je_var (i := 0) rfl (.inr (.inl rfl)))) (je_and (je_cmp (jo_eq hK hr.units) (je_isi (T := "bool") hK rfl T.z_isinstance rfl T.z_bool (by decide +kernel) (je_var (i := 0) rfl (.inr (.inl rfl)))) (je_isi (T := "bool") hK rfl T.z_isinstance rfl T.z_bool (by decide +kernel) (je_var (i := 1) rfl (.inr (.inl rfl)))) (nomark _)) (je_one (je_cmp (jo_eq hK hr.units) (je_var (i := 0) rfl (.inr (.inl rfl))) (je_var (i := 1) rfl (.inr (.inl rfl))) (nomark _)))))))))
theorem ok__law_alike {P : Program} {w : World} {K : PySem.W.Frag} {mg : Str → Option Value} {base : Heap} {A : Ad} {G : Sg} (T : Tx K w mg A) (tb : ∀ p ∈ A.tb, LamX.TabB base mg p.1 p.2) (hG : OkG G K A) : FnOk P w K mg base (L2.CX P w) 8 (A.f 64) (A.fd 64) ["found", "due"] (spD G 2 (f__law_alike 8)) := ok__law_alike_all T tb hG 8
section
variable {P : Program} {w : World} {K : PySem.W.Frag} {mg : Str → Option Value} {base : Heap} {A : Ad} {G : Sg} (T : Tx K w mg A) (tb : ∀ p ∈ A.tb, LamX.TabB base mg p.1 p.2) (hG : OkG G K A)
include T tb hG
theorem ok__law_up : FnOk P w K mg base (L2.CX P w) 2 (A.f 65) (A.fd 65) ["row", "least", "most"] (spD G 3 f__law_up) := fd_ hG T.d__law_up.fn sc__law_up rfl fun _ _ _ _ _ _ hr hK sc tk po => by
    exact (jss_one (js_ret (je_min rfl rfl T.z_min (ja_cons (jv (i := 2) rfl rfl) (ja_cons (je_bin (jo_add hK) (jv (i := 1) rfl rfl) (je_call (ok__law_taken T tb hG) (hr.mono (by decide)) rfl T.d__law_taken.gl T.d__law_taken.fn.kp T.d__law_taken.bd (passAt tk) (ja_cons (jv (i := 0) rfl rfl) (ja_cons je_int ja_nil)) ln2)) ja_nil)))))
theorem ok__law_design : FnOk P w K mg base (L2.CX P w) 3 (A.f 66) (A.fd 66) ["row"] (spD G 1 f__law_design) := fd_ hG T.d__law_design.fn sc__law_design rfl fun _ _ _ _ _ _ hr hK sc tk po => by
    exact (jss_cons (js_set (i := 1) sc.nd rfl (.inl rfl) (je_call (ok__law_taken T tb hG) (hr.mono (by decide)) rfl T.d__law_taken.gl T.d__law_taken.fn.kp T.d__law_taken.bd (passAt tk) (ja_cons (jv (i := 0) rfl rfl) (ja_cons je_int ja_nil)) ln2))
  (jss_cons (js_set (i := 2) sc.nd rfl (.inl rfl) (je_call (ok__law_taken T tb hG) (hr.mono (by decide)) rfl T.d__law_taken.gl T.d__law_taken.fn.kp T.d__law_taken.bd (passAt tk) (ja_cons (jv (i := 0) rfl rfl) (ja_cons je_int ja_nil)) ln2))
  (jss_cons (js_set (i := 3) sc.nd rfl (.inl rfl) (je_mut (ja_cons (je_tup (ja_cons (jv (i := 2) rfl rfl) (ja_cons (je_call (ok__law_up T tb hG) (hr.mono (by decide)) rfl T.d__law_up.gl T.d__law_up.fn.kp T.d__law_up.bd (passAt tk) (ja_cons (jv (i := 0) rfl rfl) (ja_cons (je_bin (jo_add hK) (je_max rfl rfl T.z_max (ja_cons (jv (i := 2) rfl rfl) (ja_cons (jv (i := 1) rfl rfl) ja_nil))) je_int) (ja_cons je_int ja_nil))) ln3) ja_nil)) ln2) ja_nil) ln1))
  (jss_cons (js_for po rfl (ji_seq hK (je_lst (ja_cons je_str (ja_cons je_str (ja_cons je_str ja_nil))) ln3)) (jg_name (i := 4) sc.nd rfl (.inl rfl)) (jss_cons (js_set (i := 5) sc.nd rfl (.inl rfl) (je_call (ok__law_up T tb hG) (hr.mono (by decide)) rfl T.d__law_up.gl T.d__law_up.fn.kp T.d__law_up.bd (passAt tk) (ja_cons (jv (i := 0) rfl rfl) (ja_cons (jv (i := 1) rfl rfl) (ja_cons je_int ja_nil))) ln3))
  (jss_cons (js_set (i := 2) sc.nd rfl (.inl rfl) (je_call (ok__law_up T tb hG) (hr.mono (by decide)) rfl T.d__law_up.gl T.d__law_up.fn.kp T.d__law_up.bd (passAt tk) (ja_cons (jv (i := 0) rfl rfl) (ja_cons (jv (i := 5) rfl rfl) (ja_cons je_int ja_nil))) ln3))
  (jss_one (js_append hK (jv (i := 3) rfl rfl) (je_tup (ja_cons (jv (i := 5) rfl rfl) (ja_cons (jv (i := 2) rfl rfl) (ja_cons (je_call (ok__law_up T tb hG) (hr.mono (by decide)) rfl T.d__law_up.gl T.d__law_up.fn.kp T.d__law_up.bd (passAt tk) (ja_cons (jv (i := 0) rfl rfl) (ja_cons (je_bin (jo_add hK) (jv (i := 2) rfl rfl) je_int) (ja_cons je_int ja_nil))) ln3) ja_nil))) ln3))))))
  (jss_cons (js_par (i := 6) (j := 7) rfl sc.nd rfl rfl (by decide) rfl rfl (ja_cons (je_call (ok__law_up T tb hG) (hr.mono (by decide)) rfl T.d__law_up.gl T.d__law_up.fn.kp T.d__law_up.bd (passAt tk) (ja_cons (jv (i := 0) rfl rfl) (ja_cons (jv (i := 1) rfl rfl) (ja_cons je_int ja_nil))) ln3) (ja_cons (je_call (ok__law_up T tb hG) (hr.mono (by decide)) rfl T.d__law_up.gl T.d__law_up.fn.kp T.d__law_up.bd (passAt tk) (ja_cons (jv (i := 0) rfl rfl) (ja_cons (jv (i := 1) rfl rfl) (ja_cons je_int ja_nil))) ln3) ja_nil)) rfl)
  (jss_cons (js_append hK (jv (i := 3) rfl rfl) (je_tup (ja_cons (jv (i := 6) rfl rfl) (ja_cons (jv (i := 7) rfl rfl) (ja_cons (je_call (ok__law_up T tb hG) (hr.mono (by decide)) rfl T.d__law_up.gl T.d__law_up.fn.kp T.d__law_up.bd (passAt tk) (ja_cons (jv (i := 0) rfl rfl) (ja_cons (je_bin (jo_add hK) (je_max rfl rfl T.z_max (ja_cons (jv (i := 6) rfl rfl) (ja_cons (jv (i := 7) rfl rfl) ja_nil))) je_int) (ja_cons je_int ja_nil))) ln3) ja_nil))) ln3))
  (jss_cons (js_set (i := 5) sc.nd rfl (.inl rfl) (je_call (ok__law_up T tb hG) (hr.mono (by decide)) rfl T.d__law_up.gl T.d__law_up.fn.kp T.d__law_up.bd (passAt tk) (ja_cons (jv (i := 0) rfl rfl) (ja_cons (jv (i := 1) rfl rfl) (ja_cons je_int ja_nil))) ln3))
  (jss_cons (js_append hK (jv (i := 3) rfl rfl) (je_tup (ja_cons (jv (i := 5) rfl rfl) (ja_cons (je_call (ok__law_up T tb hG) (hr.mono (by decide)) rfl T.d__law_up.gl T.d__law_up.fn.kp T.d__law_up.bd (passAt tk) (ja_cons (jv (i := 0) rfl rfl) (ja_cons (jv (i := 5) rfl rfl) (ja_cons je_int ja_nil))) ln3) ja_nil)) ln2))
  (jss_cons (js_append hK (jv (i := 3) rfl rfl) (je_tup (ja_cons (je_call (ok__law_taken T tb hG) (hr.mono (by decide)) rfl T.d__law_taken.gl T.d__law_taken.fn.kp T.d__law_taken.bd (passAt tk) (ja_cons (jv (i := 0) rfl rfl) (ja_cons je_int ja_nil)) ln2) ja_nil) ln1))
  (jss_cons (js_set (i := 5) sc.nd rfl (.inl rfl) (je_call (ok__law_up T tb hG) (hr.mono (by decide)) rfl T.d__law_up.gl T.d__law_up.fn.kp T.d__law_up.bd (passAt tk) (ja_cons (jv (i := 0) rfl rfl) (ja_cons (jv (i := 1) rfl rfl) (ja_cons je_int ja_nil))) ln3))
  (jss_cons (js_append hK (jv (i := 3) rfl rfl) (je_tup (ja_cons (jv (i := 5) rfl rfl) (ja_cons (je_call (ok__law_up T tb hG) (hr.mono (by decide)) rfl T.d__law_up.gl T.d__law_up.fn.kp T.d__law_up.bd (passAt tk) (ja_cons (jv (i := 0) rfl rfl) (ja_cons (jv (i := 5) rfl rfl) (ja_cons je_int ja_nil))) ln3) ja_nil)) ln2))
  (jss_cons (js_set (i := 8) sc.nd rfl (.inl rfl) je_newT)
  (jss_cons (js_for po rfl (ji_range1 rfl T.z_range (ja_cons (je_call (ok__law_taken T tb hG) (hr.mono (by decide)) rfl T.d__law_taken.gl T.d__law_taken.fn.kp T.d__law_taken.bd (passAt tk) (ja_cons (jv (i := 0) rfl rfl) (ja_cons je_int ja_nil)) ln2) ja_nil) ln1) (jg_name (i := 9) sc.nd rfl (.inl rfl)) (jss_cons (js_set (i := 10) sc.nd rfl (.inl rfl) (je_call (ok__law_taken T tb hG) (hr.mono (by decide)) rfl T.d__law_taken.gl T.d__law_taken.fn.kp T.d__law_taken.bd (passAt tk) (ja_cons (jv (i := 0) rfl rfl) (ja_cons je_int ja_nil)) ln2))
  (jss_one (js_tput hr (jv (i := 8) rfl rfl) (ja_cons (je_bin (jo_add hK) (je_bin (jo_add hK) (jv (i := 10) rfl rfl) je_int) (je_call (ok__law_taken T tb hG) (hr.mono (by decide)) rfl T.d__law_taken.gl T.d__law_taken.fn.kp T.d__law_taken.bd (passAt tk) (ja_cons (jv (i := 0) rfl rfl) (ja_cons (je_bin jo_sub je_int (jv (i := 10) rfl rfl)) ja_nil)) ln2)) (ja_cons (jv (i := 10) rfl rfl) ja_nil)) ln2 je_bl))))
  (jss_one (js_ret (je_tup (ja_cons (jv (i := 1) rfl rfl) (ja_cons (je_cmp (jo_eq hK hr.units) (je_call (ok__law_taken T tb hG) (hr.mono (by decide)) rfl T.d__law_taken.gl T.d__law_taken.fn.kp T.d__law_taken.bd (passAt tk) (ja_cons (jv (i := 0) rfl rfl) (ja_cons je_int ja_nil)) ln2) je_int (nomark _)) (ja_cons (je_tuple hK rfl T.z_tuple (ja_cons (jv (i := 3) rfl rfl) ja_nil)) (ja_cons (je_tuple hK rfl T.z_tuple (ja_cons (je_sortK rfl rfl T.z_sorted rfl T.z_list (ja_cons (jv (i := 8) rfl rfl) ja_nil)) ja_nil)) (ja_cons (je_tup ja_nil len_nil) ja_nil))))) ln5))))))))))))))))
theorem ok__law_entries : FnOk P w K mg base (L2.CX P w) 1 (A.f 67) (A.fd 67) [] (spD G 0 f__law_entries) := fd_ hG T.d__law_entries.fn sc__law_entries rfl fun _ _ _ _ _ _ hr hK sc tk po => by
    exact (jss_cons (js_par (i := 0) (j := 1) rfl sc.nd rfl rfl (by decide) rfl rfl (ja_cons (je_lst (ja_cons je_str (ja_cons je_str (ja_cons je_str (ja_cons je_str ja_nil)))) ln4) (ja_cons (je_lst ja_nil len_nil) ja_nil)) rfl)
  (jss_cons (js_set (i := 2) sc.nd rfl (.inl rfl) (je_lst (ja_cons (je_tup (ja_cons je_str (ja_cons je_str ja_nil)) ln2) (ja_cons (je_tup (ja_cons je_str (ja_cons je_str ja_nil)) ln2) (ja_cons (je_tup (ja_cons je_str (ja_cons je_str ja_nil)) ln2) (ja_cons (je_tup (ja_cons je_str (ja_cons je_str ja_nil)) ln2) (ja_cons (je_tup (ja_cons je_str (ja_cons je_str ja_nil)) ln2) (ja_cons (je_tup (ja_cons je_str (ja_cons je_str ja_nil)) ln2) (ja_cons (je_tup (ja_cons je_str (ja_cons je_str ja_nil)) ln2) ja_nil))))))) ln7))
  (jss_cons (js_for po rfl (ji_range2 rfl T.z_range (ja_cons je_int (ja_cons je_int ja_nil)) ln2) (jg_name (i := 3) sc.nd rfl (.inr rfl)) (jss_cons (js_for po rfl (ji_seq hK (jv (i := 0) rfl rfl)) (jg_name (i := 4) sc.nd rfl (.inr rfl)) (jss_cons (js_set (i := 1) sc.nd rfl (.inl rfl) (je_bin (jo_add hK) (jv (i := 1) rfl rfl) (je_lc (own := [("other", 5), ("role", 6)]) rfl sc.nd (ji_seq hK (jv (i := 2) rfl rfl)) (show BlkOk ["makers", "found", "users", "d", "one", "other", "role"] (defScope s__law_entries) _ _ from blkOk_by (by decide +kernel)) (fun _ _ _ _ _ => by exact (jg_tup hK rfl (jgs_cons (jg_name (i := 5) sc.nd rfl (.inl rfl)) (jgs_cons (jg_name (i := 6) sc.nd rfl (.inl rfl)) jgs_nil)))) (fun _ _ _ _ _ => by exact jts_nil) (fun _ _ _ _ _ => by exact (je_tup (ja_cons je_str (ja_cons (je_var (i := 4) rfl (.inr (.inl rfl))) (ja_cons (jv (i := 5) rfl rfl) (ja_cons (jv (i := 6) rfl rfl) (ja_cons (je_var (i := 3) rfl (.inr (.inl rfl))) ja_nil))))) ln5)) (by decide))))
  (jss_one (js_set (i := 1) sc.nd rfl (.inl rfl) (je_bin (jo_add hK) (jv (i := 1) rfl rfl) (je_lc (own := [("other", 5)]) rfl sc.nd (ji_seq hK (jv (i := 0) rfl rfl)) (show BlkOk ["makers", "found", "users", "d", "one", "other", "role"] (defScope s__law_entries) _ _ from blkOk_by (by decide +kernel)) (fun _ _ _ _ _ => by exact (jg_name (i := 5) sc.nd rfl (.inl rfl))) (fun _ _ _ _ _ => by exact jts_nil) (fun _ _ _ _ _ => by exact (je_tup (ja_cons je_str (ja_cons (je_var (i := 4) rfl (.inr (.inl rfl))) (ja_cons (jv (i := 5) rfl rfl) (ja_cons (je_var (i := 3) rfl (.inr (.inl rfl))) ja_nil)))) ln4)) (by decide)))))))
  (jss_cons (js_set (i := 1) sc.nd rfl (.inl rfl) (je_bin (jo_add hK) (jv (i := 1) rfl rfl) (je_lst (ja_cons (je_tup (ja_cons je_str (ja_cons je_str (ja_cons je_str (ja_cons (je_var (i := 3) rfl (.inr (.inl rfl))) ja_nil)))) ln4) (ja_cons (je_tup (ja_cons je_str (ja_cons je_str (ja_cons je_str (ja_cons (je_var (i := 3) rfl (.inr (.inl rfl))) ja_nil)))) ln4) ja_nil)) ln2)))
  (jss_one (js_for po rfl (ji_seq hK (je_lst (ja_cons je_str (ja_cons je_str ja_nil)) ln2)) (jg_name (i := 4) sc.nd rfl (.inr rfl)) (jss_one (js_set (i := 1) sc.nd rfl (.inl rfl) (je_bin (jo_add hK) (jv (i := 1) rfl rfl) (je_lc (own := [("other", 5)]) rfl sc.nd (ji_seq hK (je_bin (jo_add hK) (jv (i := 0) rfl rfl) (je_lst (ja_cons je_str (ja_cons je_str ja_nil)) ln2))) (show BlkOk ["makers", "found", "users", "d", "one", "other", "role"] (defScope s__law_entries) _ _ from blkOk_by (by decide +kernel)) (fun _ _ _ _ _ => by exact (jg_name (i := 5) sc.nd rfl (.inl rfl))) (fun _ _ _ _ _ => by exact jts_nil) (fun _ _ _ _ _ => by exact (je_tup (ja_cons je_str (ja_cons (je_var (i := 4) rfl (.inr (.inl rfl))) (ja_cons (jv (i := 5) rfl rfl) (ja_cons (je_var (i := 3) rfl (.inr (.inl rfl))) ja_nil)))) ln4)) (by decide))))))))))
  (jss_one (js_ret (je_sortE hK rfl T.z_sorted (ja_cons (jv (i := 1) rfl rfl) ja_nil)))))))
end
theorem ok_law {P : Program} {w : World} {K : PySem.W.Frag} {mg : Str → Option Value} {base : Heap} {A : Ad} {f : Addr} {oc kV doc pm ct : Value} {od an : Option Addr} {osl : Array (Option Value)} (T : Tx K w mg A) (tb : ∀ p ∈ A.tb, LamX.TabB base mg p.1 p.2)
    (lk : K.lookup f = some ⟨oc, od, .func (PySem.W.fnOf "law" "law" (defArgs s_law) (defBody s_law) (defScope s_law) .none kV doc pm an (.ref (A.c 69)) ct), osl⟩) (hcd : PySem.W.codeIn K (.ref (A.c 69)) "law" = true) :
    FnOk P w K mg base CX0 16 f (PySem.W.fnOf "law" "law" (defArgs s_law) (defBody s_law) (defScope s_law) .none kV doc pm an (.ref (A.c 69)) ct) ["script"] (spLaw K A.tb) :=
  law_fn lk hcd sc_law (fun X => lawG A X (lamsOf s_law) df_law) (fun _ => rfl) (fun X p hp => T.ttb p hp) (fun X k a c t ps => lamHO_ne ps) (fun A' outer s H Ex hr => by
    let XX : Cx := (cxOf CX0 P w K mg base ["script", "row", "entry", "k", "some", "bent", "odd", "bad", "design", "works"] "law" (defScope s_law) f (.ref (A.c 69)) A' outer s H Ex).nox
    have hG : OkG (lawG A XX (lamsOf s_law) df_law) K A := ⟨rfl, rfl, rfl, rfl⟩
    have hK : K = (lawG A XX (lamsOf s_law) df_law).K := rfl
    have sc := sc_law
    have tk : Takes XX W0 := L2.takes0
    have po : PassesOwn (model P w) XX.A XX.env XX.xe := PassesOwn.never
    have Lm0 := (show LamP ["script", "row", "entry", "k", "some", "bent", "odd", "bad", "design", "works"] (defScope s_law) ((lamsOf s_law).getD 0 noLam).2.2 from lamP_by (by decide +kernel))
    have C0 := clo_is (A := A) (X := XX) (lams := lamsOf s_law) (df := df_law) (c := A.c 69) (P := A.pt 69) (k := 0) (dk := []) rfl rfl (tb _ T.tbm_law) rfl Lm0 T.tm_law.1 T.tm_law.2
    have Lm1 := (show LamP ["script", "row", "entry", "k", "some", "bent", "odd", "bad", "design", "works"] (defScope s_law) ((lamsOf s_law).getD 1 noLam).2.2 from lamP_by (by decide +kernel))
    have C1 := clo_is (A := A) (X := XX) (lams := lamsOf s_law) (df := df_law) (c := A.c 69) (P := A.pt 69) (k := 1) (dk := [.int 0]) rfl rfl (tb _ T.tbm_law) rfl Lm1 T.tm_law.1 T.tm_law.2
    have Lm2 := (show LamP ["script", "row", "entry", "k", "some", "bent", "odd", "bad", "design", "works"] (defScope s_law) ((lamsOf s_law).getD 2 noLam).2.2 from lamP_by (by decide +kernel))
    have C2 := clo_is (A := A) (X := XX) (lams := lamsOf s_law) (df := df_law) (c := A.c 69) (P := A.pt 69) (k := 2) (dk := [.int 0]) rfl rfl (tb _ T.tbm_law) rfl Lm2 T.tm_law.1 T.tm_law.2
    have hkK : ∀ k, Klo (lawG A XX (lamsOf s_law) df_law) XX 13 k (th_law k) ∨ th_law k = fun _ _ => .undef := fun k => match k with
      | 0 => .inl ⟨⟨A.c 69, A.pt 69, _, _, _, [], [], C0, Lm0, (fun x hx => absurd hx (by simp)), (bl_0 fun _ _ _ _ _ => rfl), fun A1 outer1 s1 H1 Ex1 f1 c1 hr1 => by
          have hr := hr1
          have tk : Takes (lamCx XX A1 outer1 s1 H1 Ex1 ((lamsOf s_law).getD 0 noLam).2.2 f1 c1) (WF Ex1) := takes_of rfl rfl rfl rfl
          exact (je_call (ok_is_open T tb hG) (hr.mono (by decide)) rfl T.d_is_open.gl T.d_is_open.fn.kp T.d_is_open.bd (passAt tk) (ja_cons (je_var (i := 8) rfl (.inr (.inr rfl))) (ja_cons (je_var (i := 7) rfl (.inr (.inr rfl))) ja_nil)) ln2)⟩⟩
      | 1 => .inl ⟨⟨A.c 69, A.pt 69, _, _, _, [.int 0], ["a"], C1, Lm1, (fun x hx => by rw [List.mem_singleton.mp hx]; rfl), (bl_1 fun s cl doc pm cv ct t u o n h1 h2 => BindsTo.of_defaults (T := t) rfl h1 h2 rfl rfl), fun A1 outer1 s1 H1 Ex1 f1 c1 hr1 => by
          have hr := hr1
          have tk : Takes (lamCx XX A1 outer1 s1 H1 Ex1 ((lamsOf s_law).getD 1 noLam).2.2 f1 c1) (WF Ex1) := takes_of rfl rfl rfl rfl
          exact (je_call (ok_shown T tb hG) (hr.mono (by decide)) rfl T.d_shown.gl T.d_shown.fn.kp T.d_shown.bd (passAt tk) (ja_cons (je_var (i := 8) rfl (.inr (.inr rfl))) (ja_cons (je_var (i := 7) rfl (.inr (.inr rfl))) ja_nil)) ln2)⟩⟩
      | 2 => .inl ⟨⟨A.c 69, A.pt 69, _, _, _, [.int 0], ["b"], C2, Lm2, (fun x hx => by rw [List.mem_singleton.mp hx]; rfl), (bl_1 fun s cl doc pm cv ct t u o n h1 h2 => BindsTo.of_defaults (T := t) rfl h1 h2 rfl rfl), fun A1 outer1 s1 H1 Ex1 f1 c1 hr1 => by
          have hr := hr1
          have tk : Takes (lamCx XX A1 outer1 s1 H1 Ex1 ((lamsOf s_law).getD 2 noLam).2.2 f1 c1) (WF Ex1) := takes_of rfl rfl rfl rfl
          exact (je_call (ok_distance T tb hG) (hr.mono (by decide)) rfl T.d_distance.gl T.d_distance.fn.kp T.d_distance.bd (passAt tk) (ja_cons (je_var (i := 8) rfl (.inr (.inr rfl))) (ja_cons (je_var (i := 7) rfl (.inr (.inr rfl))) ja_nil)) ln2)⟩⟩
      | _ + 3 => .inr rfl
    exact (jss_cons (js_set (i := 1) sc.nd rfl (.inl rfl) (je_mut (ja_cons (je_var (i := 0) rfl (.inl rfl)) (ja_cons je_int (ja_cons je_int (ja_cons je_int ja_nil)))) ln4))
  (jss_cons (js_set (i := 2) sc.nd rfl (.inl rfl) (je_call (ok__law_pick T tb hG) (hr.mono (by decide)) rfl T.d__law_pick.gl T.d__law_pick.fn.kp T.d__law_pick.bd (passAt tk) (ja_cons (je_var (i := 1) rfl (.inl rfl)) (ja_cons (je_call0 (ok__law_entries T tb hG) (hr.mono (by decide)) rfl T.d__law_entries.gl T.d__law_entries.fn.kp T.d__law_entries.bd (passAt tk)) ja_nil)) ln2))
  (jss_cons (js_if (jt_cmp jo_isnotF (je_call (ok_is_entry T tb hG) (hr.mono (by decide)) rfl T.d_is_entry.gl T.d_is_entry.fn.kp T.d_is_entry.bd (passAt tk) (ja_cons (je_var (i := 2) rfl (.inl rfl)) ja_nil) ln1) je_bl (nomark _)) (jss_one (js_ret je_bl)) jss_nil)
  (jss_cons (js_set (i := 3) sc.nd rfl (.inl rfl) (je_call (ok__law_taken T tb hG) (hr.mono (by decide)) rfl T.d__law_taken.gl T.d__law_taken.fn.kp T.d__law_taken.bd (passAt tk) (ja_cons (je_var (i := 1) rfl (.inl rfl)) (ja_cons (je_len hK rfl T.z_len (ja_cons (je_var (i := 2) rfl (.inl rfl)) ja_nil)) ja_nil)) ln2))
  (jss_cons (js_set (i := 4) sc.nd rfl (.inl rfl) (je_lst (ja_cons je_str (ja_cons je_str (ja_cons je_str (ja_cons je_str (ja_cons je_str (ja_cons je_str (ja_cons je_str (ja_cons je_str (ja_cons je_str (ja_cons je_str (ja_cons je_str (ja_cons je_str (ja_cons je_int (ja_cons je_int (ja_cons je_int (ja_cons je_int (ja_cons je_non (ja_cons je_bl ja_nil)))))))))))))))))) (len_cons (len_cons (len_cons (len_cons (len_cons (len_cons (len_cons (len_cons (len_cons ln9)))))))))))
  (jss_cons (js_set (i := 5) sc.nd rfl (.inl rfl) (je_bin (jo_add hK) (je_bin (jo_add hK) (je_sl hK (je_var (i := 2) rfl (.inl rfl)) jop_none (jop_some (je_var (i := 3) rfl (.inl rfl)))) (je_tup (ja_cons (je_call (ok__law_pick T tb hG) (hr.mono (by decide)) rfl T.d__law_pick.gl T.d__law_pick.fn.kp T.d__law_pick.bd (passAt tk) (ja_cons (je_var (i := 1) rfl (.inl rfl)) (ja_cons (je_var (i := 4) rfl (.inl rfl)) ja_nil)) ln2) ja_nil) ln1)) (je_sl hK (je_var (i := 2) rfl (.inl rfl)) (jop_some (je_bin (jo_add hK) (je_var (i := 3) rfl (.inl rfl)) je_int)) jop_none)))
  (jss_cons (js_if (jt_not (jt_val hK (je_call (ok__law_alike T tb hG) (hr.mono (by decide)) rfl T.d__law_alike.gl T.d__law_alike.fn.kp T.d__law_alike.bd (passAt tk) (ja_cons (je_call (ok_is_entry T tb hG) (hr.mono (by decide)) rfl T.d_is_entry.gl T.d_is_entry.fn.kp T.d_is_entry.bd (passAt tk) (ja_cons (je_var (i := 5) rfl (.inl rfl)) ja_nil) ln1) (ja_cons (je_and (je_cmp (jo_inV hK (units65 hr)) (je_var (i := 5) rfl (.inl rfl)) (je_call0 (ok__law_entries T tb hG) (hr.mono (by decide)) rfl T.d__law_entries.gl T.d__law_entries.fn.kp T.d__law_entries.bd (passAt tk)) (by with_unfolding_all rfl)) (je_one (je_cmp jo_isnotF (je_ix hK (je_var (i := 5) rfl (.inl rfl)) (je_neg je_int) (fun _ _ => rfl)) je_bl (nomark _)))) ja_nil)) ln2))) (jss_one (js_ret je_bl)) jss_nil)
  (jss_cons (js_set (i := 6) sc.nd rfl (.inl rfl) (je_lst (ja_cons je_non (ja_cons (je_tup ja_nil len_nil) (ja_cons (je_sl hK (je_var (i := 2) rfl (.inl rfl)) jop_none (jop_some (je_neg je_int))) (ja_cons (je_bin (jo_add hK) (je_var (i := 2) rfl (.inl rfl)) (je_tup (ja_cons je_int ja_nil) ln1)) (ja_cons (je_list hK rfl T.z_list (ja_cons (je_var (i := 2) rfl (.inl rfl)) ja_nil)) (ja_cons (je_tup (ja_cons je_str (ja_cons je_str (ja_cons je_str (ja_cons je_str (ja_cons je_int ja_nil))))) ln5) (ja_cons (je_tup (ja_cons je_str (ja_cons je_str (ja_cons je_str (ja_cons je_str (ja_cons je_int ja_nil))))) ln5) ja_nil))))))) ln7))
  (jss_cons (js_set (i := 6) sc.nd rfl (.inl rfl) (je_bin (jo_add hK) (je_var (i := 6) rfl (.inl rfl)) (je_lst (ja_cons (je_tup (ja_cons je_str (ja_cons je_str (ja_cons je_str (ja_cons je_str (ja_cons je_int ja_nil))))) ln5) (ja_cons (je_tup (ja_cons je_str (ja_cons je_str (ja_cons je_str (ja_cons je_int ja_nil)))) ln4) (ja_cons (je_tup (ja_cons je_str (ja_cons je_str (ja_cons je_str (ja_cons je_int ja_nil)))) ln4) (ja_cons (je_tup (ja_cons je_str (ja_cons je_str (ja_cons je_str (ja_cons je_int ja_nil)))) ln4) ja_nil)))) ln4)))
  (jss_cons (js_set (i := 6) sc.nd rfl (.inl rfl) (je_bin (jo_add hK) (je_var (i := 6) rfl (.inl rfl)) (je_lst (ja_cons (je_tup (ja_cons je_str (ja_cons je_str (ja_cons je_str (ja_cons je_int ja_nil)))) ln4) (ja_cons (je_tup (ja_cons je_str (ja_cons je_str (ja_cons je_str (ja_cons je_int ja_nil)))) ln4) (ja_cons (je_tup (ja_cons je_str (ja_cons je_str (ja_cons je_str (ja_cons je_int ja_nil)))) ln4) (ja_cons (je_tup (ja_cons je_str (ja_cons je_str (ja_cons je_str (ja_cons je_int ja_nil)))) ln4) (ja_cons je_int ja_nil))))) ln5)))
  (jss_cons (js_set (i := 7) sc.nd rfl (.inr rfl) (je_ix hK (je_var (i := 6) rfl (.inl rfl)) (je_call (ok__law_taken T tb hG) (hr.mono (by decide)) rfl T.d__law_taken.gl T.d__law_taken.fn.kp T.d__law_taken.bd (passAt tk) (ja_cons (je_var (i := 1) rfl (.inl rfl)) (ja_cons (je_len hK rfl T.z_len (ja_cons (je_var (i := 6) rfl (.inl rfl)) ja_nil)) ja_nil)) ln2) (fun _ _ => rfl)))
  (jss_cons (js_set (i := 8) sc.nd rfl (.inr rfl) (je_call (ok__law_design T tb hG) (hr.mono (by decide)) rfl T.d__law_design.gl T.d__law_design.fn.kp T.d__law_design.bd (passAt tk) (ja_cons (je_var (i := 1) rfl (.inl rfl)) ja_nil) ln1))
  (jss_cons (js_set (i := 9) sc.nd rfl (.inl rfl) (je_lst (ja_cons (je_lam C0 rfl) (ja_cons (je_lamD C1 rfl rfl) (ja_cons (je_lamD C2 rfl rfl) ja_nil))) ln3))
  (jss_one (js_ret (je_and (je_cmp jo_isF (je_call (ok_is_entry T tb hG) (hr.mono (by decide)) rfl T.d_is_entry.gl T.d_is_entry.fn.kp T.d_is_entry.bd (passAt tk) (ja_cons (je_var (i := 7) rfl (.inr (.inl rfl))) ja_nil) ln1) je_bl (nomark _)) (je_one (je_callClo T.d__law_bad.fn T.d__law_bad.bd T.d__law_bad.gl rfl sc__law_bad rfl (.inl rfl) (gv__law_bad T hG) gx__law_bad (hr.mono (by decide)) (fun k => (hkK k).imp id fun e δ M => by rw [e]; rfl) (je_ix hK (je_var (i := 9) rfl (.inl rfl)) (je_call (ok__law_taken T tb hG) (hr.mono (by decide)) rfl T.d__law_taken.gl T.d__law_taken.fn.kp T.d__law_taken.bd (passAt tk) (ja_cons (je_var (i := 1) rfl (.inl rfl)) (ja_cons je_int ja_nil)) ln2) (fun _ _ => rfl))))))))))))))))))))) math_law
def aF : Nat → Addr
  | 6 => 70
  | 7 => 77
  | 19 => 109
  | 20 => 116
  | 21 => 123
  | 22 => 130
  | 23 => 137
  | 24 => 144
  | 25 => 151
  | 26 => 158
  | 27 => 165
  | 28 => 172
  | 29 => 179
  | 30 => 186
  | 31 => 193
  | 50 => 303
  | 53 => 322
  | 60 => 355
  | 62 => 362
  | 63 => 369
  | 64 => 374
  | 65 => 381
  | 66 => 388
  | 67 => 393
  | 68 => 400
  | _ => 0
def aC : Nat → Addr
  | 0 => 24
  | 1 => 37
  | 2 => 49
  | 3 => 61
  | _ => 0
def aT : Nat → Addr
  | 11 => 78
  | 12 => 87
  | 13 => 88
  | 14 => 89
  | 15 => 90
  | 16 => 98
  | 17 => 101
  | 18 => 102
  | 37 => 218
  | 38 => 225
  | 39 => 230
  | 40 => 233
  | 44 => 263
  | _ => 0
def aQ : Nat → Addr
  | 19 => 108
  | 21 => 122
  | 25 => 150
  | 26 => 157
  | 69 => 406
  | _ => 0
def aP : Nat → Addr
  | 19 => 104
  | 21 => 118
  | 25 => 146
  | 26 => 153
  | 69 => 402
  | _ => 0
def oL : DL.OL := [("are_ascending", 109, 108, 104), ("is_row", 123, 122, 118), ("are_paths", 151, 150, 146), ("are_waits", 158, 157, 153), ("law", 407, 406, 402)]
def AA (P : Params) : Ad := ⟨aF, fun n => fdO (HS.KK P) (aF n), aC, aT, aQ, aP, [(104, (envOfC "are_ascending" (defScope s_are_ascending) 0 0 .none).qual ++ "<genexpr>"), (118, (envOfC "is_row" (defScope s_is_row) 0 0 .none).qual ++ "<genexpr>"), (146, (envOfC "are_paths" (defScope s_are_paths) 0 0 .none).qual ++ "<genexpr>"), (153, (envOfC "are_waits" (defScope s_are_waits) 0 0 .none).qual ++ "<genexpr>"), (402, (envOfC "law" (defScope s_law) 0 0 .none).qual ++ "<lambda>")], csO oL⟩
theorem txk {w : World} {h : Heap} {mg : Str → Option Value} (KX : (HS.KK w.params).In h) (GN : h.Ns mainGlobals mg) : Tx (HS.KK w.params) w mg (AA w.params) where
  d_is_whole := dk_ KX GN b1
  d_is_within := dk_ KX GN b3
  d_are_ascending := dk_ KX GN b1
  d_is_place := dk_ KX GN b1
  d_is_row := dk_ KX GN b2
  d_in_order := dk_ KX GN b3
  d_are_places := dk_ KX GN b2
  d_is_path := dk_ KX GN b1
  d_are_paths := dk_ KX GN b1
  d_is_pair_told := dk_ KX GN b1
  d_is_entry := dk_ KX GN b1
  d_are_waits := dk_ KX GN b1
  d_is_design := dk_ KX GN b1
  d_check_design := dk_ KX GN b1
  d_check_entry := dk_ KX GN b1
  d_is_open := dk_ KX GN b2
  d_shown := dk_ KX GN b2
  d_distance := dk_ KX GN b2
  d__law_taken := dk_ KX GN b2
  d__law_pick := dk_ KX GN b2
  d__law_alike := dk_ KX GN b2
  d__law_up := dk_ KX GN b3
  d__law_design := dk_ KX GN b1
  d__law_entries := dk_ KX GN b0
  d__law_bad := dk_ KX GN b1
  tm_are_ascending := tm_
  tbm_are_ascending := tb_
  gd_are_ascending := gd_
  tm_is_row := tm_
  tbm_is_row := tb_
  gd_is_row := gd_
  tm_are_paths := tm_
  tbm_are_paths := tb_
  gd_are_paths := gd_
  tm_are_waits := tm_
  tbm_are_waits := tb_
  gd_are_waits := gd_
  tm_law := tm_
  tbm_law := tb_
  ttb := ttb_
  e_BadDesign := ex_ KX GN
  e_BadEntry := ex_ KX GN
  g_BeltError := mq_ KX GN
  x_BeltError := xm_
  k_BadEntry := ki_
  xc := xc_
  z_all := mn_ KX GN
  z_bool := mn_ KX GN
  z_int := mn_ KX GN
  z_isinstance := mn_ KX GN
  z_len := mn_ KX GN
  z_list := mn_ KX GN
  z_max := mn_ KX GN
  z_min := mn_ KX GN
  z_range := mn_ KX GN
  z_sorted := mn_ KX GN
  z_str := mn_ KX GN
  z_tuple := mn_ KX GN
  z_zip := mn_ KX GN
  c_JUMPS := cq_ KX GN
  c_KINDS_OF_DESIGN := cq_ KX GN
  c_LAST_PLACE := ci_ KX GN
  c_MEMORY := cq_ KX GN
  c_MOST_APART := ci_ KX GN
  c_USES := cq_ KX GN
  c_WITH_EFFECT := cq_ KX GN
  c_WRITING := cq_ KX GN
  gt_PLACES := mq_ KX GN
  t_PLACES := t_
theorem all_mk {l : PySem.W.OpenLaw} {w : World} {h : Heap} {mg : Str → Option Value} {fa : Addr} (KX : (HS.KK w.params).In h) (GN : h.Ns mainGlobals mg) (own : ∀ s ∈ (["are_ascending", "is_row", "are_paths", "are_waits", "law"] : List Str), ∀ f, mg s = some (.ref f) → LamX.OwnTab (HS.KK w.params) f h) (hfa : mg "law" = some (.ref fa)) : LawAtS l w (HS.KK w.params) CX0 16 63 "script" mg fa h := by
  have e := hfa.symm.trans (mq_ (v := .ref 407) KX GN)
  cases e
  have o := own_ (L := oL) KX GN own rfl (by kernel_rfl)
  exact law_at (cs := csO oL) (fd := PySem.W.fnOf "law" "law" (defArgs s_law) (defBody s_law) (defScope s_law) .none (fdO (HS.KK w.params) 407).kwdefaults (fdO (HS.KK w.params) 407).doc (fdO (HS.KK w.params) 407).pyModule (fdO (HS.KK w.params) 407).annotations (.ref ((AA w.params).c 69)) (fdO (HS.KK w.params) 407).closureTuple) KX (fun p hp => (o p hp).1) (fun p hp => (o p hp).2) (fun s u => .of_eq (by kernel_rfl)) fun base kb nb tb => ok_law (A := AA w.params) (oc := (obO (HS.KK w.params) 407).cls) (od := (obO (HS.KK w.params) 407).dict) (osl := (obO (HS.KK w.params) 407).slots) (txk KX GN) tb (by kernel_rfl) (by kernel_rfl)
end L10
open PySem PySem.W PyProof.Rows
set_option maxHeartbeats 0 in
theorem PySem.Challenge.cw_stagebelt_k10_whole_entries_told_holds : PySem.Challenge.rw_stagebelt_k10_whole_entries_told.Holds := by
  refine HS.head ?_
  exact DL.walk_owns (["are_ascending", "is_row", "are_paths", "are_waits", "law"] : List Str) (l := PySem.Challenge.rw_stagebelt_k10_whole_entries_told) (n := 63) (k := 16) (x := "script") (CXw := fun _ => L2.CX0) rfl (by decide) rfl ⟨rfl, by decide, by decide⟩ (by decide +kernel) (KK := HS.KK) (fun w h Y => PySem.W.kIn_of (K := HS.KK) (as := HS.aK) (e := HS.adr) Y) (fun w mg fa h Y KX GN hmg own => L10.all_mk KX GN own hmg) (fun _ _ _ _ _ h => h)

