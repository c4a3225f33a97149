import PyProof.Rows.All
import Wide.All
import OpenK.AllK
import Wide.FinOn
import HandS.ForMost
import HandS.IsInst
import HandS.StrMore
import HandS.Wide
import HandS.More
import HandS.Style
import HandS.Conv
import HandS.Star
import HandS.DictComp
import HandS.Evl
import HandS.DeepEq
import HandS.OwnEq
import HandS.Strs
import KE.SortData
import PyProof.CollectStr
import PyProof.TupleOfSeq
import HandS.TupLen
import HandS.DictEq
import HandS.ListEq
import PyProof.ListStr
import PyProof.EnumMake
import PyProof.SetRoads
import PyProof.DictCompW
import KE.GoesEnum
import HandS.Walk
import HandS.SetKeys
import HandS.RevRange
import HandS.Lambda
import HandS.TryMany
import HandS.HotCalls
import HandS.ExcField
import HandS.ClsMeth
import KE.KWithOwn
import KE.KExcSuper
import HandS.ExcInit
import HandS.FStr
import HandS.ForExc
import HandS.ExcOwn
import HandS.Head0
import HandS.Head1
import HandS.Head2
import HandS.HeadEnd
import HandS.HeadHook1
import HandS.HeadHook2
import HandS.Defaults
import HandS.EndTab
import HandS.HeadHook3
import HandS.HeadHook4
import HandS.HeadWalk
import PySem.Challenge.RW_passtexts_k07_whole_runs
section
set_option Elab.async false
set_option linter.all false
set_option maxRecDepth 100000
set_option maxHeartbeats 4000000
/-! KX1: a def with its place, its promise and its binding in one word; calls by such words. -/
namespace KX
open PySem L2

/-- the def x stands in the module, at some address, with the parameters ps -/
def Df (K : PySem.W.Frag) (mg : Str → Option Value) (x : Str) (st : Stmt) (ps : List Str) : Prop :=
  ∃ (f : Addr) (fd : FuncData), Fun K x x st f fd ∧ mg x = some (.ref f) ∧ Binds K fd ps []
/-- .. and keeps the promise sp, k calls deep -/
def Has (P : Program) (w : World) (K : PySem.W.Frag) (mg : Str → Option Value) (base : Heap) (x : Str) (k : Nat) (ps : List Str) (sp : Sp) : Prop :=
  ∃ (f : Addr) (fd : FuncData), FnOk P w K mg base CX0 k f fd ps sp ∧ mg x = some (.ref f) ∧ PySem.W.keepIn K (.ref f) = true ∧ Binds K fd ps []
/-- the method m of the class at C, the def at f, with its promise -/
structure HasM (P : Program) (w : World) (K : PySem.W.Frag) (mg : Str → Option Value) (base : Heap) (C : Addr) (m : Str) (k : Nat) (f : Addr) (fd : FuncData) (ps : List Str) (sp : Sp) : Prop where
  cl : Cls K C
  me : Meth K C m f
  ok : FnOk P w K mg base CX0 k f fd ps sp
  b : Binds K fd ps []
/-- the class x with its __init__ -/
def HasC (P : Program) (w : World) (K : PySem.W.Frag) (mg : Str → Option Value) (base : Heap) (x : Str) (C : Addr) (k : Nat) (ps : List Str) (sp : Sp) : Prop :=
  mg x = some (.ref C) ∧ ∃ (f : Addr) (fd : FuncData), FnOk P w K mg base CX0 k f fd ps sp ∧ Mk K C f ∧ Binds K fd ps []
section
variable {P : Program} {w : World} {K : PySem.W.Frag} {mg : Str → Option Value} {base : Heap}
theorem Has.mk' {x : Str} {st : Stmt} {ps : List Str} {k : Nat} {sp : Sp} (D : Df K mg x st ps)
    (h : ∀ (f : Addr) (fd : FuncData), Fun K x x st f fd → FnOk P w K mg base CX0 k f fd ps sp) : Has P w K mg base x k ps sp := by
  obtain ⟨f, fd, F, hm, hb⟩ := D
  exact ⟨f, fd, h f fd F, hm, F.kp, hb⟩
end
section
variable {X : Cx} {x m : Str} {k : Nat} {ps : List Str} {sp : Sp} {p pos apos : Pos} {e o : Expr} {es : List Expr} {t : TA} {ta : TE} {C : Addr}
theorem pe_use (h : Has X.prog X.w X.K X.mg X.base x k ps sp) (hr : Room k X.A) (ha : PA X (e :: es) t) (hg : Gl X x := by rfl) (hdb : (x == ("__debug__" : Str)) = false := by decide)
    (he : starEach (e :: es) X.env = (false, eval e X.env) :: starEach es X.env := by rfl) (hpl : (backTo pos (starEach es X.env)).any (·.1) = false := by rfl) :
    PE X (.Call (.Name x p) (e :: es) [] pos) (tCall sp [] E0 t) := by
  obtain ⟨f, fd, F, hm, hk, hb⟩ := h
  exact pe_call F hr hg hm hk hb .nil pass0 ha hdb he hpl
theorem pe_mk (h : HasC X.prog X.w X.K X.mg X.base x C k ps sp) (hr : Room (k + 1) X.A) (ha : PA X (e :: es) t) (hg : Gl X x := by rfl) (hdb : (x == ("__debug__" : Str)) = false := by decide)
    (he : starEach (e :: es) X.env = (false, eval e X.env) :: starEach es X.env := by rfl) (hpl : (backTo pos (starEach es X.env)).any (·.1) = false := by rfl) :
    PE X (.Call (.Name x p) (e :: es) [] pos) (tMake C sp [] E0 t) := by
  obtain ⟨hm, f, fd, F, M, hb⟩ := h
  exact pe_make M F hr hg hm hb .nil pass0 ha hdb he hpl
/-- a constant of the module: a text, an int -/
theorem pe_gcS {z : Str} (hg : Gl X x) (h : ∃ t, X.mg x = some (.str z t)) (hd : (x == ("__debug__" : Str)) = false := by decide) : PE X (.Name x p) (tC (.str z)) := by
  obtain ⟨t, h⟩ := h
  exact pe_glob hg h ⟨t, rfl⟩ hd
theorem pe_gcI {i : Int} (hg : Gl X x) (h : ∃ t, X.mg x = some (.int i t)) (hd : (x == ("__debug__" : Str)) = false := by decide) : PE X (.Name x p) (tC (.int i)) := by
  obtain ⟨t, h⟩ := h
  exact pe_glob hg h ⟨t, rfl⟩ hd
end
end KX
end
section
set_option Elab.async false
set_option linter.all false
set_option maxRecDepth 100000
set_option maxHeartbeats 4000000
/-! KX2: sorted(..) of whatever can be collected: lists, tuples, texts, dicts; items are ints, texts, or tuples of these. -/
namespace KX
open PySem PySem.Spec PyProof.Rows L2

def kD : Key → PyData
  | .inl i => .int i
  | .inr x => .str x
/-- an item that is sorted: its value and what it reads as -/
inductive Fl (H : Hp) : V → PyData → Prop
  | int (i : Int) : Fl H (.int i) (.int i)
  | str (x : Str) : Fl H (.str x) (.str x)
  | tup {a : Addr} {ks : List Key} : H a = some (.tup (ks.map kV)) → Fl H (.ref a) (.tuple (ks.map kD))

theorem keys_read {h : Heap} : ∀ {ks : List Key} {us : List Value}, Vals (ks.map kV) us → ReadsAll h us (ks.map kD) []
  | [], _, v => by
    cases v
    exact ReadsAll.nil
  | k :: ks, _, v => by
    cases v with
    | cons r t =>
      have q := keys_read (h := h) t
      cases k with
      | inl i =>
        obtain ⟨w, e⟩ := r
        rw [e]
        exact ReadsAll.cons (as := []) (Reads.int i w) q
      | inr x =>
        obtain ⟨w, e⟩ := r
        rw [e]
        exact ReadsAll.cons (as := []) (Reads.str x w) q
theorem Fl.reads {P : Program} {w : World} {H : Hp} {h : Heap} (ok : HOk P w H h) {v : V} {d : PyData} {u : Value} (f : Fl H v d) (r : RelV v u) : Reads h u d [] := by
  cases f with
  | int i =>
    obtain ⟨t, e⟩ := r
    rw [e]
    exact Reads.int i t
  | str x =>
    obtain ⟨t, e⟩ := r
    rw [e]
    exact Reads.str x t
  | tup q =>
    cases r
    obtain ⟨_, its, rv, o, e, c, n, dd⟩ := ok _ _ q
    exact Reads.tuple e c dd (keys_read rv)

section
variable {P : Program} {w : World} {A : Around} {E : Value → Shared → Prop} {s : Shared} {β : Type} {enc : β → PyData} {R : Value → β → Prop} {bs : List β}
/-- sorted, from what collecting gives -/
theorem sorted_by {u : Value} {Q : Value → Shared → Prop}
    (hc : ∀ Q' : List Value → Shared → Prop, (∀ h1 t1 acc, (∀ b o, s.heap.get? b = some o → h1.get? b = some o) → PySem.W.EachIs R acc bs → PySem.W.EachIs (fun v b => Reads h1 v (enc b) []) acc bs → Q' acc { s with heap := h1, toks := t1 }) →
      wpAny (model P w) A.in1 (collect u) Q' E s)
    (hal : PySem.W.AllAlike (bs.map enc)) (hk : PySem.W.Sortable (bs.map enc)) (hL : bs.length ≤ sizeLine) (hu : ∀ b, b ∈ bs → A.in1.units + 1 + (enc b).depth < cLine)
    (h : ∀ (h1 h2 : Heap) (t1 : Nat) (out : List Value) (c : Nat), (∀ b o, s.heap.get? b = some o → h1.get? b = some o) → (∀ b o, h1.get? b = some o → h2.get? b = some o) → h2.get? h1.objs.size = some (seqObj "list" (List.toArray out) c) →
      PySem.W.EachIs R out (bs.mergeSort (PySem.W.dataLe false enc)) → Q (.ref h1.objs.size) { s with heap := h2, toks := t1 }) :
    wpAny (model P w) A (call (.builtin "sorted") [u]) Q E s := by
  refine Calls.call_function_entry kind_sorted plain_sorted entry_sorted (args_sorted1 _) ?_
  unfold Builtin.«sorted»
  refine wpAny_bind (m := checkCount "sorted" 1 1 _) (wpAny_pure (wpAny_bind (hc _ fun h1 t1 acc k1 e1 e2 => ?_)))
  have hlen : acc.length = bs.length := e1.length
  refine wpAny_bind (wpAny_newList ?_ (by rw [hlen]; exact hL))
  have hob : (h1.push (seqObj "list" acc.toArray 0)).get? h1.objs.size = some (seqObj "list" acc.toArray 0) := Heap.get?_push_size _ rfl
  show wpAny _ _ _ _ _ { s with heap := h1.push (seqObj "list" acc.toArray 0), toks := t1 }
  refine wpAny_bind (wpAny_holding ?_)
  refine PySem.W.list_sort_data (s := { s with heap := h1.push (seqObj "list" acc.toArray 0), toks := t1 }) (R := R) (enc := enc) (bs := bs) hob e1 (e2.mono fun v b q => ⟨[], PyProof.Rows.Reads.keeps (fun _ _ z => Heap.get?_push_of_some _ z) q, by simp⟩) hal hk hL hu fun out hl eo => ?_
  obtain ⟨c, hat⟩ := sortedHeap_at (vs := acc) (out := out.toArray) hob
  refine wpAny_pure ⟨_, rfl, h h1 _ t1 out c k1 (fun b o e => ?_) hat eo⟩
  have hb : b < h1.objs.size := Heap.lt_size e
  rw [sortedHeap_old (Nat.ne_of_lt hb) (by rw [Heap.size_push]; exact Nat.lt_succ_of_lt hb)]
  exact Heap.get?_push_of_some _ e
end

/-! ### the readings -/
/-- items with what they read as, in their order when sorted -/
def srt (ps : List (V × PyData)) : List V := (ps.mergeSort (PySem.W.dataLe false fun p => p.2)).map (·.1)
structure SrtOk (H : Hp) (ps : List (V × PyData)) : Prop where
  fl : ∀ p ∈ ps, Fl H p.1 p.2
  al : PySem.W.AllAlike (ps.map (·.2))
  so : PySem.W.Sortable (ps.map (·.2))
  sz : ps.length ≤ sizeLine
theorem depthAll_keys : ∀ ks : List Key, PyData.depthAll (ks.map kD) = 0
  | [] => by simp [PyData.depthAll]
  | .inl i :: r => by
    show PyData.depthAll (.int i :: r.map kD) = 0
    rw [PyData.depthAll, depthAll_keys r]
    simp [PyData.depth]
  | .inr i :: r => by
    show PyData.depthAll (.str i :: r.map kD) = 0
    rw [PyData.depthAll, depthAll_keys r]
    simp [PyData.depth]
theorem Fl.depth {H : Hp} {v : V} {d : PyData} (f : Fl H v d) : d.depth ≤ 1 := by
  cases f with
  | int i => simp [PyData.depth]
  | str x => simp [PyData.depth]
  | tup q => simp [PyData.depth, depthAll_keys]
theorem vals_pairs {h : Heap} {H : Hp} {P : Program} {w : World} (ok : HOk P w H h) : ∀ {ps : List (V × PyData)} {us : List Value}, (∀ p ∈ ps, Fl H p.1 p.2) → Vals (ps.map (·.1)) us →
    PySem.W.EachIs (fun v (b : V × PyData) => RelV b.1 v) us ps ∧ PySem.W.EachIs (fun v (b : V × PyData) => Reads h v b.2 []) us ps
  | [], _, _, r => by
    cases r
    exact ⟨.nil, .nil⟩
  | p :: ps, _, f, r => by
    cases r with
    | cons r1 r2 =>
      obtain ⟨q1, q2⟩ := vals_pairs ok (fun x hx => f x (List.mem_cons_of_mem _ hx)) r2
      exact ⟨.cons r1 q1, .cons ((f p List.mem_cons_self).reads ok r1) q2⟩
theorem vals_out : ∀ {ps : List (V × PyData)} {us : List Value}, PySem.W.EachIs (fun v (b : V × PyData) => RelV b.1 v) us ps → Vals (ps.map (·.1)) us
  | _, _, .nil => .nil
  | _, _, .cons r t => .cons r (vals_out t)
section
variable {X : Cx}
/-- sorted, whatever the argument, once it is told how it is collected -/
theorem sorted_in {pins : List (Addr × Obj)} {σ : L2.St} {H : Hp} {s : Shared} {u : Value} {ps : List (V × PyData)} {Q : VK} (hu : X.A.units + 8 < cLine) (I : Inv X pins σ H s) (ok : SrtOk H ps)
    (hc : ∀ Q' : List Value → Shared → Prop, (∀ h1 t1 acc, (∀ b o, s.heap.get? b = some o → h1.get? b = some o) → Vals (ps.map (·.1)) acc → Q' acc { s with heap := h1, toks := t1 }) → wpAny (model X.prog X.w) X.A.in1 (collect u) Q' X.xe s)
    (q : ∀ p, H p = none → Q (.ref p) (upd H p (.lst (srt ps)))) : wpAny (model X.prog X.w) X.A (call (.builtin "sorted") [u]) (EP X pins σ Q) X.xe s := by
  refine sorted_by (R := fun v (b : V × PyData) => RelV b.1 v) (enc := fun b : V × PyData => b.2) (bs := ps) (fun Q' hq => hc _ fun h1 t1 acc k rv => ?_) ok.al ok.so ok.sz (fun b hb => ?_) fun h1 h2 t1 out c k1 k2 hat eo => ?_
  · have I1 : Inv X pins σ H { s with heap := h1, toks := t1 } := I.kept k
    obtain ⟨a1, a2⟩ := vals_pairs I1.hok ok.fl rv
    exact hq h1 t1 acc k a1 a2
  · have d1 := (ok.fl b hb).depth
    show X.A.units + 1 + 1 + b.2.depth < cLine
    omega
  · have I1 : Inv X pins σ H { s with heap := h1, toks := t1 } := I.kept k1
    have hn : H h1.objs.size = none := I1.hok.fresh (Nat.le_refl _)
    have hz : (srt ps).length ≤ sizeLine := by
      unfold srt
      rw [List.length_map, List.length_mergeSort]
      exact ok.sz
    exact ⟨.ref h1.objs.size, _, I1.laid (t' := t1) (o := .lst (srt ps)) k2 (Nat.le_refl _) ⟨hz, out, c, vals_out eo, hat⟩, rfl, q _ hn⟩
/-- sorted(list), sorted(tuple) -/
def rSrtL (K : PySem.W.Frag) : List V → Hp → VK → Prop := fun vs H Q => ∃ (a : Addr) (ps : List (V × PyData)), vs = [.ref a] ∧ (SqL K H a (ps.map (·.1)) ∨ SqT K H a (ps.map (·.1))) ∧ SrtOk H ps ∧ ∀ p, H p = none → Q (.ref p) (upd H p (.lst (srt ps)))
theorem cr_srtL {K : PySem.W.Frag} (hu : X.A.units + 8 < cLine) (hK : X.K = K := by rfl) : CallR X (.builtin "sorted") (rSrtL K) := by
  subst hK
  intro pins s σ H vs us Q I r h
  obtain ⟨a, ps, rfl, hs, ok, q⟩ := h
  rw [Vals.ref1 r]
  refine sorted_in hu I ok (fun Q' hq => ?_) q
  rcases hs with hs | hs
  · obtain ⟨its, rv, ⟨o, n, e, hcl, _, hd⟩, z⟩ := I.list hs
    exact wpAny_collect_seq a (.inl rfl) e hcl hd (fun h' k => hq h' s.toks _ k (by simpa using rv)) (by have := rv.length; simp; omega)
  · obtain ⟨its, rv, ⟨o, e, hcl, n, hd⟩, z⟩ := I.tuple hs
    exact wpAny_collect_seq a (.inr rfl) e hcl hd (fun h' k => hq h' s.toks _ k (by simpa using rv)) (by have := rv.length; simp; omega)
/-- sorted(text): its signs -/
def signs (z : Str) : List (V × PyData) := z.cps.toList.map fun c => (V.str ⟨#[c]⟩, PyData.str ⟨#[c]⟩)
def rSrtS : List V → Hp → VK → Prop := fun vs H Q => ∃ z : Str, vs = [.str z] ∧ z.length ≤ sizeLine ∧ ∀ p, H p = none → Q (.ref p) (upd H p (.lst (srt (signs z))))
theorem vals_signs {z : Str} : ∀ {acc : List Value} {cs : List Nat}, acc.length = cs.length → (∀ (j : Nat) (v : Value), acc[j]? = some v → ∃ c t, cs[j]? = some c ∧ v = Value.str ⟨#[c]⟩ t) → Vals ((cs.map fun c => (V.str ⟨#[c]⟩, PyData.str ⟨#[c]⟩)).map (·.1)) acc
  | [], [], _, _ => .nil
  | u :: us, c :: cs, hl, h => by
    obtain ⟨c', t, e1, e2⟩ := h 0 u rfl
    have e3 : c = c' := Option.some.inj e1
    subst e3
    refine .cons ⟨t, e2⟩ (vals_signs (z := z) (by simpa using hl) fun j v e => ?_)
    have := h (j + 1) v (by simpa using e)
    simpa using this
  | [], _ :: _, hl, _ => by simp at hl
  | _ :: _, [], hl, _ => by simp at hl
theorem signs_ok {H : Hp} {z : Str} (hz : z.length ≤ sizeLine) : SrtOk H (signs z) where
  fl := fun p hp => by
    obtain ⟨c, _, e⟩ := List.mem_map.mp hp
    rw [← e]
    exact Fl.str _
  al := fun d hd d' hd' => by
    obtain ⟨p, hp, rfl⟩ := List.mem_map.mp hd
    obtain ⟨p', hp', rfl⟩ := List.mem_map.mp hd'
    obtain ⟨c, _, rfl⟩ := List.mem_map.mp hp
    obtain ⟨c', _, rfl⟩ := List.mem_map.mp hp'
    simp [PySem.W.alike]
  so := .inr fun d hd => by
    obtain ⟨p, hp, rfl⟩ := List.mem_map.mp hd
    obtain ⟨c, _, rfl⟩ := List.mem_map.mp hp
    exact ⟨(fun q => by cases q), fun xs q => by cases q⟩
  sz := by
    unfold signs
    rw [List.length_map, Array.length_toList]
    exact hz
theorem cr_srtS (hc : X.calm = true) (hu : X.A.units + 8 < cLine) : CallR X (.builtin "sorted") rSrtS := by
  intro pins s σ H vs us Q I r h
  obtain ⟨z, rfl, hz, q⟩ := h
  obtain ⟨u, rfl, t, rfl⟩ := r.one
  refine sorted_in hu I (signs_ok hz) (fun Q' hq => ?_) q
  refine wpAny_collect_str (A := X.A.in1) (I.ok.hd hc) z t (fun s' acc k g d o it => ?_) hz
  have e : s' = { s with heap := s'.heap, toks := s'.toks } := by
    cases s'
    cases s
    cases g
    cases d
    cases o
    rfl
  rw [e]
  refine hq _ _ _ k (vals_signs (z := z) (by rw [Array.length_toList, Array.length_toList]; exact it.1) fun j v ej => ?_)
  obtain ⟨c, t', e1, e2⟩ := it.2 j v (by rw [← Array.getElem?_toList]; exact ej)
  exact ⟨c, t', by rw [Array.getElem?_toList]; exact e1, e2⟩
/-- sorted(dict with ints or texts) -/
def keysP (kvs : List (Key × V)) : List (V × PyData) := kvs.map fun p => (kV p.1, kD p.1)
def rSrtK : List V → Hp → VK → Prop := fun vs H Q => ∃ (a : Addr) (kvs : List (Key × V)), vs = [.ref a] ∧ Rd H a (.dK kvs) ∧ SrtOk H (keysP kvs) ∧ ∀ p, H p = none → Q (.ref p) (upd H p (.lst (srt (keysP kvs))))
theorem cr_srtK (hc : X.calm = true) (hu : X.A.units + 8 < cLine) : CallR X (.builtin "sorted") rSrtK := by
  intro pins s σ H vs us Q I r h
  obtain ⟨a, kvs, rfl, hd, ok, q⟩ := h
  rw [Vals.ref1 r]
  refine sorted_in hu I ok (fun Q' hq => ?_) q
  obtain ⟨z, lo, xs, rel, dd⟩ := dk_rd I.hok hd
  obtain ⟨ep, hat⟩ := dd.dictAt
  refine PySem.W.kdu_collect (A := X.A.in1) (PySem.W.kdl_dict (knd := mixKind X.prog X.w) (kvs := xs) (ep := ep) lo) (I.ok.hd hc) hat (by rw [← rel.length]; exact z) fun h' tk acc k it => hq h' tk _ k ?_
  have e1 : (keysP kvs).map (·.1) = xs.map fun p => kV p.1 := by
    unfold keysP
    have e := congrArg (List.map kV) rel.keys
    rw [List.map_map, List.map_map] at e
    rw [List.map_map]
    exact e
  rw [e1]
  exact keys_at (by rw [Array.length_toList]; exact it.1) fun j v e => it.2 j v (by rw [← Array.getElem?_toList]; exact e)
/-- sorted(dict with tuples) -/
def keysT (bs : List Addr) (kvs : List (List Key × V)) : List (V × PyData) := (bs.zip kvs).map fun p => (V.ref p.1, PyData.tuple (p.2.1.map kD))
def rSrtT : List V → Hp → VK → Prop := fun vs H Q => ∃ (a : Addr) (kvs : List (List Key × V)), vs = [.ref a] ∧ Rd H a (.dT kvs) ∧ (∀ bs, IsKeys H kvs bs → SrtOk H (keysT bs kvs) ∧ ∀ p, H p = none → Q (.ref p) (upd H p (.lst (srt (keysT bs kvs)))))
theorem keysT_fst : ∀ {bs : List Addr} {kvs : List (List Key × V)}, bs.length = kvs.length → (keysT bs kvs).map (·.1) = bs.map V.ref
  | [], [], _ => rfl
  | b :: bs, k :: kvs, h => by
    have q := keysT_fst (bs := bs) (kvs := kvs) (by simpa using h)
    unfold keysT at q ⊢
    rw [List.zip_cons_cons, List.map_cons, List.map_cons, q]
    all_goals rfl
  | [], _ :: _, h => by simp at h
  | _ :: _, [], h => by simp at h
theorem cr_srtT (hc : X.calm = true) (hu : X.A.units + 8 < cLine) : CallR X (.builtin "sorted") rSrtT := by
  intro pins s σ H vs us Q I r h
  obtain ⟨d, kvs, rfl, hd, q⟩ := h
  rw [Vals.ref1 r]
  obtain ⟨z, hs, ks, pr, o, es, ep, ho, hx, hdt, he, hn⟩ := (show ObjOk X.prog X.w H s.heap d (.dT kvs) from hd.ok I.hok)
  have hks : IsKeys H kvs (ks.map fun x => x.2.1) := isKeys_of pr
  obtain ⟨ok, q⟩ := q _ hks
  refine sorted_in hu I ok (fun Q' hq => ?_) q
  have l1 : es.size = ks.length := size_of_entries he
  have l2 : kvs.length = ks.length := Paired.length pr
  refine PySem.W.kdu_collect (A := X.A.in1) (kdl_raw hs hx hdt) (I.ok.hd hc) ho (by omega) fun h' tk acc k it => hq h' tk _ k ?_
  rw [keysT_fst (by rw [List.length_map]; exact l2.symm)]
  have ea : acc.toList = (ks.map fun x => x.2.1).map Value.ref := by
    apply List.ext_getElem?
    intro j
    rw [List.map_map, List.getElem?_map]
    cases hj : acc.toList[j]? with
    | none =>
      have h1 := List.getElem?_eq_none_iff.mp hj
      have h2 := it.1
      rw [Array.length_toList] at h1
      rw [List.getElem?_eq_none (by omega)]
      all_goals rfl
    | some v =>
      obtain ⟨en, hen, hv⟩ := it.2 j v (by rw [← Array.getElem?_toList]; exact hj)
      have qe := entry_at he j
      rw [hen] at qe
      cases hb : ks[j]? with
      | none =>
        rw [hb] at qe
        exact nomatch (show some en = none from qe)
      | some b =>
        rw [hb] at qe
        have e2 : en = entryOfKey (tupleKind (mixKind X.prog X.w)) b := Option.some.inj qe
        rw [hv, e2]
        all_goals rfl
  rw [ea]
  exact vals_refs _
end
end KX
end
section
set_option Elab.async false
set_option linter.all false
set_option maxRecDepth 100000
set_option maxHeartbeats 4000000
/-! KX3: == and != of tuples, and of dicts whose keys are tuples, with either answer, within one model. -/
namespace KX
open PySem PySem.Spec PyProof.Rows L2

section
variable {P : Program} {w : World} {κ : Type} [DecidableEq κ] {knd : HeapKind P w κ} {A : Around} {E : Value → Shared → Prop} {s : Shared}
/-- what is found for the keys of the first dict in the second one, in order -/
inductive HitsH (P : Program) (w : World) (A : Around) (s : Shared) (kb : List (κ × Addr × Value)) : List (κ × Addr × Value) → Bool → Prop
  | nil : HitsH P w A s kb [] true
  | miss {x : κ × Addr × Value} {r : List (κ × Addr × Value)} : (∀ (j : Nat) (p : Addr × Value), kb[j]? ≠ some (x.1, p)) → HitsH P w A s kb (x :: r) false
  | hit {x : κ × Addr × Value} {p : Addr × Value} {r : List (κ × Addr × Value)} {j : Nat} {e b : Bool} : kb[j]? = some (x.1, p) → SeqAt.EqP P w A s x.2.2 p.2 e → HitsH P w A s kb r b → HitsH P w A s kb (x :: r) (e && b)
theorem HitsH.inv {kb : List (κ × Addr × Value)} {x : κ × Addr × Value} {r : List (κ × Addr × Value)} {b : Bool} (h : HitsH P w A s kb (x :: r) b) :
    ((∀ (j : Nat) (p : Addr × Value), kb[j]? ≠ some (x.1, p)) ∧ b = false) ∨ ∃ (j : Nat) (p : Addr × Value) (e c : Bool), kb[j]? = some (x.1, p) ∧ SeqAt.EqP P w A s x.2.2 p.2 e ∧ HitsH P w A s kb r c ∧ b = (e && c) := by
  cases h with
  | miss g => exact .inl ⟨g, rfl⟩
  | hit g1 g2 g3 => exact .inr ⟨_, _, _, _, g1, g2, g3, rfl⟩
theorem nodup_at {kb : List (κ × Addr × Value)} (hn : (kb.map (·.1)).Nodup) {i j : Nat} {k : κ} {p q : Addr × Value} (h1 : kb[i]? = some (k, p)) (h2 : kb[j]? = some (k, q)) : p = q := by
  have e1 : (kb.map (·.1))[i]? = some k := by rw [List.getElem?_map, h1]; rfl
  have e2 : (kb.map (·.1))[j]? = some k := by rw [List.getElem?_map, h2]; rfl
  obtain ⟨a1, b1⟩ := List.getElem?_eq_some_iff.mp e1
  obtain ⟨a2, b2⟩ := List.getElem?_eq_some_iff.mp e2
  have e3 : i = j := (List.getElem_inj hn).mp (b1.trans b2.symm)
  subst e3
  rw [h1] at h2
  exact congrArg Prod.snd (Option.some.inj h2)
theorem samePairsH {nm : String} {a b : Addr} {ka kb : List (κ × Addr × Value)} {r : Bool} {Q : Bool → Shared → Prop} (hu : knd.room A) (na : (a == sysModules) = false) (nb : (b == sysModules) = false)
    (da : s.heap.DictOfH knd a ka) (db : s.heap.DictOfH knd b kb) (hits : ka.length = kb.length → HitsH P w A s kb ka r) (h : Q (ka.length == kb.length && r) s) :
    wpAny (model P w) A (Builtin.Dict.samePairs nm a b) Q E s := by
  obtain ⟨o1, es1, ep1, ho1, _, hd1, he1, hi1, hn1⟩ := da
  obtain ⟨o2, es2, ep2, ho2, _, hd2, he2, hi2, hn2⟩ := db
  have z1 : es1.size = ka.length := size_of_entries he1
  have z2 : es2.size = kb.length := size_of_entries he2
  unfold Builtin.Dict.samePairs Builtin.Dict.showsAll
  rw [if_neg (show ¬ (a == sysModules) = true by rw [na]; decide), if_neg (show ¬ (b == sysModules) = true by rw [nb]; decide)]
  refine wpAny_bind (wpAny_pure (wpAny_bind (wpAny_pure (wpAny_bind (wpAny_dictEntries ho1 hd1 ?_)))))
  dsimp only
  refine wpAny_bind (wpAny_dictEntries ho2 hd2 ?_)
  by_cases zz : es1.size = es2.size
  · have hq : Q r s := by
      have e : (ka.length == kb.length) = true := by rw [← z1, ← z2, zz]; simp
      rw [e, Bool.true_and] at h
      exact h
    have hits2 := hits (by rw [← z1, ← z2, zz])
    rw [if_neg (by rw [zz]; simp)]
    refine wpAny_bind (wpAny_dictEpoch ho1 hd1 (wpAny_bind ?_))
    rw [Std.Legacy.Range.forIn_eq_forIn_range']
    simp only [Std.Legacy.Range.size, Nat.sub_zero, Nat.add_sub_cancel, Nat.div_one]
    refine wpAny_forIn_list _ (fun rest q t => t = s ∧ q = (none, ()) ∧ ∃ i, rest = List.range' i (es1.size - i) ∧ i ≤ es1.size ∧ HitsH P w A s kb (ka.drop i) r) _ ?_ ?_ _ _ ⟨rfl, rfl, 0, by simp, Nat.zero_le _, hits2⟩
    · rintro x rest q t ⟨rfl, rfl, i, hr, hi, hp⟩
      have hlt : i < es1.size := by
        refine Nat.lt_of_not_le fun g => ?_
        rw [Nat.sub_eq_zero_of_le g] at hr
        simp at hr
      have hxr : x = i ∧ rest = List.range' (i + 1) (es1.size - (i + 1)) := by
        rw [show es1.size - i = (es1.size - (i + 1)) + 1 by omega, List.range'_succ] at hr
        injection hr with g1 g2
        exact ⟨g1, g2⟩
      obtain ⟨rfl, hrest⟩ := hxr
      have hlt2 : x < ka.length := by omega
      have ex : es1[x] = entryOfKey knd ka[x] := by
        have g := entry_at he1 x
        rw [Array.getElem?_eq_getElem hlt, List.getElem?_eq_getElem hlt2] at g
        exact Option.some.inj g
      have edrop : ka.drop x = ka[x] :: ka.drop (x + 1) := List.drop_eq_getElem_cons hlt2
      rw [edrop] at hp
      refine wpAny_bind (wpAny_dictEntries ho1 hd1 ?_)
      rw [Array.getElem?_eq_getElem hlt, ex]
      show wpAny _ _ (holding [.ref ka[x].2.1, ka[x].2.2] _ >>= _) _ _ _
      refine wpAny_bind (wpAny_holding (wpAny_bind (wpAny_dictFind_heap (knd := knd) (xs := kb) (k := ka[x].1) hu (hi1 _ (List.getElem_mem hlt2)) ho2 hd2 he2 hi2 hn2 (fun hnone => ?_) fun j p hj => ?_)))
      · rcases hp.inv with ⟨_, er⟩ | ⟨j, p, _, _, hj, _⟩
        · rw [er] at hq
          refine wpAny_pure ?_
          show wpAny _ _ (if (!false) = true then _ else _) _ _ _
          rw [if_pos (by decide)]
          exact wpAny_pure (wpAny_pure hq)
        · exact absurd hj (hnone j p)
      · rcases hp.inv with ⟨hnone, _⟩ | ⟨j2, p2, e, c, hj2, he, hc, er⟩
        · exact absurd hj (hnone j p)
        · have ep : p2 = p := nodup_at hn2 hj2 hj
          subst ep
          have e2 : es2[j]? = some (entryOfKey knd (ka[x].1, p2)) := by
            rw [entry_at he2 j, hj]
            all_goals rfl
          refine wpAny_bind (wpAny_dictEntries ho2 hd2 ?_)
          rw [e2]
          refine wpAny_holding (he _ _ ?_)
          cases e with
          | false =>
            rw [er, Bool.false_and] at hq
            show wpAny _ _ (if (!false) = true then _ else _) _ _ _
            rw [if_pos (by decide)]
            exact wpAny_pure (wpAny_pure hq)
          | true =>
            rw [Bool.true_and] at er
            show wpAny _ _ (if (!true) = true then _ else _) _ _ _
            rw [if_neg (by decide)]
            refine wpAny_bind (wpAny_dictEpoch ho1 hd1 ?_)
            rw [if_neg (by simp)]
            exact wpAny_pure ⟨rfl, rfl, x + 1, hrest, hlt, er ▸ hc⟩
    · rintro q t ⟨rfl, rfl, i, hr, hi, hp⟩
      have hin : i = ka.length := by
        refine Nat.le_antisymm (by omega) (Nat.le_of_not_lt fun g => ?_)
        rw [show es1.size - i = (es1.size - (i + 1)) + 1 by omega, List.range'_succ] at hr
        exact nomatch hr
      rw [hin, List.drop_length] at hp
      cases hp
      exact wpAny_pure hq
  · rw [if_pos (by simpa using zz)]
    have e : (ka.length == kb.length) = false := by rw [← z1, ← z2]; simpa using zz
    rw [e, Bool.false_and] at h
    exact wpAny_bind (wpAny_rule (wpAny_pure h))
/-- the rich comparison of two dicts, once their pairs are compared: op is Eq or NotEq -/
theorem rc_dictsEq {a b : Addr} {c : Bool} {Q : Value → Shared → Prop} (ta : s.TypeIs (.ref a) "dict") (tb : s.TypeIs (.ref b) "dict") (hu : A.units < cLine)
    (same : ∀ (nm : String) (E' : Value → Shared → Prop) (Q' : Bool → Shared → Prop), Q' c s → wpAny (model P w) A.in1 (Builtin.Dict.samePairs nm a b) Q' E' s) (h : Q (.bool c) s) : wpAny (model P w) A (richCompare .Eq (.ref a) (.ref b)) Q E s := by
  refine wpAny_richCompare_same_room (op := .Eq) ta tb PySem.F.slot_dict_eq (wpAny_call_entry PySem.F.slot_dict_eq ta PySem.F.entry_dict_eq ?_ (PySem.F.args_dict_eq_2 _ _)) hu
  show wpAny _ _ (Builtin.Dict.dictSlotArgs "__eq__" ⟨[.ref a, .ref b], []⟩ >>= _) _ _ s
  unfold Builtin.Dict.dictSlotArgs
  refine wpAny_bind (wpAny_bind (wpAny_notOrdered_dict ta ?_))
  show wpAny _ _ (pure (Value.ref a, Value.ref b)) _ _ s
  refine wpAny_pure (wpAny_bind (wpAny_isInstance (T := "dict") tb PySem.F.sub_dict_dict ?_))
  simp only [Bool.not_true, Bool.false_eq_true, if_false]
  refine wpAny_bind (wpAny_pure (wpAny_bind (wpAny_pure (wpAny_bind (same _ _ _ ?_)))))
  exact wpAny_pure ⟨_, rfl, (fun x => nomatch x), by simpa using h⟩
theorem rc_dictsNe {a b : Addr} {c : Bool} {Q : Value → Shared → Prop} (ta : s.TypeIs (.ref a) "dict") (tb : s.TypeIs (.ref b) "dict") (hu : A.units < cLine)
    (same : ∀ (nm : String) (E' : Value → Shared → Prop) (Q' : Bool → Shared → Prop), Q' c s → wpAny (model P w) A.in1 (Builtin.Dict.samePairs nm a b) Q' E' s) (h : Q (.bool (!c)) s) : wpAny (model P w) A (richCompare .NotEq (.ref a) (.ref b)) Q E s := by
  refine wpAny_richCompare_same_room (op := .NotEq) ta tb PySem.F.slot_dict_ne (wpAny_call_entry PySem.F.slot_dict_ne ta PySem.F.entry_dict_ne ?_ (PySem.F.args_dict_ne_2 _ _)) hu
  show wpAny _ _ (Builtin.Dict.dictSlotArgs "__ne__" ⟨[.ref a, .ref b], []⟩ >>= _) _ _ s
  unfold Builtin.Dict.dictSlotArgs
  refine wpAny_bind (wpAny_bind (wpAny_notOrdered_dict ta ?_))
  show wpAny _ _ (pure (Value.ref a, Value.ref b)) _ _ s
  refine wpAny_pure (wpAny_bind (wpAny_isInstance (T := "dict") tb PySem.F.sub_dict_dict ?_))
  simp only [Bool.not_true, Bool.false_eq_true, if_false]
  refine wpAny_bind (wpAny_pure (wpAny_bind (wpAny_pure (wpAny_bind (same _ _ _ ?_)))))
  exact wpAny_pure ⟨_, rfl, (fun x => nomatch x), by simpa using h⟩
end

/-! ### tuples -/
section
open PySem.SeqAt
open AutoSeq1 (wpAny_loadPart')
open MeetsSeq MeetsSeq2 MeetsSeq3 SeqRoads2
variable {P : Program} {w : World} {A : Around}
theorem tup_eqP {R : Result → Shared → Prop} (l b : Addr) (xs ys : Array Value) (n m : Nat) (dl db : Option Addr) (sl sb : Array (Option Value)) (e : Nat → Bool) {s : Shared}
    (hl : s.heap.get? l = some { cls := .type "tuple", dict := dl, data := .seq xs n, slots := sl }) (hb : s.heap.get? b = some { cls := .type "tuple", dict := db, data := .seq ys m, slots := sb })
    (he : ∀ j (h1 : j < xs.size) (h2 : j < ys.size), EqP P w A.in1 s xs[j] ys[j] (e j)) (hR : R (.ok (.ret (.bool ((List.range (min xs.size ys.size)).all e && xs.size == ys.size)))) s) :
    wpAny (model P w) A.in1 (Builtin.«tuple.__eq__» ⟨[.ref l, .ref b], []⟩) (GQ.FinOf P w A R) (fun x t => R (.error x) t) s := by
  have f2 := AutoSeq1.sub_tuple_tuple
  have hZ : (xs.toList.zip ys.toList).length = min xs.size ys.size := by simp
  obtain ⟨hp, g, d, tk, os⟩ := s
  wp_walk using wpAny_loadPart' hl, wpAny_loadPart' hb, wpAny_forIn_list _ (fun rest q t => q.1 = none ∧ t = ⟨hp, g, d, tk, os⟩ ∧ ∃ i, rest = (xs.toList.zip ys.toList).drop i ∧ i ≤ min xs.size ys.size ∧
    R (.ok (.ret (.bool (((List.range (min xs.size ys.size)).drop i).all e && xs.size == ys.size)))) ⟨hp, g, d, tk, os⟩) _
  case turn =>
    rintro ⟨y, x⟩ rest q t ⟨hq, rfl, i, hz, hi, hI⟩
    have hlt : i < (xs.toList.zip ys.toList).length := by
      refine Nat.lt_of_not_le fun h' => ?_
      rw [List.drop_of_length_le h'] at hz
      cases hz
    have h1 : i < xs.size := by omega
    have h2 : i < ys.size := by omega
    rw [List.drop_eq_getElem_cons hlt] at hz
    injection hz with hyx hrest
    obtain rfl : y = xs[i] := by simpa using congrArg Prod.fst hyx
    obtain rfl : x = ys[i] := by simpa using congrArg Prod.snd hyx
    have hd : (List.range (min xs.size ys.size)).drop i = i :: (List.range (min xs.size ys.size)).drop (i + 1) := by
      rw [List.drop_eq_getElem_cons (by rw [List.length_range]; omega), List.getElem_range]
    rw [hd, List.all_cons] at hI
    refine wpAny_bind (he i h1 h2 _ _ ?_)
    cases hb' : e i with
    | true =>
      rw [hb'] at hI
      wp_walk
      exact ⟨rfl, rfl, i + 1, hrest, by omega, by simpa using hI⟩
    | false =>
      rw [hb'] at hI
      wp_walk
      simpa using hI
  case fin =>
    rintro ⟨b1, b2⟩ t ⟨hq, rfl, i, hz, hi, hI⟩
    simp only at hq
    subst hq
    have hge : min xs.size ys.size ≤ i := by
      refine Nat.le_of_not_lt fun h' => ?_
      rw [List.drop_eq_getElem_cons (by omega)] at hz
      cases hz
    rw [List.drop_of_length_le (by rw [List.length_range]; exact hge), List.all_nil, Bool.true_and] at hI
    wp_walk
    simpa [Builtin.Tuple.tupleCompareSizes] using hI
  case h =>
    exact ⟨rfl, rfl, 0, rfl, Nat.zero_le _, by simpa using hR⟩
theorem rc_tups {E : Value → Shared → Prop} {s : Shared} {l b : Addr} {xs ys : Array Value} {e : Nat → Bool} {Q : Value → Shared → Prop} (hu : A.units < cLine) (hl : s.heap.IsTuple l xs) (hb : s.heap.IsTuple b ys)
    (he : ∀ j (h1 : j < xs.size) (h2 : j < ys.size), EqP P w A.in1 s xs[j] ys[j] (e j)) (h : Q (.bool ((List.range (min xs.size ys.size)).all e && xs.size == ys.size)) s) :
    wpAny (model P w) A (richCompare .Eq (.ref l) (.ref b)) Q E s := by
  obtain ⟨⟨c1, d1, da1, s1⟩, ho, hc, n, hd⟩ := id hl
  obtain ⟨⟨c2, d2, da2, s2⟩, ho2, hc2, m, hd2⟩ := id hb
  simp only at hc hd hc2 hd2
  subst hc hd hc2 hd2
  refine wpAny_richCompare_same_room (op := .Eq) ⟨_, ho, rfl⟩ ⟨_, ho2, rfl⟩ F.slot_tuple_eq (GQ.call_here F.slot_tuple_eq ⟨_, ho, rfl⟩ F.entry_tuple_eq (F.args_tuple_eq_2 _ _) ?_) hu
  exact tup_eqP (R := wants (fun v t => v ≠ .notImplemented ∧ Q v t) E) l b xs ys n m d1 d2 s1 s2 e ho ho2 he ⟨(fun x => nomatch x), h⟩
end
end KX
end
section
set_option Elab.async false
set_option linter.all false
set_option maxRecDepth 100000
set_option maxHeartbeats 4000000
/-! KX4: == and != of data at any depth (scalars, lists, tuples, dicts), with either answer. -/
namespace KX
open PySem PySem.Spec PyProof.Rows L2

/-- x == y gives b -/
abbrev B3 := V → V → Bool → Prop
inductive KHit {κ : Type} [DecidableEq κ] (F : B3) (ls : List (κ × V)) : List (κ × V) → Bool → Prop
  | nil : KHit F ls [] true
  | miss {k : κ} {v : V} {r : List (κ × V)} : valV ls k = none → KHit F ls ((k, v) :: r) false
  | hit {k : κ} {v y : V} {r : List (κ × V)} {e b : Bool} : valV ls k = some y → F v y e → KHit F ls r b → KHit F ls ((k, v) :: r) (e && b)
def Each2 (F : B3) (xs ys : List V) (e : Nat → Bool) : Prop := ∀ (j : Nat) (u v : V), xs[j]? = some u → ys[j]? = some v → F u v (e j)
def EqRB (K : PySem.W.Frag) (H : Hp) (F : B3) (x y : V) (b : Bool) : Prop :=
  (∃ a c xs ys e, x = .ref a ∧ y = .ref c ∧ SqT K H a xs ∧ SqT K H c ys ∧ Each2 F xs ys e ∧ b = ((List.range (min xs.length ys.length)).all e && xs.length == ys.length)) ∨
  (∃ a c xs ys e, x = .ref a ∧ y = .ref c ∧ SqL K H a xs ∧ SqL K H c ys ∧ xs.length = ys.length ∧ Each2 F xs ys e ∧ b = (List.range xs.length).all e) ∨
  (∃ a c xs ys, x = .ref a ∧ y = .ref c ∧ SqL K H a xs ∧ SqL K H c ys ∧ xs.length ≠ ys.length ∧ b = false) ∨
  (∃ a c, ∃ ks ls : List (Key × V), ∃ r, x = .ref a ∧ y = .ref c ∧ Rd H a (.dK ks) ∧ Rd H c (.dK ls) ∧ (ks.length = ls.length → KHit F ls ks r) ∧ b = (ks.length == ls.length && r)) ∨
  (∃ a c, ∃ ks ls : List (List Key × V), ∃ r, x = .ref a ∧ y = .ref c ∧ Rd H a (.dT ks) ∧ Rd H c (.dT ls) ∧ (ks.length = ls.length → KHit F ls ks r) ∧ b = (ks.length == ls.length && r))
/-- .. of nesting below n -/
def EqB (K : PySem.W.Frag) (H : Hp) : Nat → B3
  | 0 => fun _ _ _ => False
  | n + 1 => fun x y b => (flatV x = true ∧ flatV y = true ∧ b = eqV x y) ∨ (∃ a, x = .ref a ∧ y = .ref a ∧ b = true) ∨
      (∃ z a xs, x = .str z ∧ y = .ref a ∧ SqT K H a xs ∧ b = false) ∨ (∃ z a xs, x = .ref a ∧ y = .str z ∧ SqT K H a xs ∧ b = false) ∨ (EqRB K H (EqB K H n) x y b ∧ (x = y → b = true))

section
variable {P : Program} {w : World} {A : Around} {s : Shared}
theorem each_run {F : B3} (ih : ∀ x y v u b, F x y b → RelV x v → RelV y u → SeqAt.EqP P w A s v u b) {xs ys : List V} {us ws : List Value} {e : Nat → Bool} (h : Each2 F xs ys e) (r1 : Vals xs us) (r2 : Vals ys ws) (j : Nat) (h1 : j < us.length) (h2 : j < ws.length) :
    SeqAt.EqP P w A s us[j] ws[j] (e j) := by
  have l1 := r1.length
  have l2 := r2.length
  obtain ⟨u, e1, q1⟩ := r1.get (i := j) (x := xs[j]) (List.getElem?_eq_getElem (by omega))
  obtain ⟨v, e2, q2⟩ := r2.get (i := j) (x := ys[j]) (List.getElem?_eq_getElem (by omega))
  rw [List.getElem?_eq_getElem h1] at e1
  rw [List.getElem?_eq_getElem h2] at e2
  cases e1
  cases e2
  exact ih _ _ _ _ _ (h j _ _ (List.getElem?_eq_getElem (by omega)) (List.getElem?_eq_getElem (by omega))) q1 q2
theorem hitK_run {F : B3} (ih : ∀ x y v u b, F x y b → RelV x v → RelV y u → SeqAt.EqP P w A s v u b) {ls : List (Key × V)} {vb : List (Key × Value)} (rb : KV ls vb) {ks : List (Key × V)} {r : Bool} (h : KHit F ls ks r) :
    ∀ {va : List (Key × Value)}, KV ks va → PySem.W.KeqHitsP P w A s vb va r := by
  induction h with
  | nil =>
    intro va ra
    cases ra
    exact .nil
  | @miss k0 v0 r0 hn =>
    intro va ra
    cases ra with
    | @cons p q ps qs h t =>
      obtain ⟨key, v⟩ := q
      obtain rfl := h.1
      have rr := rb.val k0
      rw [hn] at rr
      exact .miss (by cases g : valueAt vb k0 with | none => rfl | some z => rw [g] at rr; exact rr.elim)
  | @hit k0 v0 y0 r0 e0 b0 hy hf _ k =>
    intro va ra
    cases ra with
    | @cons p q ps qs h t =>
      obtain ⟨key, v⟩ := q
      obtain rfl := h.1
      have rr := rb.val k0
      rw [hy] at rr
      obtain ⟨z, hz, rz⟩ := rr.some_of
      exact .hit hz (ih _ _ _ _ _ hf h.2 rz) (k t)
theorem atKey_some {xs : List (List Key × Addr × Value)} {k : List Key} {p : Addr × Value} (h : atKey xs k = some p) : ∃ j : Nat, xs[j]? = some (k, p) := by
  unfold atKey at h
  obtain ⟨x, hx, e⟩ := Option.map_eq_some_iff.mp h
  have hk : x.1 = k := by simpa using List.find?_some hx
  obtain ⟨j, hj⟩ := List.mem_iff_getElem?.mp (List.mem_of_find?_eq_some hx)
  refine ⟨j, ?_⟩
  rw [hj, ← hk, ← e]
theorem atKey_none {xs : List (List Key × Addr × Value)} {k : List Key} (h : atKey xs k = none) (j : Nat) (p : Addr × Value) : xs[j]? ≠ some (k, p) := fun e => by
  unfold atKey at h
  rw [Option.map_eq_none_iff, List.find?_eq_none] at h
  exact h _ (List.mem_of_getElem? e) (by simp)
theorem hitT_run {F : B3} (ih : ∀ x y v u b, F x y b → RelV x v → RelV y u → SeqAt.EqP P w A s v u b) {H : Hp} {ls : List (List Key × V)} {vb : List (List Key × Addr × Value)} (rb : KT H ls vb) {ks : List (List Key × V)} {r : Bool} (h : KHit F ls ks r) :
    ∀ {va : List (List Key × Addr × Value)}, KT H ks va → HitsH P w A s vb va r := by
  induction h with
  | nil =>
    intro va ra
    cases ra
    exact .nil
  | @miss k0 v0 r0 hn =>
    intro va ra
    cases ra with
    | @cons p q ps qs h t =>
      obtain ⟨key, v⟩ := q
      obtain rfl := h.1
      have rr := rb.val k0
      rw [hn] at rr
      refine .miss (atKey_none ?_)
      cases g : atKey vb k0 with
      | none => rfl
      | some z => rw [g] at rr; exact rr.elim
  | @hit k0 v0 y0 r0 e0 b0 hy hf _ k =>
    intro va ra
    cases ra with
    | @cons p q ps qs h t =>
      obtain ⟨key, v⟩ := q
      obtain rfl := h.1
      have rr := rb.val k0
      rw [hy] at rr
      obtain ⟨z, hz, rz⟩ := rr.some_of
      obtain ⟨pz, hpz, e⟩ := Option.map_eq_some_iff.mp hz
      obtain ⟨j, hj⟩ := atKey_some hpz
      exact .hit (x := (_, v)) hj (ih _ _ _ _ _ hf h.2.2 (by rw [e]; exact rz)) (k t)
end
section
variable {X : Cx} {pins : List (Addr × Obj)} {σ : L2.St} {H : Hp} {s : Shared}
/-- the pairs of two dicts are compared -/
theorem sameK (I : Inv X pins σ H s) {A : Around} {F : B3} (ih : ∀ x y v u b, F x y b → RelV x v → RelV y u → SeqAt.EqP X.prog X.w A s v u b) {a c : Addr} {ks ls : List (Key × V)} {r : Bool} (ha : Rd H a (.dK ks)) (hc : Rd H c (.dK ls)) (hk : ks.length = ls.length → KHit F ls ks r)
    (nm : String) (E' : Value → Shared → Prop) (Q' : Bool → Shared → Prop) (q : Q' (ks.length == ls.length && r) s) : wpAny (model X.prog X.w) A (Builtin.Dict.samePairs nm a c) Q' E' s := by
  obtain ⟨_, ya, va, ra, da⟩ := dk_rd I.hok ha
  obtain ⟨_, yc, vc, rc, dc⟩ := dk_rd I.hok hc
  refine PySem.W.samePairsP ya yc da dc (fun hl => hitK_run ih rc (hk (by rw [ra.length, rc.length]; exact hl)) ra) ?_
  rw [← ra.length, ← rc.length]
  exact q
theorem sameT (I : Inv X pins σ H s) {A : Around} (hu : A.units + 1 < cLine) {F : B3} (ih : ∀ x y v u b, F x y b → RelV x v → RelV y u → SeqAt.EqP X.prog X.w A.in1 s v u b) {a c : Addr} {ks ls : List (List Key × V)} {r : Bool} (ha : Rd H a (.dT ks)) (hc : Rd H c (.dT ls)) (hk : ks.length = ls.length → KHit F ls ks r)
    (nm : String) (E' : Value → Shared → Prop) (Q' : Bool → Shared → Prop) (q : Q' (ks.length == ls.length && r) s) : wpAny (model X.prog X.w) A.in1 (Builtin.Dict.samePairs nm a c) Q' E' s := by
  obtain ⟨_, ya, va, ra, da⟩ := dt_rd I.hok ha
  obtain ⟨_, yc, vc, rc, dc⟩ := dt_rd I.hok hc
  have la : ks.length = va.length := Paired.length ra
  have lc : ls.length = vc.length := Paired.length rc
  refine samePairsH (tupleKind_room_in1 hu) ya yc da dc (fun hl => hitT_run ih rc (hk (by omega)) ra) ?_
  rw [← la, ← lc]
  exact q
theorem typeK (I : Inv X pins σ H s) {a : Addr} {ks : List (Key × V)} (ha : Rd H a (.dK ks)) : s.TypeIs (.ref a) "dict" := by
  obtain ⟨_, _, va, _, da⟩ := dk_rd I.hok ha
  exact da.typeIs
theorem typeT (I : Inv X pins σ H s) {a : Addr} {ks : List (List Key × V)} (ha : Rd H a (.dT ks)) : s.TypeIs (.ref a) "dict" := by
  obtain ⟨_, _, va, _, da⟩ := dt_rd I.hok ha
  exact da.typeIs
theorem eqRB_run (I : Inv X pins σ H s) {A : Around} {F : B3} (hu : A.units + 2 < cLine) (ih : ∀ x y v u b, F x y b → RelV x v → RelV y u → SeqAt.EqP X.prog X.w A.in1 s v u b) {x y : V} {v u : Value} {b : Bool} (h : EqRB X.K H F x y b) (rx : RelV x v) (ry : RelV y u)
    (E Q : Value → Shared → Prop) (q : Q (.bool b) s) : wpAny (model X.prog X.w) A (richCompare .Eq v u) Q E s := by
  rcases h with ⟨a, c, xs, ys, e, rfl, rfl, ha, hc, hp, rfl⟩ | ⟨a, c, xs, ys, e, rfl, rfl, ha, hc, hl, hp, rfl⟩ | ⟨a, c, xs, ys, rfl, rfl, ha, hc, hl, rfl⟩ | ⟨a, c, ks, ls, r, rfl, rfl, ha, hc, hk, rfl⟩ | ⟨a, c, ks, ls, r, rfl, rfl, ha, hc, hk, rfl⟩
  · cases rx
    cases ry
    obtain ⟨us, r1, p1, _⟩ := I.tuple ha
    obtain ⟨ws, r2, p2, _⟩ := I.tuple hc
    refine rc_tups (e := e) (by omega) p1 p2 (fun j h1 h2 => by simpa using each_run ih hp r1 r2 j (by simpa using h1) (by simpa using h2)) ?_
    rw [List.size_toArray, List.size_toArray, ← r1.length, ← r2.length]
    exact q
  · cases rx
    cases ry
    obtain ⟨us, r1, p1, _⟩ := I.list ha
    obtain ⟨ws, r2, p2, _⟩ := I.list hc
    refine SeqAt.rcP_lists (e := e) p1.isList p2.isList (by rw [List.size_toArray, List.size_toArray, ← r1.length, ← r2.length]; exact hl) (by omega) (fun j h1 h2 => by simpa using each_run ih hp r1 r2 j (by simpa using h1) (by simpa using h2)) E Q ?_
    rw [List.size_toArray, ← r1.length]
    exact q
  · cases rx
    cases ry
    obtain ⟨us, r1, p1, _⟩ := I.list ha
    obtain ⟨ws, r2, p2, _⟩ := I.list hc
    exact SeqAt.RcAt.lists_lengths p1.isList p2.isList (by simpa [← r1.length, ← r2.length] using hl) (by omega) _ _ E Q q
  · cases rx
    cases ry
    exact rc_dictsEq (typeK I ha) (typeK I hc) (by omega) (sameK I ih ha hc hk) q
  · cases rx
    cases ry
    exact rc_dictsEq (typeT I ha) (typeT I hc) (by omega) (sameT I (by omega) ih ha hc hk) q
theorem EqRB.refs {K : PySem.W.Frag} {F : B3} {x y : V} {b : Bool} (h : EqRB K H F x y b) : ∃ a c, x = .ref a ∧ y = .ref c := by
  rcases h with ⟨a, c, _, _, _, h1, h2, _⟩ | ⟨a, c, _, _, _, h1, h2, _⟩ | ⟨a, c, _, _, h1, h2, _⟩ | ⟨a, c, _, _, _, h1, h2, _⟩ | ⟨a, c, _, _, _, h1, h2, _⟩ <;> exact ⟨a, c, h1, h2⟩
theorem eqB_run (I : Inv X pins σ H s) : ∀ (n : Nat) (A : Around), A.units + n + 2 < cLine → ∀ (x y : V) (v u : Value) (b : Bool), EqB X.K H n x y b → RelV x v → RelV y u → SeqAt.EqP X.prog X.w A s v u b
  | 0, _, _, _, _, _, _, _, h, _, _ => (show False from h).elim
  | n + 1, A, hu, x, y, v, u, b, h, rx, ry => by
    rcases h with ⟨f, g, rfl⟩ | ⟨a, rfl, rfl, rfl⟩ | ⟨z, a, xs, rfl, rfl, ht, rfl⟩ | ⟨z, a, xs, rfl, rfl, ht, rfl⟩ | ⟨h, own⟩
    · exact (eqAt_V rx ry f g).eqP
    · cases rx
      cases ry
      exact (SeqAt.EqAt.same _).eqP
    · obtain ⟨t, rfl⟩ := rx
      cases ry
      obtain ⟨us, _, p1, _⟩ := I.tuple ht
      exact (SeqAt.EqAt.str_tuple z t p1 (by omega)).eqP
    · obtain ⟨t, rfl⟩ := ry
      cases rx
      obtain ⟨us, _, p1, _⟩ := I.tuple ht
      exact (SeqAt.EqAt.tuple_str z t p1 (by omega)).eqP
    · have step := eqRB_run I (A := A) (by omega) (eqB_run I n A.in1 (by show A.units + 1 + n + 2 < cLine; omega)) h rx ry
      obtain ⟨a, c, rfl, rfl⟩ := h.refs
      cases rx
      cases ry
      by_cases e : a = c
      · subst e
        rw [own rfl]
        exact (SeqAt.EqAt.same _).eqP
      · exact SeqAt.eqP_refs e step
end
section
variable {X : Cx}
/-- a == b, a != b (dicts alone) -/
def rEqQ (K : PySem.W.Frag) : R2 := fun x y H Q => ∃ n b, n ≤ 40 ∧ EqRB K H (EqB K H n) x y b ∧ Q (.bl b) H
theorem op_eqQ {K : PySem.W.Frag} (hu : X.A.units + 50 < cLine) (hK : X.K = K := by rfl) : OpR X (compareOp .Eq) (rEqQ K) := by
  subst hK
  intro pins s σ H x y v u Q I rx ry h
  obtain ⟨n, b, hn, h, q⟩ := h
  exact eqRB_run I (A := X.A) (by omega) (eqB_run I n X.A.in1 (by show X.A.units + 1 + n + 2 < cLine; omega)) h rx ry _ _ ⟨.bl b, H, I, rfl, q⟩
def rNeQ (K : PySem.W.Frag) : R2 := fun x y H Q => ∃ n b, n ≤ 40 ∧ ((∃ a c, ∃ ks ls : List (Key × V), ∃ r, x = .ref a ∧ y = .ref c ∧ Rd H a (.dK ks) ∧ Rd H c (.dK ls) ∧ (ks.length = ls.length → KHit (EqB K H n) ls ks r) ∧ b = (ks.length == ls.length && r)) ∨
  (∃ a c, ∃ ks ls : List (List Key × V), ∃ r, x = .ref a ∧ y = .ref c ∧ Rd H a (.dT ks) ∧ Rd H c (.dT ls) ∧ (ks.length = ls.length → KHit (EqB K H n) ls ks r) ∧ b = (ks.length == ls.length && r))) ∧ Q (.bl (!b)) H
theorem op_neQ {K : PySem.W.Frag} (hu : X.A.units + 50 < cLine) (hK : X.K = K := by rfl) : OpR X (compareOp .NotEq) (rNeQ K) := by
  subst hK
  intro pins s σ H x y v u Q I rx ry h
  obtain ⟨n, b, hn, h, q⟩ := h
  have ih := eqB_run I n X.A.in1 (by show X.A.units + 1 + n + 2 < cLine; omega)
  rcases h with ⟨a, c, ks, ls, r, rfl, rfl, ha, hc, hk, rfl⟩ | ⟨a, c, ks, ls, r, rfl, rfl, ha, hc, hk, rfl⟩
  · cases rx
    cases ry
    exact rc_dictsNe (typeK I ha) (typeK I hc) (by omega) (sameK I ih ha hc hk) ⟨.bl _, H, I, rfl, q⟩
  · cases rx
    cases ry
    exact rc_dictsNe (typeT I ha) (typeT I hc) (by omega) (sameT I (by omega) ih ha hc hk) ⟨.bl _, H, I, rfl, q⟩
end
end KX
end
section
set_option Elab.async false
set_option linter.all false
set_option maxRecDepth 100000
set_option maxHeartbeats 4000000
/-! KX5: set(..) of texts that are all unlike, from a list, a tuple, a text; its len. -/
namespace KX
open PySem PySem.Spec PyProof.Rows L2

section
variable {P : Program} {w : World} {A : Around} {E : Value → Shared → Prop} {s : Shared}
abbrev SetN (w : World) (P : Program) (h : Heap) (S : Addr) (xs : List Str) (i : Nat) : Prop := h.SetOf (PySem.strKind P w) S (fun k => (xs.take i).any (· == k)) i
theorem take_next {xs : List Str} {i : Nat} {x : Str} (h : xs[i]? = some x) (k : Str) : (xs.take (i + 1)).any (· == k) = ((xs.take i).any (· == k) || decide (k = x)) := by
  rw [List.take_succ, h]
  simp only [Option.toList_some, List.any_append, List.any_cons, List.any_nil, Bool.or_false]
  congr 1
  by_cases e : k = x
  · subst e; simp
  · rw [decide_eq_false e]
    exact beq_eq_false_iff_ne.mpr fun q => e q.symm
theorem not_before {xs : List Str} (hn : xs.Nodup) {i : Nat} {x : Str} (h : xs[i]? = some x) : (xs.take i).any (· == x) = false := by
  rw [Bool.eq_false_iff]
  intro q
  obtain ⟨y, hy, e⟩ := List.any_eq_true.mp q
  obtain rfl : y = x := by simpa using e
  obtain ⟨j, hj⟩ := List.mem_iff_getElem?.mp hy
  have hji : j < i := by
    have g := (List.getElem?_eq_some_iff.mp hj).1
    rw [List.length_take] at g
    omega
  rw [List.getElem?_take_of_lt hji] at hj
  have := nodup_ix hn hj h
  omega
theorem setLoop {R : Result → Shared → Prop} {I : Addr} {fp wr : List Addr} {G : Array GenState → Array GenState → Prop} {n : Nat} {Pv : Nat → Value → Prop} {St : Nat → Shared → Prop} (W : WalksS P w A.in1 I fp wr G n Pv St) (S : Addr) (hSf : S ∉ fp)
    (xs : List Str) (hz : xs.length = n) (hb : n + 1 < scanBound) (hnd : xs.Nodup) (hval : ∀ i v, Pv i v → ∃ x t, xs[i]? = some x ∧ v = Value.str x t) :
    ∀ (k i : Nat) (s : Shared), n - i = k → i ≤ n → St i s → SetN w P s.heap S xs i →
      (∀ t, Moved (S :: wr) G s t → SetN w P t.heap S xs n → R (.ok (.ret .none)) t) → codeAny (model P w) A (.builtin "set.update.loop" ⟨[.ref S, .ref I], []⟩) R s := by
  have hSw : S ∉ wr := fun h => hSf (W.sub _ h)
  have hsub : ∀ b ∈ wr, b ∈ S :: wr := fun b h => List.mem_cons_of_mem _ h
  intro k
  induction k with
  | zero =>
    intro i s hk hi hst hS hR
    obtain rfl : i = n := by omega
    refine codeAny_builtin PyProof.Rows.F.entry_set_update_loop ?_
    rw [Around.under_plainId PyProof.Rows.F.plain_set_update_loop _]
    show wpAny _ A.in1 (pyNext (.ref I) >>= _) _ _ s
    refine wpAny_bind (W.done s _ _ hst fun t hm => ?_)
    show wpAny _ A.in1 (ret Value.none) _ _ t
    obtain ⟨o, es, ep, tb, ho, rest⟩ := hS
    exact wpAny_pure (hR t (hm.mono hsub) ⟨o, es, ep, tb, hm.heap S _ hSw ho, rest⟩)
  | succ k ih =>
    intro i s hk hi hst hS hR
    have hlt : i < n := by omega
    refine codeAny_builtin PyProof.Rows.F.entry_set_update_loop ?_
    rw [Around.under_plainId PyProof.Rows.F.plain_set_update_loop _]
    show wpAny _ A.in1 (pyNext (.ref I) >>= _) _ _ s
    refine wpAny_bind (W.item i s _ _ hlt hst fun v t hP hst2 hm => ?_)
    obtain ⟨x, tk, hx, rfl⟩ := hval i v hP
    have hS2 : SetN w P t.heap S xs i := by
      obtain ⟨o, es, ep, tb, ho, rest⟩ := hS
      exact ⟨o, es, ep, tb, hm.heap S _ hSw ho, rest⟩
    show wpAny _ A.in1 (holding [Value.str x tk] (setAdd S (.str x tk)) >>= _) _ _ t
    refine wpAny_bind (wpAny_holding ?_)
    unfold setAdd
    refine wpAny_holding (wpAny_bind ((PySem.strKind P w).pyHash (k := x) (strKind_is _ _ _ _) ?_))
    refine wpAny_setAddHashed_of (knd := PySem.strKind P w) (s := { t with toks := t.toks + 1 }) (strKind_is _ _ _ _) rfl hS2 (by omega) fun h2 hsb hS3 => ?_
    have hSi : SetN w P h2 S xs (i + 1) := by
      refine SetOf_congr hS3 (fun k' => ?_) ?_
      · exact (take_next hx k').symm
      · rw [not_before hnd hx]
        all_goals rfl
    refine wpAny_pure ⟨plainId_quiet PyProof.Rows.F.plain_set_update_loop _, ih (i + 1) _ (by omega) hlt (W.frame _ t _ _ hst2 (Nat.le_succ _) fun b hb o e => ?_) hSi fun t2 hm2 hS4 => ?_⟩
    · rw [hsb.2 b fun h : b = S => hSf (by rw [← h]; exact hb)]
      exact e
    · refine hR t2 (Moved.trans W.gtrans ((hm.mono hsub).then_heap (Nat.le_succ _) fun b o hb e => ?_) hm2) hS4
      rw [hsb.2 b fun h : b = S => hb (by rw [h]; exact List.mem_cons_self)]
      exact e
/-- the new set -/
abbrev freshSet (s : Shared) (led : Bool) : Shared := { s with heap := s.heap.push { cls := .type "set", dict := none, data := .set #[] 0 (.fresh 0 0 led) } }
/-- how the set's __init__ ends -/
abbrev setDone (w : World) (P : Program) (s : Shared) (xs : List Str) (E : Value → Shared → Prop) : Result → Shared → Prop :=
  wants (fun r t => r = .none ∧ ∃ h' tk, t = { s with heap := h', toks := tk } ∧ SetN w P h' s.heap.objs.size xs xs.length ∧ ∀ b o, b < s.heap.objs.size → s.heap.get? b = some o → h'.get? b = some o) E
theorem set_new {u : Value} {xs : List Str} {Q : Value → Shared → Prop}
    (hinit : ∀ (led : Bool) (A' : Around), A'.handled = A.handled → wpAny (model P w) A'.in1 (Builtin.«set.__init__» ⟨[.ref s.heap.objs.size, u], []⟩) (fun f t => match f with | .done fl => setDone w P s xs E (.ok fl) t | .again c => c.quiet = true ∧ codeAny (model P w) A' c (setDone w P s xs E) t) (fun e t => setDone w P s xs E (.error e) t) (freshSet s led))
    (h : ∀ (h' : Heap) (tk : Nat), SetN w P h' s.heap.objs.size xs xs.length → (∀ b o, b < s.heap.objs.size → s.heap.get? b = some o → h'.get? b = some o) → Q (.ref s.heap.objs.size) { s with heap := h', toks := tk }) :
    wpAny (model P w) A (call (.type "set") [u]) Q E s := by
  obtain ⟨c, tl, hmro⟩ := PySem.F.called_set.mro
  have hmade := PySem.F.called_set.made
  have hsub := PySem.F.called_set.sub
  refine wpAny_call (codeAny_of_tree ?_)
  show wpAny _ _ (callAny (.type "set") _) _ _ _
  refine wpAny_pure ⟨Code.quiet_builtin _ (by decide +kernel), codeAny_builtin PySem.F.entry_type_call ?_⟩
  rw [Around.under_plain (weight_type_call_type "set" [u] []) rfl]
  have h1 := PySem.F.called_set.notType
  have h2 := PySem.F.called_set.canCreate
  have hct := PySem.F.typeCall_set_1 u
  repeat (any_goals (first | assumption | wp_step))
  refine codeAny_mono (code_set_new_1 u (E := E) (Q₁ := fun obj t => ∃ led : Bool, obj = .ref s.heap.objs.size ∧ t = freshSet s led) fun led => ⟨led, rfl, rfl⟩) fun r t hr => ?_
  cases r with
  | error e => exact hr
  | ok fl =>
    cases fl with
    | ret obj =>
      obtain ⟨led, rfl, rfl⟩ := hr
      have hS : (freshSet s led).heap.get? s.heap.objs.size = some { cls := .type "set", dict := none, data := .set #[] 0 (.fresh 0 0 led) } := Heap.get?_push_size _ rfl
      have hT : Shared.TypeIs (freshSet s led) (.ref s.heap.objs.size) "set" := ⟨_, hS, rfl⟩
      have hli := PySem.F.called_set.init.lookup
      have hbi := PySem.F.called_set.init.bind (.ref s.heap.objs.size)
      repeat (any_goals (first | assumption | wp_step))
      refine codeAny_mono (codeAny_call_builtin (R := setDone w P s xs E) PySem.F.called_set.init.plain PySem.F.entry_set_init (check_set_init_1 hT ?_)) fun r2 t2 hr2 => ?_
      · exact hinit led A.in1 rfl
      · cases r2 with
        | error e => exact hr2
        | ok fl2 =>
          cases fl2 with
          | ret r =>
            obtain ⟨rfl, h', tk, rfl, g1, g2⟩ := hr2
            repeat (any_goals (first | assumption | wp_step))
            exact h _ _ g1 g2
          | _ => exact hr2.elim
    | _ => exact hr.elim

/-- .. once the iterator stands: the loop -/
theorem set_loop_end {A' : Around} {xs : List Str} {led : Bool} {oI : Obj} {fp : List Addr} {Pv : Nat → Value → Prop} {St : Nat → Heap → Prop}
    (W : Walks P w A'.in1 (freshSet s led).heap.objs.size fp [(freshSet s led).heap.objs.size] xs.length Pv St) (hSf : s.heap.objs.size ∉ fp) (hb : xs.length + 1 < scanBound) (hnd : xs.Nodup) (hval : ∀ i v, Pv i v → ∃ x t, xs[i]? = some x ∧ v = Value.str x t)
    (h0 : St 0 ((freshSet s led).heap.push oI)) {R : Result → Shared → Prop}
    (hR : ∀ h' tk, SetN w P h' s.heap.objs.size xs xs.length → (∀ b o, b < s.heap.objs.size → s.heap.get? b = some o → h'.get? b = some o) → R (.ok (.ret .none)) { s with heap := h', toks := tk }) :
    codeAny (model P w) A' (.builtin "set.update.loop" ⟨[.ref s.heap.objs.size, .ref (freshSet s led).heap.objs.size], []⟩) R { freshSet s led with heap := (freshSet s led).heap.push oI } := by
  have hS : (freshSet s led).heap.get? s.heap.objs.size = some { cls := .type "set", dict := none, data := .set #[] 0 (.fresh 0 0 led) } := Heap.get?_push_size _ rfl
  refine setLoop W.toS s.heap.objs.size hSf xs rfl hb hnd hval xs.length 0 _ (by omega) (Nat.zero_le _) h0 ?_ fun t hm hS2 => ?_
  · exact SetOf_congr ((setObjOf_fresh (knd := PySem.strKind P w) led).setOf (Heap.get?_push_of_some _ hS) (by unfold scanBound; omega)) (fun _ => rfl) rfl
  · obtain ⟨h', g', d', tk', os'⟩ := t
    obtain rfl : g' = s.gens := hm.gens
    obtain rfl : d' = s.drawn := hm.drawn
    obtain rfl : os' = s.os := hm.os
    refine hR h' tk' hS2 fun b o hlt e => hm.heap b o ?_ (Heap.get?_push_of_some _ (Heap.get?_push_of_some _ e))
    have hsz : (freshSet s led).heap.objs.size = s.heap.objs.size + 1 := Heap.size_push _ _
    simp only [List.mem_cons, List.mem_singleton, List.not_mem_nil, or_false, not_or]
    rw [hsz]
    exact ⟨Nat.ne_of_lt hlt, Nat.ne_of_lt (Nat.lt_succ_of_lt hlt)⟩
theorem set_str {z : Str} {t : Tok} {Q : Value → Shared → Prop} (hh : A.handled = none) (hz : z.length + 1 < scanBound) (hnd : z.cps.toList.Nodup)
    (h : ∀ (h' : Heap) (tk : Nat), SetN w P h' s.heap.objs.size (z.cps.toList.map fun c => ⟨#[c]⟩) z.length → (∀ b o, b < s.heap.objs.size → s.heap.get? b = some o → h'.get? b = some o) → Q (.ref s.heap.objs.size) { s with heap := h', toks := tk }) :
    wpAny (model P w) A (call (.type "set") [.str z t]) Q E s := by
  have hl : (z.cps.toList.map fun c => (⟨#[c]⟩ : Str)).length = z.length := by rw [List.length_map, Array.length_toList]; rfl
  refine set_new (xs := z.cps.toList.map fun c => ⟨#[c]⟩) (fun led A' hA => ?_) (by rw [hl]; exact h)
  have hsls := PySem.F.sub_str_set
  have hslf := PySem.F.sub_str_frozenset
  have hne : (Value.type "str" == Value.type "dict") = false := by decide
  have hS : (freshSet s led).heap.get? s.heap.objs.size = some { cls := .type "set", dict := none, data := .set #[] 0 (.fresh 0 0 led) } := Heap.get?_push_size _ rfl
  unfold Builtin.«set.__init__» noKeywords Builtin.Frozenset.updateFrom
  generalize hPI : pyIter = PI
  wp_walk
  subst hPI
  refine wpAny_pyIter_str fun o St W h0 => ?_
  refine wpAny_bind (wpAny_runValue ?_)
  have hA3 : A'.in1.in1.handled = none := by simpa [hA] using hh
  have W' := W A'.in1.in1 hA3
  refine set_loop_end (xs := z.cps.toList.map fun c => ⟨#[c]⟩) (by rw [hl]; exact W') (by simp [Heap.size_push]) (by rw [hl]; exact hz) ?_ (fun i v hv => ?_) h0 fun h' tk g1 g2 => ?_
  · refine hnd.map _ fun a b hab q => hab ?_
    simpa using congrArg (fun y : Str => y.cps) q
  · obtain ⟨c, u, e1, e2⟩ := hv
    exact ⟨⟨#[c]⟩, u, by rw [List.getElem?_map, Array.getElem?_toList, e1]; rfl, e2⟩
  · show wpAny _ _ _ _ _ _
    refine wpAny_pure ?_
    show wpAny _ _ (ret Value.none) _ _ _
    exact wpAny_pure ⟨rfl, h', tk, rfl, g1, g2⟩

theorem strsAt : ∀ {us : List Value} {xs : List Str}, Vals (xs.map V.str) us → ∀ (i : Nat) (v : Value), us[i]? = some v → ∃ x t, xs[i]? = some x ∧ v = Value.str x t
  | [], _, _, i, v, h => by simp at h
  | u :: us, x :: xs, r, 0, v, h => by
    cases r with
    | cons r1 r2 =>
      obtain ⟨t, e⟩ := r1
      exact ⟨x, t, rfl, by rw [← e]; exact (Option.some.inj h).symm⟩
  | u :: us, x :: xs, r, i + 1, v, h => by
    cases r with
    | cons r1 r2 =>
      obtain ⟨y, t, e1, e2⟩ := strsAt r2 i v (by simpa using h)
      exact ⟨y, t, by simpa using e1, e2⟩
theorem set_seq {T : String} (hT : T = "list" ∨ T = "tuple") {l : Addr} {its : List Value} {xs : List Str} {Q : Value → Shared → Prop} (hh : A.handled = none) (hl : (T = "list" ∧ s.heap.IsList l its.toArray) ∨ (T = "tuple" ∧ s.heap.IsTuple l its.toArray)) (rv : Vals (xs.map V.str) its)
    (hz : xs.length + 1 < scanBound) (hnd : xs.Nodup)
    (h : ∀ (h' : Heap) (tk : Nat), SetN w P h' s.heap.objs.size xs xs.length → (∀ b o, b < s.heap.objs.size → s.heap.get? b = some o → h'.get? b = some o) → Q (.ref s.heap.objs.size) { s with heap := h', toks := tk }) :
    wpAny (model P w) A (call (.type "set") [.ref l]) Q E s := by
  have hlen : its.toArray.size = xs.length := by rw [List.size_toArray, ← rv.length, List.length_map]
  refine set_new (xs := xs) (fun led A' hA => ?_) h
  have hA3 : A'.in1.in1.handled = none := by simpa [hA] using hh
  have hS : (freshSet s led).heap.get? s.heap.objs.size = some { cls := .type "set", dict := none, data := .set #[] 0 (.fresh 0 0 led) } := Heap.get?_push_size _ rfl
  have hval : ∀ (i : Nat) (v : Value), its.toArray[i]? = some v → ∃ x t, xs[i]? = some x ∧ v = Value.str x t := fun i v e => strsAt rv i v (by simpa using e)
  have fin : ∀ (h' : Heap) (tk : Nat), SetN w P h' s.heap.objs.size xs xs.length → (∀ b o, b < s.heap.objs.size → s.heap.get? b = some o → h'.get? b = some o) → wants (fun (_ : Value) t => wpAny (model P w) A'.in1 (ret Value.none) (fun f t => match f with | .done fl => setDone w P s xs E (.ok fl) t | .again c => c.quiet = true ∧ codeAny (model P w) A' c (setDone w P s xs E) t) (fun e t => setDone w P s xs E (.error e) t) t) (fun e t => setDone w P s xs E (.error e) t) (.ok (.ret .none)) { s with heap := h', toks := tk } := fun h' tk g1 g2 =>
    wpAny_pure ⟨rfl, h', tk, rfl, g1, g2⟩
  rcases hl with ⟨rfl, hl⟩ | ⟨rfl, hl⟩
  · obtain ⟨⟨ocls, odict, odata, oslots⟩, hol, hcl, nl, hdl⟩ := hl
    simp only at hcl hdl
    subst hcl hdl
    have hlS : l < s.heap.objs.size := Heap.lt_size hol
    have hol2 : (s.heap.push { cls := .type "set", dict := none, data := .set #[] 0 (.fresh 0 0 led) }).get? l = some { cls := .type "list", dict := odict, data := .seq its.toArray nl, slots := oslots } := Heap.get?_push_of_some _ hol
    have hsls := PySem.F.sub_list_set
    have hslf := PySem.F.sub_list_frozenset
    have hne : (Value.type "list" == Value.type "dict") = false := by decide
    have hl1 : (freshSet s led).heap.IsList l its.toArray := ⟨_, hol2, rfl, nl, rfl⟩
    have hneI : l ≠ (freshSet s led).heap.objs.size := by
      rw [Heap.size_push]
      exact Nat.ne_of_lt (Nat.lt_succ_of_lt hlS)
    unfold Builtin.«set.__init__» noKeywords Builtin.Frozenset.updateFrom
    generalize hPI : pyIter = PI
    wp_walk
    subst hPI
    refine wpAny_pyIter_list hl1 (wpAny_bind (wpAny_runValue ?_))
    have W := Walks.list (prog := P) (w := w) hA3 (freshSet s led).heap.objs.size l hneI its.toArray
    rw [hlen] at W
    exact set_loop_end W (by rw [Heap.size_push]; simp [Nat.ne_of_gt hlS]) hz hnd hval ⟨⟨_, Heap.get?_push_size _ rfl, rfl, rfl⟩, hl1.push _⟩ fun h' tk g1 g2 => wpAny_pure (fin h' tk g1 g2)
  · obtain ⟨⟨ocls, odict, odata, oslots⟩, hol, hcl, nl, hdl⟩ := hl
    simp only at hcl hdl
    subst hcl hdl
    have hlS : l < s.heap.objs.size := Heap.lt_size hol
    have hol2 : (s.heap.push { cls := .type "set", dict := none, data := .set #[] 0 (.fresh 0 0 led) }).get? l = some { cls := .type "tuple", dict := odict, data := .seq its.toArray nl, slots := oslots } := Heap.get?_push_of_some _ hol
    have hsls := PySem.F.sub_tuple_set
    have hslf := PySem.F.sub_tuple_frozenset
    have hne : (Value.type "tuple" == Value.type "dict") = false := by decide
    have hl1 : (freshSet s led).heap.IsTuple l its.toArray := ⟨_, hol2, rfl, nl, rfl⟩
    have hneI : l ≠ (freshSet s led).heap.objs.size := by
      rw [Heap.size_push]
      exact Nat.ne_of_lt (Nat.lt_succ_of_lt hlS)
    unfold Builtin.«set.__init__» noKeywords Builtin.Frozenset.updateFrom
    generalize hPI : pyIter = PI
    wp_walk
    subst hPI
    refine wpAny_pyIter_tuple hl1 (wpAny_bind (wpAny_runValue ?_))
    have W := Walks.tuple (prog := P) (w := w) hA3 (freshSet s led).heap.objs.size l hneI its.toArray
    rw [hlen] at W
    exact set_loop_end W (by rw [Heap.size_push]; simp [Nat.ne_of_gt hlS]) hz hnd hval ⟨⟨_, Heap.get?_push_size _ rfl, rfl, rfl⟩, hl1.push _⟩ fun h' tk g1 g2 => wpAny_pure (fin h' tk g1 g2)
end

/-! ### the readings -/
/-- a set of so many texts, all unlike -/
def SetS (P : Program) (w : World) (a : Addr) (xs : List Str) : HO := .ext fun h => SetN w P h a xs xs.length
theorem setS_ok {P : Program} {w : World} {H : Hp} {h : Heap} {a : Addr} {xs : List Str} (g : SetN w P h a xs xs.length) : ObjOk P w H h a (SetS P w a xs) := by
  refine ⟨g, ?_, fun h1 h2 g1 k => ?_⟩
  · obtain ⟨o, _, _, _, e, _⟩ := g
    exact ⟨o, e⟩
  · obtain ⟨o, es, ep, t, e, rest⟩ := g1
    exact ⟨o, es, ep, t, k o e, rest⟩
section
variable {X : Cx}
def rSetA (K : PySem.W.Frag) (P : Program) (w : World) : List V → Hp → VK → Prop := fun vs H Q => ∃ xs : List Str, ((∃ a, vs = [.ref a] ∧ (SqL K H a (xs.map V.str) ∨ SqT K H a (xs.map V.str))) ∨ ∃ z : Str, vs = [.str z] ∧ xs = z.cps.toList.map fun c => ⟨#[c]⟩) ∧
  xs.Nodup ∧ xs.length + 1 < scanBound ∧ ∀ p, H p = none → Q (.ref p) (upd H p (SetS P w p xs))
theorem cr_setA {K : PySem.W.Frag} (hc : X.calm = true) (hK : X.K = K := by rfl) : CallR X (.type "set") (rSetA K X.prog X.w) := by
  subst hK
  intro pins s σ H vs us Q I r h
  obtain ⟨xs, hs, hnd, hz, q⟩ := h
  have hn : H s.heap.objs.size = none := I.hok.fresh (Nat.le_refl _)
  have fin : ∀ (h' : Heap) (tk : Nat), SetN X.w X.prog h' s.heap.objs.size xs xs.length → (∀ b o, b < s.heap.objs.size → s.heap.get? b = some o → h'.get? b = some o) → EP X pins σ Q (.ref s.heap.objs.size) { s with heap := h', toks := tk } := fun h' tk g1 g2 =>
    ⟨.ref s.heap.objs.size, _, I.laid (t' := tk) (o := SetS X.prog X.w s.heap.objs.size xs) (fun b o e => g2 b o (Heap.lt_size e) e) (Nat.le_refl _) (setS_ok g1), rfl, q _ hn⟩
  rcases hs with ⟨a, rfl, hs⟩ | ⟨z, rfl, rfl⟩
  · rw [Vals.ref1 r]
    rcases hs with hs | hs
    · obtain ⟨its, rv, p1, _⟩ := I.list hs
      exact set_seq (.inl rfl) (I.ok.hd hc) (.inl ⟨rfl, p1.isList⟩) rv hz hnd fin
    · obtain ⟨its, rv, p1, _⟩ := I.tuple hs
      exact set_seq (.inr rfl) (I.ok.hd hc) (.inr ⟨rfl, p1⟩) rv hz hnd fin
  · obtain ⟨u, rfl, t, rfl⟩ := r.one
    have hl : (z.cps.toList.map fun c => (⟨#[c]⟩ : Str)).length = z.length := by rw [List.length_map, Array.length_toList]; rfl
    refine set_str (I.ok.hd hc) (by rw [← hl]; exact hz) ((List.pairwise_map.mp hnd).imp fun h q => h (by rw [q])) (by rw [← hl]; exact fin)
/-- len of such a set -/
def rLenA (P : Program) (w : World) : List V → Hp → VK → Prop := fun vs H Q => ∃ a xs, vs = [.ref a] ∧ H a = some (SetS P w a xs) ∧ Q (.int (xs.length : Nat)) H
theorem call_lenA : CallR X (.builtin "len") (rLenA X.prog X.w) := by
  intro pins s σ H vs us Q I r h
  obtain ⟨a, xs, rfl, ha, q⟩ := h
  rw [Vals.ref1 r]
  have g : SetN X.w X.prog s.heap a xs xs.length := (I.hok a _ ha).1
  obtain ⟨o, es, ep, t, ho, hex, hd, _, _, hb, hf, hn⟩ := g
  exact PySem.call_len_set ho hex hd hf (by unfold scanBound at hb; omega) ⟨.int xs.length, H, I.tok _, ⟨_, by rw [hn]⟩, q⟩
end
end KX
end
section
set_option Elab.async false
set_option linter.all false
set_option maxRecDepth 100000
set_option maxHeartbeats 4000000
/-! KX6: dict comprehensions whatever the keys (ints, texts, tuples of these), as a value and given to a local name. -/
namespace KX
open PySem PySem.Spec PyProof.Rows L2

section
variable {X : Cx} {pins : List (Addr × Obj)} {σ : L2.St} {H : Hp} {s : Shared}
/-- D[k] = v by a comprehension, as DPut tells it -/
theorem put_comp {H' : Hp} {E : Value → Shared → Prop} {D : Addr} {y v : V} {u r : Value} {Q : Unit → Shared → Prop} (hu : X.A.units < cLine) (I : Inv X pins σ H s) (g : DPut H D y v H') (ry : RelV y u) (rv : RelV v r)
    (h : ∀ t, Inv X pins σ H' t → Q () t) : wpAny (model X.prog X.w) X.A (dictSet D u r) Q E s := by
  rcases g with ⟨kvs, k, e, ey, l, eH⟩ | ⟨kvs, k, b, e, ey, eb, l, eH⟩
  · subst ey eH
    obtain ⟨z, hd, xs, rel, dd⟩ := dk_of I.hok e
    have hl : (putK kvs k v).length ≤ sizeLine := by have := length_putK kvs k v; omega
    refine wpAny_dictSet_pairs (hsz := by rw [← rel.length]; exact z) (kV_is ry) dd fun h2 d2 hs => h _ ?_
    obtain ⟨q, _, _, hq, _⟩ := id d2
    exact d_write I (by rw [e]; exact True.intro) hs ⟨q, hq⟩ (dk_new hl hd (rel.put k rv) d2)
  · subst ey eH
    cases (show u = Value.ref b from ry)
    obtain ⟨z, hd, xs, rel, dd⟩ := dt_of I.hok e
    have hl : (putK kvs k v).length ≤ sizeLine := by have := length_putK kvs k v; omega
    refine wpAny_dictSet_heap (knd := tupleKind (mixKind X.prog X.w)) (hsz := by rw [← Paired.length rel]; exact z) hu (key_of I.hok eb) dd fun h2 d2 hs => h _ ?_
    obtain ⟨q, es, ep, hq, g2, g3, g4, _, g5⟩ := d2
    refine d_write I (by rw [e]; exact True.intro) hs ⟨q, hq⟩ ⟨hl, hd, _, (rel.put k eb rv).keeps fun c ys ec => ?_, q, es, ep, hq, g2, g3, g4, g5⟩
    rw [upd_ne (ne_of ec e (fun z => nomatch z))]
    exact ec
end
/-- the empty dict of a kind -/
inductive IsNil : HO → Prop
  | k : IsNil (.dK [])
  | t : IsNil (.dT [])
section
variable {X : Cx}
/-- {k: v for target in iter if ..}: D the new dict, of the kind O -/
def tDp (O : HO) (wi : TI) (g : TG) (tt : TT) (tk tv : TE) (vs : List Nat) : TE := fun σ H Q => wi σ H fun J H1 => ∀ D, H1 D = none → ∃ W : Nat → Nat → Hp → Prop, (∃ m, W 0 m (upd H1 D O)) ∧ ∀ i m H, W i m H →
  (J.stop i H ∧ Q (.ref D) H) ∨ (J.go i H ∧ ∃ Nx : Hp → Prop, (∀ H', Nx H' → ∃ m', m' < m ∧ W (i + 1) m' H') ∧ ∀ x H', J.yld i H x H' → g x (wipe σ vs) H' fun σ2 H2 => wipe σ2 vs = wipe σ vs ∧ tt σ2 H2 fun b H3 =>
    if b = true then tk σ2 H3 fun y H4 => tv σ2 H4 fun z H5 => ∃ H6, DPut H5 D y z H6 ∧ Nx H6 else Nx H3)
theorem dp_core {pins : List (Addr × Obj)} {s : Shared} {σ : L2.St} {H : Hp} {Q : VK} {kx vx tg iter : Expr} {ifs : List Expr} {scope : Scope} {own : List (Str × Nat)} {pos pos' : Pos} {O : HO} {wi : TI} {g : TG} {tt : TT} {tk tv : TE} {use : Option (Value → Sem Unit)} {Qf : Value → Shared → Prop}
    (hO : IsNil O) (hu : X.A.units < cLine) (hc : X.calm = true) (hN : X.N.Nodup) (I : Inv X pins σ H s) (hi : PI X tg iter wi) (ok : BlkOk X.N X.env.scope scope own)
    (hg : ∀ (s : Shared) (H : Hp) (C : Addr) (cl : List (Str × Addr)) (fp : List Addr), PG (X.blk s H scope (compEnvC scope cl C X.env) fp) tg g) (ht : ∀ (s : Shared) (H : Hp) (C : Addr) (cl : List (Str × Addr)) (fp : List Addr), PTs (X.blk s H scope (compEnvC scope cl C X.env) fp) ifs tt)
    (hk : ∀ (s : Shared) (H : Hp) (C : Addr) (cl : List (Str × Addr)) (fp : List Addr), PE (X.blk s H scope (compEnvC scope cl C X.env) fp) kx tk)
    (he : ∀ (s : Shared) (H : Hp) (C : Addr) (cl : List (Str × Addr)) (fp : List Addr), PE (X.blk s H scope (compEnvC scope cl C X.env) fp) vx tv) (hs : ∀ x, foldedSetIterable iter X.env x = pure x) (h : tDp O wi g tt tk tv (own.map (·.2)) σ H Q)
    (hRR : ∀ D C t m H', Inv X pins σ H' t → Q (.ref D) H' → t.heap.Ns C m → FpOk X pins H' C → compPost (model X.prog X.w) X.A X.xe use Qf (.ref D) C (.ok .next) t) :
    wpAny (model X.prog X.w) X.A (comprehension (.DictComp kx vx [⟨tg, iter, ifs, 0⟩] scope pos) scope X.env pos' newDict false (eval iter X.env) use) Qf X.xe s := by
  have hfree : ∀ y ∈ scope.names, y.2 = .free → ∃ c, X.env.cells.lookup y.1 = some c := fun y hy e => (ok.free y hy e).elim (fun k => I.ok.has _ (.inl k)) fun k => I.ok.has _ (.inr k)
  refine wpAny_comprehension_free (use := use) rfl hs (closure_ok hfree) ok.kind (fun y hy e => by rw [ok.uniq y hy, e]) (thn (hi.run pins s σ H _ I h) fun xv s1 hx => thn hx fun itv s2 h2 => ?_)
  obtain ⟨it, fp, tn, J, H2, e, I2, T, st2, f2, q⟩ := h2
  subst e
  refine wpAny_newObj_type (newEnv_comp ?_)
  generalize hD : s2.heap.objs.size = D
  have hDn : H2 D = none := I2.hok.fresh (Nat.le_of_eq hD)
  obtain ⟨W, ⟨m0, w0⟩, turn⟩ := q D hDn
  generalize hs3 : ({ s2 with heap := s2.heap.push { cls := .type "dict", data := .dict #[] } } : Shared) = s3
  have h3 : s3.heap = s2.heap.push { cls := .type "dict", data := .dict #[] } := by rw [← hs3]
  have I3 : Inv X pins σ (upd H2 D O) s3 := by
    rw [← hs3]
    refine I2.laid (t' := s2.toks) (fun b o e => Heap.get?_push_of_some _ e) (Nat.le_of_eq hD) ?_
    rw [← hD]
    cases hO with
    | k => exact dk_empty s2.heap I2.big
    | t => exact dt_empty s2.heap I2.big
  have sz : ∀ b ∈ fp, b < s2.heap.objs.size := fun b hb => (T.obj _ _ st2 b hb).elim fun o e => Heap.lt_size e.1
  have f3 : ∀ b ∈ fp, FpOk X pins (upd H2 D O) b ∧ b < s3.heap.objs.size := fun b hb => by
    have hlt := sz b hb
    refine ⟨⟨(upd_ne (by rw [← hD]; exact Nat.ne_of_lt hlt)).trans (f2 b hb).1, (f2 b hb).2⟩, ?_⟩
    rw [h3, Heap.size_push]
    exact Nat.lt_succ_of_lt hlt
  have st3 : tn 0 s3.heap := T.keep _ _ _ st2 fun b _ o e => by rw [h3]; exact Heap.get?_push_of_some _ e
  have I4 := block_start I3 ok hN f3
  have pg := hg s3 (upd H2 D O) s3.heap.objs.size (cellsFrom (s3.heap.objs.size + 1) scope.names (cloFrom X.env.cells scope.names [])) fp
  have pt := ht s3 (upd H2 D O) s3.heap.objs.size (cellsFrom (s3.heap.objs.size + 1) scope.names (cloFrom X.env.cells scope.names [])) fp
  have pk := hk s3 (upd H2 D O) s3.heap.objs.size (cellsFrom (s3.heap.objs.size + 1) scope.names (cloFrom X.env.cells scope.names [])) fp
  have pe := he s3 (upd H2 D O) s3.heap.objs.size (cellsFrom (s3.heap.objs.size + 1) scope.names (cloFrom X.env.cells scope.names [])) fp
  show codeAny _ _ (.compStart (.DictComp kx vx [⟨tg, iter, ifs, 0⟩] scope pos) 0 (.ref it) (.ref D) (compEnvC scope (cellsFrom (s3.heap.objs.size + 1) scope.names (cloFrom X.env.cells scope.names [])) s3.heap.objs.size X.env)) (compPost (model X.prog X.w) X.A X.xe use Qf (.ref D) s3.heap.objs.size) { s3 with heap := pushCells (s3.heap.push { cls := .type "dict", data := .dict #[] }) scope.names }
  have nfp : ∀ b ∈ fp, (upd H2 D O) b = none := fun b hb => (f3 b hb).1.1
  generalize hce : compEnvC scope (cellsFrom (s3.heap.objs.size + 1) scope.names (cloFrom X.env.cells scope.names [])) s3.heap.objs.size X.env = ce at I4 pg pt pk pe ⊢
  have cL : ce.locals = s3.heap.objs.size := by subst hce; rfl
  generalize hH3 : upd H2 D O = H3 at I3 I4 pg pt pk pe w0 nfp f3
  generalize hs4 : ({ s3 with heap := pushCells (s3.heap.push { cls := .type "dict", data := .dict #[] }) scope.names } : Shared) = s4 at I4 ⊢
  have st4 : tn 0 s4.heap := T.keep _ _ _ st3 fun b _ o e => by rw [← hs4]; exact pushCells_keeps _ _ _ _ (Heap.get?_push_of_some _ e)
  have stat : ∀ {σ' : L2.St} {H' : Hp} {t : Shared}, Inv (X.blk s3 H3 scope ce fp) [] σ' H' t → (∀ b ∈ fp, H' b = none) → ∀ b ∈ fp, FpOk (X.blk s3 H3 scope ce fp) [] H' b := fun {σ' H' t} I' hn b hb =>
    ⟨hn b hb, (I'.ok.exf b hb).1, I'.ok.exfs b hb, .inl hb, fun x c e => (I'.ok.exf b hb).2 x c e, fun p hp => absurd (show p ∈ ([] : List (Addr × Obj)) ++ [] from hp) (by simp)⟩
  have loop : codeAny (model X.prog X.w) X.A (.compLoop (.DictComp kx vx [⟨tg, iter, ifs, 0⟩] scope pos) 0 (.ref it) (.ref D) ce) (compPost (model X.prog X.w) X.A X.xe use Qf (.ref D) s3.heap.objs.size) s4 := by
    refine compLoop_anyD (fun n t => ∃ i H', Inv (X.blk s3 H3 scope ce fp) [] (wipe σ (own.map (·.2))) H' t ∧ tn i t.heap ∧ (∀ b ∈ fp, H' b = none) ∧ W i n H') ?_ m0 ⟨0, H3, I4, st4, nfp, w0⟩
    rintro n s5 ⟨i, H5, I5, st5, n5, w5⟩
    rcases turn i n H5 w5 with ⟨stop, qq⟩ | ⟨go, Nx, hNx, step⟩
    · refine thnF (T.done (X.blk s3 H3 scope ce fp) rfl rfl rfl hc i [] s5 _ H5 (fun _ _ => False) I5 (stat I5 n5) st5 stop) fun r s6 ⟨hr, I6⟩ => ?_
      subst hr
      have I7 : Inv X pins σ H5 s6 := I3.call' (ch := fp) I6.os I6.base I6.hok I6.bare fun b hb => ⟨(f3 b hb).1.2.2.2.1, (f3 b hb).1.2.1, (f3 b hb).1.2.2.2.2.1, (f3 b hb).1.2.2.2.2.2⟩
      have nC : H5 s3.heap.objs.size = none := by rw [← cL]; exact I6.free
      obtain ⟨m, hn, _⟩ := I6.loc
      refine hRR D s3.heap.objs.size s6 m H5 I7 qq ?_ (I3.fpOk (Nat.le_refl _) nC)
      rw [← cL]
      exact hn
    · refine thnF (T.item (X.blk s3 H3 scope ce fp) rfl rfl rfl hc i [] s5 _ H5 (fun _ _ => False) I5 (stat I5 n5) st5 go) fun r s6 ⟨u, hr, h6⟩ => ?_
      subst hr
      refine thnF h6 fun _ s7 ⟨x, H7, I7, r7, y7, st7, n7⟩ => ?_
      have I7' := I7.pinned (stat I7 n7) (T.obj _ _ st7)
      refine thnF (pg.run _ s7 _ H7 x u _ I7' r7 (step x H7 y7)) fun _ s8 ⟨σ8, H8, I8, hw8, q8⟩ => ?_
      refine thnF (pt.run _ s8 σ8 H8 _ I8 q8) fun b s9 ⟨H9, I9, q9⟩ => ?_
      have fin : ∀ {t : Shared} {H' : Hp}, Inv (X.blk s3 H3 scope ce fp) ([] ++ pinsAt fp s7.heap) σ8 H' t → Nx H' → ∃ m, m < n ∧ ∃ i H', Inv (X.blk s3 H3 scope ce fp) [] (wipe σ (own.map (·.2))) H' t ∧ tn i t.heap ∧ (∀ b ∈ fp, H' b = none) ∧ W i m H' := fun {t H'} I' nx => by
        obtain ⟨m', hm, w'⟩ := hNx H' nx
        have pin' : ∀ b ∈ fp, ∀ o, s7.heap.get? b = some o → t.heap.get? b = some o ∧ H' b = none := fun b hb o e => (I'.pin (b, o) (List.mem_append_right _ (List.mem_append_right _ (mem_pinsAt hb e)))).imp id And.left
        have hl : (wipe σ (own.map (·.2))).length = σ8.length := by rw [← hw8, wipe_length]
        refine ⟨m', hm, i + 1, H', (I'.unpinned (pins := [])).weak hl (fun j v e => ?_), T.keep _ _ _ st7 fun b hb o e => (pin' b hb o e).1, fun b hb => ?_, w'⟩
        · rw [← hw8] at e
          exact (wipe_some e).1
        · exact (T.obj _ _ st7 b hb).elim fun o e => (pin' b hb o e.1).2
      cases b with
      | false =>
        simp only [Bool.false_eq_true, if_false] at q9 ⊢
        exact fin I9 q9
      | true =>
        simp only [if_true] at q9 ⊢
        refine thnF (pk.run _ s9 σ8 H9 _ I9 q9) fun z s10 ⟨yk, H10, I10, r10, q10⟩ => ?_
        refine thnF (pe.run _ s10 σ8 H10 _ I10 q10) fun z2 s11 ⟨yv, H11, I11, r11, H12, dp, nx⟩ => ?_
        exact put_comp (X := X.blk s3 H3 scope ce fp) hu I11 dp r10 r11 fun s12 I12 => fin I12 nx
  exact codeAny_compStart_dict loop (T.self X.A 0 _ _ _ st4 loop)
theorem pe_dp {kx vx tg iter : Expr} {ifs : List Expr} {scope : Scope} {own : List (Str × Nat)} {pos : Pos} {O : HO} {wi : TI} {g : TG} {tt : TT} {tk tv : TE} (hO : IsNil O) (hu : X.A.units < cLine) (hc : X.calm = true) (hN : X.N.Nodup) (hi : PI X tg iter wi) (ok : BlkOk X.N X.env.scope scope own)
    (hg : ∀ (s : Shared) (H : Hp) (C : Addr) (cl : List (Str × Addr)) (fp : List Addr), PG (X.blk s H scope (compEnvC scope cl C X.env) fp) tg g) (ht : ∀ (s : Shared) (H : Hp) (C : Addr) (cl : List (Str × Addr)) (fp : List Addr), PTs (X.blk s H scope (compEnvC scope cl C X.env) fp) ifs tt)
    (hk : ∀ (s : Shared) (H : Hp) (C : Addr) (cl : List (Str × Addr)) (fp : List Addr), PE (X.blk s H scope (compEnvC scope cl C X.env) fp) kx tk)
    (he : ∀ (s : Shared) (H : Hp) (C : Addr) (cl : List (Str × Addr)) (fp : List Addr), PE (X.blk s H scope (compEnvC scope cl C X.env) fp) vx tv) (hs : ∀ x, foldedSetIterable iter X.env x = pure x := by intro _; rfl) :
    PE X (.DictComp kx vx [⟨tg, iter, ifs, 0⟩] scope pos) (tDp O wi g tt tk tv (own.map (·.2))) := by
  constructor
  intro pins s σ H Q I h
  rw [arm_eval_DictComp]
  refine dp_core hO hu hc hN I hi ok hg ht hk he hs h fun D C t m H' I' q hn f => ⟨m, hn, fun h2 sb => ?_⟩
  exact ⟨.ref D, H', I'.turned (t' := t.toks) (fun b o hb e => (sb.2 b hb).trans e) f.1 f.2.1 f.2.2.2.1 f.2.2.2.2.1 f.2.2.2.2.2, rfl, q⟩
theorem ps_setDp {i : Nat} {y : Str} {py : Pos} {kx vx tg iter : Expr} {ifs : List Expr} {scope : Scope} {own : List (Str × Nat)} {pos spos : Pos} {O : HO} {wi : TI} {g : TG} {tt : TT} {tk tv : TE} (hO : IsNil O) (hu : X.A.units < cLine) (hc : X.calm = true) (hN : X.N.Nodup) (hy : X.N[i]? = some y) (hyl : X.env.scope.names.lookup y = some .local)
    (hsw : swapsWith (.DictComp kx vx [⟨tg, iter, ifs, 0⟩] scope pos) (some (.Name y py)) spos.line X.env = pure true) (hi : PI X tg iter wi) (ok : BlkOk X.N X.env.scope scope own)
    (hg : ∀ (s : Shared) (H : Hp) (C : Addr) (cl : List (Str × Addr)) (fp : List Addr), PG (X.blk s H scope (compEnvC scope cl C X.env) fp) tg g) (ht : ∀ (s : Shared) (H : Hp) (C : Addr) (cl : List (Str × Addr)) (fp : List Addr), PTs (X.blk s H scope (compEnvC scope cl C X.env) fp) ifs tt)
    (hk : ∀ (s : Shared) (H : Hp) (C : Addr) (cl : List (Str × Addr)) (fp : List Addr), PE (X.blk s H scope (compEnvC scope cl C X.env) fp) kx tk)
    (he : ∀ (s : Shared) (H : Hp) (C : Addr) (cl : List (Str × Addr)) (fp : List Addr), PE (X.blk s H scope (compEnvC scope cl C X.env) fp) vx tv) (hs : ∀ x, foldedSetIterable iter X.env x = pure x := by intro _; rfl) :
    PS X (.Assign [.Name y py] (.DictComp kx vx [⟨tg, iter, ifs, 0⟩] scope pos) spos) (tAsg (tDp O wi g tt tk tv (own.map (·.2))) (gName i)) := by
  constructor
  intro pins s σ H D I h
  rw [exec_Assign_Name_used _ _ _ _ hsw]
  refine wpAny_bind (wpAny_standAt (wpAny_bind ?_))
  show wpAny _ X.A (do let _ ← comprehension (.DictComp kx vx [⟨tg, iter, ifs, 0⟩] scope pos) scope X.env (firstIterPos [⟨tg, iter, ifs, 0⟩] pos) newDict false (eval iter X.env) (some (assign (.Name y py) X.env))) _ _ s
  have h : tDp O wi g tt tk tv (own.map (·.2)) σ H (fun x H1 => gName i x σ H1 D.nx) := h
  refine wpAny_bind (thn (dp_core (Qf := fun _ t => SP X pins D .next t) hO hu hc hN I hi ok hg ht hk he hs h fun L C t m H' I' q hn f => ?_) fun _ t hq => wpAny_pure (wpAny_pure hq))
  show wpAny _ _ (assign (.Name y py) X.env (.ref L)) _ _ _
  refine wpAny_assign_Name (store_ok2 (v := V.ref L) I' hN hy (.inl hyl) rfl (fun s2 I2 ⟨a, sb, ha⟩ => ?_) (.inr hyl))
  have haC : C ≠ a := by
    rcases ha with z | z
    · rw [z]
      exact f.2.1
    · exact fun e => f.2.2.2.2.1 y a z e.symm
  refine ⟨m, hn.sameBut sb haC, fun h3 sb3 => ⟨_, H', I2.turned (t' := s2.toks) (fun b o hb e => (sb3.2 b hb).trans e) f.1 f.2.1 f.2.2.2.1 f.2.2.2.2.1 f.2.2.2.2.2, q⟩⟩
theorem sw_trueD {kx vx : Expr} {gs : List Comprehension} {scope : Scope} {pos py : Pos} {y : Str} {l : Nat} {env : Env} (hk : env.scope.kind = .function) (hy : env.scope.names.lookup y = some .local) (hl : (py.line == pos.line) = true)
    (ha : (scope.names.any fun (n, k) => n == y && (k == .local || k == .cell)) = false) : swapsWith (.DictComp kx vx gs scope pos) (some (.Name y py)) l env = pure true := by
  have ky : env.kindOf y = some .local := hy
  have hb : env.blockKind = .function := by
    unfold Env.blockKind
    rw [hk]
    rfl
  unfold swapsWith
  simp only [hb, ky, ha, Expr.pos, hl]
  rfl
end
end KX
end
section
set_option Elab.async false
set_option linter.all false
set_option maxRecDepth 100000
set_option maxHeartbeats 4000000
/-! KX7: rules whose readings name K; enumerate(text); list(text); the list of draws, seen as one thing that stays. -/
namespace KX
open PySem PySem.Spec PyProof.Rows L2

section
variable {X : Cx} {K : PySem.W.Frag}
theorem ixT (hK : X.K = K := by rfl) : IxR X (rIxT K) := hK ▸ ix_tup
theorem ixL (hK : X.K = K := by rfl) : IxR X (rIxL K) := hK ▸ ix_list
def rTupOf (K : PySem.W.Frag) : List V → Hp → VK → Prop := fun xs H Q => ∃ p ys, xs = [.ref p] ∧ ((SqL K H p ys ∧ ∀ l, H l = none → Q (.ref l) (upd H l (.tup ys))) ∨ (SqT K H p ys ∧ Q (.ref p) H))
theorem cTup (hK : X.K = K := by rfl) : CallR X (.type "tuple") (rTupOf K) := hK ▸ call_tuple_of
theorem cList (hK : X.K = K := by rfl) : CallR X (.type "list") (Evl.rListS K) := hK ▸ call_list_of
theorem cLenS (hK : X.K = K := by rfl) : CallR X (.builtin "len") (Evl.rLenS K) := hK ▸ call_len_seq
theorem cIsi (hK : X.K = K := by rfl) : CallR X (.builtin "isinstance") (rIsi K) := hK ▸ call_isi
theorem cIsiT (hK : X.K = K := by rfl) : CallR X (.builtin "isinstance") (rIsiT K) := hK ▸ call_isiT
theorem oInS (hK : X.K = K := by rfl) : OpR X (compareOp .In) (rIn K false) := hK ▸ op_in_seq
theorem oNiS (hK : X.K = K := by rfl) : OpR X (compareOp .NotIn) (rIn K true) := hK ▸ op_notIn_seq

theorem pe_fldK {e : Expr} {ta : TE} {f : Str} {pos : Pos} (he : PE X e ta) (hb : attributeBase e f X.env (eval e X.env) = eval e X.env) (hK : X.K = K := by rfl) : PE X (.Attribute e f pos) (tFld K ta f) := by
  subst hK
  exact pe_fld he hb
theorem m2 {o e f : Expr} {m : Str} {apos cpos : Pos} (h1 : attributeBase o m X.env (eval o X.env) = eval o X.env := by rfl)
    (h2 : ((backTo cpos (starEach [e, f] X.env)).all (fun x => !x.1) && (backToKw cpos (keywordEach [] X.env)).all (fun x => x.1.isSome) && decide (([e, f] : List Expr).length + ([] : List Keyword).length + (if ([] : List Keyword).isEmpty then 0 else 1) < 30)) = true := by rfl)
    (h3 : (apos.endLine == cpos.line) = true := by rfl) (h4 : backTo cpos (starEach [e, f] X.env) = [(false, eval e X.env), (false, eval f X.env)] := by rfl) : M2 X o m apos e f cpos := ⟨h1, h2, h3, h4⟩

/-! ### list(text) -/
def rListT : List V → Hp → VK → Prop := fun vs H Q => ∃ z : Str, vs = [.str z] ∧ z.length ≤ sizeLine ∧ ∀ p, H p = none → Q (.ref p) (upd H p (.lst (z.cps.toList.map fun c => .str ⟨#[c]⟩)))
theorem cListT (hc : X.calm = true) : CallR X (.type "list") rListT := by
  intro pins s σ H vs us Q I r h
  obtain ⟨z, rfl, hz, q⟩ := h
  obtain ⟨u, rfl, t, rfl⟩ := r.one
  refine call_list_str (I.ok.hd hc) z t (fun h' tk acc c k e it => ?_) hz
  have hv : Vals (z.cps.toList.map fun c => V.str ⟨#[c]⟩) acc.toList := by
    have all : ∀ (cs : List Nat) (us : List Value), us.length = cs.length → (∀ (j : Nat) (v : Value), us[j]? = some v → ∃ c t, cs[j]? = some c ∧ v = Value.str ⟨#[c]⟩ t) → Vals (cs.map fun c => V.str ⟨#[c]⟩) us := by
      intro cs
      induction cs with
      | nil =>
        intro us hl _
        cases us with
        | nil => exact .nil
        | cons _ _ => simp at hl
      | cons c cs ih =>
        intro us hl g
        cases us with
        | nil => simp at hl
        | cons u us =>
          obtain ⟨c', t', e1, e2⟩ := g 0 u rfl
          obtain rfl : c = c' := Option.some.inj e1
          refine .cons ⟨t', e2⟩ (ih us (by simpa using hl) fun j v ej => ?_)
          have := g (j + 1) v (by simpa using ej)
          simpa using this
    refine all _ _ (by rw [Array.length_toList, Array.length_toList]; exact it.1) fun j v ej => ?_
    obtain ⟨c', t', e1, e2⟩ := it.2 j v (by rw [← Array.getElem?_toList]; exact ej)
    exact ⟨c', t', by rw [Array.getElem?_toList]; exact e1, e2⟩
  have hlen : (z.cps.toList.map fun c => V.str ⟨#[c]⟩).length ≤ sizeLine := by
    rw [List.length_map, Array.length_toList]
    exact hz
  exact ⟨.ref s.heap.objs.size, _, I.laid (t' := tk) (o := .lst (z.cps.toList.map fun c => V.str ⟨#[c]⟩)) k (Nat.le_refl _) ⟨hlen, acc.toList, c, hv, by rw [Array.toArray_toList]; exact e⟩, rfl, q _ (I.hok.fresh (Nat.le_refl _))⟩
end

/-! ### enumerate(text) -/
/-- the signs of a text in new pairs with their places -/
def Jes (x : Str) : It := ⟨fun i _ => i < x.cps.size, fun i H v H' => ∃ T c, v = .ref T ∧ H T = none ∧ H' = upd H T (.tup [.int (i : Nat), .str ⟨#[c]⟩]) ∧ x.cps[i]? = some c, fun i _ => i = x.cps.size⟩
theorem turn_enumS {P : Program} {w : World} {K : PySem.W.Frag} {elts : List Expr} {kk : Nat} {tpos : Pos} (x : Str) (t : Tok) (e it : Addr) :
    Turn P w K (.Tuple elts kk tpos) (Jes x) [e, it] e (fun i h => (∃ old, IsEnum h e it ((i : Nat) : Int) old) ∧ h.IsStrIter it (strIterType x) x t i ∧ e ≠ it) where
  mem := by simp
  obj := fun i h st b hb => by
    obtain ⟨⟨old, he⟩, ⟨o, ho, hc, hd⟩, _⟩ := st
    rcases (show b = e ∨ b = it by simpa using hb) with z | z
    · rw [z]
      exact ⟨_, he, fun v q => nomatch q⟩
    · rw [z]
      exact ⟨o, ho, fun v q => by rw [hd] at q; cases q⟩
  keep := fun i h h' st k => by
    obtain ⟨⟨old, he⟩, ⟨o, ho, r⟩, hne⟩ := st
    exact ⟨⟨old, k e (by simp) _ he⟩, ⟨o, k it (by simp) o ho, r⟩, hne⟩
  item := by
    intro X hP hw hK hc i pins s σ H E I hf st hg
    subst hP hw hK
    obtain ⟨⟨old, he⟩, hit, hne⟩ := st
    have hel : e < s.heap.objs.size := Heap.lt_size he
    have hil : it < s.heap.objs.size := by
      obtain ⟨_, q, _⟩ := hit
      exact Heap.lt_size q
    refine wpAny_pyNext_enum_itemC (Draws.text (A := X.A.in1) (I.ok.hd hc) it x t) he hit hg hne (by simpa using hne) fun u h' tk hp ho hit' hT hsz hk => ?_
    obtain ⟨c, w', hx, rfl⟩ := hp
    refine ⟨_, rfl, wpAny_letOwnedTupleGo_enum (s := { s with heap := h', toks := tk + 1 }) ho fun h2 he2 sb => ?_⟩
    have hT2 : h2.get? s.heap.objs.size = some { cls := .type "tuple", data := .seq #[.int i tk, .str ⟨#[c]⟩ w'] } := (sb.2 _ (Nat.ne_of_gt hel)).trans hT
    have new : ObjOk X.prog X.w (upd H s.heap.objs.size (.tup [.int (i : Nat), .str ⟨#[c]⟩])) h2 s.heap.objs.size (.tup [.int (i : Nat), .str ⟨#[c]⟩]) :=
      ⟨by show 2 ≤ sizeLine; decide, [.int i tk, .str ⟨#[c]⟩ w'], .cons ⟨_, rfl⟩ (.cons ⟨_, rfl⟩ .nil), ⟨_, hT2, rfl, _, rfl⟩⟩
    have I1 : Inv X pins σ (upd H s.heap.objs.size (.tup [.int (i : Nat), .str ⟨#[c]⟩])) { s with heap := h2, toks := tk + 1 } :=
      I.turnedNew (ch := [e, it]) (fun b ob hb q => (sb.2 b (fun z => hb (by simp [z]))).trans (hk b ob (fun z => hb (by simp [z])) (fun z => hb (by simp [z])) q)) hf (Nat.le_refl _) new
    refine ⟨.ref s.heap.objs.size, _, I1, rfl, ⟨_, c, rfl, I.hok.fresh (Nat.le_refl _), rfl, hx⟩, ⟨⟨.str ⟨#[c]⟩ w', ?_⟩, ?_, hne⟩, fun b hb => ?_⟩
    · rw [show ((i + 1 : Nat) : Int) = (i : Int) + 1 by omega]
      exact he2
    · obtain ⟨o, g, r⟩ := hit'
      exact ⟨o, (sb.2 it (Ne.symm hne)).trans g, r⟩
    · have hb' : b < s.heap.objs.size := by
        rcases (show b = e ∨ b = it by simpa using hb) with z | z
        · rw [z]; exact hel
        · rw [z]; exact hil
      rw [upd_ne (Nat.ne_of_lt hb')]
      exact (hf b hb).1
  done := by
    intro X hP hw hK hc i pins s σ H E I hf st hg
    subst hP hw hK
    obtain ⟨⟨old, he⟩, hit, hne⟩ := st
    obtain ⟨f0, f1, f2, f3, f4, f5⟩ := hf it (by simp)
    obtain rfl : i = x.cps.size := hg
    exact wpAny_pyNext_enum_endD (Draws.text (A := X.A.in1) (I.ok.hd hc) it x t) he hit fun h' eb => ⟨rfl, I.turned (t' := s.toks) (fun b o hb q => eb b o hb q) f0 f1 f3 f4 f5⟩
  self := fun A i s Q E st h => let ⟨⟨_, he⟩, _⟩ := st; wpAny_pyIter_enum he h
def iEnumS (ta : TA) : TI := fun σ H R => ta σ H fun vs H1 => ∃ x, vs = [.str x] ∧ R (Jes x) H1
theorem pi_enumS {X : Cx} {e : Expr} {ta : TA} {p pos tpos : Pos} {elts : List Expr} {kk : Nat} (hg : Gl X "enumerate") (hm : X.mg "enumerate" = none) (ha : PA X [e] ta) (hs : starEach [e] X.env = [(false, eval e X.env)] := by rfl) :
    PI X (.Tuple elts kk tpos) (.Call (.Name "enumerate" p) [e] [] pos) (iEnumS ta) := by
  constructor
  intro pins s σ H R I h
  refine Call_ (ld_blt I hg hm boot_enumerate (PyProof.Rows.callWith_type1 (thn (ha.run pos pins s σ H _ I h) fun us s1 ⟨vs, H1, I1, r1, q1⟩ => ?_) hs rfl))
  obtain ⟨x, ex, q⟩ := q1
  subst ex
  obtain ⟨u, rfl, t, rfl⟩ := r1.one
  refine call_enumerate_str fun h' he hit hsz hk => wpAny_pyIter_enum he ?_
  have I2 : Inv X pins σ H1 { s1 with heap := h' } := I1.kept (t' := s1.toks) hk
  refine ⟨s1.heap.objs.size + 1, [s1.heap.objs.size + 1, s1.heap.objs.size], _, _, H1, rfl, I2, turn_enumS x t (s1.heap.objs.size + 1) s1.heap.objs.size, ⟨⟨.none, he⟩, hit, Nat.succ_ne_self _⟩, fun b hb => ?_, q⟩
  have hle : s1.heap.objs.size ≤ b := by
    rcases (show b = s1.heap.objs.size + 1 ∨ b = s1.heap.objs.size by simpa using hb) with z | z
    · rw [z]
      exact Nat.le_succ _
    · rw [z]
      exact Nat.le_refl _
  exact I1.fpOk hle (I1.hok.fresh hle)
theorem walk_enumS {x : Str} : Walk (Jes x) x.cps.size (fun _ => True) (fun i H v H' => ∃ T c, v = .ref T ∧ H T = none ∧ H' = upd H T (.tup [.int (i : Nat), .str ⟨#[c]⟩]) ∧ x.cps[i]? = some c) :=
  ⟨fun _ _ hi _ => hi, fun _ _ => rfl, fun _ _ _ _ _ _ y => y⟩

/-! ### the list of draws: [script, 0, how many were drawn] -/
/-- at d a list of the object at a, 0 and some number from 0 on -/
def drawn (d a : Addr) : HO := .ext fun h => ∃ (n : Nat) (i j : Tok) (c : Nat), h.get? d = some { cls := .type "list", data := .seq #[.ref a, .int 0 i, .int n j] c }
theorem drawn_ok {P : Program} {w : World} {H : Hp} {h : Heap} {d a : Addr} {n : Nat} (x : ObjOk P w H h d (.lst [.ref a, .int 0, .int n])) : ObjOk P w H h d (drawn d a) := by
  obtain ⟨_, its, c, r, e⟩ := x
  cases r with
  | cons r1 r =>
    cases r with
    | cons r2 r =>
      cases r with
      | cons r3 r =>
        cases r
        cases r1
        obtain ⟨i, rfl⟩ := r2
        obtain ⟨j, rfl⟩ := r3
        exact ⟨⟨n, i, j, c, e⟩, ⟨_, e⟩, fun h1 h2 ⟨n', i', j', c', e'⟩ k => ⟨n', i', j', c', k _ e'⟩⟩
section
variable {X : Cx}
/-- a block that works on the draws as a list, and leaves them as draws -/
def tDraw (t : TS) : TS := fun D σ H => ∃ d a, H d = some (drawn d a) ∧ ∀ n : Nat, t { nx := fun σ' H' => ∃ m : Nat, H' d = some (.lst [.ref a, .int 0, .int m]) ∧ D.nx σ' (upd H' d (drawn d a)), rt := fun v H' => ∃ m : Nat, H' d = some (.lst [.ref a, .int 0, .int m]) ∧ D.rt v (upd H' d (drawn d a)) } σ (upd H d (.lst [.ref a, .int 0, .int n]))
theorem pss_draw {body : List Stmt} {t : TS} (h : PSs X body t) : PSs X body (tDraw t) := by
  constructor
  intro pins s σ H D I q
  obtain ⟨d, a, hd, q⟩ := q
  obtain ⟨⟨n, i, j, c, e⟩, _, _⟩ := (show ObjOk X.prog X.w H s.heap d (drawn d a) from I.hok d _ hd)
  have back : ∀ {σ' : L2.St} {H' : Hp} {t : Shared} {m : Nat}, Inv X pins σ' H' t → H' d = some (.lst [.ref a, .int 0, .int m]) → Inv X pins σ' (upd H' d (drawn d a)) t := fun {σ' H' t m} I' e' => by
    have x := I'.hok d _ e'
    obtain ⟨_, its, c', _, g⟩ := id x
    exact I'.write (t' := t.toks) (e := d) (by rw [e']; trivial) (.inl rfl) (fun _ _ _ z => z) ⟨_, g⟩ (drawn_ok (n := m) x)
  have I2 : Inv X pins σ (upd H d (.lst [.ref a, .int 0, .int n])) s :=
    I.write (t' := s.toks) (e := d) (by rw [hd]; trivial) (.inl rfl) (fun _ _ _ z => z) ⟨_, e⟩ ⟨by show 3 ≤ sizeLine; decide, [.ref a, .int 0 i, .int n j], c, .cons rfl (.cons ⟨_, rfl⟩ (.cons ⟨_, rfl⟩ .nil)), e⟩
  refine thn (h.run pins s σ _ _ I2 (q n)) fun f s1 z => ?_
  cases f with
  | next =>
    obtain ⟨σ', H', I', m, e', g⟩ := z
    exact ⟨σ', _, back I' e', g⟩
  | ret u =>
    obtain ⟨v, σ', H', I', r, m, e', g⟩ := z
    exact ⟨v, σ', _, back I' e', r, g⟩
  | brk =>
    obtain ⟨_, _, _, g⟩ := z
    exact g.elim
  | cont =>
    obtain ⟨_, _, _, g⟩ := z
    exact g.elim
end
end KX
namespace KX
open PySem PySem.Spec PyProof.Rows L2
theorem hu8_of {A : Around} {k : Nat} (hr : Room k A) : A.units + 8 < cLine := Nat.lt_of_le_of_lt (Nat.add_le_add_left (by decide : 8 ≤ 64) _) hr.units
theorem hu50_of {A : Around} {k : Nat} (hr : Room k A) : A.units + 50 < cLine := Nat.lt_of_le_of_lt (Nat.add_le_add_left (by decide : 50 ≤ 64) _) hr.units
end KX
end
section
set_option Elab.async false
set_option linter.all false
set_option maxRecDepth 100000
set_option maxHeartbeats 4000000
/-! KX8: readings that give some value with what holds of it; comprehensions and loops over whatever is walked. -/
namespace KX
open PySem PySem.Spec PyProof.Rows L2 Evl

/-! ### heaps that tell more -/
def isF : HO → Bool
  | .frz _ _ => true
  | _ => false
def isLst : HO → Bool
  | .lst _ => true
  | _ => false
def isDk : HO → Bool
  | .dK _ => true
  | _ => false
def isDt : HO → Bool
  | .dT _ => true
  | _ => false
def keepB : HO → Bool
  | .dK _ => false
  | .dT _ => false
  | .frz _ _ => false
  | _ => true
/-- all that is read stays so, dicts perhaps locked or unlocked -/
structure Le (H H' : Hp) : Prop where
  rd : ∀ a u, isF u = false → Rd H a u → Rd H' a u
  st : ∀ a o, keepB o = true → H a = some o → H' a = some o
theorem Le.refl (H : Hp) : Le H H := ⟨fun _ _ _ h => h, fun _ _ _ h => h⟩
theorem Le.trans {H H1 H2 : Hp} (a : Le H H1) (b : Le H1 H2) : Le H H2 := ⟨fun x u f h => b.rd x u f (a.rd x u f h), fun x o k h => b.st x o k (a.st x o k h)⟩
theorem Le.ex {H H' : Hp} (e : Ex H H') : Le H H' := ⟨fun _ _ _ h => ex_rd e h, fun a o _ h => e a o h⟩
theorem Le.lock {H : Hp} {d : Addr} {u : HO} {od : Obj} (h : H d = some u) (hk : keepB u = false) (hf : isF u = false) : Le H (upd H d (.frz od u)) := by
  refine ⟨fun a v f q => ?_, fun a o k q => ?_⟩
  · by_cases e : a = d
    · subst e
      rcases q with q | ⟨o, q⟩
      · rw [h] at q
        cases q
        exact .inr ⟨od, upd_same⟩
      · rw [h] at q
        cases q
        cases hf
    · rcases q with q | ⟨o, q⟩
      · exact .inl (by rw [upd_ne e]; exact q)
      · exact .inr ⟨o, by rw [upd_ne e]; exact q⟩
  · have e : a ≠ d := fun e => by
      subst e
      rw [h] at q
      cases q
      rw [hk] at k
      cases k
    rw [upd_ne e]
    exact q
theorem Le.unlock {H : Hp} {d : Addr} {u : HO} {od : Obj} (h : H d = some (.frz od u)) : Le H (upd H d u) := by
  refine ⟨fun a v f q => ?_, fun a o k q => ?_⟩
  · by_cases e : a = d
    · subst e
      rcases q with q | ⟨o, q⟩
      · rw [h] at q
        cases q
        cases f
      · rw [h] at q
        cases q
        exact .inl upd_same
    · rcases q with q | ⟨o, q⟩
      · exact .inl (by rw [upd_ne e]; exact q)
      · exact .inr ⟨o, by rw [upd_ne e]; exact q⟩
  · have e : a ≠ d := fun e => by
      subst e
      rw [h] at q
      cases q
      cases k
    rw [upd_ne e]
    exact q
theorem Le.sqL {K : PySem.W.Frag} {H H' : Hp} {a : Addr} {xs : List V} (e : Le H H') (h : SqL K H a xs) : SqL K H' a xs := h.imp (e.rd _ _ rfl) id
theorem Le.sqT {K : PySem.W.Frag} {H H' : Hp} {a : Addr} {xs : List V} (e : Le H H') (h : SqT K H a xs) : SqT K H' a xs := h.imp (e.rd _ _ rfl) id
theorem ex_unlock {H H1 : Hp} {d : Addr} {u : HO} {od : Obj} (h : H d = some u) (e : Ex (upd H d (.frz od u)) H1) : Ex H (upd H1 d u) := fun a o q => by
  by_cases z : a = d
  · subst z
    rw [h] at q
    cases q
    exact upd_same
  · rw [upd_ne z]
    exact e a o (by rw [upd_ne z]; exact q)

/-! ### what is said of a heap, and stays -/
/-- it stays in all that tells more, and where a thing of a kind is changed -/
structure Stab (kind : HO → Bool) (P : Hp → Prop) : Prop where
  le : ∀ H H', Ex H H' → P H → P H'
  up : ∀ H D o o', kind o = true → kind o' = true → H D = some o → P H → P (upd H D o')
theorem stab_pure {kind : HO → Bool} {p : Prop} : Stab kind (fun _ => p) := ⟨fun _ _ _ h => h, fun _ _ _ _ _ _ _ h => h⟩
theorem stab_and {kind : HO → Bool} {P Q : Hp → Prop} (a : Stab kind P) (b : Stab kind Q) : Stab kind (fun H => P H ∧ Q H) := ⟨fun H H' e h => ⟨a.le H H' e h.1, b.le H H' e h.2⟩, fun H D o o' k k' e h => ⟨a.up H D o o' k k' e h.1, b.up H D o o' k k' e h.2⟩⟩
theorem stab_ex {kind : HO → Bool} {α : Type} {P : α → Hp → Prop} (a : ∀ x, Stab kind (P x)) : Stab kind (fun H => ∃ x, P x H) := ⟨fun H H' e ⟨x, h⟩ => ⟨x, (a x).le H H' e h⟩, fun H D o o' k k' e ⟨x, h⟩ => ⟨x, (a x).up H D o o' k k' e h⟩⟩
theorem stab_all {kind : HO → Bool} {α : Type} {P : α → Hp → Prop} (a : ∀ x, Stab kind (P x)) : Stab kind (fun H => ∀ x, P x H) := ⟨fun H H' e h x => (a x).le H H' e (h x), fun H D o o' k k' e h x => (a x).up H D o o' k k' e (h x)⟩
theorem stab_imp {kind : HO → Bool} {p : Prop} {P : Hp → Prop} (a : p → Stab kind P) : Stab kind (fun H => p → P H) := ⟨fun H H' e h x => (a x).le H H' e (h x), fun H D o o' k k' e h x => (a x).up H D o o' k k' e (h x)⟩
theorem stab_at {kind : HO → Bool} {a : Addr} {o : HO} (hk : keepB o = true) (hn : kind o = false) : Stab kind (fun H => H a = some o) := ⟨fun H H' e h => e a o h, fun H D u u' k _ e h => by
  rw [upd_ne (show a ≠ D from fun z => by
    subst z
    rw [h] at e
    cases e
    rw [hn] at k
    cases k)]
  exact h⟩
theorem stab_rd {kind : HO → Bool} {a : Addr} {o : HO} (hf : isF o = false) (hn : kind o = false) (hz : ∀ ob u, kind (.frz ob u) = false) : Stab kind (fun H => Rd H a o) := ⟨fun H H' e h => ex_rd e h, fun H D u u' k _ e h => by
  have ne : a ≠ D := fun z => by
    subst z
    rcases h with h | ⟨ob, h⟩
    · rw [h] at e
      cases e
      rw [hn] at k
      cases k
    · rw [h] at e
      cases e
      rw [hz] at k
      cases k
  rcases h with h | ⟨ob, h⟩
  · exact .inl (by rw [upd_ne ne]; exact h)
  · exact .inr ⟨ob, by rw [upd_ne ne]; exact h⟩⟩

/-! ### readings that give some value -/
def EvP (te : TE) (σ : L2.St) (H : Hp) (P : V → Hp → Prop) : Prop := ∀ H1, Ex H H1 → ∀ Q : VK, (∀ v H2, Ex H1 H2 → P v H2 → Q v H2) → te σ H1 Q
/-- a new thing -/
def New (te : TE) (σ : L2.St) (H : Hp) (P : HO → Hp → Prop) : Prop := ∀ H1, Ex H H1 → ∀ Q : VK, (∀ p o H2, H1 p = none → Ex H1 H2 → H2 p = some o → P o H2 → Q (.ref p) H2) → te σ H1 Q
section
variable {K : PySem.W.Frag} {σ : L2.St} {H H' : Hp} {te ta tb : TE} {v : V} {P P' : V → Hp → Prop} {N N' : HO → Hp → Prop}
theorem EvP.mono (e : Ex H H') (h : EvP te σ H P) : EvP te σ H' P := fun H1 a Q q => h H1 (e.trans a) Q q
theorem New.mono (e : Ex H H') (h : New te σ H N) : New te σ H' N := fun H1 a Q q => h H1 (e.trans a) Q q
theorem EvP.imp (h : EvP te σ H P) (f : ∀ v H2, Ex H H2 → P v H2 → P' v H2) : EvP te σ H P' := fun H1 e Q q => h H1 e Q fun v H2 e2 p => q v H2 e2 (f v H2 (e.trans e2) p)
theorem New.imp (h : New te σ H N) (f : ∀ o H2, Ex H H2 → N o H2 → N' o H2) : New te σ H N' := fun H1 e Q q => h H1 e Q fun p o H2 e1 e2 e3 n => q p o H2 e1 e2 e3 (f o H2 (e.trans e2) n)
theorem EvP.of (h : Ev te σ H v) : EvP te σ H (fun x _ => x = v) := fun H1 e Q q => h H1 e Q fun H2 e2 => q v H2 e2 rfl
theorem Ev.of (h : EvP te σ H (fun x _ => x = v)) : Ev te σ H v := fun H1 e Q q => h H1 e Q fun x H2 e2 p => by
  rw [p]
  exact q H2 e2
theorem New.evP (h : New te σ H N) : EvP te σ H (fun v H2 => ∃ p o, v = .ref p ∧ H2 p = some o ∧ N o H2) := fun H1 e Q q => h H1 e Q fun p o H2 _ e2 e3 n => q _ H2 e2 ⟨p, o, rfl, e3, n⟩
theorem New.ofL {xs : List V} (h : EvL te σ H xs) : New te σ H (fun o _ => o = .lst xs) := fun H1 e Q q => h H1 e Q fun p H2 e1 e2 e3 => q p _ H2 e1 e2 e3 rfl
theorem New.ofU {xs : List V} (h : EvU te σ H xs) : New te σ H (fun o _ => o = .tup xs) := fun H1 e Q q => h H1 e Q fun p H2 e1 e2 e3 => q p _ H2 e1 e2 e3 rfl
theorem New.toL {xs : List V} (h : New te σ H (fun o _ => o = .lst xs)) : EvL te σ H xs := fun H1 e Q q => h H1 e Q fun p o H2 e1 e2 e3 n => q p H2 e1 e2 (by rw [e3, n])
/-- arguments -/
def EvPA (ta : TA) (σ : L2.St) (H : Hp) (P : List V → Hp → Prop) : Prop := ∀ H1, Ex H H1 → ∀ Q : List V → Hp → Prop, (∀ vs H2, Ex H1 H2 → P vs H2 → Q vs H2) → ta σ H1 Q
theorem pa0 : EvPA tNil σ H (fun vs _ => vs = []) := fun H1 _ _ q => q _ H1 (Ex.refl H1) rfl
theorem pa1 {tr : TA} {Pr : List V → Hp → Prop} (hP : ∀ v H H', Ex H H' → P v H → P v H') (h : EvP te σ H P) (hr : EvPA tr σ H Pr) : EvPA (tCons te tr) σ H (fun vs H2 => ∃ v r, vs = v :: r ∧ P v H2 ∧ Pr r H2) := fun H1 e Q q =>
  h H1 e _ fun v H2 e2 p => hr H2 (e.trans e2) _ fun r H3 e3 pr => q _ H3 (e2.trans e3) ⟨v, r, rfl, hP v H2 H3 e3 p, pr⟩
theorem new_tup {ta : TA} {Pa : List V → Hp → Prop} (h : EvPA ta σ H Pa) (hz : ∀ vs H2, Pa vs H2 → vs.length ≤ 1000) (hP : ∀ vs H H', Ex H H' → Pa vs H → Pa vs H') : New (tTup ta) σ H (fun o H2 => ∃ vs, o = .tup vs ∧ Pa vs H2) := fun H1 e Q q =>
  h H1 e _ fun vs H2 e2 p => ⟨sz_of (Nat.le_trans (hz vs H2 p) (by decide)), fun l hl => q l _ _ (fresh_back e2 hl) (e2.trans (Ex.new hl)) upd_same ⟨vs, rfl, hP vs H2 _ (Ex.new hl) p⟩⟩
/-- the call of a def whose promise gives some value -/
def SpP (sp : Sp) (vs : List V) (H : Hp) (P : V → Hp → Prop) : Prop := ∀ H1, Ex H H1 → ∀ Q : VK, (∀ v H2, Ex H1 H2 → P v H2 → Q v H2) → ∀ E : XK, sp vs H1 Q E
theorem call_P {sp : Sp} {E : XK} {ta : TA} {Pa : List V → Hp → Prop} (h : EvPA ta σ H Pa) (hs : ∀ vs H1, Ex H H1 → Pa vs H1 → SpP sp vs H1 P) : EvP (tCall sp [] E ta) σ H P := fun H1 e Q q =>
  h H1 e _ fun vs H2 e2 p => by
    rw [List.append_nil]
    exact hs vs H2 (e.trans e2) p H2 (Ex.refl H2) Q (fun v H3 e3 pv => q v H3 (e2.trans e3) pv) E
end

/-! ### what is walked -/
/-- walking gives n things, the i-th as told by It; the heap stays -/
def Src (wi : TI) (σ : L2.St) (H : Hp) (n : Nat) (It : Nat → V → Hp → Prop) : Prop := ∀ H1, Ex H H1 → ∀ R : L2.It → Hp → Prop,
  (∀ J G H2, Ex H1 H2 → G H2 → (∀ H3 H4, Ex H3 H4 → G H3 → G H4) → (∀ H3 D o o', D = D → H2 D = none → G H3 → H3 D = some o → G (upd H3 D o')) → Walk J n G (fun i H x H' => H' = H ∧ It i x H) → R J H2) → wi σ H1 R
section
variable {K : PySem.W.Frag} {σ : L2.St} {H : Hp}
theorem src_list {tl : TE} {a : Addr} {xs : List V} (h : Ev tl σ H (.ref a)) (hx : SqL K H a xs) : Src (iList K tl) σ H xs.length (fun i x _ => xs[i]? = some x) := fun H1 e R r =>
  h H1 e _ fun H2 e2 => ⟨a, rfl, ⟨xs, ex_l (e.trans e2) hx⟩, r _ (fun H => SqL K H a xs) H2 e2 (ex_l (e.trans e2) hx) (fun _ _ => ex_l) (fun H3 D o o' _ hD g q => by
    have ne : ∀ u, Rd H2 a u → a ≠ D := fun u z w => by
      subst w
      rcases z with z | ⟨_, z⟩ <;> rw [hD] at z <;> cases z
    rcases g with g | g
    · rcases ex_l (e.trans e2) hx with z | z
      · have n := ne _ z
        rcases g with g | ⟨ob, g⟩
        · exact .inl (.inl (by rw [upd_ne n]; exact g))
        · exact .inl (.inr ⟨ob, by rw [upd_ne n]; exact g⟩)
      · exact .inr z
    · exact .inr g) walk_list⟩
theorem src_tup {tl : TE} {a : Addr} {xs : List V} (h : Ev tl σ H (.ref a)) (hx : SqT K H a xs) : Src (iTup K tl) σ H xs.length (fun i x _ => xs[i]? = some x) := fun H1 e R r =>
  h H1 e _ fun H2 e2 => ⟨a, rfl, ⟨xs, ex_t (e.trans e2) hx⟩, r _ (fun H => SqT K H a xs) H2 e2 (ex_t (e.trans e2) hx) (fun _ _ => ex_t) (fun H3 D o o' _ hD g q => by
    have ne : ∀ u, Rd H2 a u → a ≠ D := fun u z w => by
      subst w
      rcases z with z | ⟨_, z⟩ <;> rw [hD] at z <;> cases z
    rcases g with g | g
    · rcases ex_t (e.trans e2) hx with z | z
      · have n := ne _ z
        rcases g with g | ⟨ob, g⟩
        · exact .inl (.inl (by rw [upd_ne n]; exact g))
        · exact .inl (.inr ⟨ob, by rw [upd_ne n]; exact g⟩)
      · exact .inr z
    · exact .inr g) walk_tup⟩
theorem src_newL {tl : TE} {P : List V → Hp → Prop} {n : Nat} (h : New tl σ H (fun o H2 => ∃ xs, o = .lst xs ∧ xs.length = n ∧ P xs H2)) {It : Nat → V → Hp → Prop} (hI : ∀ xs H2 H3 i x, P xs H2 → xs[i]? = some x → It i x H3) : Src (iList K tl) σ H n It := fun H1 e R r =>
  h H1 e _ fun a o H2 e1 e2 e3 ⟨xs, eo, hl, p⟩ => by
    subst eo hl
    refine ⟨a, rfl, ⟨xs, sq_of e3⟩, r _ (fun H => SqL K H a xs) H2 e2 (sq_of e3) (fun _ _ => ex_l) (fun H3 D o o' _ hD g q => ?_) (walk_list.mono (fun _ g => g) fun i H3 x H4 _ _ y => ⟨y.1, hI xs H2 H3 i x p y.2⟩)⟩
    have n : a ≠ D := fun w => by
      subst w
      rw [hD] at e3
      cases e3
    rcases g with (g | ⟨ob, g⟩) | g
    · exact .inl (.inl (by rw [upd_ne n]; exact g))
    · exact .inl (.inr ⟨ob, by rw [upd_ne n]; exact g⟩)
    · exact .inr g
/-- .. whose items are told by tuples that stay -/
theorem src_newT {tl : TE} {P : List V → Hp → Prop} {n : Nat} (h : New tl σ H (fun o H2 => ∃ xs, o = .lst xs ∧ xs.length = n ∧ P xs H2)) {It : Nat → V → Hp → Prop} (hI : ∀ xs H2 H3 i x, (∀ b vs, H2 b = some (.tup vs) → H3 b = some (.tup vs)) → P xs H2 → xs[i]? = some x → It i x H3) : Src (iList K tl) σ H n It := fun H1 e R r =>
  h H1 e _ fun a o H2 e1 e2 e3 ⟨xs, eo, hl, p⟩ => by
    subst eo hl
    refine ⟨a, rfl, ⟨xs, sq_of e3⟩, r _ (fun H => SqL K H a xs ∧ ∀ b vs, H2 b = some (.tup vs) → H b = some (.tup vs)) H2 e2 ⟨sq_of e3, fun _ _ z => z⟩ (fun _ _ e g => ⟨ex_l e g.1, fun b vs z => e _ _ (g.2 b vs z)⟩) (fun H3 D o o' _ hD g q => ?_) ((walk_list.mono (G' := fun H => SqL K H a xs ∧ ∀ b vs, H2 b = some (.tup vs) → H b = some (.tup vs)) (fun _ g => g.1) fun i H3 x H4 _ g y => ⟨y.1, hI xs H2 H3 i x g.2 p y.2⟩))⟩
    have n : a ≠ D := fun w => by
      subst w
      rw [hD] at e3
      cases e3
    refine ⟨?_, fun b vs z => ?_⟩
    · rcases g.1 with (g | ⟨ob, g⟩) | g
      · exact .inl (.inl (by rw [upd_ne n]; exact g))
      · exact .inl (.inr ⟨ob, by rw [upd_ne n]; exact g⟩)
      · exact .inr g
    · rw [upd_ne (show b ≠ D from fun w => by
        subst w
        rw [hD] at z
        cases z)]
      exact g.2 b vs z
theorem src_str {tl : TE} {z : Str} (h : Ev tl σ H (.str z)) : Src (iStr tl) σ H z.cps.size (fun i x _ => ∃ c, z.cps[i]? = some c ∧ x = .str ⟨#[c]⟩) := fun H1 e R r =>
  h H1 e _ fun H2 e2 => ⟨z, rfl, r _ (fun _ => True) H2 e2 trivial (fun _ _ _ _ => trivial) (fun _ _ _ _ _ _ _ _ => trivial) walk_str⟩
/-- the keys of a locked dict -/
theorem src_keysK {td : TE} {d : Addr} {o : Obj} {kvs : List (Key × V)} (h : Ev td σ H (.ref d)) (hd : H d = some (.frz o (.dK kvs))) : Src (iKeys td) σ H kvs.length (fun i x _ => ∃ k v, kvs[i]? = some (k, v) ∧ x = kV k) := fun H1 e R r =>
  h H1 e _ fun H2 e2 => ⟨d, o, rfl, .inl ⟨kvs, (e.trans e2) _ _ hd, r _ (fun H => H d = some (.frz o (.dK kvs))) H2 e2 ((e.trans e2) _ _ hd) (fun _ _ e3 g => e3 _ _ g) (fun H3 D u u' _ hD g q => by
    rw [upd_ne (show d ≠ D from fun w => by
      subst w
      rw [(e.trans e2) _ _ hd] at hD
      cases hD)]
    exact g) walk_keys⟩⟩
theorem src_keysT {td : TE} {d : Addr} {o : Obj} {kvs : List (List Key × V)} (h : Ev td σ H (.ref d)) (hd : H d = some (.frz o (.dT kvs))) : Src (iKeys td) σ H kvs.length (fun i x H => ∃ (k : List Key) (v : V) (q : Addr), kvs[i]? = some (k, v) ∧ x = .ref q ∧ H q = some (.tup (k.map kV))) := fun H1 e R r =>
  h H1 e _ fun H2 e2 => ⟨d, o, rfl, .inr ⟨kvs, (e.trans e2) _ _ hd, r _ (fun H => H d = some (.frz o (.dT kvs))) H2 e2 ((e.trans e2) _ _ hd) (fun _ _ e3 g => e3 _ _ g) (fun H3 D u u' _ hD g q => by
    rw [upd_ne (show d ≠ D from fun w => by
      subst w
      rw [(e.trans e2) _ _ hd] at hD
      cases hD)]
    exact g) walk_keysT⟩⟩
end
end KX

namespace KX
open PySem PySem.Spec PyProof.Rows L2 Evl
theorem nodup_ix' {α : Type} {l : List α} (hN : l.Nodup) {i j : Nat} {x : α} (a : l[i]? = some x) (b : l[j]? = some x) : i = j := by
  obtain ⟨h1, e1⟩ := List.getElem?_eq_some_iff.mp a
  obtain ⟨h2, e2⟩ := List.getElem?_eq_some_iff.mp b
  exact (List.getElem_inj hN).mp (e1.trans e2.symm)
/-- a dict comprehension over a walk -/
theorem dp_it {J : L2.It} {n : Nat} {G : Hp → Prop} {Y : Nat → Hp → V → Hp → Prop} (w : Walk J n G Y) {O : HO} {g : TG} {tt : TT} {tk tv : TE} {vs : List Nat} {σ : L2.St} {H1 : Hp} {D : Addr} {Qd : Hp → Prop} (Pv : Nat → Hp → Prop) (h0 : Pv 0 (upd H1 D O)) (hG : ∀ i H, i ≤ n → Pv i H → G H)
    (hs : ∀ i x H H', i < n → Pv i H → Y i H x H' → g x (wipe σ vs) H' fun σ2 H2 => wipe σ2 vs = wipe σ vs ∧ tt σ2 H2 fun b H3 => if b = true then tk σ2 H3 fun y H4 => tv σ2 H4 fun z H5 => ∃ H6, DPut H5 D y z H6 ∧ Pv (i + 1) H6 else Pv (i + 1) H3) (hd : ∀ H, Pv n H → Qd H) :
    ∃ W : Nat → Nat → Hp → Prop, (∃ m, W 0 m (upd H1 D O)) ∧ ∀ i m H, W i m H → (J.stop i H ∧ Qd H) ∨ (J.go i H ∧ ∃ Nx : Hp → Prop, (∀ H', Nx H' → ∃ m', m' < m ∧ W (i + 1) m' H') ∧ ∀ x H', J.yld i H x H' → g x (wipe σ vs) H' fun σ2 H2 => wipe σ2 vs = wipe σ vs ∧ tt σ2 H2 fun b H3 =>
      if b = true then tk σ2 H3 fun y H4 => tv σ2 H4 fun z H5 => ∃ H6, DPut H5 D y z H6 ∧ Nx H6 else Nx H3) := by
  refine ⟨fun i m H => m = n - i ∧ i ≤ n ∧ Pv i H, ⟨n, by simp, Nat.zero_le _, h0⟩, ?_⟩
  rintro i m H ⟨rfl, hi, p⟩
  have q := hG i H hi p
  by_cases hlt : i < n
  · exact .inr ⟨w.goes i H hlt q, Pv (i + 1), fun H' p' => ⟨n - (i + 1), by omega, rfl, hlt, p'⟩, fun x H' y => hs i x H H' hlt p (w.yields i H x H' hlt q y)⟩
  · obtain rfl : i = n := by omega
    exact .inl ⟨w.stops H q, hd H p⟩
/-! ### comprehensions -/
section
variable {K : PySem.W.Frag} {σ : L2.St} {H : Hp} {wi : TI} {n : Nat} {It : Nat → V → Hp → Prop} {te tk tv : TE} {j : Nat} {ws : List Nat}
/-- [te for j in wi] -/
theorem new_lc (S : Src wi σ H n It) (hz : n ≤ 100000) (hw : ∀ x, wipe ((wipe σ ws).set j (some x)) ws = wipe σ ws) (P : Nat → V → Hp → Prop) (hP : ∀ i x, Stab isLst (P i x))
    (he : ∀ i x H', Ex H H' → i < n → It i x H' → EvP te ((wipe σ ws).set j (some x)) H' (P i)) : New (tLc wi (gName j) tYes te ws) σ H (fun o H2 => ∃ xs, o = .lst xs ∧ xs.length = n ∧ ∀ i x, xs[i]? = some x → P i x H2) := fun H1 e Q q =>
  S H1 e _ fun J G H2 e2 g2 gx gu w D hD => by
    refine lc_it w (fun i H' => Ex H2 H' ∧ G H' ∧ ∃ acc, H' D = some (.lst acc) ∧ acc.length = i ∧ ∀ k x, acc[k]? = some x → P k x H') ⟨Ex.new hD, gx _ _ (Ex.new hD) g2, [], upd_same, rfl, fun k x h => by simp at h⟩ (fun i H' _ p => p.2.1) (fun i x H' H'' hi p y => ?_) fun H' p => ?_
    · obtain ⟨rfl, hI⟩ := y
      obtain ⟨ex, g, acc, ha, hl, hp⟩ := p
      refine ⟨hw x, ?_⟩
      unfold tYes
      refine iteT ?_
      refine he i x H'' ((e.trans e2).trans ex) hi hI H'' (Ex.refl _) _ fun y H4 e4 py => ?_
      have ha4 := e4 _ _ ha
      refine ⟨acc, ha4, sz_lt (by omega), Ex.mut (ex.trans e4) hD, gu H4 D _ _ rfl hD (gx _ _ e4 g) ha4, acc ++ [y], upd_same, by rw [List.length_append, hl]; rfl, fun k x h => ?_⟩
      by_cases hk : k < acc.length
      · rw [List.getElem?_append_left hk] at h
        exact (hP k x).up _ _ _ _ rfl rfl ha4 ((hP k x).le _ _ e4 (hp k x h))
      · rw [List.getElem?_append_right (by omega)] at h
        have e0 : k - acc.length = 0 := by
          cases hh : k - acc.length with
          | zero => rfl
          | succ m => rw [hh] at h; simp at h
        rw [e0] at h
        obtain rfl : y = x := by simpa using h
        obtain rfl : k = i := by omega
        exact (hP k y).up _ _ _ _ rfl rfl ha4 py
    · obtain ⟨ex, g, acc, ha, hl, hp⟩ := p
      exact q D _ H' (fresh_back e2 hD) (e2.trans ex) ha ⟨acc, rfl, hl, hp⟩
/-- .. pure values -/
theorem el_lcW (S : Src wi σ H n It) (hz : n ≤ 100000) (hw : ∀ x, wipe ((wipe σ ws).set j (some x)) ws = wipe σ ws) (xs : List V) (hl : xs.length = n)
    (he : ∀ i x y H', Ex H H' → xs[i]? = some y → It i x H' → Ev te ((wipe σ ws).set j (some x)) H' y) : EvL (tLc wi (gName j) tYes te ws) σ H xs := by
  have h := new_lc (te := te) (It := It) S hz hw (fun i x _ => xs[i]? = some x) (fun _ _ => stab_pure) (fun i x H' e hi hI => by
    have hx : xs[i]? = some xs[i] := List.getElem?_eq_getElem (by omega)
    exact (EvP.of (he i x _ H' e hx hI)).imp fun v _ _ p => by rw [p]; exact hx)
  refine (h.imp fun o H2 _ p => ?_ : New _ σ H (fun o _ => o = .lst xs)).toL
  obtain ⟨ys, rfl, hl2, hp⟩ := p
  congr 1
  apply List.ext_getElem?
  intro i
  cases hy : ys[i]? with
  | some y => exact (hp i y hy).symm
  | none =>
    have := List.getElem?_eq_none_iff.mp hy
    exact (List.getElem?_eq_none (by omega)).symm
/-- {tk: tv for j in wi}, keys that are ints and texts, all unlike -/
theorem new_dpK (S : Src wi σ H n It) (hz : n ≤ 100000) (hw : ∀ x, wipe ((wipe σ ws).set j (some x)) ws = wipe σ ws) (ks : List Key) (hl : ks.length = n) (hnd : ks.Nodup) (P : Nat → V → Hp → Prop) (hP : ∀ i x, Stab isDk (P i x))
    (hk : ∀ i x k H', Ex H H' → ks[i]? = some k → It i x H' → Ev tk ((wipe σ ws).set j (some x)) H' (kV k)) (he : ∀ i x H', Ex H H' → i < n → It i x H' → EvP tv ((wipe σ ws).set j (some x)) H' (P i)) (hI : ∀ i x H' H'', Ex H' H'' → It i x H' → It i x H'') :
    New (tDp (.dK []) wi (gName j) tYes tk tv ws) σ H (fun o H2 => ∃ kvs, o = .dK kvs ∧ kvs.map (·.1) = ks ∧ ∀ i p, kvs[i]? = some p → P i p.2 H2) := fun H1 e Q q =>
  S H1 e _ fun J G H2 e2 g2 gx gu w D hD => by
    refine dp_it w (fun i H' => Ex H2 H' ∧ G H' ∧ ∃ kvs : List (Key × V), H' D = some (.dK kvs) ∧ kvs.map (·.1) = ks.take i ∧ ∀ k p, kvs[k]? = some p → P k p.2 H') ⟨Ex.new hD, gx _ _ (Ex.new hD) g2, [], upd_same, rfl, fun k x h => by simp at h⟩ (fun i H' _ p => p.2.1) (fun i x H' H'' hi p y => ?_) fun H' p => ?_
    · obtain ⟨rfl, hx⟩ := y
      obtain ⟨ex, g, kvs, ha, hm, hp⟩ := p
      refine ⟨hw x, ?_⟩
      unfold tYes
      refine iteT ?_
      have hki : ks[i]? = some ks[i] := List.getElem?_eq_getElem (by omega)
      refine hk i x _ H'' ((e.trans e2).trans ex) hki hx H'' (Ex.refl _) _ fun H3 e3 => ?_
      refine he i x H3 (((e.trans e2).trans ex).trans e3) hi (hI i x _ _ e3 hx) H3 (Ex.refl _) _ fun y H4 e4 py => ?_
      have e34 := e3.trans e4
      have ha4 := e34 _ _ ha
      have hlen : kvs.length = i := by
        have := congrArg List.length hm
        rw [List.length_map, List.length_take] at this
        omega
      have hnew : valV kvs ks[i] = none := by
        cases hv : valV kvs ks[i] with
        | none => rfl
        | some z =>
          obtain ⟨m, hmem⟩ := List.mem_iff_getElem?.mp (valV_in hv)
          have h1 := hmem
          rw [hm] at h1
          have hmi : m < i := by
            have := (List.getElem?_eq_some_iff.mp h1).1
            rw [List.length_take] at this
            omega
          rw [List.getElem?_take_of_lt hmi] at h1
          have := nodup_ix' hnd h1 hki
          omega
      have eput : putK kvs ks[i] y = kvs ++ [(ks[i], y)] := putK_new _ hnew
      refine ⟨_, DPut.k ha4 (sz_lt (by omega)), ?_⟩
      rw [eput]
      refine ⟨Ex.mut (ex.trans e34) hD, gu H4 D _ _ rfl hD (gx _ _ e34 g) ha4, _, upd_same, by rw [List.map_append, hm, List.take_succ, hki]; rfl, fun k p h => ?_⟩
      by_cases hk : k < kvs.length
      · rw [List.getElem?_append_left hk] at h
        exact (hP k _).up _ _ _ _ rfl rfl ha4 ((hP k _).le _ _ e34 (hp k p h))
      · rw [List.getElem?_append_right (by omega)] at h
        have e0 : k - kvs.length = 0 := by
          cases hh : k - kvs.length with
          | zero => rfl
          | succ m => rw [hh] at h; simp at h
        rw [e0] at h
        obtain rfl : (ks[i], y) = p := by simpa using h
        obtain rfl : k = i := by omega
        exact (hP k _).up _ _ _ _ rfl rfl ha4 py
    · obtain ⟨ex, g, kvs, ha, hm, hp⟩ := p
      exact q D _ H' (fresh_back e2 hD) (e2.trans ex) ha ⟨kvs, rfl, by rw [hm, List.take_of_length_le (by omega)], hp⟩
/-- .. keys that are tuples of these -/
theorem new_dpT (S : Src wi σ H n It) (hz : n ≤ 100000) (hw : ∀ x, wipe ((wipe σ ws).set j (some x)) ws = wipe σ ws) (ks : List (List Key)) (hl : ks.length = n) (hnd : ks.Nodup) (P : Nat → V → Hp → Prop) (hP : ∀ i x, Stab isDt (P i x))
    (hk : ∀ i x k H', Ex H H' → ks[i]? = some k → It i x H' → EvP tk ((wipe σ ws).set j (some x)) H' (fun v H2 => ∃ b, v = .ref b ∧ H2 b = some (.tup (k.map kV)))) (he : ∀ i x H', Ex H H' → i < n → It i x H' → EvP tv ((wipe σ ws).set j (some x)) H' (P i)) (hI : ∀ i x H' H'', Ex H' H'' → It i x H' → It i x H'') :
    New (tDp (.dT []) wi (gName j) tYes tk tv ws) σ H (fun o H2 => ∃ kvs, o = .dT kvs ∧ kvs.map (·.1) = ks ∧ ∀ i p, kvs[i]? = some p → P i p.2 H2) := fun H1 e Q q =>
  S H1 e _ fun J G H2 e2 g2 gx gu w D hD => by
    refine dp_it w (fun i H' => Ex H2 H' ∧ G H' ∧ ∃ kvs : List (List Key × V), H' D = some (.dT kvs) ∧ kvs.map (·.1) = ks.take i ∧ ∀ k p, kvs[k]? = some p → P k p.2 H') ⟨Ex.new hD, gx _ _ (Ex.new hD) g2, [], upd_same, rfl, fun k x h => by simp at h⟩ (fun i H' _ p => p.2.1) (fun i x H' H'' hi p y => ?_) fun H' p => ?_
    · obtain ⟨rfl, hx⟩ := y
      obtain ⟨ex, g, kvs, ha, hm, hp⟩ := p
      refine ⟨hw x, ?_⟩
      unfold tYes
      refine iteT ?_
      have hki : ks[i]? = some ks[i] := List.getElem?_eq_getElem (by omega)
      refine hk i x _ H'' ((e.trans e2).trans ex) hki hx H'' (Ex.refl _) _ fun kv H3 e3 ⟨b, ekv, hb⟩ => ?_
      subst ekv
      refine he i x H3 (((e.trans e2).trans ex).trans e3) hi (hI i x _ _ e3 hx) H3 (Ex.refl _) _ fun y H4 e4 py => ?_
      have e34 := e3.trans e4
      have ha4 := e34 _ _ ha
      have hlen : kvs.length = i := by
        have := congrArg List.length hm
        rw [List.length_map, List.length_take] at this
        omega
      have hnew : valV kvs ks[i] = none := by
        cases hv : valV kvs ks[i] with
        | none => rfl
        | some z =>
          obtain ⟨m, h1⟩ := List.mem_iff_getElem?.mp (valV_in hv)
          rw [hm] at h1
          have hmi : m < i := by
            have := (List.getElem?_eq_some_iff.mp h1).1
            rw [List.length_take] at this
            omega
          rw [List.getElem?_take_of_lt hmi] at h1
          have := nodup_ix' hnd h1 hki
          omega
      have eput : putK kvs ks[i] y = kvs ++ [(ks[i], y)] := putK_new _ hnew
      refine ⟨_, DPut.t ha4 (e4 _ _ hb) (sz_lt (by omega)), ?_⟩
      rw [eput]
      refine ⟨Ex.mut (ex.trans e34) hD, gu H4 D _ _ rfl hD (gx _ _ e34 g) ha4, _, upd_same, by rw [List.map_append, hm, List.take_succ, hki]; rfl, fun k p h => ?_⟩
      by_cases hk : k < kvs.length
      · rw [List.getElem?_append_left hk] at h
        exact (hP k _).up _ _ _ _ rfl rfl ha4 ((hP k _).le _ _ e34 (hp k p h))
      · rw [List.getElem?_append_right (by omega)] at h
        have e0 : k - kvs.length = 0 := by
          cases hh : k - kvs.length with
          | zero => rfl
          | succ m => rw [hh] at h; simp at h
        rw [e0] at h
        obtain rfl : (ks[i], y) = p := by simpa using h
        obtain rfl : k = i := by omega
        exact (hP k _).up _ _ _ _ rfl rfl ha4 py
    · obtain ⟨ex, g, kvs, ha, hm, hp⟩ := p
      exact q D _ H' (fresh_back e2 hD) (e2.trans ex) ha ⟨kvs, rfl, by rw [hm, List.take_of_length_le (by omega)], hp⟩
/-- a reading under a lock -/
theorem lock_EvP {td : TE} {d : Addr} {u : HO} {P : V → Hp → Prop} (hd : H d = some u) (mu : Mut (some u)) (hP : ∀ v H H', Le H H' → P v H → P v H') (h : ∀ od, EvP td σ (upd H d (.frz od u)) P) : EvP (tLockE td) σ H P := fun H1 e Q q =>
  ⟨d, u, e _ _ hd, mu, fun od => h od _ (fun a o g => by
    by_cases z : a = d
    · subst z
      rw [upd_same] at g ⊢
      exact g
    · rw [upd_ne z] at g ⊢
      exact e a o g) _ fun v H2 e2 p => by
        have hf : H2 d = some (.frz od u) := e2 _ _ upd_same
        exact ⟨hf, q v _ (ex_unlock (e _ _ hd) e2) (hP v _ _ (Le.unlock hf) p)⟩⟩
theorem lock_New {td : TE} {d : Addr} {u : HO} {N : HO → Hp → Prop} (hd : H d = some u) (mu : Mut (some u)) (hN : ∀ v H H', Le H H' → N v H → N v H') (h : ∀ od, New td σ (upd H d (.frz od u)) N) : New (tLockE td) σ H N := fun H1 e Q q =>
  ⟨d, u, e _ _ hd, mu, fun od => h od _ (fun a o g => by
    by_cases z : a = d
    · subst z
      rw [upd_same] at g ⊢
      exact g
    · rw [upd_ne z] at g ⊢
      exact e a o g) _ fun p o H2 e1 e2 e3 n => by
        have hf : H2 d = some (.frz od u) := e2 _ _ upd_same
        have npd : p ≠ d := fun z => by
          subst z
          rw [upd_same] at e1
          cases e1
        refine ⟨hf, q p o _ (by rw [upd_ne npd] at e1; exact e1) (ex_unlock (e _ _ hd) e2) (by rw [upd_ne npd]; exact e3) (hN o _ _ (Le.unlock hf) n)⟩⟩
theorem lock_EvL {td : TE} {d : Addr} {u : HO} {xs : List V} (hd : H d = some u) (mu : Mut (some u)) (h : ∀ od, EvL td σ (upd H d (.frz od u)) xs) : EvL (tLockE td) σ H xs :=
  New.toL (lock_New hd mu (fun _ _ _ _ n => n) fun od => New.ofL (h od))
/-- for j in a text -/
theorem s_forS {tb : TS} {D : Ends} {tl : TE} {z : Str} (h : Ev tl σ H (.str z)) (Pv : Nat → L2.St → Hp → Prop) (h0 : ∀ H1, Ex H H1 → Pv 0 σ H1)
    (hs : ∀ i c σ' H', z.cps[i]? = some c → Pv i σ' H' → tb { D with nx := Pv (i + 1), ct := Pv (i + 1), bk := D.nx } (σ'.set j (some (.str ⟨#[c]⟩))) H') (hd : ∀ σ' H', Pv z.cps.size σ' H' → D.nx σ' H') : tFor (iStr tl) (gName j) tb D σ H :=
  h H (Ex.refl H) _ fun H1 e => ⟨z, rfl, for_it walk_str Pv (h0 H1 e) (fun _ _ _ _ _ => trivial) (fun i x σ' H' H'' _ p y => by
    obtain ⟨rfl, c, hc, rfl⟩ := y
    exact hs i c σ' H'' hc p) hd⟩
/-- for k, x in enumerate(text) -/
theorem s_forE {tb : TS} {D : Ends} {ta : TA} {z : Str} {g : TG} (h : EvA ta σ H [.str z]) (Pv : Nat → L2.St → Hp → Prop) (h0 : ∀ H1, Ex H H1 → Pv 0 σ H1)
    (hs : ∀ (i : Nat) c T σ' H', z.cps[i]? = some c → Pv i σ' H' → H' T = none → g (.ref T) σ' (upd H' T (.tup [.int (i : Nat), .str ⟨#[c]⟩])) fun σ2 H2 => tb { D with nx := Pv (i + 1), ct := Pv (i + 1), bk := D.nx } σ2 H2) (hd : ∀ σ' H', Pv z.cps.size σ' H' → D.nx σ' H') : tFor (iEnumS ta) g tb D σ H :=
  h H (Ex.refl H) _ fun H1 e => ⟨z, rfl, for_it walk_enumS Pv (h0 H1 e) (fun _ _ _ _ _ => trivial) (fun i x σ' H' H'' _ p y => by
    obtain ⟨T, c, rfl, hT, rfl, hc⟩ := y
    exact hs i c T σ' H' hc p hT) hd⟩
end
end KX
end
section
set_option Elab.async false
set_option linter.all false
set_option maxRecDepth 100000
set_option maxHeartbeats 4000000
namespace KX
open PySem PySem.Spec PyProof.Rows L2
def top (i : Nat) : Stmt := PySem.Challenge.pw_passtexts_k07_whole_runs.main.body.getD i (.Pass ⟨0, 0, 0, 0⟩)
abbrev s_wall : Stmt := top 0
abbrev n_wall : List Str := ["k"]
theorem sc_wall : FnScope n_wall ["k"] (defScope s_wall) := ⟨rfl, rfl, rfl, by decide +kernel, rfl, by decide +kernel, by decide +kernel⟩
abbrev s_is_number : Stmt := top 10
abbrev n_is_number : List Str := ["thing"]
theorem sc_is_number : FnScope n_is_number ["thing"] (defScope s_is_number) := ⟨rfl, rfl, rfl, by decide +kernel, rfl, by decide +kernel, by decide +kernel⟩
abbrev s_is_made_of : Stmt := top 11
abbrev n_is_made_of : List Str := ["thing", "signs"]
theorem sc_is_made_of : FnScope n_is_made_of ["thing", "signs"] (defScope s_is_made_of) := ⟨rfl, rfl, rfl, by decide +kernel, rfl, by decide +kernel, by decide +kernel⟩
abbrev s_is_text : Stmt := top 12
abbrev n_is_text : List Str := ["thing"]
theorem sc_is_text : FnScope n_is_text ["thing"] (defScope s_is_text) := ⟨rfl, rfl, rfl, by decide +kernel, rfl, by decide +kernel, by decide +kernel⟩
abbrev s_is_word : Stmt := top 13
abbrev n_is_word : List Str := ["thing"]
theorem sc_is_word : FnScope n_is_word ["thing"] (defScope s_is_word) := ⟨rfl, rfl, rfl, by decide +kernel, rfl, by decide +kernel, by decide +kernel⟩
abbrev s_check_word : Stmt := top 14
abbrev n_check_word : List Str := ["letters", "text", "place", "letter"]
theorem sc_check_word : FnScope n_check_word ["letters", "text"] (defScope s_check_word) := ⟨rfl, rfl, rfl, by decide +kernel, rfl, by decide +kernel, by decide +kernel⟩
abbrev s_first_wrong : Stmt := top 19
abbrev n_first_wrong : List Str := ["letters", "states", "registers", "firsts", "steps", "ends", "known", "name"]
theorem sc_first_wrong : FnScope n_first_wrong ["letters", "states", "registers", "firsts", "steps", "ends"] (defScope s_first_wrong) := ⟨rfl, rfl, rfl, by decide +kernel, rfl, by decide +kernel, by decide +kernel⟩
abbrev s_are_letters : Stmt := top 20
abbrev n_are_letters : List Str := ["letters"]
theorem sc_are_letters : FnScope n_are_letters ["letters"] (defScope s_are_letters) := ⟨rfl, rfl, rfl, by decide +kernel, rfl, by decide +kernel, by decide +kernel⟩
abbrev s_are_registers : Stmt := top 21
abbrev n_are_registers : List Str := ["registers", "name"]
theorem sc_are_registers : FnScope n_are_registers ["registers"] (defScope s_are_registers) := ⟨rfl, rfl, rfl, by decide +kernel, rfl, by decide +kernel, by decide +kernel⟩
abbrev s_are_firsts : Stmt := top 22
abbrev n_are_firsts : List Str := ["firsts", "known", "name"]
theorem sc_are_firsts : FnScope n_are_firsts ["firsts", "known"] (defScope s_are_firsts) := ⟨rfl, rfl, rfl, by decide +kernel, rfl, by decide +kernel, by decide +kernel⟩
abbrev s_are_steps : Stmt := top 23
abbrev n_are_steps : List Str := ["steps", "letters", "states", "known", "key"]
theorem sc_are_steps : FnScope n_are_steps ["steps", "letters", "states", "known"] (defScope s_are_steps) := ⟨rfl, rfl, rfl, by decide +kernel, rfl, by decide +kernel, by decide +kernel⟩
abbrev s_is_place : Stmt := top 24
abbrev n_is_place : List Str := ["key", "letters", "states", "state", "letter"]
theorem sc_is_place : FnScope n_is_place ["key", "letters", "states"] (defScope s_is_place) := ⟨rfl, rfl, rfl, by decide +kernel, rfl, by decide +kernel, by decide +kernel⟩
abbrev s_is_state : Stmt := top 25
abbrev n_is_state : List Str := ["state", "states"]
theorem sc_is_state : FnScope n_is_state ["state", "states"] (defScope s_is_state) := ⟨rfl, rfl, rfl, by decide +kernel, rfl, by decide +kernel, by decide +kernel⟩
abbrev s_is_step : Stmt := top 26
abbrev n_is_step : List Str := ["step", "states", "known"]
theorem sc_is_step : FnScope n_is_step ["step", "states", "known"] (defScope s_is_step) := ⟨rfl, rfl, rfl, by decide +kernel, rfl, by decide +kernel, by decide +kernel⟩
abbrev s_are_rows : Stmt := top 27
abbrev n_are_rows : List Str := ["rows", "known", "name"]
theorem sc_are_rows : FnScope n_are_rows ["rows", "known"] (defScope s_are_rows) := ⟨rfl, rfl, rfl, by decide +kernel, rfl, by decide +kernel, by decide +kernel⟩
abbrev s_is_row : Stmt := top 28
abbrev n_is_row : List Str := ["row", "known", "item"]
theorem sc_is_row : FnScope n_is_row ["row", "known"] (defScope s_is_row) := ⟨rfl, rfl, rfl, by decide +kernel, rfl, by decide +kernel, by decide +kernel⟩
abbrev s_is_held : Stmt := top 29
abbrev n_is_held : List Str := ["item", "known"]
theorem sc_is_held : FnScope n_is_held ["item", "known"] (defScope s_is_held) := ⟨rfl, rfl, rfl, by decide +kernel, rfl, by decide +kernel, by decide +kernel⟩
abbrev s_are_ends : Stmt := top 30
abbrev n_are_ends : List Str := ["ends", "states", "known", "state"]
theorem sc_are_ends : FnScope n_are_ends ["ends", "states", "known"] (defScope s_are_ends) := ⟨rfl, rfl, rfl, by decide +kernel, rfl, by decide +kernel, by decide +kernel⟩
abbrev s_row_of : Stmt := top 32
abbrev n_row_of : List Str := ["items", "row", "texts", "item"]
theorem sc_row_of : FnScope n_row_of ["items"] (defScope s_row_of) := ⟨rfl, rfl, rfl, by decide +kernel, rfl, by decide +kernel, by decide +kernel⟩
abbrev s_put_text : Stmt := top 33
abbrev n_put_text : List Str := ["row", "texts", "text"]
theorem sc_put_text : FnScope n_put_text ["row", "texts"] (defScope s_put_text) := ⟨rfl, rfl, rfl, by decide +kernel, rfl, by decide +kernel, by decide +kernel⟩
abbrev s_text_of : Stmt := top 34
abbrev n_text_of : List Str := ["row", "held", "item"]
theorem sc_text_of : FnScope n_text_of ["row", "held"] (defScope s_text_of) := ⟨rfl, rfl, rfl, by decide +kernel, rfl, by decide +kernel, by decide +kernel⟩
abbrev s_Program__init : Stmt := inClass (top 36) 0
abbrev n_Program__init : List Str := ["self", "letters", "states", "registers", "firsts", "steps", "ends", "part"]
theorem sc_Program__init : FnScope n_Program__init ["self", "letters", "states", "registers", "firsts", "steps", "ends"] (defScope s_Program__init) := ⟨rfl, rfl, rfl, by decide +kernel, rfl, by decide +kernel, by decide +kernel⟩
abbrev s_Program_put : Stmt := inClass (top 36) 1
abbrev n_Program_put : List Str := ["self", "letters", "states", "registers", "firsts", "steps", "ends", "name", "key", "state"]
theorem sc_Program_put : FnScope n_Program_put ["self", "letters", "states", "registers", "firsts", "steps", "ends"] (defScope s_Program_put) := ⟨rfl, rfl, rfl, by decide +kernel, rfl, by decide +kernel, by decide +kernel⟩
abbrev s_Program__eq : Stmt := inClass (top 36) 2
abbrev n_Program__eq : List Str := ["self", "other"]
theorem sc_Program__eq : FnScope n_Program__eq ["self", "other"] (defScope s_Program__eq) := ⟨rfl, rfl, rfl, by decide +kernel, rfl, by decide +kernel, by decide +kernel⟩
abbrev s_Program__call : Stmt := inClass (top 36) 3
abbrev n_Program__call : List Str := ["self", "text", "state", "held"]
theorem sc_Program__call : FnScope n_Program__call ["self", "text"] (defScope s_Program__call) := ⟨rfl, rfl, rfl, by decide +kernel, rfl, by decide +kernel, by decide +kernel⟩
abbrev s_Program_after : Stmt := inClass (top 36) 4
abbrev n_Program_after : List Str := ["self", "text", "state", "held", "letter", "rows", "name"]
theorem sc_Program_after : FnScope n_Program_after ["self", "text"] (defScope s_Program_after) := ⟨rfl, rfl, rfl, by decide +kernel, rfl, by decide +kernel, by decide +kernel⟩
abbrev s_Program_reached : Stmt := inClass (top 36) 5
abbrev n_Program_reached : List Str := ["self"]
theorem sc_Program_reached : FnScope n_Program_reached ["self"] (defScope s_Program_reached) := ⟨rfl, rfl, rfl, by decide +kernel, rfl, by decide +kernel, by decide +kernel⟩
abbrev s_all_rows : Stmt := top 37
abbrev n_all_rows : List Str := ["rows", "registers", "name"]
theorem sc_all_rows : FnScope n_all_rows ["rows", "registers"] (defScope s_all_rows) := ⟨rfl, rfl, rfl, by decide +kernel, rfl, by decide +kernel, by decide +kernel⟩
abbrev s_made : Stmt := top 38
abbrev n_made : List Str := ["letters", "states", "registers", "firsts", "steps", "ends", "program"]
theorem sc_made : FnScope n_made ["letters", "states", "registers", "firsts", "steps", "ends"] (defScope s_made) := ⟨rfl, rfl, rfl, by decide +kernel, rfl, by decide +kernel, by decide +kernel⟩
abbrev s_copied : Stmt := top 39
abbrev n_copied : List Str := ["program"]
theorem sc_copied : FnScope n_copied ["program"] (defScope s_copied) := ⟨rfl, rfl, rfl, by decide +kernel, rfl, by decide +kernel, by decide +kernel⟩
abbrev s_check_program : Stmt := top 40
abbrev n_check_program : List Str := ["thing"]
theorem sc_check_program : FnScope n_check_program ["thing"] (defScope s_check_program) := ⟨rfl, rfl, rfl, by decide +kernel, rfl, by decide +kernel, by decide +kernel⟩
abbrev s_Run__init : Stmt := inClass (top 42) 1
abbrev n_Run__init : List Str := ["self", "program"]
theorem sc_Run__init : FnScope n_Run__init ["self", "program"] (defScope s_Run__init) := ⟨rfl, rfl, rfl, by decide +kernel, rfl, by decide +kernel, by decide +kernel⟩
abbrev s_Run_read : Stmt := inClass (top 42) 2
abbrev n_Run_read : List Str := ["self", "text", "passed", "letter"]
theorem sc_Run_read : FnScope n_Run_read ["self", "text"] (defScope s_Run_read) := ⟨rfl, rfl, rfl, by decide +kernel, rfl, by decide +kernel, by decide +kernel⟩
abbrev s_Run_back : Stmt := inClass (top 42) 3
abbrev n_Run_back : List Str := ["self", "many", "left"]
theorem sc_Run_back : FnScope n_Run_back ["self", "many"] (defScope s_Run_back) := ⟨rfl, rfl, rfl, by decide +kernel, rfl, by decide +kernel, by decide +kernel⟩
abbrev s_Run_text : Stmt := inClass (top 42) 4
abbrev n_Run_text : List Str := ["self"]
theorem sc_Run_text : FnScope n_Run_text ["self"] (defScope s_Run_text) := ⟨rfl, rfl, rfl, by decide +kernel, rfl, by decide +kernel, by decide +kernel⟩
abbrev s_Run_contents : Stmt := inClass (top 42) 5
abbrev n_Run_contents : List Str := ["self"]
theorem sc_Run_contents : FnScope n_Run_contents ["self"] (defScope s_Run_contents) := ⟨rfl, rfl, rfl, by decide +kernel, rfl, by decide +kernel, by decide +kernel⟩
abbrev s_Run_written : Stmt := inClass (top 42) 6
abbrev n_Run_written : List Str := ["self"]
theorem sc_Run_written : FnScope n_Run_written ["self"] (defScope s_Run_written) := ⟨rfl, rfl, rfl, by decide +kernel, rfl, by decide +kernel, by decide +kernel⟩
abbrev s_Run_trial : Stmt := inClass (top 42) 7
abbrev n_Run_trial : List Str := ["self"]
theorem sc_Run_trial : FnScope n_Run_trial ["self"] (defScope s_Run_trial) := ⟨rfl, rfl, rfl, by decide +kernel, rfl, by decide +kernel, by decide +kernel⟩
abbrev s_Run_attempt : Stmt := inClass (top 42) 8
abbrev n_Run_attempt : List Str := ["self", "work", "same"]
theorem sc_Run_attempt : FnScope n_Run_attempt ["self", "work"] (defScope s_Run_attempt) := ⟨rfl, rfl, rfl, by decide +kernel, rfl, by decide +kernel, by decide +kernel⟩
abbrev s_Run__len : Stmt := inClass (top 42) 9
abbrev n_Run__len : List Str := ["self"]
theorem sc_Run__len : FnScope n_Run__len ["self"] (defScope s_Run__len) := ⟨rfl, rfl, rfl, by decide +kernel, rfl, by decide +kernel, by decide +kernel⟩
abbrev s_Trial__init : Stmt := inClass (top 43) 0
abbrev n_Trial__init : List Str := ["self", "run"]
theorem sc_Trial__init : FnScope n_Trial__init ["self", "run"] (defScope s_Trial__init) := ⟨rfl, rfl, rfl, by decide +kernel, rfl, by decide +kernel, by decide +kernel⟩
abbrev s_Trial__enter : Stmt := inClass (top 43) 1
abbrev n_Trial__enter : List Str := ["self"]
theorem sc_Trial__enter : FnScope n_Trial__enter ["self"] (defScope s_Trial__enter) := ⟨rfl, rfl, rfl, by decide +kernel, rfl, by decide +kernel, by decide +kernel⟩
abbrev s_Trial__exit : Stmt := inClass (top 43) 2
abbrev n_Trial__exit : List Str := ["self", "kind", "value", "trace", "run"]
theorem sc_Trial__exit : FnScope n_Trial__exit ["self", "kind", "value", "trace"] (defScope s_Trial__exit) := ⟨rfl, rfl, rfl, by decide +kernel, rfl, by decide +kernel, by decide +kernel⟩
abbrev s_Saved__init : Stmt := inClass (top 44) 0
abbrev n_Saved__init : List Str := ["self", "run", "outer"]
theorem sc_Saved__init : FnScope n_Saved__init ["self", "run", "outer"] (defScope s_Saved__init) := ⟨rfl, rfl, rfl, by decide +kernel, rfl, by decide +kernel, by decide +kernel⟩
abbrev s_law_cell_at : Stmt := top 46
abbrev n_law_cell_at : List Str := ["script", "k"]
theorem sc_law_cell_at : FnScope n_law_cell_at ["script", "k"] (defScope s_law_cell_at) := ⟨rfl, rfl, rfl, by decide +kernel, rfl, by decide +kernel, by decide +kernel⟩
abbrev s_law_draw : Stmt := top 47
abbrev n_law_draw : List Str := ["cell", "k", "bound", "primes"]
theorem sc_law_draw : FnScope n_law_draw ["cell", "k", "bound"] (defScope s_law_draw) := ⟨rfl, rfl, rfl, by decide +kernel, rfl, by decide +kernel, by decide +kernel⟩
abbrev s_law_number : Stmt := top 48
abbrev n_law_number : List Str := ["cell", "k", "bound", "power", "lap", "remains", "small"]
theorem sc_law_number : FnScope n_law_number ["cell", "k", "bound"] (defScope s_law_number) := ⟨rfl, rfl, rfl, by decide +kernel, rfl, by decide +kernel, by decide +kernel⟩
abbrev s_law_next : Stmt := top 49
abbrev n_law_next : List Str := ["draw", "bound", "at", "cell"]
theorem sc_law_next : FnScope n_law_next ["draw", "bound"] (defScope s_law_next) := ⟨rfl, rfl, rfl, by decide +kernel, rfl, by decide +kernel, by decide +kernel⟩
abbrev s_law_pick : Stmt := top 50
abbrev n_law_pick : List Str := ["draw", "things"]
theorem sc_law_pick : FnScope n_law_pick ["draw", "things"] (defScope s_law_pick) := ⟨rfl, rfl, rfl, by decide +kernel, rfl, by decide +kernel, by decide +kernel⟩
abbrev s_law_rows : Stmt := top 51
abbrev n_law_rows : List Str := ["draw", "registers", "signs", "name", "rows", "target", "text"]
theorem sc_law_rows : FnScope n_law_rows ["draw", "registers", "signs"] (defScope s_law_rows) := ⟨rfl, rfl, rfl, by decide +kernel, rfl, by decide +kernel, by decide +kernel⟩
abbrev s_law_end : Stmt := top 52
abbrev n_law_end : List Str := ["draw", "registers", "signs", "found", "name"]
theorem sc_law_end : FnScope n_law_end ["draw", "registers", "signs"] (defScope s_law_end) := ⟨rfl, rfl, rfl, by decide +kernel, rfl, by decide +kernel, by decide +kernel⟩
abbrev s_law_program : Stmt := top 53
abbrev n_law_program : List Str := ["draw", "signs", "letters", "states", "registers", "firsts", "steps", "ends", "state", "letter", "name"]
theorem sc_law_program : FnScope n_law_program ["draw", "signs"] (defScope s_law_program) := ⟨rfl, rfl, rfl, by decide +kernel, rfl, by decide +kernel, by decide +kernel⟩
abbrev s_law_write : Stmt := top 54
abbrev n_law_write : List Str := ["row", "held", "item"]
theorem sc_law_write : FnScope n_law_write ["row", "held"] (defScope s_law_write) := ⟨rfl, rfl, rfl, by decide +kernel, rfl, by decide +kernel, by decide +kernel⟩
abbrev s_law_run : Stmt := top 55
abbrev n_law_run : List Str := ["program", "text", "letters", "states", "registers", "firsts", "steps", "ends", "state", "held", "letter", "rows", "name"]
theorem sc_law_run : FnScope n_law_run ["program", "text"] (defScope s_law_run) := ⟨rfl, rfl, rfl, by decide +kernel, rfl, by decide +kernel, by decide +kernel⟩
abbrev s_law_made : Stmt := top 56
abbrev n_law_made : List Str := ["program", "letters", "states", "registers", "firsts", "steps", "ends"]
theorem sc_law_made : FnScope n_law_made ["program"] (defScope s_law_made) := ⟨rfl, rfl, rfl, by decide +kernel, rfl, by decide +kernel, by decide +kernel⟩
abbrev s_law_tried : Stmt := top 57
abbrev n_law_tried : List Str := ["work", "bad"]
theorem sc_law_tried : FnScope n_law_tried ["work"] (defScope s_law_tried) := ⟨rfl, rfl, rfl, by decide +kernel, rfl, by decide +kernel, by decide +kernel⟩
abbrev s_law_fails : Stmt := top 58
abbrev n_law_fails : List Str := ["run", "text"]
theorem sc_law_fails : FnScope n_law_fails ["run", "text"] (defScope s_law_fails) := ⟨rfl, rfl, rfl, by decide +kernel, rfl, by decide +kernel, by decide +kernel⟩
abbrev s_law : Stmt := top 59
abbrev n_law : List Str := ["script", "draw", "told", "program", "turn", "way", "found", "state", "held", "told_held", "many", "read", "run", "text", "more"]
theorem sc_law : FnScope n_law ["script"] (defScope s_law) := ⟨rfl, rfl, rfl, by decide +kernel, rfl, by decide +kernel, by decide +kernel⟩
/-- what the module has under the names that are no defs; C: the class of programs -/
structure Zs (mg : Str → Option Value) (C : Addr) : Prop where
  k_Program : mg "Program" = some (.ref C)
  z_all : mg "all" = none
  z_bool : mg "bool" = none
  z_dict : mg "dict" = none
  z_enumerate : mg "enumerate" = none
  z_int : mg "int" = none
  z_isinstance : mg "isinstance" = none
  z_len : mg "len" = none
  z_list : mg "list" = none
  z_range : mg "range" = none
  z_set : mg "set" = none
  z_sorted : mg "sorted" = none
  z_str : mg "str" = none
  z_tuple : mg "tuple" = none
  c_SMALL : ∃ t, mg "SMALL" = some (.str "abcdefghijklmnopqrstuvwxyz" t)
  c_SIGNS : ∃ t, mg "SIGNS" = some (.str "0123456789abcdefghijklmnopqrstuvwxyz" t)
  c_MOST_LETTERS : ∃ t, mg "MOST_LETTERS" = some (.int 4 t)
  c_MOST_STATES : ∃ t, mg "MOST_STATES" = some (.int 300 t)
  c_MOST_REGISTERS : ∃ t, mg "MOST_REGISTERS" = some (.int 60 t)
end KX
end
section
set_option Elab.async false
set_option linter.all false
set_option maxRecDepth 100000
set_option maxHeartbeats 4000000
/-! Bs1: promises that give a value of a kind; small readings; numbers, texts, words. -/
namespace KX
open PySem PySem.Spec PyProof.Rows L2 Evl

/-- of such arguments such a value, the heap only grows -/
def spE {α : Type} (Pre : α → List V → Hp → Prop) (Post : α → V → Hp → Prop) : Sp := fun vs H Q _ => ∃ x, Pre x vs H ∧ ∀ v H', Ex H H' → Post x v H' → Q v H'
section
variable {α : Type} {Pre : α → List V → Hp → Prop} {Post : α → V → Hp → Prop} {vs : List V} {H : Hp} {z : V} {P : V → Hp → Prop}
theorem spE_V (x : α) (hp : ∀ H1, Ex H H1 → Pre x vs H1) (hq : ∀ v H', Post x v H' → v = z) : SpV (spE Pre Post) vs H z := fun H1 e Q q _ => ⟨x, hp H1 e, fun v H' e' p => by
  rw [hq v H' p]
  exact q H' e'⟩
theorem spE_P (x : α) (hp : ∀ H1, Ex H H1 → Pre x vs H1) (hq : ∀ v H', Ex H H' → Post x v H' → P v H') : SpP (spE Pre Post) vs H P := fun H1 e Q q _ => ⟨x, hp H1 e, fun v H' e' p => q v H' e' (hq v H' (e.trans e') p)⟩
end
section
variable {K : PySem.W.Frag} {σ : L2.St} {H : Hp} {ta tb tc te td : TE}
theorem ev_use {sp : Sp} {vs : List V} {E : XK} {tl : TA} {z : V} (h : EvA tl σ H vs) (hs : SpV sp vs H z) : Ev (tCall sp [] E tl) σ H z := ev_call h (by rw [List.append_nil]; exact hs)
theorem ep_use {sp : Sp} {vs : List V} {E : XK} {tl : TA} {P : V → Hp → Prop} (h : EvA tl σ H vs) (hs : SpP sp vs H P) : EvP (tCall sp [] E tl) σ H P := fun H1 e Q q =>
  h H1 e _ fun H2 e2 => by
    rw [List.append_nil]
    exact hs H2 (e.trans e2) Q (fun v H3 e3 pv => q v H3 (e2.trans e3) pv) E
theorem ev_isi {x c : V} {t u : Value} {b : Bool} (ha : Ev ta σ H x) (k : ClsV c u) (ty : ∀ H1, Ex H H1 → TyX K H1 x t) (e : PySem.W.kitOne K t u = some b) : Ev (tCB (rIsi K) (tCons ta (tCons (tC c) tNil))) σ H (.bl b) :=
  ev_cb (ea_cons ha (ea_cons ev_c ea_nil)) fun H1 e1 Q q => ⟨x, c, t, u, b, rfl, k, ty H1 e1, e, q H1 (Ex.refl H1)⟩
theorem ev_isI {n : String} {b : Bool} {i : Int} (ha : Ev ta σ H (.int i)) (e : kitB "int" n = some b) : Ev (tCB (rIsi K) (tCons ta (tCons (tC (.ty n)) tNil))) σ H (.bl b) := ev_isi ha (.ty n) (fun _ _ => .base (.int i)) (kit_ty e)
theorem ev_isS {n : String} {b : Bool} {s : Str} (ha : Ev ta σ H (.str s)) (e : kitB "str" n = some b) : Ev (tCB (rIsi K) (tCons ta (tCons (tC (.ty n)) tNil))) σ H (.bl b) := ev_isi ha (.ty n) (fun _ _ => .base (.str s)) (kit_ty e)
theorem ev_isU {n : String} {b : Bool} {a : Addr} {xs : List V} (ha : Ev ta σ H (.ref a)) (h : H a = some (.tup xs)) (e : kitB "tuple" n = some b) : Ev (tCB (rIsi K) (tCons ta (tCons (tC (.ty n)) tNil))) σ H (.bl b) :=
  ev_isi ha (.ty n) (fun H1 e1 => .base (.tup (e1 _ _ h))) (kit_ty e)
theorem ev_isD {n : String} {b : Bool} {a : Addr} {kvs : List (Key × V)} (ha : Ev ta σ H (.ref a)) (h : Rd H a (.dK kvs)) (e : kitB "dict" n = some b) : Ev (tCB (rIsi K) (tCons ta (tCons (tC (.ty n)) tNil))) σ H (.bl b) :=
  ev_isi ha (.ty n) (fun H1 e1 => by
    rcases ex_rd e1 h with q | ⟨o, q⟩
    · exact .base (.dK q)
    · exact .fDict q) (kit_ty e)
theorem ev_isDT {n : String} {b : Bool} {a : Addr} {kvs : List (List Key × V)} (ha : Ev ta σ H (.ref a)) (h : H a = some (.dT kvs)) (e : kitB "dict" n = some b) : Ev (tCB (rIsi K) (tCons ta (tCons (tC (.ty n)) tNil))) σ H (.bl b) :=
  ev_isi ha (.ty n) (fun H1 e1 => .base (.dT (e1 _ _ h))) (kit_ty e)
theorem ev_lenS {z : Str} (ha : Ev ta σ H (.str z)) (hz : z.length ≤ 100000) : Ev (tCB (fun xs H Q => ∃ z, xs = [.str z] ∧ z.length ≤ sizeLine ∧ Q (.int z.length) H) (tCons ta tNil)) σ H (.int (z.length : Int)) :=
  ev_cb (ea_cons ha ea_nil) fun H1 _ Q q => ⟨z, rfl, sz_of hz, q H1 (Ex.refl H1)⟩
theorem ev_lenT {a : Addr} {xs : List V} (ha : Ev ta σ H (.ref a)) (h : SqT K H a xs) : Ev (tCB (rLenS K) (tCons ta tNil)) σ H (.int (xs.length : Int)) :=
  ev_cb (ea_cons ha ea_nil) fun H1 e1 Q q => ⟨a, xs, rfl, .inr (ex_t e1 h), q H1 (Ex.refl H1)⟩
theorem ev_strip {a b : Str} (ha : Ev ta σ H (.str a)) (hb : Ev tb σ H (.str b)) (hz : a.length ≤ 100000) :
    Ev (tBM K "str" (fun x xs H Q => ∃ a b, x = .str a ∧ xs = [.str b] ∧ a.length ≤ sizeLine ∧ Q (.str (Txt.stripChars a b)) H) ta (tCons tb tNil)) σ H (.str (Txt.stripChars a b)) := fun H1 e Q q =>
  ha H1 e _ fun H2 e2 => ⟨rfl, hb H2 (e.trans e2) _ fun H3 e3 => ⟨a, b, rfl, rfl, sz_of hz, q H3 (e2.trans e3)⟩⟩
theorem ev_chain {r r' : R2} {x y z : V} {a b : Bool} (ha : Ev ta σ H x) (hb : Ev tb σ H y) (h1 : RV r x y H (.bl a)) (hc : a = true → Ev tc σ H z) (h2 : a = true → RV r' y z H (.bl b)) : Ev (tChain r r' ta tb tc) σ H (.bl (a && b)) := fun H1 e Q q =>
  ha H1 e _ fun H2 e2 => hb H2 (e.trans e2) _ fun H3 e3 => h1 H3 ((e.trans e2).trans e3) _ fun H4 e4 => ⟨a, rfl, by
    have e24 := (e2.trans e3).trans e4
    cases a with
    | true =>
      refine (if_pos rfl).mpr ?_
      exact hc rfl H4 (e.trans e24) _ fun H5 e5 => h2 rfl H5 ((e.trans e24).trans e5) Q fun H6 e6 => q H6 ((e24.trans e5).trans e6)
    | false =>
      refine (if_neg (by decide)).mpr ?_
      exact q H4 e24⟩
/-- lo <= i <= hi for ints -/
theorem ev_between {i j k : Int} {p q : Int → Int → Bool} (ha : Ev ta σ H (.int i)) (hb : Ev tb σ H (.int j)) (hc : Ev tc σ H (.int k)) : Ev (tChain (rI0 fun i j => .bl (p i j)) (rI0 fun i j => .bl (q i j)) ta tb tc) σ H (.bl (p i j && q j k)) :=
  ev_chain ha hb rv_I0 (fun _ => hc) (fun _ => rv_I0)
theorem ev_in {d : Addr} {kvs : List (Key × V)} {y : V} {k : Key} (hy : Ev ta σ H y) (ey : y = kV k) (hd : Ev td σ H (.ref d)) (h : Rd H d (.dK kvs)) : Ev (tDIn ta td) σ H (.bl (valV kvs k).isSome) := fun H1 e Q q =>
  hy H1 e _ fun H2 e2 => hd H2 (e.trans e2) _ fun H3 e3 => ⟨d, _, rfl, .inl ⟨kvs, k, ex_rd ((e.trans e2).trans e3) h, ey, rfl⟩, q H3 (e2.trans e3)⟩
theorem ev_get {d : Addr} {kvs : List (Key × V)} {y v : V} {k : Key} (hd : Ev td σ H (.ref d)) (hy : Ev ta σ H y) (ey : y = kV k) (h : Rd H d (.dK kvs)) (ev : valV kvs k = some v) : Ev (tDGet td ta) σ H v := fun H1 e Q q =>
  hd H1 e _ fun H2 e2 => hy H2 (e.trans e2) _ fun H3 e3 => ⟨d, v, rfl, .inl ⟨kvs, k, ex_rd ((e.trans e2).trans e3) h, ey, ev.symm⟩, q H3 (e2.trans e3)⟩
theorem ev_inTT {d b : Addr} {kvs : List (List Key × V)} {k : List Key} (hy : Ev ta σ H (.ref b)) (hb : H b = some (.tup (k.map kV))) (hd : Ev td σ H (.ref d)) (h : Rd H d (.dT kvs)) : Ev (tDIn ta td) σ H (.bl (valV kvs k).isSome) := fun H1 e Q q =>
  hy H1 e _ fun H2 e2 => hd H2 (e.trans e2) _ fun H3 e3 => ⟨d, _, rfl, .inr ⟨kvs, k, b, ex_rd ((e.trans e2).trans e3) h, rfl, ((e.trans e2).trans e3) _ _ hb, rfl⟩, q H3 (e2.trans e3)⟩
theorem ev_getT {d b : Addr} {kvs : List (List Key × V)} {v : V} {k : List Key} (hd : Ev td σ H (.ref d)) (hy : Ev ta σ H (.ref b)) (hb : H b = some (.tup (k.map kV))) (h : Rd H d (.dT kvs)) (ev : valV kvs k = some v) : Ev (tDGet td ta) σ H v := fun H1 e Q q =>
  hd H1 e _ fun H2 e2 => hy H2 (e.trans e2) _ fun H3 e3 => ⟨d, v, rfl, .inr ⟨kvs, k, b, ex_rd ((e.trans e2).trans e3) h, rfl, ((e.trans e2).trans e3) _ _ hb, ev.symm⟩, q H3 (e2.trans e3)⟩
theorem ev_getU {d : Addr} {kvs : List (List Key × V)} {v : V} {k : List Key} (hd : Ev td σ H (.ref d)) (hy : EvU ta σ H (k.map kV)) (h : Rd H d (.dT kvs)) (ev : valV kvs k = some v) : Ev (tDGet td ta) σ H v := fun H1 e Q q =>
  hd H1 e _ fun H2 e2 => hy H2 (e.trans e2) _ fun b H3 _ e3 hb => ⟨d, v, rfl, .inr ⟨kvs, k, b, ex_rd ((e.trans e2).trans e3) h, rfl, hb, ev.symm⟩, q H3 (e2.trans e3)⟩
theorem ev_allL {bs : List Bool} (h : EvL te σ H (bs.map V.bl)) : Ev (tCB (rAll K) (tCons te tNil)) σ H (.bl (bs.all id)) := fun H1 e Q q =>
  h H1 e _ fun p H2 _ e2 hp => ⟨p, bs, rfl, sq_of hp, q H2 e2⟩
theorem ev_allT {n : Nat} (h : EvL te σ H (List.replicate n (V.bl true))) : Ev (tCB (rAll K) (tCons te tNil)) σ H (.bl true) := by
  have h2 : EvL te σ H ((List.replicate n true).map V.bl) := by rw [List.map_replicate]; exact h
  refine ev_is (ev_allL h2) ?_
  congr 1
  rw [List.all_replicate]
  simp
theorem ev_ixU {a : Addr} {xs : List V} {i : Nat} {v : V} (ha : Ev ta σ H (.ref a)) (hi : Ev tb σ H (.int (i : Int))) (h : H a = some (.tup xs)) (e : xs[i]? = some v) : Ev (tOp (rIxT K) ta tb) σ H v := ev_op ha hi (rv_ixT (st_of h) (atI_nat e))
theorem q_unpack2 {D : Ends} {tz : TS} {b : Addr} {y z : V} {i j : Nat} (h : Ev te σ H (.ref b)) (hb : H b = some (.tup [y, z])) (k : ∀ H1, Ex H H1 → tz D ((σ.set i (some y)).set j (some z)) H1) : tSeq (tAsg te (gTup K 2 (gCons (gName i) (gCons (gName j) gNil)))) tz D σ H :=
  h H (Ex.refl H) _ fun H1 e => ⟨b, _, rfl, st_of (e _ _ hb), rfl, ⟨y, _, rfl, ⟨z, _, rfl, ⟨rfl, k H1 e⟩⟩⟩⟩
end

/-! ### numbers, texts, words -/
abbrev SIG : Str := "0123456789abcdefghijklmnopqrstuvwxyz"
abbrev SML : Str := "abcdefghijklmnopqrstuvwxyz"
def Tx (s : Str) : Prop := Txt.stripChars s SIG = "" ∧ s.length ≤ 100000
def Wd (s : Str) : Prop := Txt.stripChars s SML = "" ∧ 1 ≤ s.length ∧ s.length ≤ 8
instance {s : Str} : Decidable (Wd s) := by
  unfold Wd
  infer_instance
def sp_is_number : Sp := spE (fun (i : Int) vs _ => vs = [.int i]) (fun _ v _ => v = .bl true)
/-- a text, or a tuple -/
def ST (H : Hp) (v : V) : Prop := (∃ s : Str, v = .str s ∧ s.length ≤ 100000) ∨ ∃ a xs, v = .ref a ∧ H a = some (.tup xs)
def txB (v : V) (y : Str) : Bool := match v with
  | .str s => decide (Txt.stripChars s y = "")
  | _ => false
theorem ST.ex {H H' : Hp} {v : V} (e : Ex H H') (h : ST H v) : ST H' v := by
  rcases h with h | ⟨a, xs, e1, h⟩
  · exact .inl h
  · exact .inr ⟨a, xs, e1, e _ _ h⟩
def sp_is_made_of : Sp := spE (fun (x : V × Str) vs H => vs = [x.1, .str x.2] ∧ ST H x.1) (fun x v _ => v = .bl (txB x.1 x.2))
def sp_is_text : Sp := spE (fun (x : V) vs H => vs = [x] ∧ ST H x) (fun x v _ => v = .bl (txB x SIG))
def sp_is_word : Sp := spE (fun (x : Str) vs _ => vs = [.str x] ∧ x.length ≤ 100000) (fun x v _ => v = .bl (decide (Wd x)))
def sp_is_state : Sp := spE (fun (x : Int × Int) vs _ => vs = [.int x.1, .int x.2]) (fun x v _ => v = .bl (decide (0 ≤ x.1 ∧ x.1 < x.2)))
section
variable {P : Program} {w : World} {K : PySem.W.Frag} {mg : Str → Option Value} {base : Heap} {C : Addr} {f : Addr} {fd : FuncData}
theorem ok_is_number (F : Fun K "is_number" "is_number" s_is_number f fd) (Z : Zs mg C) : FnOk P w K mg base CX0 1 f fd ["thing"] sp_is_number := by
  refine F.ok sc_is_number (fun vs H Q E h => ?_) (fun cdv A outer s H vs Q E hr h => ?_)
  · obtain ⟨i, rfl, _⟩ := h
    rfl
  · obtain ⟨i, rfl, k⟩ := h
    refine ⟨_, (pss_one (ps_ret (pe_and (pe_callB (cIsi (K := K)) (by rfl) Z.z_isinstance (by decide +kernel) (pa_cons (pv 0) (pa_cons (pe_bltn (by rfl) Z.z_int (by decide +kernel) (show RelV (.ty "int") _ from rfl)) pa_nil))) (pe_one (pe_not (pe_callB (cIsi (K := K)) (by rfl) Z.z_isinstance (by decide +kernel) (pa_cons (pv 0) (pa_cons (pe_bltn (by rfl) Z.z_bool (by decide +kernel) (show RelV (.ty "bool") _ from rfl)) pa_nil)))))))), ?_⟩
    exact s_ret (ev_andV (a := true) (b := true) (ev_isI (b := true) (ev_var rfl) rfl) fun _ => ev_notV (a := false) (ev_isI (b := false) (ev_var rfl) rfl)) fun H1 e => k _ H1 e rfl
theorem ok_is_made_of (F : Fun K "is_made_of" "is_made_of" s_is_made_of f fd) (Z : Zs mg C) : FnOk P w K mg base CX0 1 f fd ["thing", "signs"] sp_is_made_of := by
  refine F.ok sc_is_made_of (fun vs H Q E h => ?_) (fun cdv A outer s H vs Q E hr h => ?_)
  · obtain ⟨i, ⟨rfl, _⟩, _⟩ := h
    rfl
  · obtain ⟨⟨v, y⟩, ⟨rfl, hv⟩, k⟩ := h
    refine ⟨_, (pss_one (ps_ret (pe_and (pe_callB (cIsi (K := K)) (by rfl) Z.z_isinstance (by decide +kernel) (pa_cons (pv 0) (pa_cons (pe_bltn (by rfl) Z.z_str (by decide +kernel) (show RelV (.ty "str") _ from rfl)) pa_nil))) (pe_one (pe_cmpR op_eq (pe_bm PySem.F.plainAttrs_str PySem.F.slot_str_strip PySem.F.type_str_strip mt_stripChars (pv 0) (pa_cons (pv 1) pa_nil)) pe_str (nomark _)))))), ?_⟩
    rcases hv with ⟨x, rfl, hx⟩ | ⟨a, xs, rfl, ha⟩
    · refine s_ret (v := .bl (decide (Txt.stripChars x y = ""))) (ev_is (ev_andV (a := true) (b := decide (V.str (Txt.stripChars x y) = V.str "")) (ev_isS (ev_var rfl) rfl) fun _ => ev_op (ev_strip (ev_var rfl) (ev_var rfl) hx) ev_c (rv_eq rfl)) ?_) fun H1 e => k _ H1 e rfl
      simp
    · exact s_ret (v := .bl false) (ev_andV (a := false) (b := true) (ev_isU (ev_var rfl) ha rfl) (fun z => by cases z)) fun H1 e => k _ H1 e rfl
theorem ok_is_text (F : Fun K "is_text" "is_text" s_is_text f fd) (Z : Zs mg C) (G_is_made_of : Has P w K mg base "is_made_of" 1 ["thing", "signs"] sp_is_made_of) : FnOk P w K mg base CX0 2 f fd ["thing"] sp_is_text := by
  refine F.ok sc_is_text (fun vs H Q E h => ?_) (fun cdv A outer s H vs Q E hr h => ?_)
  · obtain ⟨i, ⟨rfl, _⟩, _⟩ := h
    rfl
  · obtain ⟨x, ⟨rfl, hx⟩, k⟩ := h
    refine ⟨_, (pss_one (ps_ret (pe_use G_is_made_of (hr.mono (by decide)) (pa_cons (pv 0) (pa_cons (pe_gcS rfl Z.c_SIGNS) pa_nil))))), ?_⟩
    exact s_ret (ev_use (ea_cons (ev_var rfl) (ea_cons ev_c ea_nil)) (spE_V (x, SIG) (fun _ e => ⟨rfl, hx.ex e⟩) fun v _ p => p)) fun H1 e => k _ H1 e rfl
theorem ok_is_word (F : Fun K "is_word" "is_word" s_is_word f fd) (Z : Zs mg C) (G_is_made_of : Has P w K mg base "is_made_of" 1 ["thing", "signs"] sp_is_made_of) : FnOk P w K mg base CX0 2 f fd ["thing"] sp_is_word := by
  refine F.ok sc_is_word (fun vs H Q E h => ?_) (fun cdv A outer s H vs Q E hr h => ?_)
  · obtain ⟨i, ⟨rfl, _⟩, _⟩ := h
    rfl
  · obtain ⟨x, ⟨rfl, hx⟩, k⟩ := h
    refine ⟨_, (pss_one (ps_ret (pe_and (pe_use G_is_made_of (hr.mono (by decide)) (pa_cons (pv 0) (pa_cons (pe_gcS rfl Z.c_SMALL) pa_nil))) (pe_one (pe_chain op_le op_le pe_int (pe_callB call_len_str (by rfl) Z.z_len PySem.boot_len (pa_cons (pv 0) pa_nil)) pe_int))))), ?_⟩
    refine s_ret (v := .bl (decide (Wd x))) (ev_is (ev_andV (ev_use (ea_cons (ev_var rfl) (ea_cons ev_c ea_nil)) (spE_V (.str x, SML) (fun _ _ => ⟨rfl, .inl ⟨x, rfl, hx⟩⟩) fun v _ p => p)) fun _ => ev_between ev_c (ev_lenS (ev_var rfl) hx) ev_c) ?_) fun H1 e => k _ H1 e rfl
    congr 1
    rw [Bool.eq_iff_iff, decide_eq_true_iff]
    unfold Wd
    simp [txB]
    intro _
    exact ⟨fun ⟨b, c⟩ => ⟨by omega, by omega⟩, fun ⟨b, c⟩ => ⟨by omega, by omega⟩⟩
theorem ok_is_state (F : Fun K "is_state" "is_state" s_is_state f fd) (Z : Zs mg C) (G_is_number : Has P w K mg base "is_number" 1 ["thing"] sp_is_number) : FnOk P w K mg base CX0 2 f fd ["state", "states"] sp_is_state := by
  refine F.ok sc_is_state (fun vs H Q E h => ?_) (fun cdv A outer s H vs Q E hr h => ?_)
  · obtain ⟨i, rfl, _⟩ := h
    rfl
  · obtain ⟨⟨x, y⟩, rfl, k⟩ := h
    refine ⟨_, (pss_one (ps_ret (pe_and (pe_use G_is_number (hr.mono (by decide)) (pa_cons (pv 0) pa_nil)) (pe_one (pe_chain op_le op_lt pe_int (pv 0) (pv 1)))))), ?_⟩
    refine s_ret (v := .bl (decide (0 ≤ x ∧ x < y))) (ev_is (ev_andV (ev_use (ea_cons (ev_var rfl) ea_nil) (spE_V x (fun _ _ => rfl) fun v _ p => p)) fun _ => ev_between ev_c (ev_var rfl) (ev_var rfl)) ?_) fun H1 e => k _ H1 e rfl
    congr 1
    rw [Bool.eq_iff_iff]
    simp
end
end KX
end
section
set_option Elab.async false
set_option linter.all false
set_option maxRecDepth 100000
set_option maxHeartbeats 4000000
/-! Bs2: rows, steps, ends on the heap; the checks of a program's parts. -/
namespace KX
open PySem PySem.Spec PyProof.Rows L2 Evl

/-! ### dicts as lists -/
section
variable {κ : Type} [DecidableEq κ]
theorem valV_mem {kvs : List (κ × V)} {k : κ} {v : V} (h : valV kvs k = some v) : (k, v) ∈ kvs := by
  unfold valV at h
  obtain ⟨p, hp, rfl⟩ := Option.map_eq_some_iff.mp h
  have h1 := List.mem_of_find?_eq_some hp
  have h2 := List.find?_some hp
  obtain rfl : p.1 = k := by simpa using h2
  exact h1
theorem valV_of {kvs : List (κ × V)} {k : κ} {v : V} (h : (k, v) ∈ kvs) : ∃ v', valV kvs k = some v' ∧ (k, v') ∈ kvs := by
  cases hv : valV kvs k with
  | some v' => exact ⟨v', rfl, valV_mem hv⟩
  | none =>
    unfold valV at hv
    have h1 := List.find?_eq_none.mp (Option.map_eq_none_iff.mp hv) _ h
    simp at h1
theorem valV_key {kvs : List (κ × V)} {k : κ} (h : k ∈ kvs.map (·.1)) : ∃ v, valV kvs k = some v ∧ (k, v) ∈ kvs := by
  obtain ⟨p, hp, rfl⟩ := List.mem_map.mp h
  exact valV_of (k := p.1) (v := p.2) hp
theorem mem_at {kvs : List (κ × V)} {i : Nat} {k : κ} {v : V} (h : kvs[i]? = some (k, v)) : (k, v) ∈ kvs := List.mem_of_getElem? h
end

/-! ### rows -/
inductive Itm
  | t (s : Str)
  | r (s : Str)
def ItAt (H : Hp) : Itm → V → Prop
  | .t s, v => v = .str s
  | .r s, v => ∃ b, v = .ref b ∧ H b = some (.tup [.str s])
def ItsAt (H : Hp) (xs : List V) (row : List Itm) : Prop := xs.length = row.length ∧ ∀ (i : Nat) x t, xs[i]? = some x → row[i]? = some t → ItAt H t x
def RowAt (H : Hp) (a : Addr) (row : List Itm) : Prop := ∃ xs, H a = some (.tup xs) ∧ ItsAt H xs row
theorem ItAt.le {H H' : Hp} {t : Itm} {x : V} (e : Le H H') (h : ItAt H t x) : ItAt H' t x := by
  cases t with
  | t s => exact h
  | r s => exact h.imp fun b ⟨e1, h1⟩ => ⟨e1, e.st _ _ rfl h1⟩
theorem ItsAt.le {H H' : Hp} {xs : List V} {row : List Itm} (e : Le H H') (h : ItsAt H xs row) : ItsAt H' xs row := ⟨h.1, fun i x t a b => (h.2 i x t a b).le e⟩
theorem RowAt.le {H H' : Hp} {a : Addr} {row : List Itm} (e : Le H H') (h : RowAt H a row) : RowAt H' a row := h.imp fun xs ⟨h1, h2⟩ => ⟨e.st _ _ rfl h1, h2.le e⟩
def ItOk (names : List Str) : Itm → Prop
  | .t s => Tx s
  | .r n => n ∈ names
/-- a row as told, of known registers -/
def RowX (names : List Str) (H : Hp) (a : Addr) : Prop := ∃ row, RowAt H a row ∧ row.length ≤ 1000 ∧ ∀ t ∈ row, ItOk names t
theorem RowX.le {names : List Str} {H H' : Hp} {a : Addr} (e : Le H H') (h : RowX names H a) : RowX names H' a := h.imp fun row ⟨h1, h2⟩ => ⟨h1.le e, h2⟩
/-- the dict of the known -/
def Kn (names : List Str) (H : Hp) (d : Addr) : Prop := ∃ kvs : List (Key × V), Rd H d (.dK kvs) ∧ ∀ n : Str, (valV kvs (.inr n)).isSome = decide (n ∈ names)
theorem Kn.le {names : List Str} {H H' : Hp} {d : Addr} (e : Le H H') (h : Kn names H d) : Kn names H' d := h.imp fun kvs ⟨h1, h2⟩ => ⟨e.rd _ _ rfl h1, h2⟩
/-- dicts of rows, not locked -/
def RowsX (names : List Str) (H : Hp) (r : Addr) : Prop := ∃ kvs : List (Key × V), H r = some (.dK kvs) ∧ kvs.length ≤ 1000 ∧ ∀ k v, (k, v) ∈ kvs → ∃ n a, k = .inr n ∧ v = .ref a ∧ n ∈ names ∧ RowX names H a
theorem RowsX.ex {names : List Str} {H H' : Hp} {r : Addr} (e : Ex H H') (h : RowsX names H r) : RowsX names H' r := h.imp fun kvs ⟨h1, h2, h3⟩ => ⟨e _ _ h1, h2, fun k v m => by
  obtain ⟨n, a, e1, e2, e3, h4⟩ := h3 k v m
  exact ⟨n, a, e1, e2, e3, h4.le (Le.ex e)⟩⟩
theorem RowsX.lockT {names : List Str} {H : Hp} {r d : Addr} {kvs : List (List Key × V)} {od : Obj} (hd : H d = some (.dT kvs)) (h : RowsX names H r) : RowsX names (upd H d (.frz od (.dT kvs))) r := h.imp fun l ⟨h1, h2, h3⟩ => ⟨by
    rw [upd_ne (show r ≠ d from fun z => by
      subst z
      rw [h1] at hd
      cases hd)]
    exact h1, h2, fun k v m => by
  obtain ⟨n, a, e1, e2, e3, h4⟩ := h3 k v m
  exact ⟨n, a, e1, e2, e3, h4.le (Le.lock hd rfl rfl)⟩⟩
def StX (n : Int) (names : List Str) (H : Hp) (b : Addr) : Prop := ∃ g r, H b = some (.tup [.int g, .ref r]) ∧ 0 ≤ g ∧ g < n ∧ RowsX names H r
theorem StX.ex {n : Int} {names : List Str} {H H' : Hp} {b : Addr} (e : Ex H H') (h : StX n names H b) : StX n names H' b := by
  obtain ⟨g, r, h1, h2, h3, h4⟩ := h
  exact ⟨g, r, e _ _ h1, h2, h3, h4.ex e⟩
def PlX (L : Str) (n : Int) (k : List Key) : Prop := ∃ (s : Int) (c : Nat), k = [.inl s, .inr ⟨#[c]⟩] ∧ 0 ≤ s ∧ s < n ∧ c ∈ L.cps.toList
def StepsX (L : Str) (n : Int) (names : List Str) (H : Hp) (d : Addr) : Prop := ∃ kvs : List (List Key × V), H d = some (.dT kvs) ∧ kvs.length ≤ 1000 ∧ (kvs.length : Int) = n * (L.length : Int) ∧
  ∀ k v, (k, v) ∈ kvs → PlX L n k ∧ ∃ b, v = .ref b ∧ StX n names H b
theorem StepsX.ex {L : Str} {n : Int} {names : List Str} {H H' : Hp} {d : Addr} (e : Ex H H') (h : StepsX L n names H d) : StepsX L n names H' d := h.imp fun kvs ⟨h1, h2, h3, h4⟩ => ⟨e _ _ h1, h2, h3, fun k v m => by
  obtain ⟨p, b, e1, h5⟩ := h4 k v m
  exact ⟨p, b, e1, h5.ex e⟩⟩
def EndsX (n : Int) (names : List Str) (H : Hp) (d : Addr) : Prop := ∃ kvs : List (Key × V), H d = some (.dK kvs) ∧ kvs.length ≤ 1000 ∧ ∀ k v, (k, v) ∈ kvs → ∃ s a, k = .inl s ∧ v = .ref a ∧ 0 ≤ s ∧ s < n ∧ RowX names H a
theorem EndsX.ex {n : Int} {names : List Str} {H H' : Hp} {d : Addr} (e : Ex H H') (h : EndsX n names H d) : EndsX n names H' d := h.imp fun kvs ⟨h1, h2, h3⟩ => ⟨e _ _ h1, h2, fun k v m => by
  obtain ⟨s, a, e1, e2, e3, e4, h4⟩ := h3 k v m
  exact ⟨s, a, e1, e2, e3, e4, h4.le (Le.ex e)⟩⟩
def FirstsX (names : List Str) (H : Hp) (d : Addr) : Prop := ∃ kvs : List (Key × V), H d = some (.dK kvs) ∧ kvs.length ≤ 1000 ∧ ∀ k v, (k, v) ∈ kvs → ∃ n s, k = .inr n ∧ v = .str s ∧ n ∈ names ∧ Tx s
theorem FirstsX.ex {names : List Str} {H H' : Hp} {d : Addr} (e : Ex H H') (h : FirstsX names H d) : FirstsX names H' d := h.imp fun kvs ⟨h1, h2⟩ => ⟨e _ _ h1, h2⟩

def sp_is_held : Sp := spE (fun (x : Addr × Addr × Str × List Str) vs H => vs = [.ref x.1, .ref x.2.1] ∧ H x.1 = some (.tup [.str x.2.2.1]) ∧ Kn x.2.2.2 H x.2.1) (fun x v _ => v = .bl (decide (x.2.2.1 ∈ x.2.2.2)))
def sp_is_row : Sp := spE (fun (x : Addr × Addr × List Str) vs H => vs = [.ref x.1, .ref x.2.1] ∧ RowX x.2.2 H x.1 ∧ Kn x.2.2 H x.2.1) (fun _ v _ => v = .bl true)
def sp_are_rows : Sp := spE (fun (x : Addr × Addr × List Str) vs H => vs = [.ref x.1, .ref x.2.1] ∧ RowsX x.2.2 H x.1 ∧ Kn x.2.2 H x.2.1) (fun _ v _ => v = .bl true)
def sp_is_place : Sp := spE (fun (x : Addr × Str × Int × List Key) vs H => vs = [.ref x.1, .str x.2.1, .int x.2.2.1] ∧ H x.1 = some (.tup (x.2.2.2.map kV)) ∧ PlX x.2.1 x.2.2.1 x.2.2.2) (fun _ v _ => v = .bl true)
def sp_is_step : Sp := spE (fun (x : Addr × Int × Addr × List Str) vs H => vs = [.ref x.1, .int x.2.1, .ref x.2.2.1] ∧ StX x.2.1 x.2.2.2 H x.1 ∧ Kn x.2.2.2 H x.2.2.1) (fun _ v _ => v = .bl true)
def sp_are_steps : Sp := spE (fun (x : Addr × Str × Int × Addr × List Str) vs H => vs = [.ref x.1, .str x.2.1, .int x.2.2.1, .ref x.2.2.2.1] ∧ StepsX x.2.1 x.2.2.1 x.2.2.2.2 H x.1 ∧ x.2.1.length ≤ 100 ∧ 0 ≤ x.2.2.1 ∧ x.2.2.1 ≤ 300 ∧ Kn x.2.2.2.2 H x.2.2.2.1) (fun _ v _ => v = .bl true)
def sp_are_firsts : Sp := spE (fun (x : Addr × Addr × List Str) vs H => vs = [.ref x.1, .ref x.2.1] ∧ FirstsX x.2.2 H x.1 ∧ Kn x.2.2 H x.2.1) (fun _ v _ => v = .bl true)
def sp_are_ends : Sp := spE (fun (x : Addr × Int × Addr × List Str) vs H => vs = [.ref x.1, .int x.2.1, .ref x.2.2.1] ∧ EndsX x.2.1 x.2.2.2 H x.1 ∧ Kn x.2.2.2 H x.2.2.1) (fun _ v _ => v = .bl true)

section
variable {P : Program} {w : World} {K : PySem.W.Frag} {mg : Str → Option Value} {base : Heap} {C : Addr} {f : Addr} {fd : FuncData}
theorem ok_is_held (F : Fun K "is_held" "is_held" s_is_held f fd) (Z : Zs mg C) : FnOk P w K mg base CX0 1 f fd ["item", "known"] sp_is_held := by
  refine F.ok sc_is_held (fun vs H Q E h => ?_) (fun cdv A outer s H vs Q E hr h => ?_)
  · obtain ⟨i, ⟨rfl, _⟩, _⟩ := h
    rfl
  · obtain ⟨⟨b, d, n, names⟩, ⟨rfl, hb, kvs, hd, hk⟩, k⟩ := h
    have hu := hu_of hr
    refine ⟨_, (pss_one (ps_ret (pe_and (pe_callB (cIsi (K := K)) (by rfl) Z.z_isinstance (by decide +kernel) (pa_cons (pv 0) (pa_cons (pe_bltn (by rfl) Z.z_tuple (by decide +kernel) (show RelV (.ty "tuple") _ from rfl)) pa_nil))) (pe_and (pe_cmpR op_eq (pe_callB (cLenS (K := K)) (by rfl) Z.z_len PySem.boot_len (pa_cons (pv 0) pa_nil)) pe_int (nomark _)) (pe_and (pe_callB (cIsi (K := K)) (by rfl) Z.z_isinstance (by decide +kernel) (pa_cons (pe_ix (ixT (K := K)) (pv 0) pe_int (fun _ _ => rfl)) (pa_cons (pe_bltn (by rfl) Z.z_str (by decide +kernel) (show RelV (.ty "str") _ from rfl)) pa_nil))) (pe_one (pe_cmp (pc_din hu (pe_ix (ixT (K := K)) (pv 0) pe_int (fun _ _ => rfl)) (pv 1))))))))), ?_⟩
    have e0 : Ev (tOp (rIxT K) (tVar 0) (tC (.int 0))) (start n_is_held [.ref b, .ref d]) H (.str n) := ev_ixU (i := 0) (ev_var rfl) ev_c hb rfl
    refine s_ret (v := .bl (decide (n ∈ names))) (ev_is (ev_andV (a := true) (ev_isU (ev_var rfl) hb rfl) fun _ => ev_andV (a := true) (ev_op (ev_lenT (ev_var rfl) (st_of hb)) ev_c (rv_eq rfl)) fun _ => ev_andV (a := true) (ev_isS e0 rfl) fun _ => ev_in e0 (k := .inr n) rfl (ev_var rfl) hd) ?_) fun H1 e => k _ H1 e rfl
    rw [hk n]
    rfl
theorem ok_is_row (F : Fun K "is_row" "is_row" s_is_row f fd) (Z : Zs mg C) (G_is_text : Has P w K mg base "is_text" 2 ["thing"] sp_is_text) (G_is_held : Has P w K mg base "is_held" 1 ["item", "known"] sp_is_held) : FnOk P w K mg base CX0 3 f fd ["row", "known"] sp_is_row := by
  refine F.ok sc_is_row (fun vs H Q E h => ?_) (fun cdv A outer s H vs Q E hr h => ?_)
  · obtain ⟨i, ⟨rfl, _⟩, _⟩ := h
    rfl
  · obtain ⟨⟨a, d, names⟩, ⟨rfl, ⟨row, ⟨xs, hx, hl, hi⟩, hz, ho⟩, hd⟩, k⟩ := h
    have hu := hu_of hr
    refine ⟨_, (pss_one (ps_ret (pe_and (pe_callB (cIsi (K := K)) (by rfl) Z.z_isinstance (by decide +kernel) (pa_cons (pv 0) (pa_cons (pe_bltn (by rfl) Z.z_tuple (by decide +kernel) (show RelV (.ty "tuple") _ from rfl)) pa_nil))) (pe_one (pe_callB (cr_all rfl) (by rfl) Z.z_all (by decide +kernel) (pa_cons (pe_lc (own := [(("item" : Str), 2)]) (g := gName 2) rfl sc_is_row.nd (pi_tup (pv 0)) (blkOk_by (own := [(("item" : Str), 2)]) (N := n_is_row) (sc := defScope s_is_row) (by decide +kernel)) (fun _ _ _ _ _ => (pg_name (i := 2) sc_is_row.nd rfl (Or.inl rfl))) (fun _ _ _ _ _ => pts_nil) (fun _ _ _ _ _ => (pe_or (pe_use G_is_text (hr.mono (by decide)) (pa_cons (pv 2) pa_nil)) (pe_one (pe_use G_is_held (hr.mono (by decide)) (pa_cons (pv 2) (pa_cons (pv 1) pa_nil))))))) pa_nil)))))), ?_⟩
    refine s_ret (v := .bl true) (ev_andV (a := true) (ev_isU (ev_var rfl) hx rfl) fun _ => ev_allT (n := xs.length) (el_lcW (src_tup (K := K) (ev_var rfl) (st_of hx)) (by omega) (fun x => rfl) _ (by simp) ?_)) fun H1 e => k _ H1 e rfl
    intro i x y H' e hy hxi
    obtain ⟨hlt, rfl⟩ := List.getElem?_eq_some_iff.mp hy
    rw [List.getElem_replicate]
    have hlt' : i < row.length := by rw [List.length_replicate] at hlt; omega
    have ht : row[i]? = some row[i] := List.getElem?_eq_getElem hlt'
    have h1 := hi i x _ hxi ht
    have h2 := ho _ (List.mem_of_getElem? ht)
    have st : ST H' x := by
      cases hr : row[i] with
      | t s =>
        rw [hr] at h1 h2
        exact .inl ⟨s, h1, h2.2⟩
      | r s =>
        rw [hr] at h1 h2
        obtain ⟨b, rfl, hb⟩ := h1
        exact .inr ⟨b, _, rfl, e _ _ hb⟩
    refine ev_is (ev_orV (a := txB x SIG) (b := true) (ev_use (ea_cons (ev_var rfl) ea_nil) (spE_V x (fun _ e1 => ⟨rfl, st.ex e1⟩) fun v _ p => p)) fun hf => ?_) (by cases txB x SIG <;> rfl)
    cases hr : row[i] with
    | t s =>
      rw [hr] at h1 h2
      obtain rfl : x = .str s := h1
      exact absurd h2.1 (by simpa [txB] using hf)
    | r s =>
      rw [hr] at h1 h2
      obtain ⟨b, rfl, hb⟩ := h1
      refine ev_use (ea_cons (ev_var rfl) (ea_cons (ev_var rfl) ea_nil)) (spE_V (b, d, s, names) (fun _ e1 => ⟨rfl, e1 _ _ (e _ _ hb), hd.le (Le.ex (e.trans e1))⟩) fun v _ p => p.trans ?_)
      have : s ∈ names := h2
      simp [this]
theorem ok_are_rows (F : Fun K "are_rows" "are_rows" s_are_rows f fd) (Z : Zs mg C) (G_is_row : Has P w K mg base "is_row" 3 ["row", "known"] sp_is_row) : FnOk P w K mg base CX0 4 f fd ["rows", "known"] sp_are_rows := by
  refine F.ok sc_are_rows (fun vs H Q E h => ?_) (fun cdv A outer s H vs Q E hr h => ?_)
  · obtain ⟨i, ⟨rfl, _⟩, _⟩ := h
    rfl
  · obtain ⟨⟨r, d, names⟩, ⟨rfl, ⟨kvs, hx, hl, hi⟩, hd⟩, k⟩ := h
    have hu := hu_of hr
    refine ⟨_, (pss_one (ps_ret (pe_and (pe_callB (cIsi (K := K)) (by rfl) Z.z_isinstance (by decide +kernel) (pa_cons (pv 0) (pa_cons (pe_bltn (by rfl) Z.z_dict (by decide +kernel) (show RelV (.ty "dict") _ from rfl)) pa_nil))) (pe_one (pe_callB (cr_all rfl) (by rfl) Z.z_all (by decide +kernel) (pa_cons (pe_lock (pe_lc (own := [(("name" : Str), 2)]) (g := gName 2) rfl sc_are_rows.nd (pi_keys (pv 0)) (blkOk_by (own := [(("name" : Str), 2)]) (N := n_are_rows) (sc := defScope s_are_rows) (by decide +kernel)) (fun _ _ _ _ _ => (pg_name (i := 2) sc_are_rows.nd rfl (Or.inl rfl))) (fun _ _ _ _ _ => pts_nil) (fun _ _ _ _ _ => (pe_and (pe_cmp (pc_din hu (pv 2) (pv 1))) (pe_one (pe_use G_is_row (hr.mono (by decide)) (pa_cons (pe_dget hu (pv 0) (pv 2) (fun _ _ => rfl)) (pa_cons (pv 1) pa_nil)))))))) pa_nil)))))), ?_⟩
    refine s_ret (v := .bl true) (ev_andV (a := true) (ev_isD (ev_var rfl) (.inl hx) rfl) fun _ => ev_allT (n := kvs.length) (lock_EvL hx trivial fun od => ?_)) fun H1 e => k _ H1 e rfl
    have L := Le.lock (od := od) hx rfl rfl
    refine el_lcW (src_keysK (ev_var rfl) upd_same) (by omega) (fun x => rfl) _ (by simp) ?_
    intro i x y H' e hy ⟨kk, v, hkv, hxe⟩
    subst hxe
    obtain ⟨hlt, rfl⟩ := List.getElem?_eq_some_iff.mp hy
    rw [List.getElem_replicate]
    obtain ⟨v', hv', hm⟩ := valV_of (mem_at hkv)
    obtain ⟨n, a, rfl, rfl, hn, hR⟩ := hi _ _ hm
    obtain ⟨kk, hK, hk⟩ := (hd.le L).le (Le.ex e)
    refine ev_is (ev_andV (b := true) (ev_in (k := .inr n) (ev_var rfl) rfl (ev_var rfl) hK) fun _ => ?_) (by rw [hk n]; simp [hn])
    exact ev_use (ea_cons (ev_get (ev_var rfl) (ev_var rfl) (k := .inr n) rfl (ex_rd e (.inr ⟨od, upd_same⟩)) hv') (ea_cons (ev_var rfl) ea_nil)) (spE_V (a, d, names) (fun _ e1 => ⟨rfl, (hR.le L).le (Le.ex (e.trans e1)), (hd.le L).le (Le.ex (e.trans e1))⟩) fun v _ p => p)
end
end KX
end
section
set_option Elab.async false
set_option linter.all false
set_option maxRecDepth 100000
set_option maxHeartbeats 4000000
/-! Bs3: the checks of places, steps, firsts, ends, letters, registers, and of all parts. -/
namespace KX
open PySem PySem.Spec PyProof.Rows L2 Evl
section
variable {P : Program} {w : World} {K : PySem.W.Frag} {mg : Str → Option Value} {base : Heap} {C : Addr} {f : Addr} {fd : FuncData}
theorem ok_is_place (F : Fun K "is_place" "is_place" s_is_place f fd) (Z : Zs mg C) (G_is_state : Has P w K mg base "is_state" 2 ["state", "states"] sp_is_state) : FnOk P w K mg base CX0 3 f fd ["key", "letters", "states"] sp_is_place := by
  refine F.ok sc_is_place (fun vs H Q E h => ?_) (fun cdv A outer s H vs Q E hr h => ?_)
  · obtain ⟨i, ⟨rfl, _⟩, _⟩ := h
    rfl
  · obtain ⟨⟨b, L, n, kk⟩, ⟨rfl, hb, z, c, rfl, h0, h1, hc⟩, k⟩ := h
    refine ⟨_, (pss_cons (ps_if (PW.pt (pw_or (pt_not (pt_val (pe_callB (cIsi (K := K)) (by rfl) Z.z_isinstance (by decide +kernel) (pa_cons (pv 0) (pa_cons (pe_bltn (by rfl) Z.z_tuple (by decide +kernel) (show RelV (.ty "tuple") _ from rfl)) pa_nil))))) (pw_or1 (pt_cmpR op_ne (pe_callB (cLenS (K := K)) (by rfl) Z.z_len PySem.boot_len (pa_cons (pv 0) pa_nil)) pe_int (nomark _))))) 
     (pss_one (ps_ret pe_bl)) pss_nil) 
    (pss_cons (ps_asg (pv 0) (pg_tup rfl (pgs_cons (pg_name (i := 3) sc_is_place.nd rfl (Or.inl rfl)) (pgs_cons (pg_name (i := 4) sc_is_place.nd rfl (Or.inl rfl)) pgs_nil)))) 
    (pss_one (ps_ret (pe_and (pe_use G_is_state (hr.mono (by decide)) (pa_cons (pv 3) (pa_cons (pv 2) pa_nil))) (pe_and (pe_callB (cIsi (K := K)) (by rfl) Z.z_isinstance (by decide +kernel) (pa_cons (pv 4) (pa_cons (pe_bltn (by rfl) Z.z_str (by decide +kernel) (show RelV (.ty "str") _ from rfl)) pa_nil))) (pe_and (pe_cmpR op_eq (pe_callB call_len_str (by rfl) Z.z_len PySem.boot_len (pa_cons (pv 4) pa_nil)) pe_int (nomark _)) (pe_one (pe_cmpR op_in_sign (pv 4) (pv 1) (by rfl)))))))))), ?_⟩
    refine q_when (b := false) (et_or (a := false) (et_not (a := true) (et_B (ev_isU (ev_var rfl) hb rfl))) fun _ => et_test (ev_is (ev_op (ev_lenT (ev_var rfl) (st_of hb)) ev_c (rv_ne rfl)) rfl)) (fun z => by cases z) fun _ H1 e1 => ?_
    have hb1 := e1 _ _ hb
    refine q_unpack2 (ev_var rfl) hb1 fun H2 e2 => ?_
    refine s_ret (v := .bl true) (ev_is (ev_andV (ev_use (ea_cons (ev_var rfl) (ea_cons (ev_var rfl) ea_nil)) (spE_V (z, n) (fun _ _ => rfl) fun v _ p => p)) fun _ => ev_andV (a := true) (ev_isS (ev_var rfl) rfl) fun _ =>
      ev_andV (a := true) (ev_op (ev_lenS (z := ⟨#[c]⟩) (ev_var rfl) (by show 1 ≤ 100000; decide)) ev_c (rv_eq rfl)) fun _ => ev_op (ev_var rfl) (ev_var rfl) fun H3 _ Q q => ⟨c, L, rfl, rfl, q H3 (Ex.refl H3)⟩) ?_) fun H3 e3 => k _ H3 ((e1.trans e2).trans e3) rfl
    simp [h0, h1, hc]
theorem ok_is_step (F : Fun K "is_step" "is_step" s_is_step f fd) (Z : Zs mg C) (G_is_state : Has P w K mg base "is_state" 2 ["state", "states"] sp_is_state) (G_are_rows : Has P w K mg base "are_rows" 4 ["rows", "known"] sp_are_rows) : FnOk P w K mg base CX0 5 f fd ["step", "states", "known"] sp_is_step := by
  refine F.ok sc_is_step (fun vs H Q E h => ?_) (fun cdv A outer s H vs Q E hr h => ?_)
  · obtain ⟨i, ⟨rfl, _⟩, _⟩ := h
    rfl
  · obtain ⟨⟨b, n, d, names⟩, ⟨rfl, ⟨g, r, hb, h0, h1, hR⟩, hd⟩, k⟩ := h
    refine ⟨_, (pss_one (ps_ret (pe_and (pe_callB (cIsi (K := K)) (by rfl) Z.z_isinstance (by decide +kernel) (pa_cons (pv 0) (pa_cons (pe_bltn (by rfl) Z.z_tuple (by decide +kernel) (show RelV (.ty "tuple") _ from rfl)) pa_nil))) (pe_and (pe_cmpR op_eq (pe_callB (cLenS (K := K)) (by rfl) Z.z_len PySem.boot_len (pa_cons (pv 0) pa_nil)) pe_int (nomark _)) (pe_and (pe_use G_is_state (hr.mono (by decide)) (pa_cons (pe_ix (ixT (K := K)) (pv 0) pe_int (fun _ _ => rfl)) (pa_cons (pv 1) pa_nil))) (pe_one (pe_use G_are_rows (hr.mono (by decide)) (pa_cons (pe_ix (ixT (K := K)) (pv 0) pe_int (fun _ _ => rfl)) (pa_cons (pv 2) pa_nil))))))))), ?_⟩
    refine s_ret (v := .bl true) (ev_is (ev_andV (a := true) (ev_isU (ev_var rfl) hb rfl) fun _ => ev_andV (a := true) (ev_op (ev_lenT (ev_var rfl) (st_of hb)) ev_c (rv_eq rfl)) fun _ =>
      ev_andV (b := true) (ev_use (ea_cons (ev_ixU (i := 0) (ev_var rfl) ev_c hb rfl) (ea_cons (ev_var rfl) ea_nil)) (spE_V (g, n) (fun _ _ => rfl) fun v _ p => p)) fun _ =>
        ev_use (ea_cons (ev_ixU (i := 1) (ev_var rfl) ev_c hb rfl) (ea_cons (ev_var rfl) ea_nil)) (spE_V (r, d, names) (fun _ e1 => ⟨rfl, hR.ex e1, hd.le (Le.ex e1)⟩) fun v _ p => p)) ?_) fun H3 e3 => k _ H3 e3 rfl
    simp [h0, h1]
theorem ok_are_steps (F : Fun K "are_steps" "are_steps" s_are_steps f fd) (Z : Zs mg C) (G_is_place : Has P w K mg base "is_place" 3 ["key", "letters", "states"] sp_is_place) (G_is_step : Has P w K mg base "is_step" 5 ["step", "states", "known"] sp_is_step) : FnOk P w K mg base CX0 6 f fd ["steps", "letters", "states", "known"] sp_are_steps := by
  refine F.ok sc_are_steps (fun vs H Q E h => ?_) (fun cdv A outer s H vs Q E hr h => ?_)
  · obtain ⟨i, ⟨rfl, _⟩, _⟩ := h
    rfl
  · obtain ⟨⟨sd, L, n, d, names⟩, ⟨rfl, ⟨kvs, hx, hl, hn, hi⟩, hL, hn0, hn3, hd⟩, k⟩ := h
    have hu := hu_of hr
    refine ⟨_, (pss_cons (ps_if (PW.pt (pw_or (pt_not (pt_val (pe_callB (cIsi (K := K)) (by rfl) Z.z_isinstance (by decide +kernel) (pa_cons (pv 0) (pa_cons (pe_bltn (by rfl) Z.z_dict (by decide +kernel) (show RelV (.ty "dict") _ from rfl)) pa_nil))))) (pw_or1 (pt_cmpR op_ne (pe_callB call_len_dT (by rfl) Z.z_len PySem.boot_len (pa_cons (pv 0) pa_nil)) (pe_op op_mul (pv 2) (pe_callB call_len_str (by rfl) Z.z_len PySem.boot_len (pa_cons (pv 1) pa_nil))) (nomark _))))) 
     (pss_one (ps_ret pe_bl)) pss_nil) 
    (pss_one (ps_ret (pe_callB (cr_all rfl) (by rfl) Z.z_all (by decide +kernel) (pa_cons (pe_lock (pe_lc (own := [(("key" : Str), 4)]) (g := gName 4) rfl sc_are_steps.nd (pi_keys (pv 0)) (blkOk_by (own := [(("key" : Str), 4)]) (N := n_are_steps) (sc := defScope s_are_steps) (by decide +kernel)) (fun _ _ _ _ _ => (pg_name (i := 4) sc_are_steps.nd rfl (Or.inl rfl))) (fun _ _ _ _ _ => pts_nil) (fun _ _ _ _ _ => (pe_and (pe_use G_is_place (hr.mono (by decide)) (pa_cons (pv 4) (pa_cons (pv 1) (pa_cons (pv 2) pa_nil)))) (pe_one (pe_use G_is_step (hr.mono (by decide)) (pa_cons (pe_dget hu (pv 0) (pv 4) (fun _ _ => rfl)) (pa_cons (pv 2) (pa_cons (pv 3) pa_nil))))))))) pa_nil))))), ?_⟩
    refine q_when (b := false) (et_or (a := false) (et_not (a := true) (et_B (ev_isDT (ev_var rfl) hx rfl))) fun _ => et_test (ev_is (ev_op (x := .int (kvs.length : Nat)) (y := .int (n * (L.length : Int))) ?_ (ev_op (ev_var rfl) (ev_lenS (ev_var rfl) (by omega)) (rv_I (.inl ⟨by omega, by omega⟩))) (rv_ne rfl)) (by rw [hn]; simp))) (fun z => by cases z) fun _ H1 e1 => ?_
    · exact ev_cb (ea_cons (ev_var rfl) ea_nil) fun H1 e1 Q q => ⟨sd, kvs, rfl, e1 _ _ hx, q H1 (Ex.refl H1)⟩
    have hx1 := e1 _ _ hx
    refine s_ret (v := .bl true) (ev_allT (n := kvs.length) (lock_EvL hx1 trivial fun od => ?_)) fun H2 e2 => k _ H2 (e1.trans e2) rfl
    have Lk := Le.lock (od := od) hx1 rfl rfl
    refine el_lcW (src_keysT (ev_var rfl) upd_same) (by omega) (fun x => rfl) _ (by simp) ?_
    intro i x y H' e hy ⟨kk, v, q, hkv, hxe, hq⟩
    subst hxe
    obtain ⟨hlt, rfl⟩ := List.getElem?_eq_some_iff.mp hy
    rw [List.getElem_replicate]
    obtain ⟨v', hv', hm⟩ := valV_of (mem_at hkv)
    obtain ⟨hp, b, rfl, hS⟩ := hi _ _ hm
    obtain ⟨g, r, hb, h0, h1, hR⟩ := hS.ex e1
    have hS2 : StX n names (upd H1 sd (.frz od (.dT kvs))) b := ⟨g, r, Lk.st _ _ rfl hb, h0, h1, hR.lockT hx1⟩
    have hd2 := (hd.le (Le.ex e1)).le Lk
    refine ev_is (ev_andV (a := true) (b := true) (ev_use (ea_cons (ev_var rfl) (ea_cons (ev_var rfl) (ea_cons (ev_var rfl) ea_nil))) (spE_V (q, L, n, kk) (fun _ e1 => ⟨rfl, e1 _ _ hq, hp⟩) fun v _ p => p)) fun _ => ?_) rfl
    exact ev_use (ea_cons (ev_getT (ev_var rfl) (ev_var rfl) hq (ex_rd e (.inr ⟨od, upd_same⟩)) hv') (ea_cons (ev_var rfl) (ea_cons (ev_var rfl) ea_nil))) (spE_V (b, n, d, names) (fun _ e3 => ⟨rfl, hS2.ex (e.trans e3), hd2.le (Le.ex (e.trans e3))⟩) fun v _ p => p)
theorem ok_are_firsts (F : Fun K "are_firsts" "are_firsts" s_are_firsts f fd) (Z : Zs mg C) (G_is_text : Has P w K mg base "is_text" 2 ["thing"] sp_is_text) : FnOk P w K mg base CX0 3 f fd ["firsts", "known"] sp_are_firsts := by
  refine F.ok sc_are_firsts (fun vs H Q E h => ?_) (fun cdv A outer s H vs Q E hr h => ?_)
  · obtain ⟨i, ⟨rfl, _⟩, _⟩ := h
    rfl
  · obtain ⟨⟨r, d, names⟩, ⟨rfl, ⟨kvs, hx, hl, hi⟩, hd⟩, k⟩ := h
    have hu := hu_of hr
    refine ⟨_, (pss_one (ps_ret (pe_and (pe_callB (cIsi (K := K)) (by rfl) Z.z_isinstance (by decide +kernel) (pa_cons (pv 0) (pa_cons (pe_bltn (by rfl) Z.z_dict (by decide +kernel) (show RelV (.ty "dict") _ from rfl)) pa_nil))) (pe_one (pe_callB (cr_all rfl) (by rfl) Z.z_all (by decide +kernel) (pa_cons (pe_lock (pe_lc (own := [(("name" : Str), 2)]) (g := gName 2) rfl sc_are_firsts.nd (pi_keys (pv 0)) (blkOk_by (own := [(("name" : Str), 2)]) (N := n_are_firsts) (sc := defScope s_are_firsts) (by decide +kernel)) (fun _ _ _ _ _ => (pg_name (i := 2) sc_are_firsts.nd rfl (Or.inl rfl))) (fun _ _ _ _ _ => pts_nil) (fun _ _ _ _ _ => (pe_and (pe_cmp (pc_din hu (pv 2) (pv 1))) (pe_one (pe_use G_is_text (hr.mono (by decide)) (pa_cons (pe_dget hu (pv 0) (pv 2) (fun _ _ => rfl)) pa_nil))))))) pa_nil)))))), ?_⟩
    refine s_ret (v := .bl true) (ev_andV (a := true) (ev_isD (ev_var rfl) (.inl hx) rfl) fun _ => ev_allT (n := kvs.length) (lock_EvL hx trivial fun od => ?_)) fun H1 e => k _ H1 e rfl
    have L := Le.lock (od := od) hx rfl rfl
    refine el_lcW (src_keysK (ev_var rfl) upd_same) (by omega) (fun x => rfl) _ (by simp) ?_
    intro i x y H' e hy ⟨kk, v, hkv, hxe⟩
    subst hxe
    obtain ⟨hlt, rfl⟩ := List.getElem?_eq_some_iff.mp hy
    rw [List.getElem_replicate]
    obtain ⟨v', hv', hm⟩ := valV_of (mem_at hkv)
    obtain ⟨n, s, rfl, rfl, hn, hT⟩ := hi _ _ hm
    obtain ⟨kk, hK, hk⟩ := (hd.le L).le (Le.ex e)
    refine ev_is (ev_andV (b := true) (ev_in (k := .inr n) (ev_var rfl) rfl (ev_var rfl) hK) fun _ => ?_) (by rw [hk n]; simp [hn])
    refine ev_use (ea_cons (ev_get (ev_var rfl) (ev_var rfl) (k := .inr n) rfl (ex_rd e (.inr ⟨od, upd_same⟩)) hv') ea_nil) (spE_V (.str s) (fun _ e1 => ⟨rfl, .inl ⟨s, rfl, hT.2⟩⟩) fun v _ p => p.trans ?_)
    simp [txB, hT.1]
theorem ok_are_ends (F : Fun K "are_ends" "are_ends" s_are_ends f fd) (Z : Zs mg C) (G_is_state : Has P w K mg base "is_state" 2 ["state", "states"] sp_is_state) (G_is_row : Has P w K mg base "is_row" 3 ["row", "known"] sp_is_row) : FnOk P w K mg base CX0 4 f fd ["ends", "states", "known"] sp_are_ends := by
  refine F.ok sc_are_ends (fun vs H Q E h => ?_) (fun cdv A outer s H vs Q E hr h => ?_)
  · obtain ⟨i, ⟨rfl, _⟩, _⟩ := h
    rfl
  · obtain ⟨⟨r, z, d, names⟩, ⟨rfl, ⟨kvs, hx, hl, hi⟩, hd⟩, k⟩ := h
    have hu := hu_of hr
    refine ⟨_, (pss_one (ps_ret (pe_and (pe_callB (cIsi (K := K)) (by rfl) Z.z_isinstance (by decide +kernel) (pa_cons (pv 0) (pa_cons (pe_bltn (by rfl) Z.z_dict (by decide +kernel) (show RelV (.ty "dict") _ from rfl)) pa_nil))) (pe_one (pe_callB (cr_all rfl) (by rfl) Z.z_all (by decide +kernel) (pa_cons (pe_lock (pe_lc (own := [(("state" : Str), 3)]) (g := gName 3) rfl sc_are_ends.nd (pi_keys (pv 0)) (blkOk_by (own := [(("state" : Str), 3)]) (N := n_are_ends) (sc := defScope s_are_ends) (by decide +kernel)) (fun _ _ _ _ _ => (pg_name (i := 3) sc_are_ends.nd rfl (Or.inl rfl))) (fun _ _ _ _ _ => pts_nil) (fun _ _ _ _ _ => (pe_and (pe_use G_is_state (hr.mono (by decide)) (pa_cons (pv 3) (pa_cons (pv 1) pa_nil))) (pe_one (pe_use G_is_row (hr.mono (by decide)) (pa_cons (pe_dget hu (pv 0) (pv 3) (fun _ _ => rfl)) (pa_cons (pv 2) pa_nil)))))))) pa_nil)))))), ?_⟩
    refine s_ret (v := .bl true) (ev_andV (a := true) (ev_isD (ev_var rfl) (.inl hx) rfl) fun _ => ev_allT (n := kvs.length) (lock_EvL hx trivial fun od => ?_)) fun H1 e => k _ H1 e rfl
    have L := Le.lock (od := od) hx rfl rfl
    refine el_lcW (src_keysK (ev_var rfl) upd_same) (by omega) (fun x => rfl) _ (by simp) ?_
    intro i x y H' e hy ⟨kk, v, hkv, hxe⟩
    subst hxe
    obtain ⟨hlt, rfl⟩ := List.getElem?_eq_some_iff.mp hy
    rw [List.getElem_replicate]
    obtain ⟨v', hv', hm⟩ := valV_of (mem_at hkv)
    obtain ⟨s, a, rfl, rfl, h0, h1, hR⟩ := hi _ _ hm
    refine ev_is (ev_andV (b := true) (ev_use (ea_cons (ev_var rfl) (ea_cons (ev_var rfl) ea_nil)) (spE_V (s, z) (fun _ _ => rfl) fun v _ p => p)) fun _ => ?_) (by simp [h0, h1])
    exact ev_use (ea_cons (ev_get (ev_var rfl) (ev_var rfl) (k := .inl s) rfl (ex_rd e (.inr ⟨od, upd_same⟩)) hv') (ea_cons (ev_var rfl) ea_nil)) (spE_V (a, d, names) (fun _ e1 => ⟨rfl, (hR.le L).le (Le.ex (e.trans e1)), (hd.le L).le (Le.ex (e.trans e1))⟩) fun v _ p => p)
end
end KX
end
section
set_option Elab.async false
set_option linter.all false
set_option maxRecDepth 100000
set_option maxHeartbeats 4000000
/-! Bs4: letters, registers, all parts; texts of rows. -/
namespace KX
open PySem PySem.Spec PyProof.Rows L2 Evl
section
variable {K : PySem.W.Frag} {σ : L2.St} {H : Hp} {ta tb tc te td : TE} {P : Program} {w : World} {D : Ends} {tz : TS}
theorem q_new {N : HO → Hp → Prop} {i : Nat} (h : New te σ H N) (k : ∀ p o H1, H p = none → Ex H H1 → H1 p = some o → N o H1 → tz D (σ.set i (some (.ref p))) H1) : tSeq (tAsg te (gName i)) tz D σ H := h H (Ex.refl H) _ fun p o H1 e1 e2 e3 n => k p o H1 e1 e2 e3 n
theorem s_retN {N : HO → Hp → Prop} (h : New te σ H N) (k : ∀ p o H1, H p = none → Ex H H1 → H1 p = some o → N o H1 → D.rt (.ref p) H1) : tRet te D σ H := h H (Ex.refl H) _ fun p o H1 e1 e2 e3 n => k p o H1 e1 e2 e3 n
theorem s_retP {Pv : V → Hp → Prop} (h : EvP te σ H Pv) (k : ∀ v H1, Ex H H1 → Pv v H1 → D.rt v H1) : tRet te D σ H := h H (Ex.refl H) _ k
theorem q_asgP {Pv : V → Hp → Prop} {i : Nat} (h : EvP te σ H Pv) (k : ∀ v H1, Ex H H1 → Pv v H1 → tz D (σ.set i (some v)) H1) : tSeq (tAsg te (gName i)) tz D σ H := h H (Ex.refl H) _ k
/-- len(set(a text)), its signs unlike -/
theorem ev_lenSetS {z : Str} (ha : Ev ta σ H (.str z)) (hnd : (z.cps.toList.map fun c => (⟨#[c]⟩ : Str)).Nodup) (hz : z.length ≤ 1000) : Ev (tCB (rLenA P w) (tCons (tCB (rSetA K P w) (tCons ta tNil)) tNil)) σ H (.int (z.length : Int)) := fun H1 e Q q =>
  ha H1 e _ fun H2 e2 => ⟨_, .inr ⟨z, rfl, rfl⟩, hnd, by
    rw [List.length_map, Array.length_toList]
    show z.length + 1 < 4096
    omega, fun p hp => ⟨p, _, rfl, upd_same, by
      have hl : (z.cps.toList.map fun c => (⟨#[c]⟩ : Str)).length = z.length := by rw [List.length_map, Array.length_toList]; rfl
      rw [hl]
      exact q _ (e2.trans (Ex.new hp))⟩⟩
theorem ev_lenSetL {a : Addr} {xs : List Str} (ha : Ev ta σ H (.ref a)) (h : SqL K H a (xs.map V.str)) (hnd : xs.Nodup) (hz : xs.length ≤ 1000) : Ev (tCB (rLenA P w) (tCons (tCB (rSetA K P w) (tCons ta tNil)) tNil)) σ H (.int (xs.length : Int)) := fun H1 e Q q =>
  ha H1 e _ fun H2 e2 => ⟨xs, .inl ⟨a, rfl, .inl (ex_l (e.trans e2) h)⟩, hnd, by
    show xs.length + 1 < 4096
    omega, fun p hp => ⟨p, _, rfl, upd_same, q _ (e2.trans (Ex.new hp))⟩⟩
/-- isinstance(a list, (list, tuple)) -/
theorem ev_isLT {a : Addr} {xs : List V} (ha : Ev ta σ H (.ref a)) (h : H a = some (.lst xs)) : Ev (tCB (rIsiT K) (tCons ta (tCons (tTup (tCons (tC (.ty "list")) (tCons (tC (.ty "tuple")) tNil))) tNil))) σ H (.bl true) := fun H1 e Q q =>
  ha H1 e _ fun H2 e2 => ⟨by show 2 ≤ sizeLine; decide, fun p hp => ⟨.ref a, p, _, .type "list", [.type "list", .type "tuple"], true, rfl, upd_same, .cons (.ty "list") (.cons (.ty "tuple") .nil), .base (.lst (by
    have h2 := (e.trans e2) _ _ h
    rw [upd_ne (ne_of_none h2 hp)]
    exact h2)), kitAny_cons (b := true) (kit_ty rfl) (fun z => by cases z) (fun _ => rfl), q _ (e2.trans (Ex.new hp))⟩⟩
end

structure PartsX (H : Hp) (L : Str) (n : Int) (regs : List Str) (ra fa sa ea : Addr) : Prop where
  lT : Tx L
  l1 : 1 ≤ L.length
  l4 : L.length ≤ 4
  lN : (L.cps.toList.map fun c => (⟨#[c]⟩ : Str)).Nodup
  n1 : 1 ≤ n
  n3 : n ≤ 300
  rS : H ra = some (.lst (regs.map V.str))
  rN : regs.Nodup
  r6 : regs.length ≤ 60
  rW : ∀ x ∈ regs, Wd x
  f : FirstsX regs H fa
  s : StepsX L n regs H sa
  e : EndsX n regs H ea
theorem PartsX.ex {H H' : Hp} {L : Str} {n : Int} {regs : List Str} {ra fa sa ea : Addr} (e : Ex H H') (h : PartsX H L n regs ra fa sa ea) : PartsX H' L n regs ra fa sa ea :=
  ⟨h.lT, h.l1, h.l4, h.lN, h.n1, h.n3, e _ _ h.rS, h.rN, h.r6, h.rW, h.f.ex e, h.s.ex e, h.e.ex e⟩
def sp_are_letters : Sp := spE (fun (L : Str) vs _ => vs = [.str L] ∧ Tx L ∧ 1 ≤ L.length ∧ L.length ≤ 4 ∧ (L.cps.toList.map fun c => (⟨#[c]⟩ : Str)).Nodup) (fun _ v _ => v = .bl true)
def sp_are_registers : Sp := spE (fun (x : Addr × List Str) vs H => vs = [.ref x.1] ∧ H x.1 = some (.lst (x.2.map V.str)) ∧ x.2.Nodup ∧ x.2.length ≤ 60 ∧ ∀ s ∈ x.2, Wd s) (fun _ v _ => v = .bl true)
structure FW where
  L : Str
  n : Int
  regs : List Str
  ra : Addr
  fa : Addr
  sa : Addr
  ea : Addr
def sp_first_wrong : Sp := spE (fun (x : FW) vs H => vs = [.str x.L, .int x.n, .ref x.ra, .ref x.fa, .ref x.sa, .ref x.ea] ∧ PartsX H x.L x.n x.regs x.ra x.fa x.sa x.ea) (fun _ v _ => v = .non)
section
variable {P : Program} {w : World} {K : PySem.W.Frag} {mg : Str → Option Value} {base : Heap} {C : Addr} {f : Addr} {fd : FuncData}
theorem ok_are_letters (F : Fun K "are_letters" "are_letters" s_are_letters f fd) (Z : Zs mg C) (G_is_text : Has P w K mg base "is_text" 2 ["thing"] sp_is_text) : FnOk P w K mg base CX0 3 f fd ["letters"] sp_are_letters := by
  refine F.ok sc_are_letters (fun vs H Q E h => ?_) (fun cdv A outer s H vs Q E hr h => ?_)
  · obtain ⟨i, ⟨rfl, _⟩, _⟩ := h
    rfl
  · obtain ⟨L, ⟨rfl, hT, h1, h4, hN⟩, k⟩ := h
    refine ⟨_, (pss_one (ps_ret (pe_and (pe_use G_is_text (hr.mono (by decide)) (pa_cons (pv 0) pa_nil)) (pe_and (pe_chain op_le op_le pe_int (pe_callB call_len_str (by rfl) Z.z_len PySem.boot_len (pa_cons (pv 0) pa_nil)) (pe_gcI rfl Z.c_MOST_LETTERS)) (pe_one (pe_cmpR op_eq (pe_callB call_lenA (by rfl) Z.z_len PySem.boot_len (pa_cons (pe_callTy (cr_setA (K := K) rfl) (by rfl) Z.z_set (by decide +kernel) (pa_cons (pv 0) pa_nil)) pa_nil)) (pe_callB call_len_str (by rfl) Z.z_len PySem.boot_len (pa_cons (pv 0) pa_nil)) (nomark _))))))), ?_⟩
    refine s_ret (v := .bl true) (ev_is (ev_andV (a := txB (.str L) SIG) (ev_use (ea_cons (ev_var rfl) ea_nil) (spE_V (.str L) (fun _ _ => ⟨rfl, .inl ⟨L, rfl, hT.2⟩⟩) fun v _ p => p)) fun _ => ev_andV (ev_between ev_c (ev_lenS (ev_var rfl) hT.2) ev_c) fun _ =>
      ev_op (ev_lenSetS (ev_var rfl) hN (by omega)) (ev_lenS (ev_var rfl) hT.2) (rv_eq rfl)) ?_) fun H3 e3 => k _ H3 e3 rfl
    simp [txB, hT.1]
    omega
theorem ok_are_registers (F : Fun K "are_registers" "are_registers" s_are_registers f fd) (Z : Zs mg C) (G_is_word : Has P w K mg base "is_word" 2 ["thing"] sp_is_word) : FnOk P w K mg base CX0 3 f fd ["registers"] sp_are_registers := by
  refine F.ok sc_are_registers (fun vs H Q E h => ?_) (fun cdv A outer s H vs Q E hr h => ?_)
  · obtain ⟨i, ⟨rfl, _⟩, _⟩ := h
    rfl
  · obtain ⟨⟨ra, xs⟩, ⟨rfl, hx, hN, h6, hW⟩, k⟩ := h
    refine ⟨_, (pss_cons (ps_if (PW.pt (pw_or (pt_not (pt_val (pe_callB (cIsiT (K := K)) (by rfl) Z.z_isinstance (by decide +kernel) (pa_cons (pv 0) (pa_cons (pe_tup (pa_cons (pe_bltn (by rfl) Z.z_list (by decide +kernel) (show RelV (.ty "list") _ from rfl)) (pa_cons (pe_bltn (by rfl) Z.z_tuple (by decide +kernel) (show RelV (.ty "tuple") _ from rfl)) pa_nil))) pa_nil))))) (pw_or1 (pt_cmpR op_gt (pe_callB (cLenS (K := K)) (by rfl) Z.z_len PySem.boot_len (pa_cons (pv 0) pa_nil)) (pe_gcI rfl Z.c_MOST_REGISTERS) (nomark _))))) 
     (pss_one (ps_ret pe_bl)) pss_nil) 
    (pss_one (ps_ret (pe_and (pe_callB (cr_all rfl) (by rfl) Z.z_all (by decide +kernel) (pa_cons (pe_lc (own := [(("name" : Str), 1)]) (g := gName 1) rfl sc_are_registers.nd (pi_list (pv 0)) (blkOk_by (own := [(("name" : Str), 1)]) (N := n_are_registers) (sc := defScope s_are_registers) (by decide +kernel)) (fun _ _ _ _ _ => (pg_name (i := 1) sc_are_registers.nd rfl (Or.inl rfl))) (fun _ _ _ _ _ => pts_nil) (fun _ _ _ _ _ => (pe_use G_is_word (hr.mono (by decide)) (pa_cons (pv 1) pa_nil)))) pa_nil)) (pe_one (pe_cmpR op_eq (pe_callB call_lenA (by rfl) Z.z_len PySem.boot_len (pa_cons (pe_callTy (cr_setA (K := K) rfl) (by rfl) Z.z_set (by decide +kernel) (pa_cons (pv 0) pa_nil)) pa_nil)) (pe_callB (cLenS (K := K)) (by rfl) Z.z_len PySem.boot_len (pa_cons (pv 0) pa_nil)) (nomark _))))))), ?_⟩
    have h6 : xs.length ≤ 60 := h6
    have hl : (xs.map V.str).length = xs.length := List.length_map _
    refine q_when (b := false) (et_is (et_or (a := false) (et_not (a := true) (et_B (ev_isLT (ev_var rfl) hx))) fun _ => et_test (ev_op (ev_len (ev_var rfl) (sq_of hx)) ev_c rv_I0)) (by
      rw [hl]
      simp
      omega)) (fun z => by cases z) fun _ H1 e1 => ?_
    have hx1 := e1 _ _ hx
    refine s_ret (v := .bl true) (ev_is (ev_andV (a := true) (ev_allT (n := (xs.map V.str).length) (el_lcW (src_list (K := K) (ev_var rfl) (sq_of hx1)) (by show (xs.map V.str).length ≤ 100000; omega) (fun x => rfl) _ (by simp) ?_)) fun _ =>
      ev_op (ev_lenSetL (ev_var rfl) (sq_of hx1) hN (by omega)) (ev_len (ev_var rfl) (sq_of hx1)) (rv_eq rfl)) ?_) fun H3 e3 => k _ H3 (e1.trans e3) rfl
    · intro i x y H' e hy hxi
      obtain ⟨hlt, rfl⟩ := List.getElem?_eq_some_iff.mp hy
      rw [List.getElem_replicate]
      obtain ⟨s, hs, rfl⟩ := List.mem_map.mp (List.mem_of_getElem? hxi)
      have hw := hW s hs
      refine ev_use (ea_cons (ev_var rfl) ea_nil) (spE_V s (fun _ _ => ⟨rfl, by have := hw.2.2; omega⟩) fun v _ p => p.trans ?_)
      rw [decide_eq_true hw]
    · rw [hl]
      simp
theorem ok_first_wrong (F : Fun K "first_wrong" "first_wrong" s_first_wrong f fd) (Z : Zs mg C) (G_are_ends : Has P w K mg base "are_ends" 4 ["ends", "states", "known"] sp_are_ends) (G_are_firsts : Has P w K mg base "are_firsts" 3 ["firsts", "known"] sp_are_firsts)
    (G_are_letters : Has P w K mg base "are_letters" 3 ["letters"] sp_are_letters) (G_are_registers : Has P w K mg base "are_registers" 3 ["registers"] sp_are_registers) (G_are_steps : Has P w K mg base "are_steps" 6 ["steps", "letters", "states", "known"] sp_are_steps) (G_is_number : Has P w K mg base "is_number" 1 ["thing"] sp_is_number) :
    FnOk P w K mg base CX0 7 f fd ["letters", "states", "registers", "firsts", "steps", "ends"] sp_first_wrong := by
  refine F.ok sc_first_wrong (fun vs H Q E h => ?_) (fun cdv A outer s H vs Q E hr h => ?_)
  · obtain ⟨i, ⟨rfl, _⟩, _⟩ := h
    rfl
  · obtain ⟨⟨L, n, regs, ra, fa, sa, ea⟩, ⟨rfl, X⟩, k⟩ := h
    have X : PartsX H L n regs ra fa sa ea := X
    have hu := hu_of hr
    have hu64 := hr.units
    have hu0 := Nat.lt_of_succ_lt hu
    refine ⟨_, (pss_cons (ps_if (pt_not (pt_val (pe_use G_are_letters (hr.mono (by decide)) (pa_cons (pv 0) pa_nil)))) 
     (pss_one (ps_ret pe_str)) pss_nil) 
    (pss_cons (ps_if (PW.pt (pw_or (pt_not (pt_val (pe_use G_is_number (hr.mono (by decide)) (pa_cons (pv 1) pa_nil)))) (pw_or1 (pt_not (pt_chain op_le op_le pe_int (pv 1) (pe_gcI rfl Z.c_MOST_STATES)))))) 
     (pss_one (ps_ret pe_str)) pss_nil) 
    (pss_cons (ps_if (pt_not (pt_val (pe_use G_are_registers (hr.mono (by decide)) (pa_cons (pv 2) pa_nil)))) 
     (pss_one (ps_ret pe_str)) pss_nil) 
    (pss_cons (ps_setDp (i := 6) (own := [(("name" : Str), 7)]) (g := gName 7) IsNil.k hu0 rfl sc_first_wrong.nd rfl rfl (sw_trueD rfl rfl rfl (by decide +kernel)) (pi_list (pv 2)) (blkOk_by (own := [(("name" : Str), 7)]) (N := n_first_wrong) (sc := defScope s_first_wrong) (by decide +kernel)) (fun _ _ _ _ _ => (pg_name (i := 7) sc_first_wrong.nd rfl (Or.inl rfl))) (fun _ _ _ _ _ => pts_nil) (fun _ _ _ _ _ => (pv 7)) (fun _ _ _ _ _ => pe_bl)) 
    (pss_cons (ps_if (pt_not (pt_val (pe_use G_are_firsts (hr.mono (by decide)) (pa_cons (pv 3) (pa_cons (pv 6) pa_nil))))) 
     (pss_one (ps_ret pe_str)) pss_nil) 
    (pss_cons (ps_if (pt_not (pt_val (pe_use G_are_steps (hr.mono (by decide)) (pa_cons (pv 4) (pa_cons (pv 0) (pa_cons (pv 1) (pa_cons (pv 6) pa_nil))))))) 
     (pss_one (ps_ret pe_str)) pss_nil) 
    (pss_cons (ps_if (pt_not (pt_val (pe_use G_are_ends (hr.mono (by decide)) (pa_cons (pv 5) (pa_cons (pv 1) (pa_cons (pv 6) pa_nil)))))) 
     (pss_one (ps_ret pe_str)) pss_nil) 
    (pss_one (ps_ret pe_non))))))))), ?_⟩
    refine q_when (b := false) (et_not (a := true) (et_B (ev_use (ea_cons (ev_var rfl) ea_nil) (spE_V L (fun _ _ => ⟨rfl, X.lT, X.l1, X.l4, X.lN⟩) fun v _ p => p)))) (fun z => by cases z) fun _ H1 e1 => ?_
    refine q_when (b := false) (et_is (et_or (a := false) (et_not (a := true) (et_B (ev_use (ea_cons (ev_var rfl) ea_nil) (spE_V n (fun _ _ => rfl) fun v _ p => p)))) fun _ => et_not (et_test (ev_between ev_c (ev_var rfl) ev_c))) (by
      have h1 := X.n1
      have h3 := X.n3
      simp
      omega)) (fun z => by cases z) fun _ H2 e2 => ?_
    have X2 := X.ex (e1.trans e2)
    refine q_when (b := false) (et_not (a := true) (et_B (ev_use (ea_cons (ev_var rfl) ea_nil) (spE_V (ra, regs) (fun _ e => ⟨rfl, e _ _ X2.rS, X.rN, X.r6, X.rW⟩) fun v _ p => p)))) (fun z => by cases z) fun _ H3 e3 => ?_
    have X3 := X2.ex e3
    have hr6 := X.r6
    refine q_new (new_dpK (src_list (K := K) (ev_var rfl) (sq_of X3.rS)) (by rw [List.length_map]; omega) (fun x => rfl) (regs.map Sum.inr) (by simp) (List.Pairwise.map Sum.inr (fun a b h q => h (Sum.inr.inj q)) X.rN) (fun _ v _ => v = .bl true) (fun _ _ => stab_pure) ?_ ?_ ?_) fun d o H4 hd e4 h4 ⟨kvs, eo, hk, hv⟩ => ?_
    · intro i x k H' e hk hx
      rw [List.getElem?_map] at hk hx
      cases hr : regs[i]? with
      | none => rw [hr] at hk; cases hk
      | some s =>
        rw [hr] at hk hx
        cases hk
        cases hx
        exact ev_var rfl
    · intro i x H' e hi hx
      exact EvP.of ev_c
    · intro i x H' H'' _ h
      exact h
    subst eo
    have X4 := X3.ex e4
    have kn : Kn regs H4 d := ⟨kvs, .inl h4, fun s => by
      by_cases hs : s ∈ regs
      · obtain ⟨v, hv, _⟩ := valV_key (kvs := kvs) (k := .inr s) (by rw [hk]; exact List.mem_map_of_mem hs)
        rw [hv]
        simp [hs]
      · cases hv : valV kvs (.inr s) with
        | none => simp [hs]
        | some v =>
          have hm := List.mem_map_of_mem (f := (·.1)) (valV_mem hv)
          rw [hk] at hm
          obtain ⟨s', h1, h2⟩ := List.mem_map.mp hm
          cases h2
          exact absurd h1 hs⟩
    refine q_when (b := false) (et_not (a := true) (et_B (ev_use (ea_cons (ev_var rfl) (ea_cons (ev_var rfl) ea_nil)) (spE_V (fa, d, regs) (fun _ e => ⟨rfl, X4.f.ex e, kn.le (Le.ex e)⟩) fun v _ p => p)))) (fun z => by cases z) fun _ H5 e5 => ?_
    have X5 := X4.ex e5
    have kn5 := kn.le (Le.ex e5)
    refine q_when (b := false) (et_not (a := true) (et_B (ev_use (ea_cons (ev_var rfl) (ea_cons (ev_var rfl) (ea_cons (ev_var rfl) (ea_cons (ev_var rfl) ea_nil)))) (spE_V (sa, L, n, d, regs) (fun _ e => ⟨rfl, X5.s.ex e, by show L.length ≤ 100; have := X.l4; omega, by show 0 ≤ n; have := X.n1; omega, X.n3, kn5.le (Le.ex e)⟩) fun v _ p => p)))) (fun z => by cases z) fun _ H6 e6 => ?_
    have X6 := X5.ex e6
    have kn6 := kn5.le (Le.ex e6)
    refine q_when (b := false) (et_not (a := true) (et_B (ev_use (ea_cons (ev_var rfl) (ea_cons (ev_var rfl) (ea_cons (ev_var rfl) ea_nil))) (spE_V (ea, n, d, regs) (fun _ e => ⟨rfl, X6.e.ex e, kn6.le (Le.ex e)⟩) fun v _ p => p)))) (fun z => by cases z) fun _ H7 e7 => ?_
    exact s_ret (v := .non) ev_c fun H8 e8 => k _ H8 (((((((e1.trans e2).trans e3).trans e4).trans e5).trans e6).trans e7).trans e8) rfl
end
end KX
end
section
set_option Elab.async false
set_option linter.all false
set_option maxRecDepth 100000
set_option maxHeartbeats 4000000
/-! Bs5: texts put together, rows put together. -/
namespace KX
open PySem PySem.Spec PyProof.Rows L2 Evl

/-! ### texts side by side -/
abbrev cds (s : Str) : List Nat := s.cps.toList
def cat (ts : List Str) : Str := Txt.join "" ts
theorem cds_inj {a b : Str} (h : cds a = cds b) : a = b := by
  cases a with | mk x =>
  cases b with | mk y =>
  congr 1
  exact Array.toList_inj.mp h
theorem joinL_nil : ∀ l : List (List Nat), TL.joinL [] l = l.flatten
  | [] => rfl
  | [p] => by simp [TL.joinL]
  | p :: q :: r => by
    show p ++ ([] ++ TL.joinL [] (q :: r)) = _
    rw [joinL_nil (q :: r)]
    simp
theorem cds_cat (ts : List Str) : cds (cat ts) = (ts.map cds).flatten := by
  unfold cat
  rw [TL.join_eq]
  have h := TL.tl_join "" ts
  have h0 : TL.tl ("" : Str) = [] := rfl
  rw [h0, joinL_nil] at h
  exact h
theorem cat_append (a b : List Str) : cat (a ++ b) = cat [cat a, cat b] := by
  apply cds_inj
  simp [cds_cat]
theorem len_cds (s : Str) : s.length = (cds s).length := by
  rw [Array.length_toList]
  rfl
theorem len_cat (ts : List Str) : (cat ts).length = (ts.map (·.length)).sum := by
  rw [len_cds, cds_cat, List.length_flatten, List.map_map]
  congr 1
theorem empty_of {s : Str} (h : s.length = 0) : s = "" := by
  apply cds_inj
  rw [len_cds] at h
  rw [List.eq_nil_of_length_eq_zero h]
  rfl
def itT (h : Str → Str) : Itm → Str
  | .t s => s
  | .r n => h n
/-- the text of a row -/
def wr (row : List Itm) (h : Str → Str) : Str := cat (row.map (itT h))
theorem cds_wr (row : List Itm) (h : Str → Str) : cds (wr row h) = (row.map fun t => cds (itT h t)).flatten := by
  unfold wr
  rw [cds_cat, List.map_map]
  rfl
def oneS (ts : List Str) : List Str := if cat ts = "" then [] else [cat ts]
/-- a row in its one form -/
def nrmGo : List Itm → List Itm → List Str → List Itm
  | [], acc, ts => acc ++ (oneS ts).map .t
  | .t s :: r, acc, ts => nrmGo r acc (ts ++ [s])
  | .r n :: r, acc, ts => nrmGo r (acc ++ (oneS ts).map .t ++ [.r n]) []
def nrm (row : List Itm) : List Itm := nrmGo row [] []
theorem cds_oneS (ts : List Str) (h : Str → Str) : (((oneS ts).map Itm.t).map fun t => cds (itT h t)).flatten = cds (cat ts) := by
  unfold oneS
  by_cases e : cat ts = ""
  · rw [if_pos e, e]
    rfl
  · rw [if_neg e]
    simp [itT]
theorem cds_nrmGo (h : Str → Str) : ∀ (row acc : List Itm) (ts : List Str), cds (wr (nrmGo row acc ts) h) = cds (wr acc h) ++ cds (cat ts) ++ cds (wr row h)
  | [], acc, ts => by
    show cds (wr (acc ++ (oneS ts).map .t) h) = _
    rw [cds_wr, List.map_append, List.flatten_append, cds_oneS, ← cds_wr]
    have : cds (wr [] h) = [] := by rw [cds_wr]; rfl
    rw [this, List.append_nil]
  | .t s :: r, acc, ts => by
    show cds (wr (nrmGo r acc (ts ++ [s])) h) = _
    rw [cds_nrmGo h r, cds_cat, cds_cat, List.map_append, List.flatten_append]
    have : cds (wr (.t s :: r) h) = cds s ++ cds (wr r h) := by rw [cds_wr, cds_wr]; rfl
    rw [this]
    simp
  | .r n :: r, acc, ts => by
    show cds (wr (nrmGo r (acc ++ (oneS ts).map .t ++ [.r n]) []) h) = _
    rw [cds_nrmGo h r]
    have e1 : cds (wr (.r n :: r) h) = cds (h n) ++ cds (wr r h) := by rw [cds_wr, cds_wr]; rfl
    have e2 : cds (wr (acc ++ (oneS ts).map .t ++ [.r n]) h) = cds (wr acc h) ++ cds (cat ts) ++ cds (h n) := by
      rw [cds_wr, List.map_append, List.flatten_append, List.map_append, List.flatten_append, cds_oneS, ← cds_wr]
      simp [itT]
    have e3 : cds (cat []) = [] := by rw [cds_cat]; rfl
    rw [e1, e2, e3]
    simp
theorem wr_nrm (row : List Itm) (h : Str → Str) : wr (nrm row) h = wr row h := by
  apply cds_inj
  unfold nrm
  rw [cds_nrmGo]
  have e1 : cds (wr [] h) = [] := by rw [cds_wr]; rfl
  have e3 : cds (cat []) = [] := by rw [cds_cat]; rfl
  rw [e1, e3]
  rfl
theorem nrmGo_mem {n : Str} : ∀ (row acc : List Itm) (ts : List Str), Itm.r n ∈ nrmGo row acc ts → .r n ∈ acc ∨ .r n ∈ row
  | [], acc, ts, h => by
    have h : Itm.r n ∈ acc ++ (oneS ts).map .t := h
    rcases List.mem_append.mp h with h | h
    · exact .inl h
    · obtain ⟨_, _, e⟩ := List.mem_map.mp h
      cases e
  | .t s :: r, acc, ts, h => by
    rcases nrmGo_mem r acc (ts ++ [s]) h with h | h
    · exact .inl h
    · exact .inr (List.mem_cons_of_mem _ h)
  | .r m :: r, acc, ts, h => by
    rcases nrmGo_mem r _ _ h with h | h
    · rcases List.mem_append.mp h with h | h
      · rcases List.mem_append.mp h with h | h
        · exact .inl h
        · obtain ⟨_, _, e⟩ := List.mem_map.mp h
          cases e
      · exact .inr (by rw [List.mem_singleton.mp h]; exact List.mem_cons_self)
    · exact .inr (List.mem_cons_of_mem _ h)
theorem nrm_mem {n : Str} {row : List Itm} (h : Itm.r n ∈ nrm row) : .r n ∈ row := by
  rcases nrmGo_mem row [] [] h with h | h
  · cases h
  · exact h
def tLen : Itm → Nat
  | .t s => s.length
  | .r _ => 0
def rowLen (row : List Itm) : Nat := (row.map tLen).sum
/-- what registers hold -/
def hk (regs : List Str) (h : Str → Str) : List (Key × V) := regs.map fun n => (Sum.inr n, V.str (h n))
theorem hk_at {regs : List Str} {h : Str → Str} {n : Str} (hn : n ∈ regs) : valV (hk regs h) (.inr n) = some (.str (h n)) := by
  obtain ⟨v, hv, hm⟩ := valV_key (kvs := hk regs h) (k := .inr n) (by
    unfold hk
    rw [List.map_map]
    exact List.mem_map_of_mem (f := fun n => (Sum.inr n : Key)) hn)
  obtain ⟨m, _, e⟩ := List.mem_map.mp hm
  cases e
  exact hv

def sp_text_of : Sp := spE (fun (x : Addr × Addr × List Itm × List Str × (Str → Str)) vs H => vs = [.ref x.1, .ref x.2.1] ∧ RowAt H x.1 x.2.2.1 ∧ x.2.2.1.length ≤ 1000 ∧ (∀ n, Itm.r n ∈ x.2.2.1 → n ∈ x.2.2.2.1) ∧ Rd H x.2.1 (.dK (hk x.2.2.2.1 x.2.2.2.2)) ∧
  (wr x.2.2.1 x.2.2.2.2).length ≤ 16000000) (fun x v _ => v = .str (wr x.2.2.1 x.2.2.2.2))
def sp_row_of : Sp := spE (fun (x : Addr × List Itm) vs H => vs = [.ref x.1] ∧ RowAt H x.1 x.2 ∧ x.2.length ≤ 1000 ∧ rowLen x.2 ≤ 100000) (fun x v H => ∃ b, v = .ref b ∧ RowAt H b (nrm x.2))
section
variable {K : PySem.W.Frag} {σ : L2.St} {H : Hp} {ta tb tc te td : TE} {P : Program} {w : World} {D : Ends} {tz : TS} {tt : TT}
theorem ep_if {b : Bool} {Pv : V → Hp → Prop} (h : EvT tt σ H b) (h1 : b = true → EvP ta σ H Pv) (h2 : b = false → EvP tb σ H Pv) : EvP (tIf tt ta tb) σ H Pv := fun H1 e Q q => h H1 e _ fun H2 e2 => by
  cases b with
  | true =>
    show ta σ H2 Q
    exact h1 rfl H2 (e.trans e2) Q fun v H3 e3 => q v H3 (e2.trans e3)
  | false =>
    show tb σ H2 Q
    exact h2 rfl H2 (e.trans e2) Q fun v H3 e3 => q v H3 (e2.trans e3)
def rJoin (K : PySem.W.Frag) : V → List V → Hp → VK → Prop := fun x xs H Q => ∃ a p, ∃ ys : List Str, x = .str a ∧ xs = [.ref p] ∧ (SqL K H p (ys.map V.str) ∨ SqT K H p (ys.map V.str)) ∧
      (ys.map (·.length)).sum + ys.length * a.length ≤ 16777216 ∧ Q (.str (Txt.join a ys)) H
theorem ev_join {xs : List V} {ys : List Str} (h : EvL te σ H xs) (e : xs = ys.map V.str) (hz : (cat ys).length ≤ 16000000) : Ev (tM1 (rJoin K) (tC (.str "")) te) σ H (.str (cat ys)) := fun H1 e1 Q q =>
  ⟨⟨"", rfl⟩, h H1 e1 _ fun p H2 _ e2 hp => ⟨"", p, ys, rfl, rfl, .inl (by rw [← e]; exact sq_of hp), by
    rw [len_cat] at hz
    show (ys.map (·.length)).sum + ys.length * 0 ≤ 16777216
    omega, q H2 e2⟩⟩
theorem ev_join1 {a : Addr} {ys : List Str} (h : Ev te σ H (.ref a)) (hx : H a = some (.lst (ys.map V.str))) (hz : (cat ys).length ≤ 16000000) : Ev (tM1 (rJoin K) (tC (.str "")) te) σ H (.str (cat ys)) := fun H1 e1 Q q =>
  ⟨⟨"", rfl⟩, h H1 e1 _ fun H2 e2 => ⟨"", a, ys, rfl, rfl, .inl (sq_of (e2 _ _ (e1 _ _ hx))), by
    rw [len_cat] at hz
    show (ys.map (·.length)).sum + ys.length * 0 ≤ 16777216
    omega, q H2 e2⟩⟩
end
section
variable {P : Program} {w : World} {K : PySem.W.Frag} {mg : Str → Option Value} {base : Heap} {C : Addr} {f : Addr} {fd : FuncData}
theorem ok_text_of (F : Fun K "text_of" "text_of" s_text_of f fd) (Z : Zs mg C) : FnOk P w K mg base CX0 1 f fd ["row", "held"] sp_text_of := by
  refine F.ok sc_text_of (fun vs H Q E h => ?_) (fun cdv A outer s H vs Q E hr h => ?_)
  · obtain ⟨i, ⟨rfl, _⟩, _⟩ := h
    rfl
  · obtain ⟨⟨a, d, row, regs, h⟩, ⟨rfl, ⟨xs, hx, hl, hi⟩, hz, hn, hd, hw⟩, k⟩ := h
    have hz : row.length ≤ 1000 := hz
    have hl : xs.length = row.length := hl
    have hu := hu_of hr
    refine ⟨_, (pss_one (ps_ret (pe_join pe_str (pe_lc (own := [(("item" : Str), 2)]) (g := gName 2) rfl sc_text_of.nd (pi_tup (pv 0)) (blkOk_by (own := [(("item" : Str), 2)]) (N := n_text_of) (sc := defScope s_text_of) (by decide +kernel)) (fun _ _ _ _ _ => (pg_name (i := 2) sc_text_of.nd rfl (Or.inl rfl))) (fun _ _ _ _ _ => pts_nil) (fun _ _ _ _ _ => (pe_ifExp (pt_val (pe_callB (cIsi (K := K)) (by rfl) Z.z_isinstance (by decide +kernel) (pa_cons (pv 2) (pa_cons (pe_bltn (by rfl) Z.z_str (by decide +kernel) (show RelV (.ty "str") _ from rfl)) pa_nil)))) (pv 2) (pe_dget hu (pv 1) (pe_ix (ixT (K := K)) (pv 2) pe_int (fun _ _ => rfl)) (fun _ _ => rfl)))))))), ?_⟩
    refine s_ret (v := .str (wr row h)) (ev_join (K := K) (ys := row.map (itT h)) (el_lcW (src_tup (K := K) (ev_var rfl) (st_of hx)) (by omega) (fun x => rfl) ((row.map (itT h)).map V.str) (by simp [hl]) ?_) rfl hw) fun H3 e3 => k _ H3 e3 rfl
    intro i x y H' e hy hxi
    rw [List.map_map, List.getElem?_map] at hy
    cases ht : row[i]? with
    | none => rw [ht] at hy; cases hy
    | some t =>
      rw [ht] at hy
      obtain rfl := Option.some.inj hy
      have h1 := hi i x t hxi ht
      cases t with
      | t s =>
        obtain rfl : x = .str s := h1
        exact ev_if (b := true) (et_B (ev_isS (ev_var rfl) rfl)) (fun _ => ev_var rfl) (fun z => by cases z)
      | r n =>
        obtain ⟨b, rfl, hb⟩ := h1
        have hb' := e _ _ hb
        exact ev_if (b := false) (et_B (ev_isU (ev_var rfl) hb' rfl)) (fun z => by cases z) fun _ => ev_get (ev_var rfl) (ev_ixU (i := 0) (ev_var rfl) ev_c hb' rfl) (k := .inr n) rfl (ex_rd e hd) (hk_at (hn n (List.mem_of_getElem? ht)))
theorem upd_self {H : Hp} {a : Addr} {o : HO} (h : H a = some o) : upd H a o = H := by
  funext b
  by_cases hb : b = a
  · rw [hb, upd_same, h]
  · rw [upd_ne hb]
/-- the truth of a list -/
theorem et_L {K : PySem.W.Frag} {σ : L2.St} {H : Hp} {i : Nat} {t : Addr} {xs : List V} (hv : σ[i]? = some (some (.ref t))) (h : H t = some (.lst xs)) : EvT (fun σ H Q => tVar i σ H fun x H' => ∃ k, TruV K x H' k ∧ Q k H') σ H (!xs.isEmpty) := fun H2 e2 Q q => ⟨_, hv, _, .inl ⟨xs, sq_of (e2 _ _ h), rfl⟩, q H2 (Ex.refl H2)⟩
def sp_put_text : Sp := fun vs H Q _ => ∃ (l t : Addr) (xs : List V) (ts : List Str), vs = [.ref l, .ref t] ∧ H l = some (.lst xs) ∧ H t = some (.lst (ts.map V.str)) ∧ xs.length < 100000 ∧ (ts.map (·.length)).sum ≤ 100000 ∧
  ∀ H1, Ex H H1 → Q .non (upd H1 l (.lst (xs ++ (oneS ts).map V.str)))
theorem ok_put_text (F : Fun K "put_text" "put_text" s_put_text f fd) (Z : Zs mg C) : FnOk P w K mg base CX0 1 f fd ["row", "texts"] sp_put_text := by
  refine F.ok sc_put_text (fun vs H Q E h => ?_) (fun cdv A outer s H vs Q E hr h => ?_)
  · obtain ⟨l, t, xs, ts, rfl, _⟩ := h
    rfl
  · obtain ⟨l, t, xs, ts, rfl, hl, hx, hn, hs, k⟩ := h
    have hc : (cat ts).length ≤ 100000 := by rw [len_cat]; exact hs
    refine ⟨_, (pss_cons (ps_set (i := 2) sc_put_text.nd rfl (Or.inl rfl) (pe_join pe_str (pv 1))) 
    (pss_one (ps_if (pt_truth (pv 2) (by intro _; rfl)) (pss_one (ps_expr (pe_bm PySem.F.plainAttrs_list PySem.F.slot_list_append PySem.F.type_list_append mt_append (pv 0) (pa_cons (pv 2) pa_nil)))) pss_nil))), ?_⟩
    refine q_asg (ev_join1 (K := K) (ev_var rfl) hx (Nat.le_trans hc (by decide))) fun H1 e1 => ?_
    refine s_if (b := ((cat ts).length : Int) != 0) (fun H2 e2 Q q => ⟨_, rfl, _, ⟨sz_of hc, rfl⟩, q H2 (Ex.refl H2)⟩) (fun hb H2 e2 => ?_) (fun hb H2 e2 => ?_)
    · have hne : ¬ cat ts = "" := fun z => by
        rw [z] at hb
        exact absurd hb (by decide)
      refine s_app ((e1.trans e2) _ _ hl) (ev_var rfl) (ev_var rfl) hn fun H3 e3 => ?_
      have h := k H3 ((e1.trans e2).trans e3)
      rw [oneS, if_neg hne] at h
      exact h
    · have he : cat ts = "" := empty_of (by simpa using hb)
      have h := k H2 (e1.trans e2)
      rw [oneS, if_pos he] at h
      rw [show xs ++ ([] : List Str).map V.str = xs from List.append_nil xs, upd_self ((e1.trans e2) _ _ hl)] at h
      exact h
end
end KX
end
section
set_option Elab.async false
set_option linter.all false
set_option maxRecDepth 100000
set_option maxHeartbeats 4000000
/-! Bs6: row_of, all_rows. -/
namespace KX
open PySem PySem.Spec PyProof.Rows L2 Evl
theorem ItAt.up {H : Hp} {D : Addr} {t : Itm} {x : V} {l l' : List V} (h : ItAt H t x) (hD : H D = some (.lst l)) : ItAt (upd H D (.lst l')) t x := by
  cases t with
  | t s => exact h
  | r s =>
    obtain ⟨b, e, hb⟩ := h
    refine ⟨b, e, ?_⟩
    rw [upd_ne (show b ≠ D from fun z => by
      subst z
      rw [hb] at hD
      cases hD)]
    exact hb
theorem ItsAt.up {H : Hp} {D : Addr} {row : List Itm} {xs l l' : List V} (h : ItsAt H xs row) (hD : H D = some (.lst l)) : ItsAt (upd H D (.lst l')) xs row := ⟨h.1, fun i x t a b => (h.2 i x t a b).up hD⟩
theorem ItsAt.append {H : Hp} {row row2 : List Itm} {xs ys : List V} (h : ItsAt H xs row) (h2 : ItsAt H ys row2) : ItsAt H (xs ++ ys) (row ++ row2) := by
  refine ⟨by rw [List.length_append, List.length_append, h.1, h2.1], fun i x t a b => ?_⟩
  by_cases hi : i < xs.length
  · rw [List.getElem?_append_left hi] at a
    rw [List.getElem?_append_left (by rw [← h.1]; exact hi)] at b
    exact h.2 i x t a b
  · rw [List.getElem?_append_right (by omega)] at a
    rw [List.getElem?_append_right (by rw [← h.1]; omega), ← h.1] at b
    exact h2.2 _ x t a b
theorem ItsAt.texts {H : Hp} (ts : List Str) : ItsAt H (ts.map V.str) (ts.map Itm.t) := by
  refine ⟨by simp, fun i x t a b => ?_⟩
  rw [List.getElem?_map] at a b
  cases h : ts[i]? with
  | none => rw [h] at a; cases a
  | some s =>
    rw [h] at a b
    cases a
    cases b
    rfl
theorem ItsAt.one {H : Hp} {x : V} {t : Itm} (h : ItAt H t x) : ItsAt H [x] [t] := by
  refine ⟨rfl, fun i y u a b => ?_⟩
  cases i with
  | zero =>
    cases a
    cases b
    exact h
  | succ i => simp at a
theorem ItsAt.nil {H : Hp} : ItsAt H [] [] := ⟨rfl, fun i y u a b => by simp at a⟩
section
variable {K : PySem.W.Frag} {σ : L2.St} {H : Hp} {ta tb tc te td : TE} {P : Program} {w : World} {D : Ends} {tz : TS} {tt : TT}
/-- xs.extend(a list) -/
theorem q_ext {l : Addr} {xs : List V} {Pv : List V → Prop} (hl : H l = some (.lst xs)) (ha : Ev ta σ H (.ref l)) (h : EvP te σ H (fun v H2 => ∃ b zs, v = .ref b ∧ H2 b = some (.lst zs) ∧ Pv zs)) (hz : ∀ zs, Pv zs → xs.length + zs.length ≤ 100000)
    (k : ∀ zs H1, Ex H H1 → Pv zs → tz D σ (upd H1 l (.lst (xs ++ zs)))) : tSeq (tDrop (tBM K "list" rExtend ta (tCons te tNil))) tz D σ H := ha H (Ex.refl H) _ fun H1 e1 =>
  ⟨Or.inl ⟨rfl, xs, sq_of (e1 l _ hl)⟩, h H1 e1 _ fun v H2 e2 ⟨b, zs, ev, hb, p⟩ => ⟨l, b, xs, zs, rfl, by rw [ev], e2 l _ (e1 l _ hl), hb, sz_of (hz zs p), k zs H2 (e1.trans e2) p⟩⟩
end
theorem oneS_len (ts : List Str) : (oneS ts).length ≤ 1 := by
  unfold oneS
  by_cases e : cat ts = ""
  · rw [if_pos e]; exact Nat.zero_le 1
  · rw [if_neg e]; exact Nat.le_refl 1
theorem rowLen_drop {row : List Itm} {i : Nat} {t : Itm} (h : row[i]? = some t) : rowLen (row.drop i) = tLen t + rowLen (row.drop (i + 1)) := by
  obtain ⟨hi, rfl⟩ := List.getElem?_eq_some_iff.mp h
  unfold rowLen
  rw [List.drop_eq_getElem_cons hi]
  rfl
theorem nrmGo_drop {row acc : List Itm} {ts : List Str} {i : Nat} {t : Itm} (h : row[i]? = some t) : nrmGo (row.drop i) acc ts = nrmGo (t :: row.drop (i + 1)) acc ts := by
  obtain ⟨hi, rfl⟩ := List.getElem?_eq_some_iff.mp h
  rw [List.drop_eq_getElem_cons hi]
section
variable {P : Program} {w : World} {K : PySem.W.Frag} {mg : Str → Option Value} {base : Heap} {C : Addr} {f : Addr} {fd : FuncData}
theorem q_put {σ : L2.St} {H : Hp} {D : Ends} {tz : TS} {E : XK} {i j : Nat} {l t : Addr} {xs : List V} {ts : List Str} (h1 : σ[i]? = some (some (.ref l))) (h2 : σ[j]? = some (some (.ref t))) (hl : H l = some (.lst xs)) (ht : H t = some (.lst (ts.map V.str))) (hn : xs.length < 100000)
    (hs : (ts.map (·.length)).sum ≤ 100000) (k : ∀ H1, Ex H H1 → tz D σ (upd H1 l (.lst (xs ++ (oneS ts).map V.str)))) : tSeq (tDrop (tCall sp_put_text [] E (tCons (tVar i) (tCons (tVar j) tNil)))) tz D σ H := by
  have h : EvA (tCons (tVar i) (tCons (tVar j) tNil)) σ H [.ref l, .ref t] := ea_cons (ev_var h1) (ea_cons (ev_var h2) ea_nil)
  unfold tSeq tDrop tCall
  exact h H (Ex.refl H) _ fun H1 e1 => ⟨l, t, xs, ts, rfl, e1 _ _ hl, e1 _ _ ht, hn, hs, fun H2 e2 => k H2 (e1.trans e2)⟩
theorem oneS_nil : oneS [] = [] := by
  unfold oneS
  exact if_pos (by first | rfl | decide +kernel)
theorem ok_row_of (F : Fun K "row_of" "row_of" s_row_of f fd) (Z : Zs mg C) (G_put_text : Has P w K mg base "put_text" 1 ["row", "texts"] sp_put_text) : FnOk P w K mg base CX0 2 f fd ["items"] sp_row_of := by
  refine F.ok sc_row_of (fun vs H Q E h => ?_) (fun cdv A outer s H vs Q E hr h => ?_)
  · obtain ⟨i, ⟨rfl, _⟩, _⟩ := h
    rfl
  · obtain ⟨⟨a, row⟩, ⟨rfl, ⟨xs, hx, hI⟩, hz, hs⟩, k⟩ := h
    have hz : row.length ≤ 1000 := hz
    have hs : rowLen row ≤ 100000 := hs
    have hI : ItsAt H xs row := hI
    refine ⟨_, (pss_cons (ps_set (i := 1) sc_row_of.nd rfl (Or.inl rfl) (pe_lst pa_nil)) 
    (pss_cons (ps_set (i := 2) sc_row_of.nd rfl (Or.inl rfl) (pe_lst pa_nil)) 
    (pss_cons (ps_for PassesOwn.never rfl (pi_tup (pv 0)) (pg_name (i := 3) sc_row_of.nd rfl (Or.inl rfl)) 
     (pss_one (ps_if (pt_val (pe_callB (cIsi (K := K)) (by rfl) Z.z_isinstance (by decide +kernel) (pa_cons (pv 3) (pa_cons (pe_bltn (by rfl) Z.z_str (by decide +kernel) (show RelV (.ty "str") _ from rfl)) pa_nil)))) 
      (pss_one (ps_expr (pe_bm PySem.F.plainAttrs_list PySem.F.slot_list_append PySem.F.type_list_append mt_append (pv 2) (pa_cons (pv 3) pa_nil)))) 
      (pss_cons (ps_if (pt_truth (pv 2) (by intro _; rfl)) 
       (pss_cons (ps_expr (pe_use G_put_text (hr.mono (by decide)) (pa_cons (pv 1) (pa_cons (pv 2) pa_nil)))) 
       (pss_one (ps_set (i := 2) sc_row_of.nd rfl (Or.inl rfl) (pe_lst pa_nil)))) pss_nil) 
      (pss_one (ps_expr (pe_bm PySem.F.plainAttrs_list PySem.F.slot_list_append PySem.F.type_list_append mt_append (pv 1) (pa_cons (pv 3) pa_nil)))))))) 
    (pss_cons (ps_if (pt_truth (pv 2) (by intro _; rfl)) 
     (pss_one (ps_expr (pe_use G_put_text (hr.mono (by decide)) (pa_cons (pv 1) (pa_cons (pv 2) pa_nil))))) pss_nil) 
    (pss_one (ps_ret (pe_callTy (cTup (K := K)) (by rfl) Z.z_tuple (by decide +kernel) (pa_cons (pv 1) pa_nil)))))))), ?_⟩
    refine q_asgL (el_lst ea_nil (Nat.zero_le _)) fun l H1 hl e1 h1 => ?_
    refine q_asgL (el_lst ea_nil (Nat.zero_le _)) fun t0 H2 ht e2 h2 => ?_
    refine q_forT (K := K) (ev_var rfl) (st_of ((e1.trans e2) _ _ hx)) (fun i σ' H' => ∃ (t : Addr) (ys : List V) (acc : List Itm) (ts : List Str) (v : Option V), σ' = [some (.ref a), some (.ref l), some (.ref t), v] ∧ Ex H H' ∧ H t = none ∧ l ≠ t ∧
      H' l = some (.lst ys) ∧ ItsAt H' ys acc ∧ ys.length ≤ 2 * i ∧ H' t = some (.lst (ts.map V.str)) ∧ ts.length ≤ i ∧ (ts.map (·.length)).sum + rowLen (row.drop i) ≤ 100000 ∧ nrmGo (row.drop i) acc ts = nrm row) ?_ ?_ ?_ ?_
    · intro H3 e3
      have nlt : l ≠ t0 := ne_of_none h1 ht
      exact ⟨t0, [], [], [], none, rfl, (e1.trans e2).trans e3, fresh_back e1 ht, nlt, e3 _ _ (e2 _ _ h1), ItsAt.nil, Nat.zero_le _, e3 _ _ h2, Nat.zero_le _, by simpa using hs, rfl⟩
    · rintro i σ' H' hi ⟨t, ys, acc, ts, v, rfl, ex, _⟩
      exact ex_t ex (st_of hx)
    · rintro i x σ' H' hxi ⟨t, ys, acc, ts, v, rfl, ex, ht, nlt, hl', hys, hyl, ht', htl, hsum, hnrm⟩
      have hi1 : i < xs.length := (List.getElem?_eq_some_iff.mp hxi).1
      have hil : i < row.length := by rw [← hI.1]; exact hi1
      have hti : row[i]? = some row[i] := List.getElem?_eq_getElem hil
      have hit := (hI.2 i x _ hxi hti).le (Le.ex ex)
      rw [rowLen_drop hti] at hsum
      rw [nrmGo_drop hti] at hnrm
      cases htt : row[i] with
      | t s =>
        rw [htt] at hit hsum hnrm
        obtain rfl : x = .str s := hit
        refine s_if (b := true) (et_B (ev_isS (ev_var rfl) rfl)) (fun _ H3 e3 => ?_) (fun z => by cases z)
        refine s_app (e3 _ _ ht') (ev_var rfl) (ev_var rfl) (by rw [List.length_map]; omega) fun H4 e4 => ?_
        have e34 := e3.trans e4
        refine ⟨t, ys, acc, ts ++ [s], _, rfl, Ex.mut (ex.trans e34) ht, ht, nlt, by rw [upd_ne nlt]; exact e34 _ _ hl', (hys.le (Le.ex e34)).up (e34 _ _ ht'), by omega, by rw [upd_same, List.map_append]; rfl, by rw [List.length_append]; exact Nat.succ_le_succ htl, ?_, hnrm⟩
        have : tLen (.t s) = s.length := rfl
        rw [List.map_append, List.sum_append]
        simp
        omega
      | r n =>
        rw [htt] at hit hsum hnrm
        obtain ⟨b, rfl, hb⟩ := hit
        refine s_if (b := false) (et_B (ev_isU (ev_var rfl) hb rfl)) (fun z => by cases z) fun _ H3 e3 => ?_
        have hsum' : (ts.map (·.length)).sum ≤ 100000 := by omega
        have hlf : H l = none := hl
        have hn2 : nrmGo (row.drop (i + 1)) (acc ++ (oneS ts).map Itm.t ++ [Itm.r n]) [] = nrm row := hnrm
        have h3l := e3 _ _ hl'
        have h3b := e3 _ _ hb
        have hbl : b ≠ l := fun z => by
          subst z
          rw [h3b] at h3l
          cases h3l
        refine q_if (b := !(ts.map V.str).isEmpty) (et_L rfl (e3 _ _ ht')) (fun hne H4 e4 => ?_) (fun he H4 e4 => ?_)
        · have e34 := e3.trans e4
          refine q_put rfl rfl (e34 _ _ hl') (e34 _ _ ht') (by omega) hsum' fun H5 e5 => ?_
          have e35 := e34.trans e5
          have h5l : H5 l = some (.lst ys) := e35 _ _ hl'
          refine s_asgL (el_lst ea_nil (Nat.zero_le _)) fun t1 H6 ht1 e6 h6 => ?_
          have ht1' : H5 t1 = none := by
            by_cases z : t1 = l
            · subst z
              rw [upd_same] at ht1
              cases ht1
            · rw [upd_ne z] at ht1
              exact ht1
          have nlt1 : l ≠ t1 := ne_of_none h5l ht1'
          have h6l : H6 l = some (.lst (ys ++ (oneS ts).map V.str)) := e6 _ _ upd_same
          refine s_app h6l (ev_var rfl) (ev_var rfl) (by
            rw [List.length_append, List.length_map]
            have := oneS_len ts
            omega) fun H7 e7 => ?_
          have h7l := e7 _ _ h6l
          have exf : Ex H (upd H7 l (.lst (ys ++ (oneS ts).map V.str ++ [.ref b]))) := Ex.mut (((Ex.mut (ex.trans e35) hlf).trans e6).trans e7) hlf
          refine ⟨t1, ys ++ (oneS ts).map V.str ++ [.ref b], acc ++ (oneS ts).map .t ++ [.r n], [], _, rfl, exf, fresh_back (ex.trans e35) ht1', nlt1, upd_same, ?_, ?_, ?_, Nat.zero_le _, ?_, hn2⟩
          · refine ItsAt.up ?_ h7l
            refine ItsAt.append (ItsAt.append ?_ (ItsAt.texts _)) (ItsAt.one ?_)
            · exact (((hys.le (Le.ex e35)).up h5l).le (Le.ex e6)).le (Le.ex e7)
            · exact ⟨b, rfl, e7 _ _ (e6 _ _ (by
                rw [upd_ne hbl]
                exact e35 _ _ hb))⟩
          · rw [List.length_append, List.length_append, List.length_map]
            have := oneS_len ts
            show ys.length + (oneS ts).length + 1 ≤ 2 * (i + 1)
            omega
          · rw [upd_ne nlt1.symm]
            exact e7 _ _ h6
          · simp
            omega
        · have hts : ts = [] := by
            cases ts with
            | nil => rfl
            | cons a r => simp at he
          subst hts
          have e34 := e3.trans e4
          have h4l := e34 _ _ hl'
          refine s_app h4l (ev_var rfl) (ev_var rfl) (by omega) fun H5 e5 => ?_
          have e35 := e34.trans e5
          have h5l := e35 _ _ hl'
          have exf : Ex H (upd H5 l (.lst (ys ++ [.ref b]))) := Ex.mut (ex.trans e35) hlf
          refine ⟨t, ys ++ [.ref b], acc ++ [.r n], [], _, rfl, exf, ht, nlt, upd_same, ?_, ?_, ?_, Nat.zero_le _, ?_, ?_⟩
          · refine ItsAt.up ?_ h5l
            exact ItsAt.append (hys.le (Le.ex e35)) (ItsAt.one ⟨b, rfl, e35 _ _ hb⟩)
          · rw [List.length_append]
            show ys.length + 1 ≤ 2 * (i + 1)
            omega
          · rw [upd_ne nlt.symm]
            exact e35 _ _ ht'
          · simp
            simp at hsum
            omega
          · rw [oneS_nil] at hn2
            simpa using hn2
    · rintro σ' H' ⟨t, ys, acc, ts, v, rfl, ex, ht, nlt, hl', hys, hyl, ht', htl, hsum, hnrm⟩
      have hd : row.drop xs.length = [] := by rw [hI.1]; exact List.drop_length
      rw [hd] at hsum hnrm
      have hlf : H l = none := hl
      have hfin : nrm row = acc ++ (oneS ts).map Itm.t := hnrm.symm
      refine q_if (b := !(ts.map V.str).isEmpty) (et_L rfl ht') (fun hne H3 e3 => ?_) (fun he H4 e4 => ?_)
      · refine q_put rfl rfl (e3 _ _ hl') (e3 _ _ ht') (by have := hI.1; omega) (by omega) fun H4 e34 => ?_
        have e4 := e3.trans e34
        have h4l := e4 _ _ hl'
        refine s_retP (Pv := fun v H' => ∃ b, v = .ref b ∧ RowAt H' b (nrm row)) (fun H5 e5 Q q => ⟨_, rfl, l, _, rfl, .inl ⟨sq_of (e5 _ _ upd_same), fun b hb => q (.ref b) _ (Ex.new hb) ⟨b, rfl, ys ++ (oneS ts).map V.str, upd_same, ?_⟩⟩⟩) fun v H5 e5 p => k _ H5 ((Ex.mut (ex.trans e4) hlf).trans e5) p
        rw [hfin]
        exact (((hys.le (Le.ex e4)).append (ItsAt.texts _)).up h4l).le (Le.ex (e5.trans (Ex.new hb)))
      · have hts : ts = [] := by
          cases ts with
          | nil => rfl
          | cons a r => simp at he
        have h4l := e4 _ _ hl'
        have hself : H4 = upd H4 l (.lst (ys ++ (oneS ts).map V.str)) := by
          rw [hts, oneS_nil]
          exact (upd_self (by rw [h4l]; simp)).symm
        rw [hself]
        show tRet (tCB (rTupOf K) (tCons (tVar 1) tNil)) { nx := fun _ H' => Q .non H', rt := Q } _ _
        refine s_retP (Pv := fun v H' => ∃ b, v = .ref b ∧ RowAt H' b (nrm row)) (fun H5 e5 Q q => ⟨_, rfl, l, _, rfl, .inl ⟨sq_of (e5 _ _ upd_same), fun b hb => q (.ref b) _ (Ex.new hb) ⟨b, rfl, ys ++ (oneS ts).map V.str, upd_same, ?_⟩⟩⟩) fun v H5 e5 p => k _ H5 ((Ex.mut (ex.trans e4) hlf).trans e5) p
        rw [hfin]
        exact (((hys.le (Le.ex e4)).append (ItsAt.texts _)).up h4l).le (Le.ex (e5.trans (Ex.new hb)))
end
end KX
end
section
set_option Elab.async false
set_option linter.all false
set_option maxRecDepth 100000
set_option maxHeartbeats 4000000
/-! Bs7: what is sorted, as a rearrangement; all_rows. -/
namespace KX
open PySem PySem.Spec PyProof.Rows L2 Evl

/-! ### sorted -/
theorem srt_perm (ps : List (V × PyData)) : (srt ps).Perm (ps.map (·.1)) := (List.mergeSort_perm ps _).map _
theorem perm_un {α β : Type} {l : List β} {xs : List α} {f : α → β} {g : β → α} (hg : ∀ x, g (f x) = x) (h : l.Perm (xs.map f)) : (l.map g).Perm xs ∧ l = (l.map g).map f := by
  refine ⟨?_, ?_⟩
  · have := h.map g
    rw [List.map_map] at this
    have e : g ∘ f = id := funext hg
    rw [e, List.map_id] at this
    exact this
  · rw [List.map_map]
    have : l.map (f ∘ g) = l.map id := List.map_congr_left fun x hx => by
      obtain ⟨y, _, rfl⟩ := List.mem_map.mp (h.mem_iff.mp hx)
      show f (g (f y)) = f y
      rw [hg]
    rw [this, List.map_id]
def unS : V → Str
  | .str s => s
  | _ => ""
def unR : V → Addr
  | .ref a => a
  | _ => 0
def unI : V → Int
  | .int i => i
  | _ => 0
def strP (xs : List Str) : List (V × PyData) := xs.map fun s => (.str s, .str s)
def srtS (xs : List Str) : List Str := (srt (strP xs)).map unS
theorem srtS_perm (xs : List Str) : (srtS xs).Perm xs ∧ srt (strP xs) = (srtS xs).map V.str :=
  perm_un (f := V.str) (g := unS) (fun _ => rfl) (by
    have := srt_perm (strP xs)
    unfold strP at this ⊢
    rw [List.map_map] at this
    exact this)
theorem strP_ok {H : Hp} {xs : List Str} (hz : xs.length ≤ 100000) : SrtOk H (strP xs) where
  fl := fun p hp => by
    obtain ⟨c, _, e⟩ := List.mem_map.mp hp
    rw [← e]
    exact Fl.str _
  al := fun d hd d' hd' => by
    obtain ⟨p, hp, rfl⟩ := List.mem_map.mp hd
    obtain ⟨p', hp', rfl⟩ := List.mem_map.mp hd'
    obtain ⟨c, _, rfl⟩ := List.mem_map.mp hp
    obtain ⟨c', _, rfl⟩ := List.mem_map.mp hp'
    simp [PySem.W.alike]
  so := .inr fun d hd => by
    obtain ⟨p, hp, rfl⟩ := List.mem_map.mp hd
    obtain ⟨c, _, rfl⟩ := List.mem_map.mp hp
    exact ⟨(fun q => by cases q), fun xs q => by cases q⟩
  sz := by
    unfold strP
    rw [List.length_map]
    exact sz_of hz
theorem signs_eq (z : Str) : signs z = strP ((cds z).map fun c => ⟨#[c]⟩) := by
  unfold signs strP
  rw [List.map_map]
  rfl
/-- the letters in order -/
def lts (L : Str) : Str := cat (srtS ((cds L).map fun c => ⟨#[c]⟩))
theorem lts_mem {L : Str} {c : Nat} : c ∈ cds (lts L) ↔ c ∈ cds L := by
  unfold lts
  rw [cds_cat, List.mem_flatten]
  constructor
  · rintro ⟨l, hl, hc⟩
    obtain ⟨s, hs, rfl⟩ := List.mem_map.mp hl
    obtain ⟨d, hd, rfl⟩ := List.mem_map.mp ((srtS_perm _).1.mem_iff.mp hs)
    have : c ∈ [d] := hc
    rw [List.mem_singleton.mp this]
    exact hd
  · intro hc
    exact ⟨[c], List.mem_map.mpr ⟨⟨#[c]⟩, (srtS_perm _).1.mem_iff.mpr (List.mem_map_of_mem (f := fun c => (⟨#[c]⟩ : Str)) hc), rfl⟩, List.mem_singleton.mpr rfl⟩
theorem lts_len (L : Str) : (lts L).length = L.length := by
  unfold lts
  rw [len_cat, ((srtS_perm _).1.map _).sum_nat, List.map_map, len_cds]
  have : ((fun s : Str => s.length) ∘ fun c => (⟨#[c]⟩ : Str)) = fun _ => 1 := rfl
  rw [this, List.map_const', List.sum_replicate_nat]
  simp
def unV : V → Key
  | .int i => .inl i
  | .str s => .inr s
  | _ => .inl 0
theorem unV_k (k : Key) : unV (kV k) = k := by
  cases k <;> rfl
def intP (xs : List Int) : List (V × PyData) := xs.map fun s => (.int s, .int s)
def srtI (xs : List Int) : List Int := (srt (intP xs)).map unI
theorem srtI_perm (xs : List Int) : (srtI xs).Perm xs ∧ srt (intP xs) = (srtI xs).map V.int :=
  perm_un (f := V.int) (g := unI) (fun _ => rfl) (by
    have := srt_perm (intP xs)
    unfold intP at this ⊢
    rw [List.map_map] at this
    exact this)
theorem intP_ok {H : Hp} {xs : List Int} (hz : xs.length ≤ 100000) : SrtOk H (intP xs) where
  fl := fun p hp => by
    obtain ⟨c, _, e⟩ := List.mem_map.mp hp
    rw [← e]
    exact Fl.int _
  al := fun d hd d' hd' => by
    obtain ⟨p, hp, rfl⟩ := List.mem_map.mp hd
    obtain ⟨p', hp', rfl⟩ := List.mem_map.mp hd'
    obtain ⟨c, _, rfl⟩ := List.mem_map.mp hp
    obtain ⟨c', _, rfl⟩ := List.mem_map.mp hp'
    simp [PySem.W.alike]
  so := .inr fun d hd => by
    obtain ⟨p, hp, rfl⟩ := List.mem_map.mp hd
    obtain ⟨c, _, rfl⟩ := List.mem_map.mp hp
    exact ⟨(fun q => by cases q), fun xs q => by cases q⟩
  sz := by
    unfold intP
    rw [List.length_map]
    exact sz_of hz
theorem paired_at {α β : Type} {R : α → β → Prop} : ∀ {xs : List α} {ys : List β}, Paired R xs ys → ∀ {i : Nat} {x : α} {y : β}, xs[i]? = some x → ys[i]? = some y → R x y
  | _, _, .nil, i, x, y, h, _ => by simp at h
  | _, _, .cons r t, 0, x, y, h, h' => by
    cases h
    cases h'
    exact r
  | _, _, .cons r t, i + 1, x, y, h, h' => paired_at t (by simpa using h) (by simpa using h')
/-- pairs of a state and a letter -/
def IsPl (k : List Key) : Prop := ∃ (s : Int) (c : Str), k = [.inl s, .inr c]
theorem keysT_ok {H : Hp} {bs : List Addr} {kvs : List (List Key × V)} (hb : IsKeys H kvs bs) (hk : ∀ k v, (k, v) ∈ kvs → IsPl k) (hz : kvs.length ≤ 100000) : SrtOk H (keysT bs kvs) where
  fl := fun p hp => by
    obtain ⟨⟨b, k, v⟩, h1, rfl⟩ := List.mem_map.mp hp
    obtain ⟨i, hi⟩ := List.mem_iff_getElem?.mp h1
    obtain ⟨h2, h3⟩ := List.getElem?_zip_eq_some.mp hi
    exact Fl.tup (paired_at hb h3 h2)
  al := fun d hd d' hd' => by
    obtain ⟨p, hp, rfl⟩ := List.mem_map.mp hd
    obtain ⟨p', hp', rfl⟩ := List.mem_map.mp hd'
    obtain ⟨⟨b, k, v⟩, h1, rfl⟩ := List.mem_map.mp hp
    obtain ⟨⟨b', k', v'⟩, h1', rfl⟩ := List.mem_map.mp hp'
    obtain ⟨s, c, rfl⟩ := hk k v (List.of_mem_zip h1).2
    obtain ⟨s', c', rfl⟩ := hk k' v' (List.of_mem_zip h1').2
    simp [PySem.W.alike, PySem.W.alikeAll, kD]
  so := .inl fun d hd => by
    obtain ⟨p, hp, rfl⟩ := List.mem_map.mp hd
    obtain ⟨⟨b, k, v⟩, h1, rfl⟩ := List.mem_map.mp hp
    obtain ⟨s, c, rfl⟩ := hk k v (List.of_mem_zip h1).2
    exact ⟨_, _, rfl⟩
  sz := by
    unfold keysT
    rw [List.length_map, List.length_zip]
    exact sz_of (by omega)
end KX
end
section
set_option Elab.async false
set_option linter.all false
set_option maxRecDepth 100000
set_option maxHeartbeats 4000000
/-! Bs8: all_rows; what a program's parts are. -/
namespace KX
open PySem PySem.Spec PyProof.Rows L2 Evl
def unD : PyData → Key
  | .int i => .inl i
  | .str s => .inr s
  | _ => .inl 0
theorem unD_k (k : Key) : unD (kD k) = k := by
  cases k <;> rfl
def unT : PyData → List Key
  | .tuple ds => ds.map unD
  | _ => []
/-- the keys in order -/
def srtKs (kvs : List (List Key × V)) : List (List Key) := ((kvs.map fun p => PyData.tuple (p.1.map kD)).mergeSort (PySem.W.dataLe false id)).map unT
theorem srtKs_perm (kvs : List (List Key × V)) : (srtKs kvs).Perm (kvs.map (·.1)) := by
  have h := (List.mergeSort_perm (kvs.map fun p => PyData.tuple (p.1.map kD)) (PySem.W.dataLe false id)).map unT
  rw [List.map_map] at h
  have e : (unT ∘ fun p : List Key × V => PyData.tuple (p.1.map kD)) = (·.1) := funext fun p => by
    show (p.1.map kD).map unD = p.1
    rw [List.map_map]
    have : unD ∘ kD = id := funext unD_k
    rw [this, List.map_id]
  rw [e] at h
  exact h
theorem srtT_ix {H : Hp} {kvs : List (List Key × V)} {bs : List Addr} (hb : IsKeys H kvs bs) : ∃ (qs : List Addr), srt (keysT bs kvs) = qs.map V.ref ∧ qs.length = (srtKs kvs).length ∧
    ∀ (i : Nat) q k, qs[i]? = some q → (srtKs kvs)[i]? = some k → H q = some (.tup (k.map kV)) := by
  -- the pairs of an address and a key, rearranged as the values are
  have hl : ∀ {kvs : List (List Key × V)} {bs : List Addr}, IsKeys H kvs bs → bs.length = kvs.length := fun h => by
    induction h with
    | nil => rfl
    | cons _ _ ih => simp [ih]
  have hlen := hl hb
  let kk : Addr → List Key := fun q => match H q with
    | some (.tup vs) => vs.map unV
    | _ => []
  have kkE : ∀ q (k : List Key), H q = some (.tup (k.map kV)) → kk q = k := fun q k h => by
    show (match H q with
      | some (.tup vs) => vs.map unV
      | _ => []) = k
    rw [h]
    show (k.map kV).map unV = k
    rw [List.map_map]
    have : unV ∘ kV = id := funext unV_k
    rw [this, List.map_id]
  obtain ⟨h1, h2⟩ := perm_un (l := srt (keysT bs kvs)) (xs := bs) (f := V.ref) (g := unR) (fun _ => rfl) (by
    have := srt_perm (keysT bs kvs)
    rw [keysT_fst hlen] at this
    exact this)
  have hs : ((srt (keysT bs kvs)).map unR).map kk = srtKs kvs := by
    have e2 : (kvs.map fun p => PyData.tuple (p.1.map kD)) = (keysT bs kvs).map (·.2) := by
      unfold keysT
      rw [List.map_map]
      have : ((fun p : V × PyData => p.2) ∘ fun p : Addr × List Key × V => (V.ref p.1, PyData.tuple (p.2.1.map kD))) = (fun p : List Key × V => PyData.tuple (p.1.map kD)) ∘ Prod.snd := rfl
      rw [this, ← List.map_map, List.map_snd_zip (by omega)]
    have e3 : ((keysT bs kvs).mergeSort (PySem.W.dataLe false fun p => p.2)).map (·.2) = ((keysT bs kvs).map (·.2)).mergeSort (PySem.W.dataLe false id) := List.map_mergeSort fun a _ b _ => rfl
    unfold srtKs srt
    rw [e2, ← e3, List.map_map, List.map_map, List.map_map]
    apply List.map_congr_left
    intro p hp
    have hp' := (List.mergeSort_perm _ _).mem_iff.mp hp
    obtain ⟨⟨b, k, v⟩, h1, rfl⟩ := List.mem_map.mp hp'
    obtain ⟨i, hi⟩ := List.mem_iff_getElem?.mp h1
    obtain ⟨h2, h3⟩ := List.getElem?_zip_eq_some.mp hi
    show kk b = (k.map kD).map unD
    rw [kkE b k (paired_at hb h3 h2), List.map_map]
    have : unD ∘ kD = id := funext unD_k
    rw [this, List.map_id]
  refine ⟨(srt (keysT bs kvs)).map unR, h2, by rw [← hs]; simp, fun i q k hq hk => ?_⟩
  rw [← hs] at hk
  rw [List.getElem?_map, hq] at hk
  obtain rfl : kk q = k := Option.some.inj hk
  have hm : q ∈ bs := h1.mem_iff.mp (List.mem_of_getElem? hq)
  obtain ⟨j, hj⟩ := List.mem_iff_getElem?.mp hm
  have hi := (List.getElem?_eq_some_iff.mp hj).1
  have hki : kvs[j]? = some kvs[j] := List.getElem?_eq_getElem (by omega)
  have hq' := paired_at hb hki hj
  rw [kkE q _ hq']
  exact hq'

def Rf (R0 : Str → Option (List Itm)) (n : Str) : List Itm := match R0 n with
  | some row => nrm row
  | none => [.r n]
/-- rows as they are told -/
def RowD (regs : List Str) (R0 : Str → Option (List Itm)) (H : Hp) (r : Addr) : Prop := ∃ kvs : List (Key × V), Rd H r (.dK kvs) ∧ ∀ n ∈ regs, (R0 n = none ∧ valV kvs (.inr n) = none) ∨
  ∃ row a, R0 n = some row ∧ valV kvs (.inr n) = some (.ref a) ∧ RowAt H a row ∧ row.length ≤ 1000 ∧ rowLen row ≤ 100000
theorem RowD.le {regs : List Str} {R0 : Str → Option (List Itm)} {H H' : Hp} {r : Addr} (e : Le H H') (h : RowD regs R0 H r) : RowD regs R0 H' r := h.imp fun kvs ⟨h1, h2⟩ => ⟨e.rd _ _ rfl h1, fun n hn => by
  rcases h2 n hn with q | ⟨row, a, e1, e2, e3, e4⟩
  · exact .inl q
  · exact .inr ⟨row, a, e1, e2, e3.le e, e4⟩⟩
/-- rows in the one form -/
def RowsN (regs : List Str) (R : Str → List Itm) (H : Hp) (d : Addr) : Prop := ∃ kvs : List (Key × V), H d = some (.dK kvs) ∧ kvs.map (·.1) = regs.map Sum.inr ∧ ∀ n v, (Sum.inr n, v) ∈ kvs → ∃ a, v = .ref a ∧ RowAt H a (R n)
theorem RowsN.ex {regs : List Str} {R : Str → List Itm} {H H' : Hp} {d : Addr} (e : Ex H H') (h : RowsN regs R H d) : RowsN regs R H' d := h.imp fun kvs ⟨h1, h2, h3⟩ => ⟨e _ _ h1, h2, fun n v m => by
  obtain ⟨a, e1, e2⟩ := h3 n v m
  exact ⟨a, e1, e2.le (Le.ex e)⟩⟩
theorem RowAt.upd {H : Hp} {a D : Addr} {row : List Itm} {o o' : HO} (hD : H D = some o) (ho : ∀ xs, o ≠ .tup xs) (h : RowAt H a row) : RowAt (upd H D o') a row := by
  obtain ⟨xs, h1, h2, h3⟩ := h
  have ne : ∀ {b : Addr} {ys : List V}, H b = some (.tup ys) → b ≠ D := fun hb z => by
    subst z
    rw [hb] at hD
    cases hD
    exact ho _ rfl
  refine ⟨xs, by rw [upd_ne (ne h1)]; exact h1, h2, fun i x t a b => ?_⟩
  have h4 := h3 i x t a b
  cases t with
  | t s => exact h4
  | r s =>
    obtain ⟨b, e, hb⟩ := h4
    exact ⟨b, e, by rw [upd_ne (ne hb)]; exact hb⟩
theorem stab_row {kind : HO → Bool} (hk : ∀ xs, kind (.tup xs) = false) {a : Addr} {row : List Itm} : Stab kind (fun H => RowAt H a row) := ⟨fun _ _ e h => h.le (Le.ex e), fun H D o o' k _ e h => h.upd e fun xs z => by
  subst z
  rw [hk] at k
  cases k⟩
def sp_all_rows : Sp := spE (fun (x : Addr × Addr × List Str × (Str → Option (List Itm))) vs H => vs = [.ref x.1, .ref x.2.1] ∧ RowD x.2.2.1 x.2.2.2 H x.1 ∧ H x.2.1 = some (.lst (x.2.2.1.map V.str)) ∧ x.2.2.1.Nodup ∧ x.2.2.1.length ≤ 60) (fun x v H => ∃ d, v = .ref d ∧ RowsN x.2.2.1 (Rf x.2.2.2) H d)
section
variable {P : Program} {w : World} {K : PySem.W.Frag} {mg : Str → Option Value} {base : Heap} {C : Addr} {f : Addr} {fd : FuncData}
theorem ok_all_rows (F : Fun K "all_rows" "all_rows" s_all_rows f fd) (Z : Zs mg C) (G_row_of : Has P w K mg base "row_of" 2 ["items"] sp_row_of) : FnOk P w K mg base CX0 3 f fd ["rows", "registers"] sp_all_rows := by
  refine F.ok sc_all_rows (fun vs H Q E h => ?_) (fun cdv A outer s H vs Q E hr h => ?_)
  · obtain ⟨i, ⟨rfl, _⟩, _⟩ := h
    rfl
  · obtain ⟨⟨r, ra, regs, R0⟩, ⟨rfl, ⟨kvs, hx, hi⟩, hra, hN, h6⟩, k⟩ := h
    dsimp only at hx hi hra hN h6
    have hu := hu_of hr
    have hu64 := hr.units
    have hu0 := Nat.lt_of_succ_lt hu
    refine ⟨_, (pss_one (ps_ret (pe_dp IsNil.k hu0 (own := [(("name" : Str), 2)]) (g := gName 2) rfl sc_all_rows.nd (pi_list (pv 1)) (blkOk_by (own := [(("name" : Str), 2)]) (N := n_all_rows) (sc := defScope s_all_rows) (by decide +kernel)) (fun _ _ _ _ _ => (pg_name (i := 2) sc_all_rows.nd rfl (Or.inl rfl))) (fun _ _ _ _ _ => pts_nil) (fun _ _ _ _ _ => (pv 2)) (fun _ _ _ _ _ => (pe_ifExp (pt_cmp (pc_din hu (pv 2) (pv 0))) (pe_use G_row_of (hr.mono (by decide)) (pa_cons (pe_dget hu (pv 0) (pv 2) (fun _ _ => rfl)) pa_nil)) (pe_tup (pa_cons (pe_tup (pa_cons (pv 2) pa_nil)) pa_nil))))))), ?_⟩
    refine s_retN (new_dpK (src_list (K := K) (ev_var rfl) (sq_of hra)) (by rw [List.length_map]; exact Nat.le_trans h6 (by decide)) (fun x => rfl) (regs.map Sum.inr) (by simp) (List.Pairwise.map Sum.inr (fun a b h q => h (Sum.inr.inj q)) hN)
      (fun i v H' => ∀ n, regs[i]? = some n → ∃ a, v = .ref a ∧ RowAt H' a (Rf R0 n)) (fun i v => stab_all fun n => stab_imp fun _ => stab_ex fun a => stab_and stab_pure (stab_row (fun _ => rfl))) ?_ ?_ ?_) fun d o H1 hd e1 h1 ⟨l, eo, hk, hv⟩ => ?_
    · intro i x k H' e hk hx
      rw [List.getElem?_map] at hk hx
      cases hr : regs[i]? with
      | none => rw [hr] at hk; cases hk
      | some s =>
        rw [hr] at hk hx
        cases hk
        cases hx
        exact ev_var rfl
    · intro i x H' e hil hxi
      rw [List.getElem?_map] at hxi
      cases hr : regs[i]? with
      | none => rw [hr] at hxi; cases hxi
      | some n =>
        rw [hr] at hxi
        obtain rfl : V.str n = x := Option.some.inj hxi
        have hx' := ex_rd e hx
        refine (ep_if (b := (valV kvs (.inr n)).isSome) (Pv := fun v H' => ∃ a, v = .ref a ∧ RowAt H' a (Rf R0 n)) (fun H1 e1 Q q => ev_in (k := .inr n) (ev_var rfl) rfl (ev_var rfl) hx' H1 e1 _ fun H2 e2 => ⟨_, rfl, q H2 e2⟩) (fun hb => ?_) (fun hb => ?_)).imp fun v H2 _ p m hm => by
          obtain rfl : n = m := Option.some.inj hm
          exact p
        · rcases hi n (List.mem_of_getElem? hr) with ⟨_, q⟩ | ⟨row, a, e1, e2, e3, e4, e5⟩
          · rw [q] at hb
            cases hb
          · refine (ep_use (ea_cons (ev_get (ev_var rfl) (ev_var rfl) (k := .inr n) rfl hx' e2) ea_nil) (spE_P (a, row) (fun _ e6 => ⟨rfl, e3.le (Le.ex (e.trans e6)), e4, e5⟩) fun v H2 _ p => p)).imp fun v H2 _ p => ?_
            unfold Rf
            rw [e1]
            exact p
        · rcases hi n (List.mem_of_getElem? hr) with ⟨q, _⟩ | ⟨row, a, e1, e2, e3, e4, e5⟩
          · refine ((new_tup (pa1 (Pr := fun vs _ => vs = []) (P := fun v H2 => ∃ b, v = .ref b ∧ H2 b = some (.tup [.str n])) (fun v H H' e ⟨b, h1, h2⟩ => ⟨b, h1, e _ _ h2⟩) (((New.ofU (eu_tup (ea_cons (ev_var rfl) ea_nil) (by show 1 ≤ 100000; decide))).evP).imp fun v H2 _ ⟨p, o, h1, h2, h3⟩ => ⟨p, h1, by rw [h2, h3]⟩) pa0) (fun vs H2 ⟨v, r, h1, h2, h3⟩ => by rw [h1, h3]; show 1 ≤ 1000; decide) (fun vs H H' e ⟨v, r, h1, ⟨b, h2, h3⟩, h4⟩ => ⟨v, r, h1, ⟨b, h2, e _ _ h3⟩, h4⟩)).evP).imp fun v H2 _ ⟨p, o, h1, h2, vs, h3, y, r, h4, ⟨b, h5, h6⟩, h7⟩ => ⟨p, h1, [.ref b], by rw [h2, h3, h4, h5, h7], ?_⟩
            unfold Rf
            rw [q]
            exact ItsAt.one ⟨b, rfl, h6⟩
          · rw [e2] at hb
            cases hb
    · intro i x H' H'' _ h
      exact h
    subst eo
    refine k _ H1 e1 ⟨d, rfl, l, h1, hk, fun n v hm => ?_⟩
    obtain ⟨i, hi⟩ := List.mem_iff_getElem?.mp hm
    refine hv i _ hi n ?_
    have h2 := congrArg (fun z : List Key => z[i]?) hk
    simp only [List.getElem?_map, hi, Option.map_some] at h2
    cases hr : regs[i]? with
    | none => rw [hr] at h2; cases h2
    | some m =>
      rw [hr] at h2
      have : (Sum.inr n : Key) = Sum.inr m := Option.some.inj h2
      rw [Sum.inr.inj this]
end
end KX
end
section
set_option Elab.async false
set_option linter.all false
set_option maxRecDepth 100000
set_option maxHeartbeats 4000000
/-! Bs9: programs on the heap; how one is made. -/
namespace KX
open PySem PySem.Spec PyProof.Rows L2 Evl

/-- a program as it is told -/
structure Td where
  L : Str
  n : Int
  regs : List Str
  fs : Str → Option Str
  goal : Int → Nat → Int
  row : Int → Nat → Str → Option (List Itm)
  fin : Int → Option (List Itm)
/-- a program as it is kept -/
structure Pg where
  L : Str
  n : Int
  regs : List Str
  fst : Str → Str
  goal : Int → Nat → Int
  row : Int → Nat → Str → List Itm
  fin : Int → Option (List Itm)
def Td.pg (t : Td) : Pg := ⟨lts t.L, t.n, srtS t.regs, fun n => (t.fs n).getD "", t.goal, fun s c => Rf (t.row s c), fun s => (t.fin s).map nrm⟩
def RowZ (row : List Itm) : Prop := row.length ≤ 1000 ∧ rowLen row ≤ 100000
/-- a state and a letter -/
def SL (L : Str) (n : Int) (s : Int) (c : Nat) : Prop := 0 ≤ s ∧ s < n ∧ c ∈ cds L
structure TdAt (H : Hp) (t : Td) (ra fa sa ea : Addr) : Prop where
  rS : H ra = some (.lst (t.regs.map V.str))
  rN : t.regs.Nodup
  r6 : t.regs.length ≤ 60
  lZ : t.L.length ≤ 100000
  f : ∃ kvs : List (Key × V), H fa = some (.dK kvs) ∧ ∀ n ∈ t.regs, valV kvs (.inr n) = (t.fs n).map V.str
  s : ∃ kvs : List (List Key × V), H sa = some (.dT kvs) ∧ kvs.length ≤ 100000 ∧ (kvs.map (·.1)).Nodup ∧
    (∀ k v, (k, v) ∈ kvs → ∃ s c b r, k = [.inl s, .inr ⟨#[c]⟩] ∧ SL t.L t.n s c ∧ v = .ref b ∧ H b = some (.tup [.int (t.goal s c), .ref r]) ∧ RowD t.regs (t.row s c) H r) ∧
    ∀ s c, SL t.L t.n s c → [Sum.inl s, Sum.inr ⟨#[c]⟩] ∈ kvs.map (·.1)
  e : ∃ kvs : List (Key × V), H ea = some (.dK kvs) ∧ kvs.length ≤ 100000 ∧ (kvs.map (·.1)).Nodup ∧
    (∀ k v, (k, v) ∈ kvs → ∃ s a row, k = .inl s ∧ t.fin s = some row ∧ v = .ref a ∧ RowAt H a row ∧ RowZ row) ∧ ∀ s, (t.fin s).isSome = true → Sum.inl s ∈ kvs.map (·.1)
theorem RowD.ex {regs : List Str} {R0 : Str → Option (List Itm)} {H H' : Hp} {r : Addr} (e : Ex H H') (h : RowD regs R0 H r) : RowD regs R0 H' r := h.le (Le.ex e)
theorem TdAt.ex {H H' : Hp} {t : Td} {ra fa sa ea : Addr} (e : Ex H H') (h : TdAt H t ra fa sa ea) : TdAt H' t ra fa sa ea where
  rS := e _ _ h.rS
  rN := h.rN
  r6 := h.r6
  lZ := h.lZ
  f := h.f.imp fun kvs ⟨a, b⟩ => ⟨e _ _ a, b⟩
  s := h.s.imp fun kvs ⟨a, b, c, d, f⟩ => ⟨e _ _ a, b, c, fun k v m => by
    obtain ⟨s, c, b, r, h1, h2, h3, h4, h5⟩ := d k v m
    exact ⟨s, c, b, r, h1, h2, h3, e _ _ h4, h5.ex e⟩, f⟩
  e := h.e.imp fun kvs ⟨a, b, c, d, f⟩ => ⟨e _ _ a, b, c, fun k v m => by
    obtain ⟨s, a, row, h1, h2, h3, h4, h5⟩ := d k v m
    exact ⟨s, a, row, h1, h2, h3, h4.le (Le.ex e), h5⟩, f⟩
structure PgD (H : Hp) (g : Pg) (ra fa sa ea : Addr) : Prop where
  rS : H ra = some (.lst (g.regs.map V.str))
  f : H fa = some (.dK (hk g.regs g.fst))
  s : ∃ kvs : List (List Key × V), H sa = some (.dT kvs) ∧ kvs.length ≤ 100000 ∧ (kvs.map (·.1)).Nodup ∧
    (∀ k v, (k, v) ∈ kvs → ∃ s c b r, k = [.inl s, .inr ⟨#[c]⟩] ∧ SL g.L g.n s c ∧ v = .ref b ∧ H b = some (.tup [.int (g.goal s c), .ref r]) ∧ RowsN g.regs (g.row s c) H r) ∧
    ∀ s c, SL g.L g.n s c → [Sum.inl s, Sum.inr ⟨#[c]⟩] ∈ kvs.map (·.1)
  e : ∃ kvs : List (Key × V), H ea = some (.dK kvs) ∧ kvs.length ≤ 100000 ∧ (kvs.map (·.1)).Nodup ∧
    (∀ k v, (k, v) ∈ kvs → ∃ s a row, k = .inl s ∧ g.fin s = some row ∧ v = .ref a ∧ RowAt H a row) ∧ ∀ s, (g.fin s).isSome = true → Sum.inl s ∈ kvs.map (·.1)
theorem PgD.ex {H H' : Hp} {g : Pg} {ra fa sa ea : Addr} (e : Ex H H') (h : PgD H g ra fa sa ea) : PgD H' g ra fa sa ea where
  rS := e _ _ h.rS
  f := e _ _ h.f
  s := h.s.imp fun kvs ⟨a, b, c, d, f⟩ => ⟨e _ _ a, b, c, fun k v m => by
    obtain ⟨s, c, b, r, h1, h2, h3, h4, h5⟩ := d k v m
    exact ⟨s, c, b, r, h1, h2, h3, e _ _ h4, h5.ex e⟩, f⟩
  e := h.e.imp fun kvs ⟨a, b, c, d, f⟩ => ⟨e _ _ a, b, c, fun k v m => by
    obtain ⟨s, a, row, h1, h2, h3, h4⟩ := d k v m
    exact ⟨s, a, row, h1, h2, h3, h4.le (Le.ex e)⟩, f⟩
def pgN : List Str := ["letters", "states", "registers", "firsts", "steps", "ends"]
/-- fields of these names alone -/
def OnlyF (ns : List Str) (fs : List (Str × V)) : Prop := ∀ m : Str, fs.lookup m ≠ none → m ∈ ns
theorem OnlyF.put {ns : List Str} {fs : List (Str × V)} {f : Str} {v : V} (h : OnlyF ns fs) (hf : f ∈ ns) : OnlyF ns (putF f v fs) := fun m hm => by
  rw [lookup_putF] at hm
  by_cases e : m = f
  · rw [e]; exact hf
  · rw [if_neg e] at hm
    exact h m hm
theorem OnlyF.no {ns : List Str} {fs : List (Str × V)} {m : Str} (h : OnlyF ns fs) (hm : m ∉ ns) : fs.lookup m = none := by
  cases e : fs.lookup m with
  | none => rfl
  | some v => exact absurd (h m (by rw [e]; exact fun z => by cases z)) hm
/-- the fields of a program -/
structure PgF (fs : List (Str × V)) (g : Pg) (ra fa sa ea : Addr) : Prop where
  z : fs.length ≤ 100
  l : fs.lookup ("letters" : Str) = some (.str g.L)
  n : fs.lookup ("states" : Str) = some (.int g.n)
  r : fs.lookup ("registers" : Str) = some (.ref ra)
  f : fs.lookup ("firsts" : Str) = some (.ref fa)
  s : fs.lookup ("steps" : Str) = some (.ref sa)
  e : fs.lookup ("ends" : Str) = some (.ref ea)
  o : OnlyF pgN fs
def PgAt (C : Addr) (H : Hp) (p : Addr) (g : Pg) : Prop := ∃ dx fs ra fa sa ea, H p = some (.ins C dx fs) ∧ PgF fs g ra fa sa ea ∧ PgD H g ra fa sa ea
theorem PgAt.ex {C : Addr} {H H' : Hp} {p : Addr} {g : Pg} (e : Ex H H') (h : PgAt C H p g) : PgAt C H' p g := by
  obtain ⟨dx, fs, ra, fa, sa, ea, h1, h2, h3⟩ := h
  exact ⟨dx, fs, ra, fa, sa, ea, e _ _ h1, h2, h3.ex e⟩
/-- what the class of programs is -/
structure PgC (K : PySem.W.Frag) (C : Addr) : Prop where
  cl : Cls K C
  l : NoAttr K C "letters"
  n : NoAttr K C "states"
  r : NoAttr K C "registers"
  f : NoAttr K C "firsts"
  s : NoAttr K C "steps"
  e : NoAttr K C "ends"
theorem putF_len (f : Str) (v : V) : ∀ fs : List (Str × V), (putF f v fs).length ≤ fs.length + 1
  | [] => Nat.le_refl _
  | (g, x) :: r => by
    show (if g = f then (g, v) :: r else (g, x) :: putF f v r).length ≤ _
    by_cases h : g = f
    · rw [if_pos h]; exact Nat.le_succ _
    · rw [if_neg h]
      have := putF_len f v r
      show (putF f v r).length + 1 ≤ r.length + 1 + 1
      omega
theorem hk_of {regs : List Str} {f : Str → Str} {kvs : List (Key × V)} (hk1 : kvs.map (·.1) = regs.map Sum.inr) (hv : ∀ (i : Nat) (p : Key × V), kvs[i]? = some p → ∀ n, regs[i]? = some n → p.2 = .str (f n)) : kvs = hk regs f := by
  have hl : kvs.length = regs.length := by simpa using congrArg List.length hk1
  unfold hk
  apply List.ext_getElem?
  intro i
  rw [List.getElem?_map]
  cases hr : regs[i]? with
  | none =>
    have := List.getElem?_eq_none_iff.mp hr
    rw [List.getElem?_eq_none (by omega)]
    rfl
  | some n =>
    have hi := (List.getElem?_eq_some_iff.mp hr).1
    have hki : kvs[i]? = some kvs[i] := List.getElem?_eq_getElem (by omega)
    have h2 := congrArg (fun z : List Key => z[i]?) hk1
    simp only [List.getElem?_map, hki, hr, Option.map_some] at h2
    rw [hki]
    have h3 := hv i _ hki n hr
    have h4 : (kvs[i]).1 = Sum.inr n := Option.some.inj h2
    show some kvs[i] = some (Sum.inr n, V.str (f n))
    rw [← h4, ← h3]
section
variable {K : PySem.W.Frag} {σ : L2.St} {H : Hp} {ta tb te tv to td tx : TE} {P : Program} {w : World} {D : Ends} {tz : TS} {C p dx : Addr} {fs : List (Str × V)} {f : Str}
theorem ev_fld {v : V} (h : Ev ta σ H (.ref p)) (hp : H p = some (.ins C dx fs)) (cl : Cls K C) (na : NoAttr K C f) (e : fs.lookup f = some v) : Ev (tFld K ta f) σ H v := fun H1 e1 Q q =>
  h H1 e1 _ fun H2 e2 => ⟨p, C, dx, fs, v, rfl, (e1.trans e2) _ _ hp, cl, na, e, q H2 e2⟩
theorem q_fld {v : V} (h : Ev tv σ H v) (ho : Ev to σ H (.ref p)) (hp : H p = some (.ins C dx fs)) (cl : Cls K C) (na : NoAttr K C f) (few : fs.length ≤ 200) (k : ∀ H1, Ex H H1 → tz D σ (upd H1 p (.ins C dx (putF f v fs)))) : tSeq (sFld K to tv f) tz D σ H :=
  h H (Ex.refl H) _ fun H1 e1 => ho H1 e1 _ fun H2 e2 => ⟨p, C, dx, fs, rfl, (e1.trans e2) _ _ hp, cl, na, by omega, k H2 (e1.trans e2)⟩
theorem q_fldN {N : HO → Hp → Prop} (h : New tv σ H N) (ho : Ev to σ H (.ref p)) (hp : H p = some (.ins C dx fs)) (cl : Cls K C) (na : NoAttr K C f) (few : fs.length ≤ 200) (hN : ∀ o H H', Ex H H' → N o H → N o H')
    (k : ∀ q o H1, H q = none → Ex H H1 → H1 q = some o → N o H1 → tz D σ (upd H1 p (.ins C dx (putF f (.ref q) fs)))) : tSeq (sFld K to tv f) tz D σ H :=
  h H (Ex.refl H) _ fun q o H1 e0 e1 e3 n => ho H1 e1 _ fun H2 e2 => ⟨p, C, dx, fs, rfl, (e1.trans e2) _ _ hp, cl, na, by omega, k q o H2 e0 (e1.trans e2) (e2 _ _ e3) (hN _ _ _ e2 n)⟩
theorem s_fldN {N : HO → Hp → Prop} (h : New tv σ H N) (ho : Ev to σ H (.ref p)) (hp : H p = some (.ins C dx fs)) (cl : Cls K C) (na : NoAttr K C f) (few : fs.length ≤ 200) (hN : ∀ o H H', Ex H H' → N o H → N o H')
    (k : ∀ q o H1, H q = none → Ex H H1 → H1 q = some o → N o H1 → D.nx σ (upd H1 p (.ins C dx (putF f (.ref q) fs)))) : sFld K to tv f D σ H :=
  h H (Ex.refl H) _ fun q o H1 e0 e1 e3 n => ho H1 e1 _ fun H2 e2 => ⟨p, C, dx, fs, rfl, (e1.trans e2) _ _ hp, cl, na, by omega, k q o H2 e0 (e1.trans e2) (e2 _ _ e3) (hN _ _ _ e2 n)⟩
theorem el_srtS {z : Str} (h : Ev ta σ H (.str z)) (hz : z.length ≤ 100000) : EvL (tCB rSrtS (tCons ta tNil)) σ H ((srtS ((cds z).map fun c => ⟨#[c]⟩)).map V.str) := fun H1 e Q q =>
  h H1 e _ fun H2 e2 => ⟨z, rfl, sz_of hz, fun p hp => q p _ (fresh_back e2 hp) (e2.trans (Ex.new hp)) (by rw [upd_same, signs_eq, (srtS_perm _).2])⟩
theorem el_srtL {a : Addr} {xs : List Str} (h : Ev ta σ H (.ref a)) (hx : H a = some (.lst (xs.map V.str))) (hz : xs.length ≤ 100000) : EvL (tCB (rSrtL K) (tCons ta tNil)) σ H ((srtS xs).map V.str) := fun H1 e Q q =>
  h H1 e _ fun H2 e2 => ⟨a, strP xs, rfl, .inl (by
    have : (strP xs).map (·.1) = xs.map V.str := by
      unfold strP
      rw [List.map_map]
      rfl
    rw [this]
    exact sq_of (e2 _ _ (e _ _ hx))), strP_ok hz, fun p hp => q p _ (fresh_back e2 hp) (e2.trans (Ex.new hp)) (by rw [upd_same, (srtS_perm _).2])⟩
theorem el_srtK {a : Addr} {kvs : List (Key × V)} {xs : List Int} (h : Ev ta σ H (.ref a)) (hx : Rd H a (.dK kvs)) (hk : kvs.map (·.1) = xs.map Sum.inl) (hz : xs.length ≤ 100000) : EvL (tCB rSrtK (tCons ta tNil)) σ H ((srtI xs).map V.int) := fun H1 e Q q =>
  h H1 e _ fun H2 e2 => by
    have hp : keysP kvs = intP xs := by
      unfold keysP intP
      have h1 : (fun p : Key × V => (kV p.1, kD p.1)) = (fun k : Key => (kV k, kD k)) ∘ Prod.fst := rfl
      rw [h1, ← List.map_map, hk, List.map_map]
      rfl
    exact ⟨a, kvs, rfl, ex_rd (e.trans e2) hx, by rw [hp]; exact intP_ok hz, fun p hp' => q p _ (fresh_back e2 hp') (e2.trans (Ex.new hp')) (by rw [upd_same, hp, (srtI_perm _).2])⟩
/-- sorted(dict of places) -/
theorem new_srtT {a : Addr} {kvs : List (List Key × V)} (h : Ev ta σ H (.ref a)) (hx : Rd H a (.dT kvs)) (hk : ∀ k v, (k, v) ∈ kvs → IsPl k) (hz : kvs.length ≤ 100000) :
    New (tCB rSrtT (tCons ta tNil)) σ H (fun o H2 => ∃ xs, o = .lst xs ∧ xs.length = kvs.length ∧ ∃ qs : List Addr, xs = qs.map V.ref ∧ ∀ (i : Nat) q k, qs[i]? = some q → (srtKs kvs)[i]? = some k → H2 q = some (.tup (k.map kV))) := fun H1 e Q q =>
  h H1 e _ fun H2 e2 => ⟨a, kvs, rfl, ex_rd (e.trans e2) hx, fun bs hb => ⟨keysT_ok hb hk hz, fun p hp => by
    obtain ⟨qs, h1, h2, h3⟩ := srtT_ix hb
    refine q p _ _ (fresh_back e2 hp) (e2.trans (Ex.new hp)) upd_same ⟨_, rfl, ?_, qs, h1, fun i q k a b => Ex.new hp _ _ (h3 i q k a b)⟩
    rw [h1, List.length_map, h2, (srtKs_perm kvs).length_eq, List.length_map]⟩⟩
theorem ev_get2 {d : Addr} {kvs : List (Key × V)} {y z : V} {k : Key} (hd : Ev td σ H (.ref d)) (hy : Ev ta σ H y) (ey : y = kV k) (hx : Ev tx σ H z) (h : H d = some (.dK kvs)) : Ev (tDGet2 td ta tx) σ H ((valV kvs k).getD z) := fun H1 e Q q =>
  hd H1 e _ fun H2 e2 => ⟨d, rfl, .inl ⟨kvs, .inl ((e.trans e2) _ _ h)⟩, hy H2 (e.trans e2) _ fun H3 e3 => hx H3 ((e.trans e2).trans e3) _ fun H4 e4 =>
    ⟨_, .inl ⟨kvs, k, .inl ((((e.trans e2).trans e3).trans e4) _ _ h), ey, rfl⟩, q H4 ((e2.trans e3).trans e4)⟩⟩
end
end KX
end
section
set_option Elab.async false
set_option linter.all false
set_option maxRecDepth 100000
set_option maxHeartbeats 8000000
/-! Bs10: the parts are put into a program; a program is made. -/
namespace KX
open PySem PySem.Spec PyProof.Rows L2 Evl
def isIns : HO → Bool
  | .ins _ _ _ => true
  | _ => false
/-- all but instances stays -/
def Kp (H H' : Hp) : Prop := ∀ a o, isIns o = false → H a = some o → H' a = some o
theorem Kp.ex {H H' : Hp} (e : Ex H H') : Kp H H' := fun a o _ h => e a o h
theorem Kp.trans {H H1 H2 : Hp} (a : Kp H H1) (b : Kp H1 H2) : Kp H H2 := fun x o f h => b x o f (a x o f h)
theorem Kp.upd {H : Hp} {p C dx : Addr} {fs : List (Str × V)} {o : HO} (h : H p = some (.ins C dx fs)) : Kp H (upd H p o) := fun a u f q => by
  rw [upd_ne (show a ≠ p from fun z => by
    subst z
    rw [h] at q
    cases q
    cases f)]
  exact q
theorem ItAt.kp {H H' : Hp} {t : Itm} {x : V} (e : Kp H H') (h : ItAt H t x) : ItAt H' t x := by
  cases t with
  | t s => exact h
  | r s => exact h.imp fun b ⟨e1, h1⟩ => ⟨e1, e _ _ rfl h1⟩
theorem RowAt.kp {H H' : Hp} {a : Addr} {row : List Itm} (e : Kp H H') (h : RowAt H a row) : RowAt H' a row := h.imp fun xs ⟨h1, h2, h3⟩ => ⟨e _ _ rfl h1, h2, fun i x t a b => (h3 i x t a b).kp e⟩
theorem RowsN.kp {regs : List Str} {R : Str → List Itm} {H H' : Hp} {d : Addr} (e : Kp H H') (h : RowsN regs R H d) : RowsN regs R H' d := h.imp fun kvs ⟨h1, h2, h3⟩ => ⟨e _ _ rfl h1, h2, fun n v m => by
  obtain ⟨a, e1, e2⟩ := h3 n v m
  exact ⟨a, e1, e2.kp e⟩⟩
theorem stab_rowsN {regs : List Str} {R : Str → List Itm} {d : Addr} : Stab isDt (fun H => RowsN regs R H d) := ⟨fun _ _ e h => h.ex e, fun H D o o' k _ hD h => by
  obtain ⟨kvs, h1, h2, h3⟩ := h
  have nt : ∀ xs, o ≠ .tup xs := fun xs z => by
    subst z
    cases k
  refine ⟨kvs, by
    rw [upd_ne (show d ≠ D from fun z => by
      subst z
      rw [h1] at hD
      cases hD
      cases k)]
    exact h1, h2, fun n v m => ?_⟩
  obtain ⟨a, e1, e2⟩ := h3 n v m
  exact ⟨a, e1, e2.upd hD nt⟩⟩
theorem RowD.perm {regs regs' : List Str} {R0 : Str → Option (List Itm)} {H : Hp} {r : Addr} (hp : ∀ n, n ∈ regs' → n ∈ regs) (h : RowD regs R0 H r) : RowD regs' R0 H r := h.imp fun kvs ⟨a, b⟩ => ⟨a, fun n hn => b n (hp n hn)⟩

def sp_Program_put (C : Addr) : Sp := fun vs H Q _ => ∃ (t : Td) (p ra fa sa ea dx : Addr) (fs : List (Str × V)) (H0 : Hp), vs = [.ref p, .str t.L, .int t.n, .ref ra, .ref fa, .ref sa, .ref ea] ∧ H0 p = none ∧ Ex H0 H ∧ H p = some (.ins C dx fs) ∧ fs.length ≤ 50 ∧ OnlyF pgN fs ∧
  TdAt H0 t ra fa sa ea ∧ ∀ H', Ex H0 H' → PgAt C H' p t.pg → (∀ dx' fs', H' p = some (.ins C dx' fs') → fs'.length ≤ fs.length + 6) → Q .non H'
section
variable {P : Program} {w : World} {K : PySem.W.Frag} {mg : Str → Option Value} {base : Heap} {C : Addr} {f : Addr} {fd : FuncData}
theorem ok_Program_put (F : Fun K "_put" "Program._put" s_Program_put f fd) (Z : Zs mg C) (PC : PgC K C) (G_all_rows : Has P w K mg base "all_rows" 3 ["rows", "registers"] sp_all_rows) (G_row_of : Has P w K mg base "row_of" 2 ["items"] sp_row_of) :
    FnOk P w K mg base CX0 4 f fd ["self", "letters", "states", "registers", "firsts", "steps", "ends"] (sp_Program_put C) := by
  refine F.ok sc_Program_put (fun vs H Q E h => ?_) (fun cdv A outer s H vs Q E hr h => ?_)
  · obtain ⟨t, p, ra, fa, sa, ea, dx, fs, H0, rfl, _⟩ := h
    rfl
  · obtain ⟨t, p, ra, fa, sa, ea, dx, fs, H0, rfl, hp0, ex0, hp, hfs, hof, T, k⟩ := h
    have hu := hu_of hr
    have hu64 := hr.units
    have hu0 := Nat.lt_of_succ_lt hu
    have hu8 := hu8_of hr
    refine ⟨_, (pss_cons (ps_fld (pv 0) (pe_join pe_str (pe_callB (cr_srtS rfl hu8) (by rfl) Z.z_sorted (by decide +kernel) (pa_cons (pv 1) pa_nil))) rfl) 
    (pss_cons (ps_fld (pv 0) (pv 2) rfl) 
    (pss_cons (ps_fld (pv 0) (pe_callB (cr_srtL (K := K) hu8) (by rfl) Z.z_sorted (by decide +kernel) (pa_cons (pv 3) pa_nil)) rfl) 
    (pss_cons (ps_fld (pv 0) (pe_dp IsNil.k hu0 (own := [(("name" : Str), 7)]) (g := gName 7) rfl sc_Program_put.nd (pi_list (pe_fldK (K := K) (pv 0) rfl)) (blkOk_by (own := [(("name" : Str), 7)]) (N := n_Program_put) (sc := defScope s_Program_put) (by decide +kernel)) (fun _ _ _ _ _ => (pg_name (i := 7) sc_Program_put.nd rfl (Or.inl rfl))) (fun _ _ _ _ _ => pts_nil) (fun _ _ _ _ _ => (pv 7)) (fun _ _ _ _ _ => (pe_dget2 hu (pv 4) (pv 7) pe_str m2))) rfl) 
    (pss_cons (ps_fld (pv 0) (pe_dp IsNil.t hu0 (own := [(("key" : Str), 8)]) (g := gName 8) rfl sc_Program_put.nd (pi_list (pe_callB (cr_srtT rfl hu8) (by rfl) Z.z_sorted (by decide +kernel) (pa_cons (pv 5) pa_nil))) (blkOk_by (own := [(("key" : Str), 8)]) (N := n_Program_put) (sc := defScope s_Program_put) (by decide +kernel)) (fun _ _ _ _ _ => (pg_name (i := 8) sc_Program_put.nd rfl (Or.inl rfl))) (fun _ _ _ _ _ => pts_nil) (fun _ _ _ _ _ => (pv 8)) (fun _ _ _ _ _ => (pe_tup (pa_cons (pe_ix (ixT (K := K)) (pe_dget hu (pv 5) (pv 8) (fun _ _ => rfl)) pe_int (fun _ _ => rfl)) (pa_cons (pe_use G_all_rows (hr.mono (by decide)) (pa_cons (pe_ix (ixT (K := K)) (pe_dget hu (pv 5) (pv 8) (fun _ _ => rfl)) pe_int (fun _ _ => rfl)) (pa_cons (pe_fldK (K := K) (pv 0) rfl) pa_nil))) pa_nil))))) rfl) 
    (pss_one (ps_fld (pv 0) (pe_dp IsNil.k hu0 (own := [(("state" : Str), 9)]) (g := gName 9) rfl sc_Program_put.nd (pi_list (pe_callB (cr_srtK rfl hu8) (by rfl) Z.z_sorted (by decide +kernel) (pa_cons (pv 6) pa_nil))) (blkOk_by (own := [(("state" : Str), 9)]) (N := n_Program_put) (sc := defScope s_Program_put) (by decide +kernel)) (fun _ _ _ _ _ => (pg_name (i := 9) sc_Program_put.nd rfl (Or.inl rfl))) (fun _ _ _ _ _ => pts_nil) (fun _ _ _ _ _ => (pv 9)) (fun _ _ _ _ _ => (pe_use G_row_of (hr.mono (by decide)) (pa_cons (pe_dget hu (pv 6) (pv 9) (fun _ _ => rfl)) pa_nil)))) rfl))))))), ?_⟩
    have h6 := T.r6
    have hperm := srtS_perm t.regs
    have hmem : ∀ n, n ∈ srtS t.regs → n ∈ t.regs := fun n h => hperm.1.mem_iff.mp h
    have hlS : (srtS t.regs).length ≤ 60 := by rw [hperm.1.length_eq]; exact h6
    have hNS : (srtS t.regs).Nodup := hperm.1.nodup_iff.mpr T.rN
    -- letters
    refine q_fld (ev_join (K := K) (el_srtS (ev_var rfl) T.lZ) rfl (by
      show (lts t.L).length ≤ 16000000
      rw [lts_len]
      exact Nat.le_trans T.lZ (by decide))) (ev_var rfl) hp PC.cl PC.l (by omega) fun H1 e1 => ?_
    have x1 : Ex H0 (upd H1 p (.ins C dx (putF "letters" (.str (cat (srtS ((cds t.L).map fun c => ⟨#[c]⟩)))) fs))) := Ex.mut (ex0.trans e1) hp0
    -- states
    refine q_fld (ev_var rfl) (ev_var rfl) upd_same PC.cl PC.n (by have := putF_len "letters" (.str (cat (srtS ((cds t.L).map fun c => ⟨#[c]⟩)))) fs; omega) fun H2 e2 => ?_
    have l1 := putF_len "letters" (.str (cat (srtS ((cds t.L).map fun c => ⟨#[c]⟩)))) fs
    have l2 := putF_len "states" (.int t.n) (putF "letters" (.str (cat (srtS ((cds t.L).map fun c => ⟨#[c]⟩)))) fs)
    have x2 := Ex.mut (o := .ins C dx (putF "states" (.int t.n) (putF "letters" (.str (cat (srtS ((cds t.L).map fun c => ⟨#[c]⟩)))) fs))) (x1.trans e2) hp0
    generalize hf2 : putF "states" (.int t.n) (putF "letters" (.str (cat (srtS ((cds t.L).map fun c => ⟨#[c]⟩)))) fs) = fs2 at x2 l2 ⊢
    -- registers
    refine q_fldN (New.ofL (el_srtL (K := K) (ev_var rfl) (x2 _ _ T.rS) (by omega))) (ev_var rfl) upd_same PC.cl PC.r (by omega) (fun _ _ _ _ h => h) fun ra' o3 H3 hn3 e3 h3 n3 => ?_
    subst n3
    have hp3 : H3 p = some (.ins C dx fs2) := e3 _ _ upd_same
    have l3 := putF_len "registers" (.ref ra') fs2
    have k3 := Kp.upd (o := .ins C dx (putF "registers" (.ref ra') fs2)) hp3
    have x3 := Ex.mut (o := .ins C dx (putF "registers" (.ref ra') fs2)) (x2.trans e3) hp0
    have lk3 : (putF "registers" (.ref ra') fs2).lookup ("registers" : Str) = some (.ref ra') := by rw [lookup_putF, if_pos rfl]
    have h3' := k3 _ _ rfl h3
    generalize hf3 : putF "registers" (.ref ra') fs2 = fs3 at k3 x3 l3 lk3 h3' ⊢
    -- firsts
    obtain ⟨kf, hkf, hkv⟩ := T.f
    refine q_fldN (new_dpK (src_list (K := K) (ev_fld (ev_var rfl) upd_same PC.cl PC.r lk3) (sq_of h3')) (by rw [List.length_map]; omega) (fun x => rfl) ((srtS t.regs).map Sum.inr) (by simp) (List.Pairwise.map Sum.inr (fun a b h q => h (Sum.inr.inj q)) hNS)
      (fun i v _ => ∀ n, (srtS t.regs)[i]? = some n → v = .str ((t.fs n).getD "")) (fun i v => stab_pure) ?_ ?_ (fun _ _ _ _ _ h => h)) (ev_var rfl) upd_same PC.cl PC.f (by omega) (fun o H H' _ ⟨l, a, b, c⟩ => ⟨l, a, b, c⟩) fun fa' o4 H4 hn4 e4 h4 ⟨lf, n4, hk4, hv4⟩ => ?_
    · intro i x k H' e hk hx
      rw [List.getElem?_map] at hk hx
      cases hr : (srtS t.regs)[i]? with
      | none => rw [hr] at hk; cases hk
      | some s =>
        rw [hr] at hk hx
        cases hk
        cases hx
        exact ev_var rfl
    · intro i x H' e hil hxi
      rw [List.getElem?_map] at hxi
      cases hr : (srtS t.regs)[i]? with
      | none => rw [hr] at hxi; cases hxi
      | some n =>
        rw [hr] at hxi
        obtain rfl : V.str n = x := Option.some.inj hxi
        refine (EvP.of (ev_get2 (ev_var rfl) (ev_var rfl) (k := .inr n) rfl ev_c ((x3.trans e) _ _ hkf))).imp fun v H2 _ hv m hm => ?_
        obtain rfl : n = m := Option.some.inj hm
        rw [hv, hkv n (hmem n (List.mem_of_getElem? hr))]
        cases t.fs n <;> rfl
    subst n4
    have hlf := hk_of (f := fun n => (t.fs n).getD "") hk4 (fun i q hq n hn => hv4 i q hq n hn)
    subst hlf
    have hp4 : H4 p = some (.ins C dx fs3) := e4 _ _ upd_same
    have l4 := putF_len "firsts" (.ref fa') fs3
    have k4 := Kp.upd (o := .ins C dx (putF "firsts" (.ref fa') fs3)) hp4
    have x4 := Ex.mut (o := .ins C dx (putF "firsts" (.ref fa') fs3)) (x3.trans e4) hp0
    have h34 : (upd H4 p (.ins C dx (putF "firsts" (.ref fa') fs3))) ra' = some (.lst ((srtS t.regs).map V.str)) := k4 _ _ rfl (e4 _ _ h3')
    have lk4 : (putF "firsts" (.ref fa') fs3).lookup ("registers" : Str) = some (.ref ra') := by rw [lookup_putF, if_neg (by decide +kernel)]; exact lk3
    have h4' := k4 _ _ rfl h4
    generalize hf4 : putF "firsts" (.ref fa') fs3 = fs4 at k4 x4 l4 lk4 h34 h4' ⊢
    -- steps
    obtain ⟨ks, hks, hkz, hkn, hkv2, hkc⟩ := T.s
    have hpl : ∀ k v, (k, v) ∈ ks → IsPl k := fun k v m => by
      obtain ⟨s, c, b, r, h1, _⟩ := hkv2 k v m
      exact ⟨s, _, h1⟩
    have hkP := srtKs_perm ks
    refine q_fldN (new_dpT (src_newT (K := K) (n := ks.length) (P := fun xs H2 => ∃ qs : List Addr, xs = qs.map V.ref ∧ ∀ (i : Nat) q k, qs[i]? = some q → (srtKs ks)[i]? = some k → H2 q = some (.tup (k.map kV))) (new_srtT (ev_var rfl) (.inl (x4 _ _ hks)) hpl hkz) (It := fun i x H => ∀ k, (srtKs ks)[i]? = some k → ∃ q, x = .ref q ∧ H q = some (.tup (k.map kV))) ?_) hkz (fun x => rfl) (srtKs ks) (by rw [hkP.length_eq]; simp) (hkP.nodup_iff.mpr hkn)
      (fun i v H => ∀ k, (srtKs ks)[i]? = some k → ∀ s c, k = [Sum.inl s, Sum.inr ⟨#[c]⟩] → ∃ b r, v = .ref b ∧ H b = some (.tup [.int (t.goal s c), .ref r]) ∧ RowsN (srtS t.regs) (Rf (t.row s c)) H r)
      (fun i v => stab_all fun k => stab_imp fun _ => stab_all fun s => stab_all fun c => stab_imp fun _ => stab_ex fun b => stab_ex fun r => stab_and stab_pure (stab_and (stab_at rfl rfl) stab_rowsN)) ?_ ?_ ?_) (ev_var rfl) upd_same PC.cl PC.s (by omega)
      (fun o H H' e ⟨l, a, b, c⟩ => ⟨l, a, b, fun i q hq k hk s z hz => by
        obtain ⟨b, r, h1, h2, h3⟩ := c i q hq k hk s z hz
        exact ⟨b, r, h1, e _ _ h2, h3.ex e⟩⟩) fun sa' o5 H5 hn5 e5 h5 ⟨ls, n5, hk5, hv5⟩ => ?_
    · rintro xs H2 H3 i x hT ⟨qs, rfl, hq⟩ hx k hk
      rw [List.getElem?_map] at hx
      cases hqi : qs[i]? with
      | none => rw [hqi] at hx; cases hx
      | some q =>
        rw [hqi] at hx
        obtain rfl : V.ref q = x := Option.some.inj hx
        exact ⟨q, rfl, hT _ _ (hq i q k hqi hk)⟩
    · intro i x k H' e hk hI
      obtain ⟨q, rfl, hq⟩ := hI k hk
      exact (EvP.of (ev_var rfl)).imp fun v H2 e2 hv => ⟨q, hv, e2 _ _ hq⟩
    · intro i x H' e hi hI
      obtain ⟨kk, hki⟩ : ∃ kk, (srtKs ks)[i]? = some kk := ⟨_, List.getElem?_eq_getElem (by rw [hkP.length_eq, List.length_map]; exact hi)⟩
      obtain ⟨q, rfl, hq⟩ := hI kk hki
      obtain ⟨v, hv, hm⟩ := valV_key (kvs := ks) (hkP.mem_iff.mp (List.mem_of_getElem? hki))
      obtain ⟨s, c, b, r, hkk, hsl, rfl, hb, hR⟩ := hkv2 kk v hm
      have xe := x4.trans e
      have get : ∀ {H2 : Hp}, Ex H' H2 → Ev (tDGet (tVar 5) (tVar 8)) (([some (V.ref p), some (V.str t.L), some (V.int t.n), some (V.ref ra), some (V.ref fa), some (V.ref sa), some (V.ref ea), none, some (V.ref q), none] : L2.St)) H2 (.ref b) := fun {H2} e2 =>
        ev_getT (ev_var rfl) (ev_var rfl) (e2 _ _ hq) (.inl ((xe.trans e2) _ _ hks)) hv
      have eA := pa1 (tr := tNil) (P := fun v H2 => ∃ d, v = .ref d ∧ RowsN (srtS t.regs) (Rf (t.row s c)) H2 d) (Pr := fun vs _ => vs = []) (fun _ _ _ e ⟨d, a, b⟩ => ⟨d, a, b.ex e⟩) (ep_use (sp := sp_all_rows) (E := E0) (ea_cons (ev_ixU (K := K) (i := 1) (get (Ex.refl _)) ev_c (xe _ _ hb) rfl) (ea_cons (ev_fld (K := K) (ta := tVar 0) (ev_var rfl) (e _ _ upd_same) PC.cl PC.r lk4) ea_nil))
          (spE_P (r, ra', srtS t.regs, t.row s c) (fun _ e1 => ⟨rfl, ((hR.ex (xe.trans e1)).perm hmem), (e.trans e1) _ _ h34, hNS, hlS⟩) fun v H2 _ p => p)) pa0
      refine ((new_tup (pa1 (P := fun v _ => v = .int (t.goal s c)) (fun _ _ _ _ h => h) (EvP.of (ev_ixU (K := K) (i := 0) (get (Ex.refl _)) ev_c (xe _ _ hb) rfl)) eA)
        (fun vs H2 ⟨v, r, h1, h2, v', r', h3, h4, h5⟩ => by rw [h1, h3, h5]; show 2 ≤ 1000; decide) (fun vs H H' e ⟨v, r, h1, h2, v', r', h3, ⟨d, h4, h6⟩, h5⟩ => ⟨v, r, h1, h2, v', r', h3, ⟨d, h4, h6.ex e⟩, h5⟩)).evP).imp fun v H2 _ ⟨b2, o, h1, h2, vs, h3, v1, r1, h4, h5, v2, r2, h6, ⟨d, h7, h8⟩, h9⟩ k' hk' s' c' hc' => ?_
      obtain rfl : kk = k' := Option.some.inj (hki.symm.trans hk')
      have he := hkk.symm.trans hc'
      injection he with q1 q2
      injection q2 with q2 _
      injection q1 with q1
      injection q2 with q2
      injection q2 with q2
      have q3 : c = c' := by simpa using q2
      subst q1 q3
      exact ⟨b2, d, h1, by rw [h2, h3, h4, h5, h6, h7, h9], h8⟩
    · intro i x H' H'' e h k hk
      obtain ⟨q, a, b⟩ := h k hk
      exact ⟨q, a, e _ _ b⟩
    subst n5
    have hp5 : H5 p = some (.ins C dx fs4) := e5 _ _ upd_same
    have l5 := putF_len "steps" (.ref sa') fs4
    have k5 := Kp.upd (o := .ins C dx (putF "steps" (.ref sa') fs4)) hp5
    have x5 := Ex.mut (o := .ins C dx (putF "steps" (.ref sa') fs4)) (x4.trans e5) hp0
    generalize hf5 : putF "steps" (.ref sa') fs4 = fs5 at k5 x5 l5 ⊢
    -- ends
    obtain ⟨kz, hkz1, hkz2, hkzn, hkzv, hkzc⟩ := T.e
    let zs : List Int := kz.map fun q => match q.1 with
      | .inl s => s
      | .inr _ => 0
    have hzs : kz.map (·.1) = zs.map Sum.inl := by
      show _ = (kz.map fun q => _).map _
      rw [List.map_map]
      apply List.map_congr_left
      rintro ⟨k, v⟩ hm
      obtain ⟨s, a, row, rfl, _⟩ := hkzv k v hm
      rfl
    have hzl : zs.length = kz.length := List.length_map _
    have hzP := srtI_perm zs
    have hzn : (srtI zs).Nodup := hzP.1.nodup_iff.mpr (by
      have h := hkzn
      rw [hzs] at h
      exact (List.pairwise_map.mp h).imp fun h q => h (by rw [q]))
    refine s_fldN (new_dpK (src_newL (K := K) (n := zs.length) (P := fun xs _ => xs = (srtI zs).map V.int) ((New.ofL (el_srtK (ev_var rfl) (.inl (x5 _ _ hkz1)) hzs (by omega))).imp fun o H2 _ h => ⟨_, h, by rw [List.length_map, hzP.1.length_eq], rfl⟩) (It := fun i x _ => ((srtI zs).map V.int)[i]? = some x) (fun xs H2 H3 i x h hx => by rw [← h]; exact hx)) (by omega) (fun x => rfl) ((srtI zs).map Sum.inl) (by rw [List.length_map, hzP.1.length_eq]) (List.Pairwise.map Sum.inl (fun a b h q => h (Sum.inl.inj q)) hzn)
      (fun i v H => ∀ s, (srtI zs)[i]? = some s → ∃ a row, t.fin s = some row ∧ v = .ref a ∧ RowAt H a (nrm row)) (fun i v => stab_all fun s => stab_imp fun _ => stab_ex fun a => stab_ex fun row => stab_and stab_pure (stab_and stab_pure (stab_row (fun _ => rfl)))) ?_ ?_ (fun _ _ _ _ _ h => h)) (ev_var rfl) upd_same PC.cl PC.e (by omega)
      (fun o H H' e ⟨l, a, b, c⟩ => ⟨l, a, b, fun i q hq s hs => by
        obtain ⟨a, row, h1, h2, h3⟩ := c i q hq s hs
        exact ⟨a, row, h1, h2, h3.le (Le.ex e)⟩⟩) fun ea' o6 H6 hn6 e6 h6 ⟨le, n6, hk6, hv6⟩ => ?_
    · intro i x k H' e hk hx
      rw [List.getElem?_map] at hk hx
      cases hr : (srtI zs)[i]? with
      | none => rw [hr] at hk; cases hk
      | some s =>
        rw [hr] at hk hx
        cases hk
        cases hx
        exact ev_var rfl
    · intro i x H' e hil hxi
      rw [List.getElem?_map] at hxi
      cases hr : (srtI zs)[i]? with
      | none => rw [hr] at hxi; cases hxi
      | some z =>
        rw [hr] at hxi
        obtain rfl : V.int z = x := Option.some.inj hxi
        have hzm : Sum.inl z ∈ kz.map (·.1) := by
          rw [hzs]
          exact List.mem_map_of_mem (hzP.1.mem_iff.mp (List.mem_of_getElem? hr))
        obtain ⟨v, hv, hm⟩ := valV_key hzm
        obtain ⟨s, a, row, hs, hfin, rfl, hR, hZ⟩ := hkzv _ v hm
        cases hs
        have xe := x5.trans e
        refine (ep_use (ea_cons (ev_get (ev_var rfl) (ev_var rfl) (k := .inl z) rfl (.inl (xe _ _ hkz1)) hv) ea_nil) (spE_P (a, row) (fun _ e1 => ⟨rfl, hR.le (Le.ex (xe.trans e1)), hZ.1, hZ.2⟩) fun v H2 _ p => p)).imp fun v H2 _ ⟨b, h1, h2⟩ s' hs' => ?_
        obtain rfl : z = s' := Option.some.inj hs'
        exact ⟨b, row, hfin, h1, h2⟩
    subst n6
    have hp6 : H6 p = some (.ins C dx fs5) := e6 _ _ upd_same
    have l6 := putF_len "ends" (.ref ea') fs5
    have k6 := Kp.upd (o := .ins C dx (putF "ends" (.ref ea') fs5)) hp6
    have x6 := Ex.mut (o := .ins C dx (putF "ends" (.ref ea') fs5)) (x5.trans e6) hp0
    refine k _ x6 ⟨dx, _, ra', fa', sa', ea', upd_same, ?_, ?_⟩ (fun dx' fs' h => by
      rw [upd_same] at h
      cases h
      omega)
    · subst hf5 hf4 hf3 hf2
      refine ⟨by omega, ?_, ?_, ?_, ?_, ?_, ?_, (((((hof.put (by decide +kernel)).put (by decide +kernel)).put (by decide +kernel)).put (by decide +kernel)).put (by decide +kernel)).put (by decide +kernel)⟩
      · repeat (first | rw [lookup_putF, if_pos rfl] | rw [lookup_putF, if_neg (by decide +kernel)])
        rfl
      · repeat (first | rw [lookup_putF, if_pos rfl] | rw [lookup_putF, if_neg (by decide +kernel)])
        rfl
      · repeat (first | rw [lookup_putF, if_pos rfl] | rw [lookup_putF, if_neg (by decide +kernel)])
      · repeat (first | rw [lookup_putF, if_pos rfl] | rw [lookup_putF, if_neg (by decide +kernel)])
      · repeat (first | rw [lookup_putF, if_pos rfl] | rw [lookup_putF, if_neg (by decide +kernel)])
      · repeat (first | rw [lookup_putF, if_pos rfl] | rw [lookup_putF, if_neg (by decide +kernel)])
    · have c5 : Kp H5 (upd H6 p (.ins C dx (putF "ends" (.ref ea') fs5))) := (k5.trans (Kp.ex e6)).trans k6
      have c4 := (Kp.ex e5).trans c5
      refine ⟨c4 _ _ rfl h34, c4 _ _ rfl h4', ⟨ls, c5 _ _ rfl h5, ?_, ?_, ?_, ?_⟩, ⟨le, k6 _ _ rfl h6, ?_, ?_, ?_, ?_⟩⟩
      · have := congrArg List.length hk5
        rw [List.length_map, hkP.length_eq, List.length_map] at this
        omega
      · rw [hk5]
        exact hkP.nodup_iff.mpr hkn
      · intro kk v hm
        obtain ⟨i, hi⟩ := List.mem_iff_getElem?.mp hm
        have h2 := congrArg (fun z : List (List Key) => z[i]?) hk5
        simp only [List.getElem?_map, hi, Option.map_some] at h2
        have hmk : kk ∈ ks.map (·.1) := hkP.mem_iff.mp (List.mem_of_getElem? h2.symm)
        obtain ⟨v0, hv0, hm0⟩ := valV_key hmk
        obtain ⟨s, c, b0, r0, hkk, hsl, _, _, _⟩ := hkv2 kk v0 hm0
        obtain ⟨b, r, h1, h2', h3'⟩ := hv5 i _ hi kk h2.symm s c hkk
        refine ⟨s, c, b, r, hkk, ⟨hsl.1, hsl.2.1, lts_mem.mpr hsl.2.2⟩, h1, c5 _ _ rfl h2', h3'.kp c5⟩
      · intro s c hsl
        rw [hk5]
        exact hkP.mem_iff.mpr (hkc s c ⟨hsl.1, hsl.2.1, lts_mem.mp hsl.2.2⟩)
      · have := congrArg List.length hk6
        rw [List.length_map, List.length_map, hzP.1.length_eq] at this
        omega
      · rw [hk6]
        exact List.Pairwise.map Sum.inl (fun a b h q => h (Sum.inl.inj q)) hzn
      · intro kk v hm
        obtain ⟨i, hi⟩ := List.mem_iff_getElem?.mp hm
        have h2 := congrArg (fun z : List Key => z[i]?) hk6
        simp only [List.getElem?_map, hi, Option.map_some] at h2
        cases hr : (srtI zs)[i]? with
        | none => rw [hr] at h2; cases h2
        | some z =>
          rw [hr] at h2
          have h3 : kk = Sum.inl z := Option.some.inj h2
          obtain ⟨a, row, h4, h5, h6⟩ := hv6 i _ hi z hr
          exact ⟨z, a, nrm row, h3, by show (t.fin z).map nrm = _; rw [h4]; rfl, h5, h6.kp k6⟩
      · intro s hs
        rw [hk6]
        have : (t.fin s).isSome = true := by
          have h : ((t.fin s).map nrm).isSome = true := hs
          simpa using h
        have h2 := hkzc s this
        rw [hzs] at h2
        obtain ⟨z, hz, e⟩ := List.mem_map.mp h2
        cases e
        exact List.mem_map_of_mem (hzP.1.mem_iff.mpr hz)
end
end KX
end
section
set_option Elab.async false
set_option linter.all false
set_option maxRecDepth 100000
set_option maxHeartbeats 8000000
/-! Bs11: programs are made and asked. -/
namespace KX
open PySem PySem.Spec PyProof.Rows L2 Evl
section
variable {K : PySem.W.Frag} {σ : L2.St} {H : Hp} {ta tb te tv to td tx : TE} {P : Program} {w : World} {D : Ends} {tz : TS} {C p dx : Addr} {fs : List (Str × V)} {f : Str}
/-- the call of a method, for its effect -/
theorem q_meth {m : Str} {sp : Sp} {E : XK} {tl : TA} {vs : List V} (ho : Ev ta σ H (.ref p)) (hp : H p = some (.ins C dx fs)) (hm : fs.lookup m = none) (ha : EvA tl σ H vs) (hs : ∀ H1, Ex H H1 → sp (.ref p :: vs) H1 (fun _ H2 => tz D σ H2) E) : tSeq (tDrop (tMeth C m sp [] E ta tl)) tz D σ H :=
  ho H (Ex.refl H) _ fun H1 e1 => ⟨p, dx, fs, rfl, e1 _ _ hp, hm, ha H1 e1 _ fun H2 e2 => by
    rw [List.append_nil]
    exact hs H2 (e1.trans e2)⟩
theorem s_meth {m : Str} {sp : Sp} {E : XK} {tl : TA} {vs : List V} (ho : Ev ta σ H (.ref p)) (hp : H p = some (.ins C dx fs)) (hm : fs.lookup m = none) (ha : EvA tl σ H vs) (hs : ∀ H1, Ex H H1 → sp (.ref p :: vs) H1 (fun _ H2 => D.nx σ H2) E) : tDrop (tMeth C m sp [] E ta tl) D σ H :=
  ho H (Ex.refl H) _ fun H1 e1 => ⟨p, dx, fs, rfl, e1 _ _ hp, hm, ha H1 e1 _ fun H2 e2 => by
    rw [List.append_nil]
    exact hs H2 (e1.trans e2)⟩
theorem ep_meth {m : Str} {sp : Sp} {E : XK} {tl : TA} {vs : List V} {Pv : V → Hp → Prop} (ho : Ev ta σ H (.ref p)) (hp : H p = some (.ins C dx fs)) (hm : fs.lookup m = none) (ha : EvA tl σ H vs) (hs : SpP sp (.ref p :: vs) H Pv) : EvP (tMeth C m sp [] E ta tl) σ H Pv := fun H1 e1 Q q =>
  ho H1 e1 _ fun H2 e2 => ⟨p, dx, fs, rfl, (e1.trans e2) _ _ hp, hm, ha H2 (e1.trans e2) _ fun H3 e3 => by
    rw [List.append_nil]
    exact hs H3 ((e1.trans e2).trans e3) Q (fun v H4 e4 pv => q v H4 ((e2.trans e3).trans e4) pv) E⟩
theorem rv_notN {x : V} : RV (fun x y H Q => y = .non ∧ Q (.bl (!decide (x = .non))) H) x .non H (.bl (!decide (x = .non))) := fun H1 _ _ q => ⟨rfl, q H1 (Ex.refl H1)⟩
end
def sp_Program_init (C : Addr) : Sp := fun vs H Q _ => ∃ (t : Td) (p ra fa sa ea dx : Addr) (H0 : Hp), vs = [.ref p, .str t.L, .int t.n, .ref ra, .ref fa, .ref sa, .ref ea] ∧ H0 p = none ∧ Ex H0 H ∧ H p = some (.ins C dx []) ∧
  TdAt H0 t ra fa sa ea ∧ PartsX H0 t.L t.n t.regs ra fa sa ea ∧ ∀ H', Ex H0 H' → PgAt C H' p t.pg → (∀ dx' fs', H' p = some (.ins C dx' fs') → fs'.length ≤ 6) → Q .non H'
/-- all letters of the text are read -/
def sp_check_word : Sp := spE (fun (x : Str × Str) vs _ => vs = [.str x.1, .str x.2] ∧ ∀ c ∈ cds x.2, c ∈ cds x.1) (fun _ v _ => v = .non)
section
variable {P : Program} {w : World} {K : PySem.W.Frag} {mg : Str → Option Value} {base : Heap} {C : Addr} {f : Addr} {fd : FuncData}
theorem ok_Program_init (F : Fun K "__init__" "Program.__init__" s_Program__init f fd) (Z : Zs mg C) {f_Program_put : Addr} {fd_Program_put : FuncData} (G_Program_put : HasM P w K mg base C "_put" 4 f_Program_put fd_Program_put ["self", "letters", "states", "registers", "firsts", "steps", "ends"] (sp_Program_put C))
    (G_first_wrong : Has P w K mg base "first_wrong" 7 ["letters", "states", "registers", "firsts", "steps", "ends"] sp_first_wrong) : FnOk P w K mg base CX0 8 f fd ["self", "letters", "states", "registers", "firsts", "steps", "ends"] (sp_Program_init C) := by
  refine F.ok sc_Program__init (fun vs H Q E h => ?_) (fun cdv A outer s H vs Q E hr h => ?_)
  · obtain ⟨t, p, ra, fa, sa, ea, dx, H0, rfl, _⟩ := h
    rfl
  · obtain ⟨t, p, ra, fa, sa, ea, dx, H0, rfl, hp0, ex0, hp, T, X, k⟩ := h
    refine ⟨_, (pss_cons (ps_set (i := 7) sc_Program__init.nd rfl (Or.inl rfl) (pe_use G_first_wrong (hr.mono (by decide)) (pa_cons (pv 1) (pa_cons (pv 2) (pa_cons (pv 3) (pa_cons (pv 4) (pa_cons (pv 5) (pa_cons (pv 6) pa_nil)))))))) 
    (pss_cons (ps_if (pt_cmpR op_notN (pv 7) pe_non (nomark _)) 
     (pss_one ps_never) pss_nil) 
    (pss_one (ps_expr (pe_meth (pv 0) G_Program_put.cl G_Program_put.me G_Program_put.ok (hr.mono (by decide)) G_Program_put.b .nil pass0 (pa_cons (pv 1) (pa_cons (pv 2) (pa_cons (pv 3) (pa_cons (pv 4) (pa_cons (pv 5) (pa_cons (pv 6) pa_nil))))))))))), ?_⟩
    refine q_asg (v := .non) (ev_use (ea_cons (ev_var rfl) (ea_cons (ev_var rfl) (ea_cons (ev_var rfl) (ea_cons (ev_var rfl) (ea_cons (ev_var rfl) (ea_cons (ev_var rfl) ea_nil)))))) (spE_V ⟨t.L, t.n, t.regs, ra, fa, sa, ea⟩ (fun _ e => ⟨rfl, X.ex (ex0.trans e)⟩) fun v _ p => p)) fun H1 e1 => ?_
    refine q_when (b := false) (et_test (ev_op (ev_var rfl) ev_c rv_notN)) (fun z => by cases z) fun _ H2 e2 => ?_
    refine s_meth (ev_var rfl) ((e1.trans e2) _ _ hp) rfl (ea_cons (ev_var rfl) (ea_cons (ev_var rfl) (ea_cons (ev_var rfl) (ea_cons (ev_var rfl) (ea_cons (ev_var rfl) (ea_cons (ev_var rfl) ea_nil)))))) fun H3 e3 => ?_
    have x3 := (ex0.trans (e1.trans e2)).trans e3
    exact ⟨t, p, ra, fa, sa, ea, dx, [], H0, rfl, hp0, x3, e3 _ _ ((e1.trans e2) _ _ hp), by decide, fun m hm => absurd rfl hm, T, fun H' e' A' z' => k H' e' A' z'⟩
theorem ok_check_word (F : Fun K "check_word" "check_word" s_check_word f fd) (Z : Zs mg C) : FnOk P w K mg base CX0 1 f fd ["letters", "text"] sp_check_word := by
  refine F.ok sc_check_word (fun vs H Q E h => ?_) (fun cdv A outer s H vs Q E hr h => ?_)
  · obtain ⟨i, ⟨rfl, _⟩, _⟩ := h
    rfl
  · obtain ⟨⟨L, z⟩, ⟨rfl, hz⟩, k⟩ := h
    refine ⟨_, (pss_cons (ps_if (pt_not (pt_val (pe_callB (cIsi (K := K)) (by rfl) Z.z_isinstance (by decide +kernel) (pa_cons (pv 1) (pa_cons (pe_bltn (by rfl) Z.z_str (by decide +kernel) (show RelV (.ty "str") _ from rfl)) pa_nil))))) 
     (pss_one ps_never) pss_nil) 
    (pss_one (ps_for PassesOwn.never rfl (pi_enumS (by rfl) Z.z_enumerate (pa_cons (pv 1) pa_nil)) (pg_tup rfl (pgs_cons (pg_name (i := 2) sc_check_word.nd rfl (Or.inl rfl)) (pgs_cons (pg_name (i := 3) sc_check_word.nd rfl (Or.inl rfl)) pgs_nil))) 
     (pss_one (ps_if (pt_cmpR op_notIn_sign (pv 3) (pv 0) (by rfl)) 
      (pss_one ps_never) pss_nil))))), ?_⟩
    refine q_when (b := false) (et_not (a := true) (et_B (ev_isS (ev_var rfl) rfl))) (fun z => by cases z) fun _ H1 e1 => ?_
    refine s_forE (ea_cons (ev_var rfl) ea_nil) (fun i σ' H' => Ex H H' ∧ ∃ v2 v3, σ' = [some (.str L), some (.str z), v2, v3]) (fun H2 e2 => ⟨e1.trans e2, _, _, rfl⟩) ?_ fun σ' H' h => k _ H' h.1 rfl
    rintro i c T σ' H' hi ⟨ex, v2, v3, rfl⟩ hT
    refine ⟨T, _, rfl, st_of upd_same, rfl, ⟨_, _, rfl, ⟨_, _, rfl, rfl, ?_⟩⟩⟩
    refine s_when (b := false) (et_test (ev_is (ev_op (ev_var rfl) (ev_var rfl) (z := .bl (!decide (c ∈ cds L))) fun H3 _ Q q => ⟨c, L, rfl, rfl, q H3 (Ex.refl H3)⟩) ?_)) (fun z => by cases z) fun _ H3 e3 => ⟨(ex.trans (Ex.new hT)).trans e3, _, _, rfl⟩
    have : c ∈ cds L := hz c (List.mem_of_getElem? (i := i) (by rw [Array.getElem?_toList]; exact hi))
    simp [this]
end
end KX
end
section
set_option Elab.async false
set_option linter.all false
set_option maxRecDepth 100000
set_option maxHeartbeats 8000000
/-! Bs12: programs run. -/
namespace KX
open PySem PySem.Spec PyProof.Rows L2 Evl
/-- a step | a run -/
def stp (g : Pg) (x : Int × (Str → Str)) (c : Nat) : Int × (Str → Str) := (g.goal x.1 c, fun n => wr (g.row x.1 c n) x.2)
def runG (g : Pg) (w : List Nat) : Int × (Str → Str) := w.foldl (stp g) (0, g.fst)
theorem runG_snoc (g : Pg) (w : List Nat) (c : Nat) : runG g (w ++ [c]) = stp g (runG g w) c := by
  unfold runG
  rw [List.foldl_append]
  rfl
structure GoOk (g : Pg) : Prop where
  n1 : 1 ≤ g.n
  rN : g.regs.Nodup
  r6 : g.regs.length ≤ 60
  go : ∀ s c, SL g.L g.n s c → 0 ≤ g.goal s c ∧ g.goal s c < g.n
  rw : ∀ s c, SL g.L g.n s c → ∀ n ∈ g.regs, (g.row s c n).length ≤ 1000 ∧ ∀ m, Itm.r m ∈ g.row s c n → m ∈ g.regs
  fn : ∀ s row, g.fin s = some row → row.length ≤ 1000 ∧ ∀ m, Itm.r m ∈ row → m ∈ g.regs
def big : Nat := 16000000
/-- what registers hold on the way is not too long -/
def Fit (g : Pg) (w : List Nat) : Prop := ∀ i, i ≤ w.length → ∀ n ∈ g.regs, ((runG g (w.take i)).2 n).length ≤ big
theorem runG_in {g : Pg} (G : GoOk g) : ∀ (w : List Nat), (∀ c ∈ w, c ∈ cds g.L) → 0 ≤ (runG g w).1 ∧ (runG g w).1 < g.n := by
  intro w
  have : ∀ (w : List Nat) (x : Int × (Str → Str)), 0 ≤ x.1 → x.1 < g.n → (∀ c ∈ w, c ∈ cds g.L) → 0 ≤ (w.foldl (stp g) x).1 ∧ (w.foldl (stp g) x).1 < g.n := by
    intro w
    induction w with
    | nil => intro x h0 h1 _; exact ⟨h0, h1⟩
    | cons c w ih =>
      intro x h0 h1 h
      have := G.go x.1 c ⟨h0, h1, h c List.mem_cons_self⟩
      exact ih (stp g x c) this.1 this.2 fun d hd => h d (List.mem_cons_of_mem _ hd)
  intro h
  exact this w (0, g.fst) (Int.le_refl _) (by have := G.n1; show (0 : Int) < g.n; omega) h
section
variable {K : PySem.W.Frag} {σ : L2.St} {H : Hp} {ta tb te tv to td tx : TE} {D : Ends} {tz : TS}
theorem q_unpackP {Pz : V → V → Hp → Prop} {i j : Nat} (h : EvP te σ H (fun v H' => ∃ b y z, v = .ref b ∧ H' b = some (.tup [y, z]) ∧ Pz y z H')) (k : ∀ y z H1, Ex H H1 → Pz y z H1 → tz D ((σ.set i (some y)).set j (some z)) H1) : tSeq (tAsg te (gTup K 2 (gCons (gName i) (gCons (gName j) gNil)))) tz D σ H :=
  h H (Ex.refl H) _ fun v H1 e ⟨b, y, z, e1, hb, p⟩ => ⟨b, _, e1, st_of hb, rfl, ⟨y, _, rfl, ⟨z, _, rfl, ⟨rfl, k y z H1 e p⟩⟩⟩⟩
theorem s_new {N : HO → Hp → Prop} {i : Nat} (h : New te σ H N) (k : ∀ p o H1, H p = none → Ex H H1 → H1 p = some o → N o H1 → D.nx (σ.set i (some (.ref p))) H1) : tAsg te (gName i) D σ H := h H (Ex.refl H) _ fun p o H1 e1 e2 e3 n => k p o H1 e1 e2 e3 n
theorem ev_ni {d : Addr} {kvs : List (Key × V)} {y : V} {k : Key} (hy : Ev ta σ H y) (ey : y = kV k) (hd : Ev td σ H (.ref d)) (h : Rd H d (.dK kvs)) : Ev (tDNotIn ta td) σ H (.bl (!(valV kvs k).isSome)) := fun H1 e Q q =>
  hy H1 e _ fun H2 e2 => hd H2 (e.trans e2) _ fun H3 e3 => ⟨d, _, rfl, .inl ⟨kvs, k, ex_rd ((e.trans e2).trans e3) h, ey, rfl⟩, q H3 (e2.trans e3)⟩
/-- dict(a dict) -/
theorem new_dict {a : Addr} {kvs : List (Key × V)} (h : Ev ta σ H (.ref a)) (hx : Rd H a (.dK kvs)) : New (tCB (fun xs H Q => ∃ (a : Addr) (kvs : List (Key × V)), xs = [.ref a] ∧ Rd H a (.dK kvs) ∧ ∀ p, H p = none → Q (.ref p) (upd H p (.dK kvs))) (tCons ta tNil)) σ H (fun o _ => o = .dK kvs) := fun H1 e Q q =>
  h H1 e _ fun H2 e2 => ⟨a, kvs, rfl, ex_rd (e.trans e2) hx, fun p hp => q p _ _ (fresh_back e2 hp) (e2.trans (Ex.new hp)) upd_same rfl⟩
end
/-- the last part of x: a heap in which the dict is not yet -/
def sp_Program_after (C : Addr) : Sp := spE (fun (x : Addr × Str × Pg × Hp) vs H => vs = [.ref x.1, .str x.2.1] ∧ PgAt C H x.1 x.2.2.1 ∧ GoOk x.2.2.1 ∧ (∀ c ∈ cds x.2.1, c ∈ cds x.2.2.1.L) ∧ Fit x.2.2.1 (cds x.2.1) ∧ Ex x.2.2.2 H)
  (fun x v H => ∃ b y z, v = .ref b ∧ H b = some (.tup [y, z]) ∧ y = .int (runG x.2.2.1 (cds x.2.1)).1 ∧ ∃ d, z = .ref d ∧ H d = some (.dK (hk x.2.2.1.regs (runG x.2.2.1 (cds x.2.1)).2)) ∧ x.2.2.2 d = none)
/-- what is written -/
def wrG (g : Pg) (w : List Nat) : Option Str := (g.fin (runG g w).1).map fun row => wr row (runG g w).2
def vO : Option Str → V
  | some s => .str s
  | none => .non
def sp_Program_call (C : Addr) : Sp := spE (fun (x : Addr × Str × Pg) vs H => vs = [.ref x.1, .str x.2.1] ∧ PgAt C H x.1 x.2.2 ∧ GoOk x.2.2 ∧ (∀ c ∈ cds x.2.1, c ∈ cds x.2.2.L) ∧ Fit x.2.2 (cds x.2.1) ∧ ∀ s, wrG x.2.2 (cds x.2.1) = some s → s.length ≤ big)
  (fun x v _ => v = vO (wrG x.2.2 (cds x.2.1)))
section
variable {P : Program} {w : World} {K : PySem.W.Frag} {mg : Str → Option Value} {base : Heap} {C : Addr} {f : Addr} {fd : FuncData}
theorem ok_Program_after (F : Fun K "after" "Program.after" s_Program_after f fd) (Z : Zs mg C) (PC : PgC K C) (G_check_word : Has P w K mg base "check_word" 1 ["letters", "text"] sp_check_word) (G_text_of : Has P w K mg base "text_of" 1 ["row", "held"] sp_text_of) :
    FnOk P w K mg base CX0 2 f fd ["self", "text"] (sp_Program_after C) := by
  refine F.ok sc_Program_after (fun vs H Q E h => ?_) (fun cdv A outer s H vs Q E hr h => ?_)
  · obtain ⟨i, ⟨rfl, _⟩, _⟩ := h
    rfl
  · obtain ⟨⟨p, z, g, H0⟩, ⟨rfl, hP, G, hw, hF, hE⟩, k⟩ := h
    dsimp only at hP G hw hF hE
    have hu := hu_of hr
    have hu64 := hr.units
    have hu0 := Nat.lt_of_succ_lt hu
    obtain ⟨dx, fs, ra, fa, sa, ea, hp, PF, PD⟩ := hP
    refine ⟨_, (pss_cons (ps_expr (pe_use G_check_word (hr.mono (by decide)) (pa_cons (pe_fldK (K := K) (pv 0) rfl) (pa_cons (pv 1) pa_nil)))) 
    (pss_cons (ps_set (i := 2) sc_Program_after.nd rfl (Or.inl rfl) pe_int) 
    (pss_cons (ps_set (i := 3) sc_Program_after.nd rfl (Or.inr rfl) (pe_callTy call_dictD (by rfl) Z.z_dict (by decide +kernel) (pa_cons (pe_fldK (K := K) (pv 0) rfl) pa_nil))) 
    (pss_cons (ps_for PassesOwn.never rfl (pi_str (pv 1)) (pg_name (i := 4) sc_Program_after.nd rfl (Or.inl rfl)) 
     (pss_cons (ps_asg (pe_dget hu (pe_fldK (K := K) (pv 0) rfl) (pe_tup (pa_cons (pv 2) (pa_cons (pv 4) pa_nil))) (fun _ _ => rfl)) (pg_tup rfl (pgs_cons (pg_name (i := 2) sc_Program_after.nd rfl (Or.inl rfl)) (pgs_cons (pg_name (i := 5) sc_Program_after.nd rfl (Or.inr rfl)) pgs_nil)))) 
     (pss_one (ps_set (i := 3) sc_Program_after.nd rfl (Or.inr rfl) (pe_lock (pe_dp IsNil.k hu0 (own := [(("name" : Str), 6)]) (g := gName 6) rfl sc_Program_after.nd (pi_keys (pv 5)) (blkOk_by (own := [(("name" : Str), 6)]) (N := n_Program_after) (sc := defScope s_Program_after) (by decide +kernel)) (fun _ _ _ _ _ => (pg_name (i := 6) sc_Program_after.nd rfl (Or.inl rfl))) (fun _ _ _ _ _ => pts_nil) (fun _ _ _ _ _ => (pv 6)) (fun _ _ _ _ _ => (pe_use G_text_of (hr.mono (by decide)) (pa_cons (pe_dget hu (pv 5) (pv 6) (fun _ _ => rfl)) (pa_cons (pv 3) pa_nil)))))))))) 
    (pss_one (ps_ret (pe_tup (pa_cons (pv 2) (pa_cons (pv 3) pa_nil))))))))), ?_⟩
    refine q_drop (v := .non) (ev_use (ea_cons (ev_fld (K := K) (ev_var rfl) hp PC.cl PC.l PF.l) (ea_cons (ev_var rfl) ea_nil)) (spE_V (g.L, z) (fun _ _ => ⟨rfl, hw⟩) fun v _ p => p)) fun H1 e1 => ?_
    refine q_asg (v := .int 0) ev_c fun H2 e2 => ?_
    have e12 := e1.trans e2
    refine q_new (new_dict (ev_fld (K := K) (ta := tVar 0) (ev_var rfl) (e12 _ _ hp) PC.cl PC.f PF.f) (.inl (e12 _ _ PD.f))) fun d o H3 hd e3 h3 n3 => ?_
    subst n3
    have e13 := e12.trans e3
    refine s_forS (ev_var rfl) (fun i σ' H' => ∃ d v4 v5, σ' = [some (.ref p), some (.str z), some (.int (runG g ((cds z).take i)).1), some (.ref d), v4, v5, none] ∧ Ex H H' ∧ H' d = some (.dK (hk g.regs (runG g ((cds z).take i)).2)) ∧ H d = none) ?_ ?_ ?_
    · intro H4 e4
      refine ⟨d, none, none, ?_, e13.trans e4, ?_, fresh_back e12 hd⟩
      · rw [List.take_zero]
        rfl
      · rw [List.take_zero]
        exact e4 _ _ h3
    · rintro i c σ' H' hi ⟨d, v4, v5, rfl, ex, hd, hdn⟩
      have hi' : (cds z)[i]? = some c := by rw [Array.getElem?_toList]; exact hi
      have hil : i < (cds z).length := (List.getElem?_eq_some_iff.mp hi').1
      have hin := runG_in G ((cds z).take i) (fun c hc => hw c (List.mem_of_mem_take hc))
      have hsl : SL g.L g.n (runG g ((cds z).take i)).1 c := ⟨hin.1, hin.2, hw c (List.mem_of_getElem? hi')⟩
      have htk : (cds z).take (i + 1) = (cds z).take i ++ [c] := by rw [List.take_succ, hi']; rfl
      have hF1 := hF (i + 1) hil
      rw [htk, runG_snoc] at hF1
      show (tSeq _ _) _ _ _
      generalize hx : runG g ((cds z).take i) = x at hd hsl hF1 ⊢
      obtain ⟨ks, hks, _, _, hkv, hkc⟩ := PD.s
      obtain ⟨v, hv, hm⟩ := valV_key (kvs := ks) (hkc x.1 c hsl)
      obtain ⟨s', c', b, r, hk1, _, rfl, hb, hR⟩ := hkv _ v hm
      injection hk1 with q1 q2
      injection q2 with q2 _
      injection q1 with q1
      injection q2 with q2
      injection q2 with q2
      have q3 : c = c' := by simpa using q2
      subst q1 q3
      refine q_unpack2 (b := b) (ev_getU (k := [.inl x.1, .inr ⟨#[c]⟩]) (ev_fld (K := K) (ta := tVar 0) (ev_var rfl) (ex _ _ hp) PC.cl PC.s PF.s) (eu_tup (ea_cons (ev_var rfl) (ea_cons (ev_var rfl) ea_nil)) (by show 2 ≤ 100000; decide)) (.inl (ex _ _ hks)) hv) (ex _ _ hb) fun H4 e4 => ?_
      have ex4 := ex.trans e4
      obtain ⟨kvs, hr4, hkk, hrow⟩ := hR.ex ex4
      have hd4 := e4 _ _ hd
      have hlen : kvs.length = g.regs.length := by simpa using congrArg List.length hkk
      refine s_new (lock_New hr4 trivial (N := fun o _ => o = .dK (hk g.regs (stp g x c).2)) (fun _ _ _ _ h => h) fun od => ?_) fun d2 o2 H5 hd2 e5 h5 n5 => ?_
      · have Lk := Le.lock (od := od) hr4 rfl rfl
        have hz1000 : kvs.length ≤ 100000 := by
          have h := G.r6
          omega
        refine (new_dpK (src_keysK (ev_var rfl) upd_same) hz1000 (fun x => rfl) (g.regs.map Sum.inr) (by rw [List.length_map, hlen]) (List.Pairwise.map Sum.inr (fun a b h q => h (Sum.inr.inj q)) G.rN) (fun i v _ => ∀ n, g.regs[i]? = some n → v = .str ((stp g x c).2 n)) (fun i v => stab_pure) ?_ ?_ ?_).imp fun o H6 _ ⟨l, ho, hl, hv⟩ => ?_
        · rintro i x' kk H' e hk ⟨k0, v0, h0, rfl⟩
          have h2 := congrArg (fun z : List Key => z[i]?) hkk
          simp only [List.getElem?_map, h0, Option.map_some] at h2
          rw [List.getElem?_map] at hk
          rw [← h2] at hk
          cases hk
          exact ev_var rfl
        · rintro i x' H' e hil ⟨k0, v0, h0, rfl⟩
          have h2 := congrArg (fun z : List Key => z[i]?) hkk
          simp only [List.getElem?_map, h0, Option.map_some] at h2
          cases hr : g.regs[i]? with
          | none => rw [hr] at h2; cases h2
          | some n =>
            rw [hr] at h2
            obtain rfl : k0 = Sum.inr n := Option.some.inj h2
            obtain ⟨v', hv', hm'⟩ := valV_of (mem_at h0)
            obtain ⟨a, rfl, hA⟩ := hrow n v' hm'
            have hn := List.mem_of_getElem? hr
            have hrw := G.rw x.1 c hsl n hn
            refine (EvP.of (ev_use (ea_cons (ev_get (ev_var rfl) (ev_var rfl) (k := .inr n) rfl (ex_rd e (.inr ⟨od, upd_same⟩)) hv') (ea_cons (ev_var rfl) ea_nil)) (spE_V (a, d, g.row x.1 c n, g.regs, x.2) (fun _ e1 => ⟨rfl, (hA.le Lk).le (Le.ex (e.trans e1)), hrw.1, hrw.2, ex_rd (e.trans e1) (Lk.rd _ _ rfl (.inl hd4)), hF1 n hn⟩) fun v _ p => p))).imp fun v H2 _ hv m hm => ?_
            obtain rfl : n = m := Option.some.inj hm
            exact hv
        · rintro i x' H' H'' e h
          exact h
        · rw [ho, hk_of hl fun i q hq n hn => hv i q hq n hn]
      · subst n5
        refine ⟨d2, some (.str ⟨#[c]⟩), some (.ref r), ?_, ex4.trans e5, ?_, fresh_back ex4 hd2⟩
        · rw [htk, runG_snoc, hx]
          rfl
        · rw [htk, runG_snoc, hx]
          exact h5
    · rintro σ' H' ⟨d, v4, v5, rfl, ex, hd, hdn⟩
      have ht : (cds z).take z.cps.size = cds z := List.take_of_length_le (by rw [Array.length_toList]; exact Nat.le_refl _)
      rw [ht] at hd ⊢
      refine s_retU (eu_tup (ea_cons (ev_var rfl) (ea_cons (ev_var rfl) ea_nil)) (by show 2 ≤ 100000; decide)) fun b H4 hb e4 h4 => ?_
      exact k _ H4 (ex.trans e4) ⟨b, _, _, rfl, h4, rfl, d, rfl, e4 _ _ hd, fresh_back hE hdn⟩
theorem ok_Program_call (F : Fun K "__call__" "Program.__call__" s_Program__call f fd) (Z : Zs mg C) (PC : PgC K C) {f_Program_after : Addr} {fd_Program_after : FuncData} (G_Program_after : HasM P w K mg base C "after" 2 f_Program_after fd_Program_after ["self", "text"] (sp_Program_after C)) (G_text_of : Has P w K mg base "text_of" 1 ["row", "held"] sp_text_of) :
    FnOk P w K mg base CX0 3 f fd ["self", "text"] (sp_Program_call C) := by
  refine F.ok sc_Program__call (fun vs H Q E h => ?_) (fun cdv A outer s H vs Q E hr h => ?_)
  · obtain ⟨i, ⟨rfl, _⟩, _⟩ := h
    rfl
  · obtain ⟨⟨p, z, g⟩, ⟨rfl, hP, G, hw, hF, hW⟩, k⟩ := h
    dsimp only at hP G hw hF hW
    have k : ∀ v H', Ex H H' → v = vO (wrG g (cds z)) → Q v H' := k
    have hu := hu_of hr
    have hPA := hP
    obtain ⟨dx, fs, ra, fa, sa, ea, hp, PF, PD⟩ := hP
    refine ⟨_, (pss_cons (ps_asg (pe_meth (pv 0) G_Program_after.cl G_Program_after.me G_Program_after.ok (hr.mono (by decide)) G_Program_after.b .nil pass0 (pa_cons (pv 1) pa_nil)) (pg_tup rfl (pgs_cons (pg_name (i := 2) sc_Program__call.nd rfl (Or.inl rfl)) (pgs_cons (pg_name (i := 3) sc_Program__call.nd rfl (Or.inl rfl)) pgs_nil)))) 
    (pss_cons (ps_if (pt_cmp (pc_dnotin hu (pv 2) (pe_fldK (K := K) (pv 0) rfl))) 
     (pss_one (ps_ret pe_non)) pss_nil) 
    (pss_one (ps_ret (pe_use G_text_of (hr.mono (by decide)) (pa_cons (pe_dget hu (pe_fldK (K := K) (pv 0) rfl) (pv 2) (fun _ _ => rfl)) (pa_cons (pv 3) pa_nil))))))), ?_⟩
    refine q_unpackP (Pz := fun y z' H => y = .int (runG g (cds z)).1 ∧ ∃ d, z' = .ref d ∧ H d = some (.dK (hk g.regs (runG g (cds z)).2))) (ep_meth (ev_var rfl) hp (PF.o.no (by decide +kernel)) (ea_cons (ev_var rfl) ea_nil) (spE_P (p, z, g, H) (fun _ e => ⟨rfl, hPA.ex e, G, hw, hF, e⟩) fun v H' _ ⟨b, y, z', h1, h2, h3, d, h4, h5, _⟩ => ⟨b, y, z', h1, h2, h3, d, h4, h5⟩)) ?_
    rintro _ _ H1 e1 ⟨rfl, d, rfl, hd⟩
    have hin := runG_in G (cds z) hw
    unfold wrG at hW k
    generalize hx : runG g (cds z) = x at hd hin hW k ⊢
    obtain ⟨kvs, hks, _, _, hkv, hkc⟩ := PD.e
    have hsome : (valV kvs (.inl x.1)).isSome = (g.fin x.1).isSome := by
      cases hf : g.fin x.1 with
      | some row =>
        obtain ⟨v, hv, _⟩ := valV_key (kvs := kvs) (hkc x.1 (by rw [hf]; rfl))
        rw [hv]
        rfl
      | none =>
        cases hv : valV kvs (.inl x.1) with
        | none => rfl
        | some v =>
          obtain ⟨s', a, row, h1, h2, _⟩ := hkv _ v (valV_mem hv)
          cases h1
          rw [hf] at h2
          cases h2
    refine q_when (b := !(g.fin x.1).isSome) (et_B (ev_is (ev_ni (k := .inl x.1) (ev_var rfl) rfl (ev_fld (K := K) (ta := tVar 0) (ev_var rfl) (e1 _ _ hp) PC.cl PC.e PF.e) (.inl (e1 _ _ hks))) (by rw [hsome]))) (fun hb H2 e2 => ?_) (fun hb H2 e2 => ?_)
    · have hn : g.fin x.1 = none := by simpa using hb
      rw [hn] at k
      exact s_ret (v := .non) ev_c fun H3 e3 => k _ H3 ((e1.trans e2).trans e3) rfl
    · cases hf : g.fin x.1 with
      | none =>
        rw [hf] at hb
        cases hb
      | some row =>
        obtain ⟨v, hv, hm⟩ := valV_key (kvs := kvs) (hkc x.1 (by rw [hf]; rfl))
        obtain ⟨s', a, row', h1, h2, rfl, hA⟩ := hkv _ v hm
        cases h1
        rw [hf] at h2
        cases h2
        rw [hf] at k hW
        have hfn := G.fn x.1 row hf
        have e12 := e1.trans e2
        exact s_ret (v := .str (wr row x.2)) (ev_use (ea_cons (ev_get (ev_fld (K := K) (ta := tVar 0) (ev_var rfl) (e12 _ _ hp) PC.cl PC.e PF.e) (ev_var rfl) (k := .inl x.1) rfl (.inl (e12 _ _ hks)) hv) (ea_cons (ev_var rfl) ea_nil))
          (spE_V (a, d, row, g.regs, x.2) (fun _ e3 => ⟨rfl, hA.le (Le.ex (e12.trans e3)), hfn.1, hfn.2, .inl (e3 _ _ (e2 _ _ hd)), hW _ rfl⟩) fun v _ p => p)) fun H3 e3 => k _ H3 (e12.trans e3) rfl
end
end KX
end
section
set_option Elab.async false
set_option linter.all false
set_option maxRecDepth 100000
set_option maxHeartbeats 8000000
/-! Bs13: numbers are drawn. -/
namespace KX
open PySem PySem.Spec PyProof.Rows L2 Evl
section
variable {K : PySem.W.Frag} {σ : L2.St} {H : Hp} {ta tb te : TE}
theorem ev_int1 {i : Int} (ha : Ev ta σ H (.int i)) : Ev (tCB (fun xs H Q => (∃ i, xs = [V.int i] ∧ Q (V.int i) H) ∨ ∃ k, xs = [V.bl k] ∧ Q (V.int (if k = true then 1 else 0)) H) (tCons ta tNil)) σ H (.int i) := ev_cb (ea_cons ha ea_nil) fun H1 _ Q q => .inl ⟨i, rfl, q H1 (Ex.refl H1)⟩
end
theorem fm_in {i b : Int} (hb : 0 < b) : 0 ≤ i.fmod b ∧ i.fmod b < b := by
  rw [Int.fmod_eq_emod_of_nonneg _ (by omega)]
  exact ⟨Int.emod_nonneg _ (by omega), Int.emod_lt_of_pos _ hb⟩
def sp_law_cell_at (K : PySem.W.Frag) : Sp := spE (fun (x : Addr × List Int × Nat) vs H => vs = [.ref x.1, .int (x.2.2 : Nat)] ∧ SqL K H x.1 (x.2.1.map V.int)) (fun _ v _ => ∃ c, v = .int c)
def sp_law_draw : Sp := spE (fun (x : Int × Nat × Int) vs _ => vs = [.int x.1, .int (x.2.1 : Nat), .int x.2.2] ∧ 0 < x.2.2 ∧ 0 ≤ x.1 ∧ x.1 ≤ 1000000000000000 ∧ x.2.1 ≤ 100) (fun x v _ => ∃ r, v = .int r ∧ 0 ≤ r ∧ r < x.2.2)
def sp_law_number : Sp := spE (fun (x : Int × Nat × Int) vs _ => vs = [.int x.1, .int (x.2.1 : Nat), .int x.2.2] ∧ 0 < x.2.2 ∧ x.2.1 ≤ 100) (fun x v _ => ∃ r, v = .int r ∧ 0 ≤ r ∧ r < x.2.2)
/-- draws from a script -/
def DrAt (K : PySem.W.Frag) (H : Hp) (d : Addr) : Prop := ∃ (a : Addr) (ns : List Int), H d = some (drawn d a) ∧ H a = some (.lst (ns.map V.int)) ∧ d ≠ a
theorem DrAt.ex {K : PySem.W.Frag} {H H' : Hp} {d : Addr} (e : Ex H H') (h : DrAt K H d) : DrAt K H' d := by
  obtain ⟨a, ns, h1, h2, h3⟩ := h
  exact ⟨a, ns, e _ _ h1, e _ _ h2, h3⟩
def sp_law_next (K : PySem.W.Frag) : Sp := spE (fun (x : Addr × Int) vs H => vs = [.ref x.1, .int x.2] ∧ DrAt K H x.1 ∧ 0 < x.2) (fun x v _ => ∃ r, v = .int r ∧ 0 ≤ r ∧ r < x.2)
def sp_law_pick (K : PySem.W.Frag) : Sp := spE (fun (x : Addr × Addr × List V) vs H => vs = [.ref x.1, .ref x.2.1] ∧ DrAt K H x.1 ∧ SqL K H x.2.1 x.2.2 ∧ x.2.2 ≠ []) (fun x v _ => v ∈ x.2.2)
section
variable {P : Program} {w : World} {K : PySem.W.Frag} {mg : Str → Option Value} {base : Heap} {C : Addr} {f : Addr} {fd : FuncData}
theorem ok_law_cell_at (F : Fun K "_law_cell_at" "_law_cell_at" s_law_cell_at f fd) (Z : Zs mg C) : FnOk P w K mg base CX0 1 f fd ["script", "k"] (sp_law_cell_at K) := by
  refine F.ok sc_law_cell_at (fun vs H Q E h => ?_) (fun cdv A outer s H vs Q E hr h => ?_)
  · obtain ⟨i, ⟨rfl, _⟩, _⟩ := h
    rfl
  · obtain ⟨⟨a, ns, n⟩, ⟨rfl, hx⟩, k⟩ := h
    refine ⟨_, (pss_cons (ps_if (pt_cmpR op_lt (pv 1) (pe_callB (cLenS (K := K)) (by rfl) Z.z_len PySem.boot_len (pa_cons (pv 0) pa_nil)) (nomark _)) 
     (pss_one (ps_ret (pe_ix (ixL (K := K)) (pv 0) (pv 1) (fun _ _ => rfl)))) pss_nil) 
    (pss_one (ps_ret pe_int))), ?_⟩
    refine q_when (b := decide ((n : Int) < ((ns.map V.int).length : Int))) (et_test (ev_op (ev_var rfl) (ev_len (ev_var rfl) hx) rv_I0)) (fun hb H1 e1 => ?_) (fun _ H1 e1 => ?_)
    · have hlt : n < ns.length := by
        have := of_decide_eq_true hb
        rw [List.length_map] at this
        omega
      have hix : (ns.map V.int)[n]? = some (.int ns[n]) := by
        rw [List.getElem?_map, List.getElem?_eq_getElem hlt]
        rfl
      exact s_ret (v := .int ns[n]) (ev_op (ev_var rfl) (ev_var rfl) (rv_ixL (ex_l e1 hx) (atI_nat hix))) fun H2 e2 => k _ H2 (e1.trans e2) ⟨_, rfl⟩
    · exact s_ret (v := .int 0) ev_c fun H2 e2 => k _ H2 (e1.trans e2) ⟨_, rfl⟩
theorem ok_law_draw (F : Fun K "_law_draw" "_law_draw" s_law_draw f fd) (Z : Zs mg C) : FnOk P w K mg base CX0 1 f fd ["cell", "k", "bound"] sp_law_draw := by
  refine F.ok sc_law_draw (fun vs H Q E h => ?_) (fun cdv A outer s H vs Q E hr h => ?_)
  · obtain ⟨i, ⟨rfl, _⟩, _⟩ := h
    rfl
  · obtain ⟨⟨c, n, b⟩, ⟨rfl, hb, h0, h1, hn⟩, k⟩ := h
    dsimp only at hb h0 h1 hn k
    refine ⟨_, (pss_cons (ps_set (i := 3) sc_law_draw.nd rfl (Or.inl rfl) (pe_tup (pa_cons pe_int (pa_cons pe_int (pa_cons pe_int (pa_cons pe_int (pa_cons pe_int (pa_cons pe_int (pa_cons pe_int (pa_cons pe_int (pa_cons pe_int (pa_cons pe_int (pa_cons pe_int (pa_cons pe_int (pa_cons pe_int (pa_cons pe_int (pa_cons pe_int (pa_cons pe_int pa_nil)))))))))))))))))) 
    (pss_one (ps_ret (pe_op op_modN (pe_op op_modN (pe_callTy call_int1 (by rfl) Z.z_int (by decide +kernel) (pa_cons (pe_op op_add (pe_op op_mul (pv 0) pe_int) (pe_op op_mul (pv 1) pe_int)) pa_nil)) (pe_ix (ixT (K := K)) (pv 3) (pe_op op_modN (pe_callTy call_int1 (by rfl) Z.z_int (by decide +kernel) (pa_cons (pv 1) pa_nil)) pe_int) (fun _ _ => rfl))) (pv 2))))), ?_⟩
    refine q_asgU (xs := [1000003, 1000033, 1000037, 1000039, 1000081, 1000099, 1000117, 1000121, 1000133, 1000151, 1000159, 1000171, 1000183, 1000187, 1000193, 1000199].map V.int) (eu_tup (ea_cons ev_c (ea_cons ev_c (ea_cons ev_c (ea_cons ev_c (ea_cons ev_c (ea_cons ev_c (ea_cons ev_c (ea_cons ev_c (ea_cons ev_c (ea_cons ev_c (ea_cons ev_c (ea_cons ev_c (ea_cons ev_c (ea_cons ev_c (ea_cons ev_c (ea_cons ev_c ea_nil)))))))))))))))) (by show 16 ≤ 100000; decide)) fun t H1 ht e1 h1 => ?_
    obtain ⟨q, hq, hq0⟩ : ∃ q : Int, (([1000003, 1000033, 1000037, 1000039, 1000081, 1000099, 1000117, 1000121, 1000133, 1000151, 1000159, 1000171, 1000183, 1000187, 1000193, 1000199] : List Int).map V.int)[n % 16]? = some (.int q) ∧ 0 < q := by
      have : n % 16 < 16 := Nat.mod_lt _ (by decide)
      generalize n % 16 = j at this
      have : j = 0 ∨ j = 1 ∨ j = 2 ∨ j = 3 ∨ j = 4 ∨ j = 5 ∨ j = 6 ∨ j = 7 ∨ j = 8 ∨ j = 9 ∨ j = 10 ∨ j = 11 ∨ j = 12 ∨ j = 13 ∨ j = 14 ∨ j = 15 := by omega
      rcases this with h | h | h | h | h | h | h | h | h | h | h | h | h | h | h | h <;> subst h <;> exact ⟨_, rfl, by decide⟩
    have hm : (n : Int).fmod 16 = ((n % 16 : Nat) : Int) := by
      rw [Int.fmod_eq_emod_of_nonneg _ (by decide)]
      rfl
    refine s_retP (Pv := fun v _ => ∃ r, v = .int r ∧ 0 ≤ r ∧ r < b) (EvP.imp (EvP.of (ev_op (ev_op (ev_int1 (ev_op (ev_op (ev_var rfl) ev_c (rv_I (.inr ⟨by decide, by decide⟩))) (ev_op (ev_var rfl) ev_c (rv_I (.inr ⟨by decide, by decide⟩))) rv_I0)) (ev_op (ev_var rfl) (ev_is (ev_op (ev_int1 (ev_var rfl)) ev_c (rv_I (by decide))) (by rw [hm])) (rv_ixT (st_of h1) (atI_nat hq))) (rv_I (Int.ne_of_gt hq0))) (ev_var rfl) (rv_I (Int.ne_of_gt hb)))) fun v H2 _ hv => ⟨_, hv, fm_in hb⟩) fun v H2 e2 p => k _ H2 (e1.trans e2) p
theorem ok_law_number (F : Fun K "_law_number" "_law_number" s_law_number f fd) (Z : Zs mg C) (G_law_draw : Has P w K mg base "_law_draw" 1 ["cell", "k", "bound"] sp_law_draw) : FnOk P w K mg base CX0 2 f fd ["cell", "k", "bound"] sp_law_number := by
  refine F.ok sc_law_number (fun vs H Q E h => ?_) (fun cdv A outer s H vs Q E hr h => ?_)
  · obtain ⟨i, ⟨rfl, _⟩, _⟩ := h
    rfl
  · obtain ⟨⟨c, n, b⟩, ⟨rfl, hb, hn⟩, k⟩ := h
    dsimp only at hb hn k
    refine ⟨_, (pss_cons (ps_set (i := 3) sc_law_number.nd rfl (Or.inl rfl) pe_int) 
    (pss_cons (ps_for PassesOwn.never rfl (pi_range1 rfl Z.z_range (pa_cons (pe_op op_modN (pe_callTy call_int1 (by rfl) Z.z_int (by decide +kernel) (pa_cons (pv 1) pa_nil)) pe_int) pa_nil)) (pg_name (i := 4) sc_law_number.nd rfl (Or.inl rfl)) 
     (pss_one (ps_set (i := 3) sc_law_number.nd rfl (Or.inl rfl) (pe_op op_mul (pv 3) pe_int)))) 
    (pss_cons (ps_set (i := 5) sc_law_number.nd rfl (Or.inl rfl) (pe_op op_fdivW (pe_op op_sub (pv 0) (pe_op op_pow pe_int pe_int)) (pv 3))) 
    (pss_cons (ps_if (pt_cmpR op_gt (pv 5) pe_int (nomark _)) 
     (pss_one (ps_ret (pe_op op_modN (pe_op op_modN (pe_callTy call_int1 (by rfl) Z.z_int (by decide +kernel) (pa_cons (pv 5) pa_nil)) pe_int) (pv 2)))) pss_nil) 
    (pss_cons (ps_set (i := 6) sc_law_number.nd rfl (Or.inl rfl) (pe_op op_modN (pe_callTy call_int1 (by rfl) Z.z_int (by decide +kernel) (pa_cons (pv 0) pa_nil)) pe_int)) 
    (pss_one (ps_ret (pe_op op_modN (pe_use G_law_draw (hr.mono (by decide)) (pa_cons (pe_op op_mul (pe_op op_add (pv 6) (pe_op op_mul pe_int (pv 1))) (pe_op op_add (pe_op op_add (pv 6) (pe_op op_mul pe_int (pv 1))) pe_int)) (pa_cons (pe_op op_add (pe_op op_modN (pe_callTy call_int1 (by rfl) Z.z_int (by decide +kernel) (pa_cons (pv 1) pa_nil)) pe_int) pe_int) (pa_cons pe_int pa_nil)))) (pv 2))))))))), ?_⟩
    have hm : (n : Int).fmod 24 = ((n % 24 : Nat) : Int) := by
      rw [Int.fmod_eq_emod_of_nonneg _ (by decide)]
      rfl
    have hm9 : (n : Int).fmod 9 + 1 = ((n % 9 + 1 : Nat) : Int) := by
      rw [Int.fmod_eq_emod_of_nonneg _ (by decide)]
      rfl
    have h24 : n % 24 < 24 := Nat.mod_lt _ (by decide)
    refine q_asg (v := .int 1) ev_c fun H1 e1 => ?_
    refine q_forR1 (n := ((n % 24 : Nat) : Int)) (ea_cons (ev_is (ev_op (ev_int1 (ev_var rfl)) ev_c (rv_I (by decide))) (by rw [hm])) ea_nil) ⟨by omega, by omega⟩ (fun i σ' H' => Ex H H' ∧ ∃ v4, σ' = [some (.int c), some (.int (n : Nat)), some (.int b), some (.int ((1009 ^ i : Nat) : Int)), v4, none, none]) (fun H2 e2 => ⟨e1.trans e2, none, rfl⟩) ?_ ?_
    · rintro i σ' H' hi ⟨ex, v4, rfl⟩
      refine s_asg (ev_op (ev_var rfl) ev_c (rv_I (.inr ⟨by decide, by decide⟩))) fun H3 e3 => ⟨ex.trans e3, some (.int (i : Nat)), ?_⟩
      rw [Nat.pow_succ, Int.natCast_mul]
      rfl
    · rintro σ' H' ⟨ex, v4, rfl⟩
      have hp0 : (0 : Int) < ((1009 ^ (((n % 24 : Nat) : Int)).toNat : Nat) : Int) := by
        have : 0 < 1009 ^ (((n % 24 : Nat) : Int)).toNat := Nat.pow_pos (by decide)
        omega
      have hpw : ((1009 ^ (((n % 24 : Nat) : Int)).toNat : Nat) : Int).natAbs < 2 ^ 300 := by
        rw [Int.natAbs_natCast]
        have h1 : 1009 ^ (((n % 24 : Nat) : Int)).toNat ≤ 1009 ^ 24 := Nat.pow_le_pow_right (by decide) (by omega)
        exact Nat.lt_of_le_of_lt h1 (by decide +kernel)
      refine q_asg (ev_op (ev_op (ev_var rfl) (ev_op ev_c ev_c (rv_I ⟨by decide, by decide, by decide⟩)) rv_I0) (ev_var rfl) (rv_I (wide_div hp0 hpw (by decide) (by decide)))) fun H2 e2 => ?_
      have ex2 := ex.trans e2
      generalize (c - 10 ^ (Int.toNat 18)) / ((1009 ^ (((n % 24 : Nat) : Int)).toNat : Nat) : Int) = rem
      refine q_when (b := decide (0 < rem)) (et_test (ev_op (ev_var rfl) ev_c rv_I0)) (fun hb' H3 e3 => ?_) (fun _ H3 e3 => ?_)
      · exact s_retP (Pv := fun v _ => ∃ r, v = .int r ∧ 0 ≤ r ∧ r < b) (EvP.imp (EvP.of (ev_op (ev_op (ev_int1 (ev_var rfl)) ev_c (rv_I (by decide))) (ev_var rfl) (rv_I (Int.ne_of_gt hb)))) fun v H2 _ hv => ⟨_, hv, fm_in hb⟩) fun v H4 e4 p => k _ H4 ((ex2.trans e3).trans e4) p
      · have hs := fm_in (i := c) (b := 1000003) (by decide)
        refine q_asg (ev_op (ev_int1 (ev_var rfl)) ev_c (rv_I (by decide))) fun H4 e4 => ?_
        generalize c.fmod 1000003 = sm at hs
        have hmul : 0 ≤ (sm + 977 * (n : Int)) * (sm + 31 * (n : Int) + 5) ∧ (sm + 977 * (n : Int)) * (sm + 31 * (n : Int) + 5) ≤ 1000000000000000 := by
          have h1 : 0 ≤ sm + 977 * (n : Int) := by omega
          have h2 : 0 ≤ sm + 31 * (n : Int) + 5 := by omega
          have h3 : sm + 977 * (n : Int) ≤ 1100000 := by omega
          have h4 : sm + 31 * (n : Int) + 5 ≤ 1100000 := by omega
          refine ⟨Int.mul_nonneg h1 h2, Int.le_trans (Int.mul_le_mul h3 h4 h2 (by decide)) (by decide)⟩
        refine s_retP (Pv := fun v _ => ∃ r, v = .int r ∧ 0 ≤ r ∧ r < b) (fun H5 e5 Q q => ?_) fun v H5 e5 p => k _ H5 (((ex2.trans e3).trans e4).trans e5) p
        refine ep_use (P := fun v _ => ∃ r, v = .int r ∧ 0 ≤ r ∧ r < 999983) (ea_cons (ev_op (ev_op (ev_var rfl) (ev_op ev_c (ev_var rfl) (rv_I (.inl ⟨by decide, by decide⟩))) rv_I0) (ev_op (ev_op (ev_var rfl) (ev_op ev_c (ev_var rfl) (rv_I (.inl ⟨by decide, by decide⟩))) rv_I0) ev_c rv_I0) (rv_I (.inl ⟨by omega, by omega⟩))) (ea_cons (ev_is (ev_op (ev_op (ev_int1 (ev_var rfl)) ev_c (rv_I (by decide))) ev_c rv_I0) (by rw [hm9])) (ea_cons ev_c ea_nil)))
          (spE_P ((sm + 977 * (n : Int)) * (sm + 31 * (n : Int) + 5), n % 9 + 1, 999983) (fun _ _ => ⟨rfl, by show (0 : Int) < 999983; decide, hmul.1, hmul.2, by show n % 9 + 1 ≤ 100; have := Nat.mod_lt n (show 9 > 0 by decide); omega⟩) fun v _ _ p => p) H5 e5 _ fun v H6 e6 p => ?_
        obtain ⟨r, rfl, _⟩ := p
        exact (ev_var (v := .int b) rfl) H6 (Ex.refl H6) _ fun H7 e7 => ⟨r, b, rfl, rfl, Int.ne_of_gt hb, q _ H7 (e6.trans e7) ⟨_, rfl, fm_in hb⟩⟩
theorem ok_law_next (F : Fun K "_law_next" "_law_next" s_law_next f fd) (Z : Zs mg C) (G_law_cell_at : Has P w K mg base "_law_cell_at" 1 ["script", "k"] (sp_law_cell_at K)) (G_law_number : Has P w K mg base "_law_number" 2 ["cell", "k", "bound"] sp_law_number) : FnOk P w K mg base CX0 3 f fd ["draw", "bound"] (sp_law_next K) := by
  refine F.ok sc_law_next (fun vs H Q E h => ?_) (fun cdv A outer s H vs Q E hr h => ?_)
  · obtain ⟨i, ⟨rfl, _⟩, _⟩ := h
    rfl
  · obtain ⟨⟨d, b⟩, ⟨rfl, ⟨a, ns, hd, ha, hda⟩, hb⟩, k⟩ := h
    dsimp only at hd ha hda hb k
    refine ⟨_, pss_draw (pss_cons (ps_asg (pe_op op_add (pe_ix (ixL (K := K)) (pv 0) pe_int (fun _ _ => rfl)) pe_int) (pg_sub (pv 0) pe_int set_list)) 
    (pss_cons (ps_set (i := 2) sc_law_next.nd rfl (Or.inl rfl) (pe_op op_fdivN (pe_ix (ixL (K := K)) (pv 0) pe_int (fun _ _ => rfl)) pe_int)) 
    (pss_cons (ps_set (i := 3) sc_law_next.nd rfl (Or.inl rfl) (pe_op op_add (pe_use G_law_cell_at (hr.mono (by decide)) (pa_cons (pe_ix (ixL (K := K)) (pv 0) pe_int (fun _ _ => rfl)) (pa_cons (pe_op op_add (pe_ix (ixL (K := K)) (pv 0) pe_int (fun _ _ => rfl)) (pv 2)) pa_nil))) (pe_op op_mul pe_int (pv 2)))) 
    (pss_one (ps_ret (pe_use G_law_number (hr.mono (by decide)) (pa_cons (pv 3) (pa_cons (pe_op op_add (pe_op op_modN (pe_callTy call_int1 (by rfl) Z.z_int (by decide +kernel) (pa_cons (pe_ix (ixL (K := K)) (pv 0) pe_int (fun _ _ => rfl)) pa_nil)) pe_int) pe_int) (pa_cons (pv 1) pa_nil))))))))), d, a, hd, fun n => ?_⟩
    have h0 : (upd H d (.lst [.ref a, .int 0, .int (n : Nat)])) d = some (.lst [.ref a, .int 0, .int (n : Nat)]) := upd_same
    refine q_setL (j := 2) h0 (ev_op (ev_op (ev_var (v := .ref d) rfl) ev_c (rv_ixL (i := ((2 : Nat) : Int)) (sq_of h0) (atI_nat rfl))) ev_c rv_I0) (ev_var rfl) ev_c (by show 2 < 3; decide) fun H1 e1 => ?_
    have h1 : (upd H1 d (.lst ([V.ref a, .int 0, .int (n : Nat)].set 2 (.int ((n : Int) + 1))))) d = some (.lst [.ref a, .int 0, .int ((n + 1 : Nat) : Int)]) := by
      rw [upd_same]
      rfl
    have ha1 : (upd H1 d (.lst ([V.ref a, .int 0, .int (n : Nat)].set 2 (.int ((n : Int) + 1))))) a = some (.lst (ns.map V.int)) := by
      rw [upd_ne (Ne.symm hda)]
      refine e1 _ _ ?_
      rw [upd_ne (Ne.symm hda)]
      exact ha
    have hx1 : ∀ x o, x ≠ d → H x = some o → (upd H1 d (.lst ([V.ref a, .int 0, .int (n : Nat)].set 2 (.int ((n : Int) + 1))))) x = some o := fun x o hx h => by
      rw [upd_ne hx]
      refine e1 _ _ ?_
      rw [upd_ne hx]
      exact h
    generalize upd H1 d (.lst ([V.ref a, .int 0, .int (n : Nat)].set 2 (.int ((n : Int) + 1)))) = G1 at h1 ha1 hx1
    have hdiv : (((n + 1 : Nat) : Int)).fdiv 12 = (((n + 1) / 12 : Nat) : Int) := by
      rw [Int.fdiv_eq_ediv_of_nonneg _ (by decide)]
      rfl
    have hmod : (((n + 1 : Nat) : Int)).fmod 12 + 1 = (((n + 1) % 12 + 1 : Nat) : Int) := by
      rw [Int.fmod_eq_emod_of_nonneg _ (by decide)]
      rfl
    refine q_asg (ev_is (ev_op (ev_op (ev_var (v := .ref d) rfl) ev_c (rv_ixL (i := ((2 : Nat) : Int)) (sq_of h1) (atI_nat rfl))) ev_c (rv_I ⟨by decide, by decide⟩)) (by rw [hdiv])) fun H2 e2 => ?_
    refine q_asgP (Pv := fun v _ => ∃ c, v = .int c) (fun H3 e3 Q q => ?_) fun v H3 e3 p => ?_
    · have e23 := e2.trans e3
      have hd3 := e23 _ _ h1
      refine ep_use (P := fun v _ => ∃ c, v = .int c) (ea_cons (ev_op (ev_var (v := .ref d) rfl) ev_c (rv_ixL (i := ((0 : Nat) : Int)) (sq_of hd3) (atI_nat rfl))) (ea_cons (ev_is (ev_op (ev_op (ev_var (v := .ref d) rfl) ev_c (rv_ixL (i := ((1 : Nat) : Int)) (sq_of hd3) (atI_nat rfl))) (ev_var rfl) rv_I0) (by rw [Int.zero_add])) ea_nil))
        (spE_P (a, ns, (n + 1) / 12) (fun _ e => ⟨rfl, sq_of ((e23.trans e) _ _ ha1)⟩) fun v _ _ p => p) H3 (Ex.refl H3) _ fun v H4 e4 p => ?_
      obtain ⟨c, rfl⟩ := p
      exact (ev_op (ev_c (v := .int 31)) (ev_var rfl) (rv_I (.inl ⟨by decide, by decide⟩))) H4 (Ex.refl H4) _ fun H5 e5 => ⟨c, _, rfl, rfl, q _ H5 (e4.trans e5) ⟨_, rfl⟩⟩
    · obtain ⟨c, rfl⟩ := p
      have e23 := e2.trans e3
      have hd3 := e23 _ _ h1
      refine s_retP (ep_use (P := fun v _ => ∃ r, v = .int r ∧ 0 ≤ r ∧ r < b) (ea_cons (ev_var rfl) (ea_cons (ev_is (ev_op (ev_op (ev_int1 (ev_op (ev_var (v := .ref d) rfl) ev_c (rv_ixL (i := ((2 : Nat) : Int)) (sq_of hd3) (atI_nat rfl)))) ev_c (rv_I (by decide))) ev_c rv_I0) (by rw [hmod])) (ea_cons (ev_var rfl) ea_nil)))
        (spE_P (c, (n + 1) % 12 + 1, b) (fun _ _ => ⟨rfl, hb, by show (n + 1) % 12 + 1 ≤ 100; have := Nat.mod_lt (n + 1) (show 12 > 0 by decide); omega⟩) fun v _ _ p => p)) fun v H4 e4 p => ?_
      have e24 := e23.trans e4
      refine ⟨n + 1, e24 _ _ h1, k v _ (fun x o h => ?_) p⟩
      by_cases hx : x = d
      · subst hx
        rw [upd_same, ← hd]
        exact h
      · rw [upd_ne hx]
        exact e24 _ _ (hx1 x o hx h)
theorem ok_law_pick (F : Fun K "_law_pick" "_law_pick" s_law_pick f fd) (Z : Zs mg C) (G_law_next : Has P w K mg base "_law_next" 3 ["draw", "bound"] (sp_law_next K)) : FnOk P w K mg base CX0 4 f fd ["draw", "things"] (sp_law_pick K) := by
  refine F.ok sc_law_pick (fun vs H Q E h => ?_) (fun cdv A outer s H vs Q E hr h => ?_)
  · obtain ⟨i, ⟨rfl, _⟩, _⟩ := h
    rfl
  · obtain ⟨⟨d, t, xs⟩, ⟨rfl, hD, hx, hne⟩, k⟩ := h
    dsimp only at hD hx hne k
    have hl : 0 < xs.length := List.length_pos_iff.mpr hne
    refine ⟨_, (pss_one (ps_ret (pe_ix (ixL (K := K)) (pv 1) (pe_use G_law_next (hr.mono (by decide)) (pa_cons (pv 0) (pa_cons (pe_callB (cLenS (K := K)) (by rfl) Z.z_len PySem.boot_len (pa_cons (pv 1) pa_nil)) pa_nil))) (fun _ _ => rfl)))), ?_⟩
    refine s_retP (Pv := fun v _ => v ∈ xs) (fun H1 e1 Q q => (ev_var (v := .ref t) rfl) H1 e1 _ fun H2 e2 => ?_) fun v H1 e1 p => k v H1 e1 p
    have e12 := e1.trans e2
    refine ep_use (P := fun v _ => ∃ r, v = .int r ∧ 0 ≤ r ∧ r < ((xs.length : Nat) : Int)) (ea_cons (ev_var rfl) (ea_cons (ev_len (ev_var rfl) (ex_l e12 hx)) ea_nil)) (spE_P (d, ((xs.length : Nat) : Int)) (fun _ e => ⟨rfl, hD.ex (e12.trans e), by show (0 : Int) < _; omega⟩) fun v _ _ p => p) H2 (Ex.refl H2) _ fun v H3 e3 p => ?_
    obtain ⟨r, rfl, h0, h1⟩ := p
    obtain ⟨m, rfl⟩ : ∃ m : Nat, r = (m : Int) := ⟨r.toNat, by omega⟩
    have hm : m < xs.length := by omega
    have hix : xs[m]? = some xs[m] := List.getElem?_eq_getElem hm
    exact ⟨t, xs, _, _, rfl, rfl, ex_l (e12.trans e3) hx, atI_nat hix, q _ H3 (e2.trans e3) (List.mem_of_getElem? hix)⟩
end
end KX
end
section
set_option Elab.async false
set_option linter.all false
set_option maxRecDepth 100000
set_option maxHeartbeats 8000000
/-! Bs14: rows are drawn. -/
namespace KX
open PySem PySem.Spec PyProof.Rows L2 Evl
section
variable {K : PySem.W.Frag} {σ : L2.St} {H : Hp} {ta tb te tl : TE} {wi : TI} {n j : Nat} {It : Nat → V → Hp → Prop} {ws : List Nat} {D : Ends} {tz : TS}
/-- [te for j in wi], what is told of the items apart from the list -/
theorem new_lcD (S : Src wi σ H n It) (hz : n ≤ 100000) (hw : ∀ x, wipe ((wipe σ ws).set j (some x)) ws = wipe σ ws) (P : Addr → Nat → V → Hp → Prop) (hle : ∀ D i x H H', Ex H H' → P D i x H → P D i x H') (hup : ∀ D i x H l l', H D = some (.lst l) → P D i x H → P D i x (upd H D (.lst l')))
    (he : ∀ D l i x H', Ex H H' → H' D = some (.lst l) → H D = none → i < n → It i x H' → EvP te ((wipe σ ws).set j (some x)) H' (P D i)) : New (tLc wi (gName j) tYes te ws) σ H (fun o H2 => ∃ D xs, o = .lst xs ∧ xs.length = n ∧ ∀ i x, xs[i]? = some x → P D i x H2) := fun H1 e Q q =>
  S H1 e _ fun J G H2 e2 g2 gx gu w D hD => by
    refine lc_it w (fun i H' => Ex H2 H' ∧ G H' ∧ ∃ acc, H' D = some (.lst acc) ∧ acc.length = i ∧ ∀ k x, acc[k]? = some x → P D k x H') ⟨Ex.new hD, gx _ _ (Ex.new hD) g2, [], upd_same, rfl, fun k x h => by simp at h⟩ (fun i H' _ p => p.2.1) (fun i x H' H'' hi p y => ?_) fun H' p => ?_
    · obtain ⟨rfl, hI⟩ := y
      obtain ⟨ex, g, acc, ha, hl, hp⟩ := p
      refine ⟨hw x, ?_⟩
      unfold tYes
      refine iteT ?_
      refine he D acc i x H'' ((e.trans e2).trans ex) ha (fresh_back (e.trans e2) hD) hi hI H'' (Ex.refl _) _ fun y H4 e4 py => ?_
      have ha4 := e4 _ _ ha
      refine ⟨acc, ha4, sz_lt (by omega), Ex.mut (ex.trans e4) hD, gu H4 D _ _ rfl hD (gx _ _ e4 g) ha4, acc ++ [y], upd_same, by rw [List.length_append, hl]; rfl, fun k x h => ?_⟩
      by_cases hk : k < acc.length
      · rw [List.getElem?_append_left hk] at h
        exact hup D k x _ _ _ ha4 (hle D k x _ _ e4 (hp k x h))
      · rw [List.getElem?_append_right (by omega)] at h
        have e0 : k - acc.length = 0 := by
          cases hh : k - acc.length with
          | zero => rfl
          | succ m => rw [hh] at h; simp at h
        rw [e0] at h
        obtain rfl : y = x := by simpa using h
        obtain rfl : k = i := by omega
        exact hup D k y _ _ _ ha4 py
    · obtain ⟨ex, g, acc, ha, hl, hp⟩ := p
      exact q D _ H' (fresh_back e2 hD) (e2.trans ex) ha ⟨D, acc, rfl, hl, hp⟩
def dec (H : Hp) (b : Addr) : Key × V := match H b with
  | some (.tup [k, v]) => (unV k, v)
  | _ => (.inl 0, .non)
theorem dict_list {H : Hp} {xs : List V} {ks : List Key} (hl : xs.length = ks.length) {Q : Nat → V → Prop} (h : ∀ (i : Nat) x k, xs[i]? = some x → ks[i]? = some k → ∃ b v, x = .ref b ∧ H b = some (.tup [kV k, v]) ∧ Q i v) :
    ∃ (ps : List Addr) (kvs : List (Key × V)), xs = ps.map V.ref ∧ Paired (fun p kv => SqT K H p [kV kv.1, kv.2]) ps kvs ∧ kvs.map (·.1) = ks ∧ ∀ (i : Nat) (p : Key × V), kvs[i]? = some p → Q i p.2 := by
  have key : ∀ (i : Nat) x k, xs[i]? = some x → ks[i]? = some k → ∃ b v, x = .ref b ∧ H b = some (.tup [kV k, v]) ∧ dec H b = (k, v) ∧ Q i v := fun i x k a b => by
    obtain ⟨b, v, h1, h2, h3⟩ := h i x k a b
    refine ⟨b, v, h1, h2, ?_, h3⟩
    unfold dec
    rw [h2]
    show (unV (kV k), v) = (k, v)
    rw [unV_k]
  refine ⟨xs.map unR, (xs.map unR).map (dec H), ?_, ?_, ?_, ?_⟩
  · apply List.ext_getElem?
    intro i
    rw [List.map_map, List.getElem?_map]
    cases hx : xs[i]? with
    | none => rfl
    | some x =>
      have hi := (List.getElem?_eq_some_iff.mp hx).1
      obtain ⟨b, v, rfl, _⟩ := key i x _ hx (List.getElem?_eq_getElem (show i < ks.length by omega))
      rfl
  · have : ∀ (bs : List Addr), (∀ b ∈ bs, SqT K H b [kV (dec H b).1, (dec H b).2]) → Paired (fun p kv => SqT K H p [kV kv.1, kv.2]) bs (bs.map (dec H)) := fun bs hb => by
      induction bs with
      | nil => exact .nil
      | cons b bs ih => exact .cons (hb b List.mem_cons_self) (ih fun c hc => hb c (List.mem_cons_of_mem _ hc))
    refine this _ fun b hb => ?_
    obtain ⟨x, hx, rfl⟩ := List.mem_map.mp hb
    obtain ⟨i, hi⟩ := List.mem_iff_getElem?.mp hx
    have hil := (List.getElem?_eq_some_iff.mp hi).1
    obtain ⟨b, v, rfl, h2, h3, _⟩ := key i x _ hi (List.getElem?_eq_getElem (show i < ks.length by omega))
    show SqT K H b [kV (dec H b).1, (dec H b).2]
    rw [h3]
    exact st_of h2
  · apply List.ext_getElem?
    intro i
    rw [List.map_map, List.map_map, List.getElem?_map]
    cases hx : xs[i]? with
    | none =>
      have := List.getElem?_eq_none_iff.mp hx
      rw [List.getElem?_eq_none (by omega)]
      rfl
    | some x =>
      have hi := (List.getElem?_eq_some_iff.mp hx).1
      have hk : ks[i]? = some ks[i] := List.getElem?_eq_getElem (by omega)
      obtain ⟨b, v, rfl, _, h3, _⟩ := key i x _ hx hk
      rw [hk]
      show some (dec H b).1 = _
      rw [h3]
  · intro i p hp
    rw [List.getElem?_map, List.getElem?_map] at hp
    cases hx : xs[i]? with
    | none => rw [hx] at hp; cases hp
    | some x =>
      rw [hx] at hp
      have hi := (List.getElem?_eq_some_iff.mp hx).1
      obtain ⟨b, v, rfl, _, h3, h4⟩ := key i x _ hx (List.getElem?_eq_getElem (show i < ks.length by omega))
      obtain rfl : dec H b = p := Option.some.inj hp
      rw [h3]
      exact h4
theorem mergeK_nodup : ∀ (kvs acc : List (Key × V)), ((acc ++ kvs).map (·.1)).Nodup → mergeK acc kvs = acc ++ kvs
  | [], acc, _ => (List.append_nil _).symm
  | p :: r, acc, h => by
    have hnew : valV acc p.1 = none := by
      cases hv : valV acc p.1 with
      | none => rfl
      | some z =>
        have hm := List.mem_map_of_mem (f := (·.1)) (valV_mem hv)
        rw [List.map_append, List.nodup_append] at h
        exact absurd rfl (h.2.2 p.1 hm p.1 (List.mem_map_of_mem (f := fun q : Key × V => q.1) List.mem_cons_self))
    have e1 : putK acc p.1 p.2 = acc ++ [p] := putK_new _ hnew
    have e2 : mergeK acc (p :: r) = mergeK (putK acc p.1 p.2) r := rfl
    rw [e2, e1, mergeK_nodup r (acc ++ [p]) (by rw [List.append_assoc]; exact h), List.append_assoc]
    rfl
/-- dict(a new list of pairs) -/
theorem new_dictP {ks : List Key} (hnd : ks.Nodup) {Q : Nat → V → Hp → Prop} (hQ : ∀ i v H H', Ex H H' → Q i v H → Q i v H') (h : New tl σ H (fun o H2 => ∃ xs, o = .lst xs ∧ xs.length = ks.length ∧ ∀ (i : Nat) x, xs[i]? = some x → ∀ k, ks[i]? = some k → ∃ b v, x = .ref b ∧ H2 b = some (.tup [kV k, v]) ∧ Q i v H2)) :
    New (tCB (fun xs H Q => ∃ (a : Addr) (ps : List Addr) (kvs : List (Key × V)), xs = [.ref a] ∧ SqL K H a (ps.map V.ref) ∧ Paired (fun p kv => SqT K H p [kV kv.1, kv.2]) ps kvs ∧ ∀ p, H p = none → Q (.ref p) (upd H p (.dK (mergeK [] kvs)))) (tCons tl tNil)) σ H
      (fun o H2 => ∃ kvs, o = .dK kvs ∧ kvs.map (·.1) = ks ∧ ∀ (i : Nat) (p : Key × V), kvs[i]? = some p → Q i p.2 H2) := fun H1 e Q' q =>
  h H1 e _ fun a o H2 e1 e2 e3 ⟨xs, eo, hl, hx⟩ => by
    subst eo
    obtain ⟨ps, kvs, rfl, hp, hk, hv⟩ := dict_list (K := K) hl (Q := fun i v => Q i v H2) fun i x k a b => hx i x a k b
    refine ⟨a, ps, kvs, rfl, sq_of e3, hp, fun p hp' => ?_⟩
    have hm : mergeK [] kvs = kvs := by
      have := mergeK_nodup kvs [] (by rw [List.nil_append, hk]; exact hnd)
      rw [List.nil_append] at this
      exact this
    rw [hm]
    exact q p _ _ (fresh_back e2 hp') (e2.trans (Ex.new hp')) upd_same ⟨kvs, rfl, hk, fun i p h => hQ _ _ _ _ (Ex.new hp') (hv i p h)⟩
end
theorem putK_keys {κ : Type} [DecidableEq κ] {kvs : List (κ × V)} {k : κ} {v : V} (h : k ∈ kvs.map (·.1)) : (putK kvs k v).map (·.1) = kvs.map (·.1) := by
  unfold putK
  obtain ⟨p, hp, rfl⟩ := List.mem_map.mp h
  rw [if_pos (List.any_eq_true.mpr ⟨p, hp, by simp⟩), List.map_map]
  apply List.map_congr_left
  intro q _
  show (if q.1 = p.1 then (q.1, v) else q).1 = q.1
  by_cases e : q.1 = p.1
  · rw [if_pos e]
  · rw [if_neg e]
theorem putK_mem {κ : Type} [DecidableEq κ] {kvs : List (κ × V)} {k k' : κ} {v v' : V} (h : k ∈ kvs.map (·.1)) (hm : (k', v') ∈ putK kvs k v) : (k' = k ∧ v' = v) ∨ (k' ≠ k ∧ (k', v') ∈ kvs) := by
  unfold putK at hm
  obtain ⟨p, hp, rfl⟩ := List.mem_map.mp h
  rw [if_pos (List.any_eq_true.mpr ⟨p, hp, by simp⟩)] at hm
  obtain ⟨q, hq, e⟩ := List.mem_map.mp hm
  by_cases e1 : q.1 = p.1
  · rw [if_pos e1] at e
    cases e
    exact .inl ⟨e1, rfl⟩
  · rw [if_neg e1] at e
    subst e
    exact .inr ⟨e1, hq⟩
end KX
end
section
set_option Elab.async false
set_option linter.all false
set_option maxRecDepth 100000
set_option maxHeartbeats 8000000
/-! Bs15: the rows of a step are drawn. -/
namespace KX
open PySem PySem.Spec PyProof.Rows L2 Evl
/-- a test with some answer -/
def EvTA (tt : TT) (σ : L2.St) (H : Hp) : Prop := ∀ H1, Ex H H1 → ∀ Q : Bool → Hp → Prop, (∀ b H2, Ex H1 H2 → Q b H2) → tt σ H1 Q
section
variable {K : PySem.W.Frag} {σ : L2.St} {H : Hp} {ta tb te tl tv td ty : TE} {tt : TT} {tu tw tz : TS} {D : Ends}
theorem EvTA.mono {H' : Hp} (e : Ex H H') (h : EvTA tt σ H) : EvTA tt σ H' := fun H1 a Q q => h H1 (e.trans a) Q q
theorem s_ifA (h : EvTA tt σ H) (h1 : ∀ H1, Ex H H1 → tu D σ H1) (h2 : ∀ H1, Ex H H1 → tw D σ H1) : tIfS tt tu tw D σ H := h H (Ex.refl H) _ fun b H1 e => by
  cases b with
  | true => exact h1 H1 e
  | false => exact h2 H1 e
theorem q_ifA (h : EvTA tt σ H) (h1 : ∀ H1, Ex H H1 → tu { D with nx := tz D } σ H1) (h2 : ∀ H1, Ex H H1 → tw { D with nx := tz D } σ H1) : tSeq (tIfS tt tu tw) tz D σ H := s_ifA (D := { D with nx := tz D }) h h1 h2
theorem ep_ifA {P : V → Hp → Prop} (h : EvTA tt σ H) (h1 : EvP ta σ H P) (h2 : EvP tb σ H P) : EvP (tIf tt ta tb) σ H P := fun H1 e Q q => h H1 e _ fun b H2 e2 => by
  cases b with
  | true =>
    show ta σ H2 Q
    exact h1 H2 (e.trans e2) Q fun v H3 e3 => q v H3 (e2.trans e3)
  | false =>
    show tb σ H2 Q
    exact h2 H2 (e.trans e2) Q fun v H3 e3 => q v H3 (e2.trans e3)
theorem new_ifA {N : HO → Hp → Prop} (h : EvTA tt σ H) (h1 : New ta σ H N) (h2 : New tb σ H N) : New (tIf tt ta tb) σ H N := fun H1 e Q q => h H1 e _ fun b H2 e2 => by
  cases b with
  | true =>
    show ta σ H2 Q
    exact h1 H2 (e.trans e2) Q fun p o H3 e0 e3 => q p o H3 (fresh_back e2 e0) (e2.trans e3)
  | false =>
    show tb σ H2 Q
    exact h2 H2 (e.trans e2) Q fun p o H3 e0 e3 => q p o H3 (fresh_back e2 e0) (e2.trans e3)
theorem eta_I {g : Int → Int → Bool} {c : Int} (h : EvP ta σ H (fun v _ => ∃ r, v = .int r)) (hb : Ev tb σ H (.int c)) : EvTA (tTest (tOp (rI0 fun i j => .bl (g i j)) ta tb)) σ H := fun H1 e Q q =>
  h H1 e _ fun v H2 e2 ⟨r, ev⟩ => by
    subst ev
    exact hb H2 (e.trans e2) _ fun H3 e3 => ⟨r, c, rfl, rfl, _, rfl, q _ H3 (e2.trans e3)⟩
theorem eta_E {c : Int} (h : EvP ta σ H (fun v _ => ∃ r, v = .int r)) (hb : Ev tb σ H (.int c)) : EvTA (tTest (tOp rEq ta tb)) σ H := fun H1 e Q q =>
  h H1 e _ fun v H2 e2 ⟨r, ev⟩ => by
    subst ev
    exact hb H2 (e.trans e2) _ fun H3 e3 => ⟨rfl, _, rfl, q _ H3 (e2.trans e3)⟩
/-- a + b of lists -/
theorem new_cat {Pa Pb : List V → Hp → Prop} (ha : EvP ta σ H (fun v H2 => ∃ a xs, v = .ref a ∧ H2 a = some (.lst xs) ∧ Pa xs H2)) (hb : ∀ H1, Ex H H1 → EvP tb σ H1 (fun v H2 => ∃ a xs, v = .ref a ∧ H2 a = some (.lst xs) ∧ Pb xs H2))
    (mA : ∀ xs H H', Ex H H' → Pa xs H → Pa xs H') (mB : ∀ xs H H', Ex H H' → Pb xs H → Pb xs H') (hz : ∀ xs ys H H', Pa xs H → Pb ys H' → xs.length + ys.length ≤ 100000) : New (tOp rCat ta tb) σ H (fun o H2 => ∃ xs ys, o = .lst (xs ++ ys) ∧ Pa xs H2 ∧ Pb ys H2) := fun H1 e Q q =>
  ha H1 e _ fun v H2 e2 ⟨a, xs, ev, h1, p1⟩ => hb H2 (e.trans e2) H2 (Ex.refl H2) _ fun u H3 e3 ⟨b, ys, eu, h2, p2⟩ =>
    ⟨a, b, xs, ys, ev, eu, e3 _ _ h1, h2, sz_of (hz xs ys H2 H3 p1 p2), fun p hp => q p _ _ (fresh_back (e2.trans e3) hp) ((e2.trans e3).trans (Ex.new hp)) upd_same ⟨xs, ys, rfl, mA _ _ _ (e3.trans (Ex.new hp)) p1, mB _ _ _ (Ex.new hp) p2⟩⟩
/-- d[k] = v -/
theorem s_dput {Pv : V → Hp → Prop} {d : Addr} {kvs : List (Key × V)} {y : V} {k : Key} (hd : H d = some (.dK kvs)) (hv : EvP tv σ H Pv) (ho : Ev td σ H (.ref d)) (hy : Ev ty σ H y) (ey : y = kV k) (hz : kvs.length < 100000) (kk : ∀ v H1, Ex H H1 → Pv v H1 → (∀ v H H', Ex H H' → Pv v H → Pv v H') → D.nx σ (upd H1 d (.dK (putK kvs k v))))
    (mV : ∀ v H H', Ex H H' → Pv v H → Pv v H') : sDPut td ty tv D σ H :=
  hv H (Ex.refl H) _ fun v H1 e1 p => ho H1 e1 _ fun H2 e2 => hy H2 (e1.trans e2) _ fun H3 e3 => by
    have e := (e1.trans e2).trans e3
    subst ey
    exact ⟨d, _, rfl, DPut.k (e _ _ hd) (sz_lt hz), kk v H3 e (mV _ _ _ (e2.trans e3) p) mV⟩
end
section
variable {K : PySem.W.Frag} {σ : L2.St} {H : Hp} {E : XK} {ta : TE}
theorem ep_next {d : Addr} {b : Int} {tb : TE} (hd : Ev ta σ H (.ref d)) (hb : Ev tb σ H (.int b)) (D : DrAt K H d) (h0 : 0 < b) : EvP (tCall (sp_law_next K) [] E (tCons ta (tCons tb tNil))) σ H (fun v _ => ∃ r, v = .int r ∧ 0 ≤ r ∧ r < b) :=
  ep_use (ea_cons hd (ea_cons hb ea_nil)) (spE_P (d, b) (fun _ e => ⟨rfl, D.ex e, h0⟩) fun v _ _ p => p)
theorem ep_nextI {d : Addr} {b : Int} {tb : TE} (hd : Ev ta σ H (.ref d)) (hb : Ev tb σ H (.int b)) (D : DrAt K H d) (h0 : 0 < b) : EvP (tCall (sp_law_next K) [] E (tCons ta (tCons tb tNil))) σ H (fun v _ => ∃ r, v = .int r) :=
  (ep_next hd hb D h0).imp fun v _ _ ⟨r, h, _⟩ => ⟨r, h⟩
theorem ep_pick {d : Addr} {xs : List V} {tb : TE} (hd : Ev ta σ H (.ref d)) (hb : EvP tb σ H (fun v H2 => ∃ t, v = .ref t ∧ SqL K H2 t xs)) (D : DrAt K H d) (h0 : xs ≠ []) : EvP (tCall (sp_law_pick K) [] E (tCons ta (tCons tb tNil))) σ H (fun v _ => v ∈ xs) := fun H1 e Q q =>
  hd H1 e _ fun H2 e2 => hb H2 (e.trans e2) _ fun v H3 e3 ⟨t, ev, ht⟩ => by
    subst ev
    exact ⟨(d, t, xs), ⟨rfl, D.ex ((e.trans e2).trans e3), ht, h0⟩, fun v H4 e4 p => q v H4 ((e2.trans e3).trans e4) p⟩
end
/-- a row as drawn -/
def RowOkD (regs sg : List Str) (k : Nat) (row : List Itm) : Prop := row.length ≤ k ∧ ∀ t ∈ row, match t with
  | .t s => s ∈ sg
  | .r m => m ∈ regs
theorem RowOkD.app {regs sg : List Str} {k l : Nat} {a b : List Itm} (ha : RowOkD regs sg k a) (hb : RowOkD regs sg l b) : RowOkD regs sg (k + l) (a ++ b) := ⟨by
  rw [List.length_append]
  exact Nat.add_le_add ha.1 hb.1, fun t ht => (List.mem_append.mp ht).elim (ha.2 t) (hb.2 t)⟩
theorem RowOkD.up {regs sg : List Str} {k l : Nat} {a : List Itm} (ha : RowOkD regs sg k a) (h : k ≤ l) : RowOkD regs sg l a := ⟨Nat.le_trans ha.1 h, ha.2⟩
/-- the registers of a row -/
def rgs (row : List Itm) : List Str := row.filterMap fun t => match t with
  | .t _ => none
  | .r m => some m
theorem rgs_app (a b : List Itm) : rgs (a ++ b) = rgs a ++ rgs b := List.filterMap_append
/-- each register stands in one row at most, there once -/
def Lin (regs : List Str) (R : Str → List Itm) : Prop := ∃ tg : Str → Str, ∀ n ∈ regs, (rgs (R n)).Nodup ∧ ∀ m ∈ rgs (R n), tg m = n
def RowsLin (regs sg : List Str) (R : Str → List Itm) : Prop := (∀ n ∈ regs, RowOkD regs sg (regs.length + 1) (R n)) ∧ Lin regs R
/-- .. in the making: dn are those that are put already -/
def RowL (tg : Str → Str) (dn : List Str) (n : Str) (row : List Itm) : Prop := (rgs row).Nodup ∧ ∀ m ∈ rgs row, tg m = n ∧ m ∈ dn
theorem RowL.mono {tg : Str → Str} {dn dn' : List Str} {n : Str} {row : List Itm} (h : RowL tg dn n row) (s : ∀ m ∈ dn, m ∈ dn') : RowL tg dn' n row := ⟨h.1, fun m hm => ⟨(h.2 m hm).1, s m (h.2 m hm).2⟩⟩
theorem RowL.text {tg : Str → Str} {dn : List Str} {n s : Str} {row row' : List Itm} (h : RowL tg dn n row) (e : row' = row ++ [.t s] ∨ row' = [.t s] ++ row) : RowL tg dn n row' := by
  have : rgs row' = rgs row := by
    rcases e with rfl | rfl
    · rw [rgs_app]
      exact List.append_nil _
    · rw [rgs_app]
      rfl
  unfold RowL
  rw [this]
  exact h
/-- another register is put: t is where -/
def tgP (tg : Str → Str) (nm t : Str) : Str → Str := fun y => if y = nm then t else tg y
theorem RowL.other {tg : Str → Str} {dn dn' : List Str} {n nm t : Str} {row : List Itm} (h : RowL tg dn n row) (s : ∀ m ∈ dn, m ∈ dn') (nn : nm ∉ dn) : RowL (tgP tg nm t) dn' n row := ⟨h.1, fun m hm => by
  obtain ⟨e1, e2⟩ := h.2 m hm
  refine ⟨?_, s m e2⟩
  unfold tgP
  rw [if_neg (fun z => by
    subst z
    exact nn e2)]
  exact e1⟩
theorem RowL.here {tg : Str → Str} {dn dn' : List Str} {nm t : Str} {row row' : List Itm} (h : RowL tg dn t row) (s : ∀ m ∈ dn, m ∈ dn') (nn : nm ∉ dn) (hn : nm ∈ dn') (e : row' = row ++ [.r nm] ∨ row' = [.r nm] ++ row) : RowL (tgP tg nm t) dn' t row' := by
  have fresh : nm ∉ rgs row := fun z => nn (h.2 nm z).2
  have o := h.other (t := t) s nn
  have at_ : tgP tg nm t nm = t := by
    unfold tgP
    rw [if_pos rfl]
  rcases e with rfl | rfl
  · have q : rgs (row ++ [Itm.r nm]) = rgs row ++ [nm] := by
      rw [rgs_app]
      rfl
    unfold RowL
    rw [q]
    refine ⟨List.nodup_append.mpr ⟨h.1, by simp, fun a ha b hb z => fresh (by
      rw [List.mem_singleton.mp hb] at z
      rw [← z]
      exact ha)⟩, fun m hm => ?_⟩
    rcases List.mem_append.mp hm with z | z
    · exact o.2 m z
    · rw [List.mem_singleton.mp z]
      exact ⟨at_, hn⟩
  · have q : rgs ([Itm.r nm] ++ row) = nm :: rgs row := by
      rw [rgs_app]
      rfl
    unfold RowL
    rw [q]
    refine ⟨List.nodup_cons.mpr ⟨fresh, h.1⟩, fun m hm => ?_⟩
    rcases List.mem_cons.mp hm with z | z
    · rw [z]
      exact ⟨at_, hn⟩
    · exact o.2 m z
/-- lists of rows in the making -/
def RwL (regs sg : List Str) (k : Nat) (tg : Str → Str) (dn : List Str) (H : Hp) (rd : Addr) : Prop := ∃ kvs : List (Key × V), H rd = some (.dK kvs) ∧ kvs.map (·.1) = regs.map Sum.inr ∧ ∀ n v, (Sum.inr n, v) ∈ kvs → ∃ a xs row, v = .ref a ∧ H a = some (.lst xs) ∧ ItsAt H xs row ∧ RowOkD regs sg k row ∧ RowL tg dn n row
theorem RwL.ex {regs sg : List Str} {k : Nat} {tg : Str → Str} {dn : List Str} {H H' : Hp} {rd : Addr} (e : Ex H H') (h : RwL regs sg k tg dn H rd) : RwL regs sg k tg dn H' rd := h.imp fun kvs ⟨h1, h2, h3⟩ => ⟨e _ _ h1, h2, fun n v m => by
  obtain ⟨a, xs, row, e1, e2, e3, e4⟩ := h3 n v m
  exact ⟨a, xs, row, e1, e _ _ e2, e3.le (Le.ex e), e4⟩⟩
theorem RwL.up {regs sg : List Str} {k l : Nat} {tg : Str → Str} {dn dn' : List Str} {H : Hp} {rd : Addr} (hk : k ≤ l) (hd : ∀ m ∈ dn, m ∈ dn') (h : RwL regs sg k tg dn H rd) : RwL regs sg l tg dn' H rd := h.imp fun kvs ⟨h1, h2, h3⟩ => ⟨h1, h2, fun n v m => by
  obtain ⟨a, xs, row, e1, e2, e3, e4⟩ := h3 n v m
  exact ⟨a, xs, row, e1, e2, e3, e4.1.up hk, e4.2.mono hd⟩⟩
theorem ItAt.upK {H : Hp} {D : Addr} {t : Itm} {x : V} {l l' : List (Key × V)} (h : ItAt H t x) (hD : H D = some (.dK l)) : ItAt (upd H D (.dK l')) t x := by
  cases t with
  | t s => exact h
  | r s =>
    obtain ⟨b, e, hb⟩ := h
    refine ⟨b, e, ?_⟩
    rw [upd_ne (show b ≠ D from fun z => by
      subst z
      rw [hb] at hD
      cases hD)]
    exact hb
theorem ItsAt.upK {H : Hp} {D : Addr} {row : List Itm} {xs : List V} {l l' : List (Key × V)} (h : ItsAt H xs row) (hD : H D = some (.dK l)) : ItsAt (upd H D (.dK l')) xs row := ⟨h.1, fun i x t a b => (h.2 i x t a b).upK hD⟩
/-- one row is put anew -/
theorem RwL.put {regs sg : List Str} {l : Nat} {tg : Str → Str} {dn : List Str} {H : Hp} {rd a : Addr} {n : Str} {kvs : List (Key × V)} {xs : List V} {row : List Itm} (h1 : H rd = some (.dK kvs)) (h2 : kvs.map (·.1) = regs.map Sum.inr)
    (h3 : ∀ m v, m ≠ n → (Sum.inr m, v) ∈ kvs → ∃ a xs row, v = .ref a ∧ H a = some (.lst xs) ∧ ItsAt H xs row ∧ RowOkD regs sg l row ∧ RowL tg dn m row) (hn : n ∈ regs) (ha : H a = some (.lst xs)) (hx : ItsAt H xs row) (hr : RowOkD regs sg l row ∧ RowL tg dn n row) : RwL regs sg l tg dn (upd H rd (.dK (putK kvs (.inr n) (.ref a)))) rd := by
  have hm : (Sum.inr n : Key) ∈ kvs.map (·.1) := by rw [h2]; exact List.mem_map_of_mem hn
  have ne : ∀ {b : Addr} {ys : List V}, H b = some (.lst ys) → b ≠ rd := fun hb z => by
    subst z
    rw [hb] at h1
    cases h1
  refine ⟨_, upd_same, by rw [putK_keys hm, h2], fun m v hmv => ?_⟩
  rcases putK_mem hm hmv with ⟨e1, rfl⟩ | ⟨e1, e2⟩
  · cases e1
    exact ⟨a, xs, row, rfl, by rw [upd_ne (ne ha)]; exact ha, hx.upK h1, hr⟩
  · obtain ⟨b, ys, row', q1, q2, q3, q4⟩ := h3 m v (fun z => e1 (by rw [z])) e2
    exact ⟨b, ys, row', q1, by rw [upd_ne (ne q2)]; exact q2, q3.upK h1, q4⟩
theorem valV_uniq {κ : Type} [DecidableEq κ] {kvs : List (κ × V)} {k : κ} {v : V} (hn : (kvs.map (·.1)).Nodup) (h : (k, v) ∈ kvs) : valV kvs k = some v := by
  obtain ⟨v', hv, hm⟩ := valV_of h
  obtain ⟨i, hi⟩ := List.mem_iff_getElem?.mp h
  obtain ⟨j, hj⟩ := List.mem_iff_getElem?.mp hm
  have a : (kvs.map (·.1))[i]? = some k := by rw [List.getElem?_map, hi]; rfl
  have b : (kvs.map (·.1))[j]? = some k := by rw [List.getElem?_map, hj]; rfl
  have := nodup_ix' hn a b
  subst this
  rw [hi] at hj
  cases hj
  exact hv
/-- for each key some row: one function -/
theorem rows_fun {kvs : List (Key × V)} (hn : (kvs.map (·.1)).Nodup) {Q : V → List Itm → Prop} (h : ∀ n v, (Sum.inr n, v) ∈ kvs → ∃ row, Q v row) : ∃ R : Str → List Itm, ∀ n v, (Sum.inr n, v) ∈ kvs → Q v (R n) := by
  classical
  refine ⟨fun n => if z : ∃ row, ∀ v, valV kvs (.inr n) = some v → Q v row then z.choose else [], fun n v m => ?_⟩
  have z : ∃ row, ∀ v, valV kvs (.inr n) = some v → Q v row := by
    obtain ⟨row, hq⟩ := h n v m
    refine ⟨row, fun v' hv' => ?_⟩
    rw [valV_uniq hn m] at hv'
    cases hv'
    exact hq
  show Q v (if z : ∃ row, ∀ v, valV kvs (.inr n) = some v → Q v row then z.choose else [])
  rw [dif_pos z]
  exact z.choose_spec v (valV_uniq hn m)
theorem rows_funN {kvs : List (Key × V)} (hn : (kvs.map (·.1)).Nodup) {Q : Str → V → List Itm → Prop} (h : ∀ n v, (Sum.inr n, v) ∈ kvs → ∃ row, Q n v row) : ∃ R : Str → List Itm, ∀ n v, (Sum.inr n, v) ∈ kvs → Q n v (R n) := by
  classical
  refine ⟨fun n => if z : ∃ row, ∀ v, valV kvs (.inr n) = some v → Q n v row then z.choose else [], fun n v m => ?_⟩
  have z : ∃ row, ∀ v, valV kvs (.inr n) = some v → Q n v row := by
    obtain ⟨row, hq⟩ := h n v m
    refine ⟨row, fun v' hv' => ?_⟩
    rw [valV_uniq hn m] at hv'
    cases hv'
    exact hq
  show Q n v (if z : ∃ row, ∀ v, valV kvs (.inr n) = some v → Q n v row then z.choose else [])
  rw [dif_pos z]
  exact z.choose_spec v (valV_uniq hn m)
/-- z: an address to keep away from -/
def sp_law_rows (K : PySem.W.Frag) : Sp := spE (fun (x : Addr × Addr × Addr × List Str × List Str × Addr) vs H => vs = [.ref x.1, .ref x.2.1, .ref x.2.2.1] ∧ DrAt K H x.1 ∧ H x.2.1 = some (.lst (x.2.2.2.1.map V.str)) ∧ H x.2.2.1 = some (.lst (x.2.2.2.2.1.map V.str)) ∧ x.2.2.2.1.Nodup ∧ x.2.2.2.1.length ≤ 10 ∧ x.2.2.2.2.1.length ≤ 10 ∧ ∃ o, H x.2.2.2.2.2 = some o)
  (fun x v H => ∃ r R, v = .ref r ∧ RowsN x.2.2.2.1 R H r ∧ RowsLin x.2.2.2.1 ("" :: "" :: x.2.2.2.2.1) R ∧ r ≠ x.2.2.2.2.2)
end KX
end
section
set_option Elab.async false
set_option linter.all false
set_option maxRecDepth 100000
set_option maxHeartbeats 8000000
/-! Bs16: _law_rows, _law_end. -/
namespace KX
open PySem PySem.Spec PyProof.Rows L2 Evl
theorem nil_okD {regs sg : List Str} : RowOkD regs sg 0 [] := ⟨Nat.le_refl _, fun t h => by cases h⟩
theorem one_r {regs sg : List Str} {n : Str} (h : n ∈ regs) : RowOkD regs sg 1 [.r n] := ⟨Nat.le_refl _, fun t ht => by
  rw [List.mem_singleton.mp ht]
  exact h⟩
theorem one_t {regs sg : List Str} {s : Str} (h : s ∈ sg) : RowOkD regs sg 1 [.t s] := ⟨Nat.le_refl _, fun t ht => by
  rw [List.mem_singleton.mp ht]
  exact h⟩
/-- a new list of what is given -/
theorem new_lst {σ : L2.St} {H : Hp} {ta : TA} {Pa : List V → Hp → Prop} (h : EvPA ta σ H Pa) (hz : ∀ vs H2, Pa vs H2 → vs.length ≤ 1000) (hP : ∀ vs H H', Ex H H' → Pa vs H → Pa vs H') : New (tLst ta) σ H (fun o H2 => ∃ vs, o = .lst vs ∧ Pa vs H2) := fun H1 e Q q =>
  h H1 e _ fun vs H2 e2 p => ⟨sz_of (Nat.le_trans (hz vs H2 p) (by decide)), fun l hl => q l _ _ (fresh_back e2 hl) (e2.trans (Ex.new hl)) upd_same ⟨vs, rfl, hP vs H2 _ (Ex.new hl) p⟩⟩
/-- the list [(name,)], [text] -/
theorem new_one {σ : L2.St} {H : Hp} {i : Nat} {n : Str} (h : σ[i]? = some (some (.str n))) : EvP (tLst (tCons (tTup (tCons (tVar i) tNil)) tNil)) σ H (fun v H2 => ∃ a xs, v = .ref a ∧ H2 a = some (.lst xs) ∧ ItsAt H2 xs [.r n]) :=
  (new_lst (pa1 (Pr := fun vs _ => vs = []) (P := fun v H2 => ∃ b, v = .ref b ∧ H2 b = some (.tup [.str n])) (fun v H H' e ⟨b, h1, h2⟩ => ⟨b, h1, e _ _ h2⟩) (((New.ofU (eu_tup (ea_cons (ev_var h) ea_nil) (by show 1 ≤ 100000; decide))).evP).imp fun v H2 _ ⟨p, o, h1, h2, h3⟩ => ⟨p, h1, by rw [h2, h3]⟩) pa0) (fun vs H2 ⟨v, r, h1, h2, h3⟩ => by rw [h1, h3]; show 1 ≤ 1000; decide) (fun vs H H' e ⟨v, r, h1, ⟨b, h2, h3⟩, h4⟩ => ⟨v, r, h1, ⟨b, h2, e _ _ h3⟩, h4⟩)).evP.imp
    fun v H2 _ ⟨p, o, h1, h2, vs, h3, y, r, h4, ⟨b, h5, h6⟩, h7⟩ => ⟨p, [.ref b], h1, by rw [h2, h3, h4, h5, h7], ItsAt.one ⟨b, rfl, h6⟩⟩
theorem new_oneT {σ : L2.St} {H : Hp} {i : Nat} {s : Str} (h : σ[i]? = some (some (.str s))) : EvP (tLst (tCons (tVar i) tNil)) σ H (fun v H2 => ∃ a xs, v = .ref a ∧ H2 a = some (.lst xs) ∧ ItsAt H2 xs [.t s]) := fun H1 e Q q =>
  (el_lst (ea_cons (ev_var (H := H) h) ea_nil) (by show 1 ≤ 100000; decide)) H1 e _ fun b H2 hb e2 h2 => q (.ref b) _ e2 ⟨b, [.str s], rfl, h2, ItsAt.one rfl⟩
def sp_law_end (K : PySem.W.Frag) : Sp := spE (fun (x : Addr × Addr × Addr × List Str × List Str) vs H => vs = [.ref x.1, .ref x.2.1, .ref x.2.2.1] ∧ DrAt K H x.1 ∧ H x.2.1 = some (.lst (x.2.2.2.1.map V.str)) ∧ H x.2.2.1 = some (.lst (x.2.2.2.2.map V.str)) ∧ x.2.2.2.1.length ≤ 10 ∧ x.2.2.2.2.length ≤ 10)
  (fun x v H => ∃ a row, v = .ref a ∧ RowAt H a row ∧ RowOkD x.2.2.2.1 ("" :: "" :: x.2.2.2.2) (x.2.2.2.1.length + 1) row)
/-- tuple(a list) -/
theorem ep_tupL {K : PySem.W.Frag} {σ : L2.St} {H : Hp} {te : TE} {Pv : List V → Hp → Prop} (h : EvP te σ H (fun v H2 => ∃ a xs, v = .ref a ∧ H2 a = some (.lst xs) ∧ Pv xs H2)) (hP : ∀ xs H H', Ex H H' → Pv xs H → Pv xs H') : EvP (tCB (rTupOf K) (tCons te tNil)) σ H (fun v H2 => ∃ c xs, v = .ref c ∧ H2 c = some (.tup xs) ∧ Pv xs H2) := fun H1 e Q q =>
  h H1 e _ fun v H2 e2 ⟨a, xs, ev, h1, p⟩ => ⟨a, xs, by rw [ev], .inl ⟨sq_of h1, fun c hc => q (.ref c) _ (e2.trans (Ex.new hc)) ⟨c, xs, rfl, upd_same, hP _ _ _ (Ex.new hc) p⟩⟩⟩
section
variable {P : Program} {w : World} {K : PySem.W.Frag} {mg : Str → Option Value} {base : Heap} {C : Addr} {f : Addr} {fd : FuncData}
theorem ok_law_rows (F : Fun K "_law_rows" "_law_rows" s_law_rows f fd) (Z : Zs mg C) (G_law_next : Has P w K mg base "_law_next" 3 ["draw", "bound"] (sp_law_next K)) (G_law_pick : Has P w K mg base "_law_pick" 4 ["draw", "things"] (sp_law_pick K)) :
    FnOk P w K mg base CX0 5 f fd ["draw", "registers", "signs"] (sp_law_rows K) := by
  refine F.ok sc_law_rows (fun vs H Q E h => ?_) (fun cdv A outer s H vs Q E hr h => ?_)
  · obtain ⟨i, ⟨rfl, _⟩, _⟩ := h
    rfl
  · obtain ⟨⟨d, ra, sa, regs, signs, za⟩, ⟨rfl, hD, hra, hsa, hN, h10, hs10, zo, hza⟩, k⟩ := h
    dsimp only at hD hra hsa hN h10 hs10 hza
    have k : ∀ v H', Ex H H' → (∃ r R, v = .ref r ∧ RowsN regs R H' r ∧ RowsLin regs ("" :: "" :: signs) R ∧ r ≠ za) → Q v H' := k
    have hu := hu_of hr
    have hu64 := hr.units
    have hu0 := Nat.lt_of_succ_lt hu
    refine ⟨_, (pss_cons (ps_set (i := 4) sc_law_rows.nd rfl (Or.inr rfl) (pe_callTy (call_dictP rfl) (by rfl) Z.z_dict (by decide +kernel) (pa_cons (pe_lc (own := [(("name" : Str), 3)]) (g := gName 3) rfl sc_law_rows.nd (pi_list (pv 1)) (blkOk_by (own := [(("name" : Str), 3)]) (N := n_law_rows) (sc := defScope s_law_rows) (by decide +kernel)) (fun _ _ _ _ _ => (pg_name (i := 3) sc_law_rows.nd rfl (Or.inl rfl))) (fun _ _ _ _ _ => pts_nil) (fun _ _ _ _ _ => (pe_tup (pa_cons (pv 3) (pa_cons (pe_lst pa_nil) pa_nil))))) pa_nil))) 
    (pss_cons (ps_for PassesOwn.never rfl (pi_list (pv 1)) (pg_name (i := 3) sc_law_rows.nd rfl (Or.inl rfl)) 
     (pss_one (ps_if (pt_cmpR op_gt (pe_use G_law_next (hr.mono (by decide)) (pa_cons (pv 0) (pa_cons pe_int pa_nil))) pe_int (nomark _)) 
      (pss_cons (ps_set (i := 5) sc_law_rows.nd rfl (Or.inl rfl) (pe_ifExp (pt_cmpR op_gt (pe_use G_law_next (hr.mono (by decide)) (pa_cons (pv 0) (pa_cons pe_int pa_nil))) pe_int (nomark _)) (pv 3) (pe_use G_law_pick (hr.mono (by decide)) (pa_cons (pv 0) (pa_cons (pv 1) pa_nil))))) 
      (pss_one (ps_dput hu (pv 4) (pv 5) (pe_ifExp (pt_cmpR op_eq (pe_use G_law_next (hr.mono (by decide)) (pa_cons (pv 0) (pa_cons pe_int pa_nil))) pe_int (nomark _)) (pe_op op_cat (pe_dget hu (pv 4) (pv 5) (fun _ _ => rfl)) (pe_lst (pa_cons (pe_tup (pa_cons (pv 3) pa_nil)) pa_nil))) (pe_op op_cat (pe_lst (pa_cons (pe_tup (pa_cons (pv 3) pa_nil)) pa_nil)) (pe_dget hu (pv 4) (pv 5) (fun _ _ => rfl)))) rfl))) pss_nil))) 
    (pss_cons (ps_for PassesOwn.never rfl (pi_list (pv 1)) (pg_name (i := 3) sc_law_rows.nd rfl (Or.inl rfl)) 
     (pss_cons (ps_set (i := 6) sc_law_rows.nd rfl (Or.inl rfl) (pe_use G_law_pick (hr.mono (by decide)) (pa_cons (pv 0) (pa_cons (pe_op op_cat (pe_lst (pa_cons pe_str (pa_cons pe_str pa_nil))) (pv 2)) pa_nil)))) 
     (pss_one (ps_dput hu (pv 4) (pv 3) (pe_ifExp (pt_cmpR op_eq (pe_use G_law_next (hr.mono (by decide)) (pa_cons (pv 0) (pa_cons pe_int pa_nil))) pe_int (nomark _)) (pe_op op_cat (pe_lst (pa_cons (pv 6) pa_nil)) (pe_dget hu (pv 4) (pv 3) (fun _ _ => rfl))) (pe_op op_cat (pe_dget hu (pv 4) (pv 3) (fun _ _ => rfl)) (pe_lst (pa_cons (pv 6) pa_nil)))) rfl)))) 
    (pss_one (ps_ret (pe_callTy (call_dictP rfl) (by rfl) Z.z_dict (by decide +kernel) (pa_cons (pe_lc (own := [(("name" : Str), 3)]) (g := gName 3) rfl sc_law_rows.nd (pi_list (pv 1)) (blkOk_by (own := [(("name" : Str), 3)]) (N := n_law_rows) (sc := defScope s_law_rows) (by decide +kernel)) (fun _ _ _ _ _ => (pg_name (i := 3) sc_law_rows.nd rfl (Or.inl rfl))) (fun _ _ _ _ _ => pts_nil) (fun _ _ _ _ _ => (pe_tup (pa_cons (pv 3) (pa_cons (pe_callTy (cTup (K := K)) (by rfl) Z.z_tuple (by decide +kernel) (pa_cons (pe_dget hu (pv 4) (pv 3) (fun _ _ => rfl)) pa_nil)) pa_nil))))) pa_nil))))))), ?_⟩
    have hNk : (regs.map (Sum.inr : Str → Key)).Nodup := List.Pairwise.map Sum.inr (fun a b h q => h (Sum.inr.inj q)) hN
    have hll : (regs.map V.str).length = regs.length := List.length_map _
    have at_str : ∀ {i : Nat} {x : V}, (regs.map V.str)[i]? = some x → ∃ n, regs[i]? = some n ∧ x = .str n ∧ n ∈ regs := fun {i x} h => by
      rw [List.getElem?_map] at h
      cases hr : regs[i]? with
      | none => rw [hr] at h; cases h
      | some n =>
        rw [hr] at h
        exact ⟨n, rfl, (Option.some.inj h).symm, List.mem_of_getElem? hr⟩
    -- rows = dict([(name, []) ..])
    refine q_new (new_dictP (K := K) hNk (Q := fun _ v H => ∃ l, v = .ref l ∧ H l = some (.lst [])) (fun i v H H' e ⟨l, a, b⟩ => ⟨l, a, e _ _ b⟩) ((new_lcD (src_list (K := K) (ev_var rfl) (sq_of hra)) (by omega) (fun x => rfl)
      (fun D i x H => ∃ n b l, regs[i]? = some n ∧ x = .ref b ∧ H b = some (.tup [.str n, .ref l]) ∧ H l = some (.lst []) ∧ l ≠ D) (fun D i x H H' e ⟨n, b, l, h1, h2, h3, h4, h5⟩ => ⟨n, b, l, h1, h2, e _ _ h3, e _ _ h4, h5⟩)
      (fun D i x H l l' hD ⟨n, b, l0, h1, h2, h3, h4, h5⟩ => ⟨n, b, l0, h1, h2, by rw [upd_ne (show b ≠ D from fun z => by subst z; rw [h3] at hD; cases hD)]; exact h3, by rw [upd_ne h5]; exact h4, h5⟩) ?_).imp fun o H2 _ ⟨D, xs, h1, h2, h3⟩ => ⟨xs, h1, by rw [h2, hll, List.length_map], fun i x hx kk hk => ?_⟩)) fun rd o H1 hrd e1 h1 ⟨kvs, n1, hk, hv⟩ => ?_
    · intro D l0 i x H' e hDl hD0 hi hx
      obtain ⟨n, hn, rfl, _⟩ := at_str hx
      have eL : EvP (tLst tNil) [some (.ref d), some (.ref ra), some (.ref sa), some (.str n), none, none, none] H' (fun v H => ∃ l, v = .ref l ∧ H l = some (.lst []) ∧ l ≠ D) := fun H2 e2 Q q => (el_lst ea_nil (Nat.zero_le _)) H2 (Ex.refl H2) _ fun l H4 hl e4 h4 => q (.ref l) H4 e4 ⟨l, rfl, h4, fun z => by
        subst z
        rw [e2 _ _ hDl] at hl
        cases hl⟩
      exact ((new_tup (pa1 (P := fun v _ => v = .str n) (fun _ _ _ _ h => h) (EvP.of (ev_var rfl)) (pa1 (Pr := fun vs _ => vs = []) (fun v H H' e ⟨l, h1, h2, h3⟩ => ⟨l, h1, e _ _ h2, h3⟩) eL pa0)) (fun vs H2 ⟨v, r, h1, h2, v', r', h3, h4, h5⟩ => by rw [h1, h3, h5]; show 2 ≤ 1000; decide)
        (fun vs H H' e ⟨v, r, h1, h2, v', r', h3, ⟨l, h4, h6, h7⟩, h5⟩ => ⟨v, r, h1, h2, v', r', h3, ⟨l, h4, e _ _ h6, h7⟩, h5⟩)).evP).imp fun v H2 _ ⟨b, o, h1, h2, vs, h3, v1, r1, h4, h5, v2, r2, h6, ⟨l, h7, h8, h9⟩, h10⟩ => ⟨n, b, l, hn, h1, by rw [h2, h3, h4, h5, h6, h7, h10], h8, h9⟩
    · obtain ⟨n, b, l, g1, g2, g3, g4, _⟩ := h3 i x hx
      rw [List.getElem?_map, g1] at hk
      cases hk
      exact ⟨b, _, g2, g3, l, rfl, g4⟩
    subst n1
    have R0 : RwL regs ("" :: "" :: signs) 0 (fun y => y) (regs.take 0) H1 rd := ⟨kvs, h1, hk, fun n v m => by
      obtain ⟨i, hi⟩ := List.mem_iff_getElem?.mp m
      obtain ⟨l, rfl, hl⟩ := hv i _ hi
      exact ⟨l, [], [], rfl, hl, ItsAt.nil, nil_okD, List.nodup_nil, fun m hm => by cases hm⟩⟩
    have nRd : ∀ {x : Addr} {o : HO}, H x = some o → x ≠ rd := fun h z => by
      subst z
      rw [hrd] at h
      cases h
    -- the invariant of both loops
    let Iv : Nat → Hp → Prop := fun m H' => Ex H H' ∧ ∃ tg, RwL regs ("" :: "" :: signs) m tg (regs.take m) H' rd
    have tkS : ∀ (m : Nat) (y : Str), y ∈ regs.take m → y ∈ regs.take (m + 1) := fun m y hy => by
      rw [List.take_succ]
      exact List.mem_append_left _ hy
    have tkN : ∀ {m : Nat} {y : Str}, regs[m]? = some y → y ∉ regs.take m ∧ y ∈ regs.take (m + 1) := fun {m y} hy => by
      constructor
      · intro z
        obtain ⟨j, hj⟩ := List.mem_iff_getElem?.mp z
        have hjm : j < m := by
          have := (List.getElem?_eq_some_iff.mp hj).1
          rw [List.length_take] at this
          omega
        rw [List.getElem?_take_of_lt hjm] at hj
        have := nodup_ix' hN hj hy
        omega
      · rw [List.take_succ, hy]
        exact List.mem_append_right _ (List.mem_singleton.mpr rfl)
    have turn : ∀ {m : Nat} {H2 H3 : Hp} {l : Addr} {kvs : List (Key × V)} {n nm : Str} {tg : Str → Str} {xs : List V} {row : List Itm}, Ex H H2 → H2 rd = some (.dK kvs) → kvs.map (·.1) = regs.map Sum.inr → (∀ n v, (Sum.inr n, v) ∈ kvs → ∃ a xs row, v = .ref a ∧ H2 a = some (.lst xs) ∧ ItsAt H2 xs row ∧ RowOkD regs ("" :: "" :: signs) m row ∧ RowL tg (regs.take m) n row) → Ex H2 H3 → regs[m]? = some nm → n ∈ regs → H3 l = some (.lst xs) → ItsAt H3 xs row → RowOkD regs ("" :: "" :: signs) (m + 1) row → RowL (tgP tg nm n) (regs.take (m + 1)) n row →
        Iv (m + 1) (upd H3 rd (.dK (putK kvs (.inr n) (.ref l)))) := fun {m H2 H3 l kvs n nm tg xs row} I hk1 hk2 hk3 e hnm hn hl hx hrow hrl => ⟨Ex.mut (I.trans e) hrd, tgP tg nm n, RwL.put (e _ _ hk1) hk2 (fun m' v _ hm => by
      obtain ⟨a, ys, row', q1, q2, q3, q4, q5⟩ := hk3 m' v hm
      exact ⟨a, ys, row', q1, e _ _ q2, q3.le (Le.ex e), q4.up (Nat.le_succ _), q5.other (tkS m) (tkN hnm).1⟩) hn hl hx ⟨hrow, hrl⟩⟩
    refine q_forL (K := K) (ev_var rfl) (sq_of (e1 _ _ hra)) (fun i σ' H' => Iv i H' ∧ ∃ v3 v5, σ' = [some (.ref d), some (.ref ra), some (.ref sa), v3, some (.ref rd), v5, none]) (fun H2 e2 => ⟨⟨e1.trans e2, _, R0.ex e2⟩, none, none, rfl⟩) (fun i σ' H' _ h => sq_of (h.1.1 _ _ hra)) ?_ ?_
    · rintro i x σ' H' hx ⟨I, v3, v5, rfl⟩
      obtain ⟨n, hn, rfl, hnr⟩ := at_str hx
      have hDr := hD.ex I.1
      refine s_ifA (eta_I (g := fun i j => decide (j < i)) (ep_nextI (ev_var rfl) ev_c hDr (by decide)) ev_c) (fun H2 e2 => ?_) (fun H2 e2 => ⟨⟨I.1.trans e2, I.2.imp fun tg h => (h.ex e2).up (Nat.le_succ _) (tkS _)⟩, some (.str n), v5, rfl⟩)
      have I2 : Iv i H2 := ⟨I.1.trans e2, I.2.imp fun tg h => h.ex e2⟩
      refine q_asgP (Pv := fun v _ => ∃ t, v = .str t ∧ t ∈ regs) (ep_ifA (eta_I (g := fun i j => decide (j < i)) (ep_nextI (ev_var rfl) ev_c (hD.ex I2.1) (by decide)) ev_c) ((EvP.of (ev_var rfl)).imp fun v _ _ hv => ⟨n, hv, hnr⟩) ((ep_pick (K := K) (xs := regs.map V.str) (ev_var rfl) ((EvP.of (ev_var (v := .ref ra) rfl)).imp fun v H3 e3 hv => ⟨ra, hv, sq_of (e3 _ _ (I2.1 _ _ hra))⟩) (hD.ex I2.1) (by intro z; rw [List.map_eq_nil_iff.mp z] at hnr; cases hnr)).imp fun v _ _ hv => ?_)) fun v H3 e3 p => ?_
      · obtain ⟨t, ht, rfl⟩ := List.mem_map.mp hv
        exact ⟨t, rfl, ht⟩
      · obtain ⟨t, rfl, ht⟩ := p
        have I3 : Iv i H3 := ⟨I2.1.trans e3, I2.2.imp fun tg h => h.ex e3⟩
        obtain ⟨tg, kv3, g1, g2, g3⟩ := id I3.2
        obtain ⟨v0, hv0, hm0⟩ := valV_key (kvs := kv3) (k := .inr t) (by rw [g2]; exact List.mem_map_of_mem ht)
        obtain ⟨a0, xs0, row0, rfl, q2, q3, q4, q4L⟩ := g3 t v0 hm0
        have hget : ∀ H4, Ex H3 H4 → EvP (tDGet (tVar 4) (tVar 5)) [some (.ref d), some (.ref ra), some (.ref sa), some (.str n), some (.ref rd), some (.str t), none] H4 (fun v H2 => ∃ a xs, v = .ref a ∧ H2 a = some (.lst xs) ∧ (ItsAt H2 xs row0 ∧ xs.length = row0.length)) := fun H4 e4 => (EvP.of (ev_get (ev_var rfl) (ev_var rfl) (k := .inr t) rfl (.inl (e4 _ _ g1)) hv0)).imp fun v H5 e5 hv => ⟨a0, xs0, hv, (e4.trans e5) _ _ q2, q3.le (Le.ex (e4.trans e5)), q3.1⟩
        have hone : ∀ H4, Ex H3 H4 → EvP (tLst (tCons (tTup (tCons (tVar 3) tNil)) tNil)) [some (.ref d), some (.ref ra), some (.ref sa), some (.str n), some (.ref rd), some (.str t), none] H4 (fun v H2 => ∃ a xs, v = .ref a ∧ H2 a = some (.lst xs) ∧ (ItsAt H2 xs [.r n] ∧ xs.length = 1)) := fun H4 e4 => (new_one rfl).imp fun v H5 _ ⟨a, xs, h1, h2, h3⟩ => ⟨a, xs, h1, h2, h3, h3.1⟩
        have hr0 : row0.length ≤ 1000 := Nat.le_trans q4.1 (by
          have : i < regs.length := (List.getElem?_eq_some_iff.mp hn).1
          omega)
        have stab : ∀ (row : List Itm) (m : Nat) (xs : List V) (H H' : Hp), Ex H H' → (ItsAt H xs row ∧ xs.length = m) → (ItsAt H' xs row ∧ xs.length = m) := fun row m xs H H' e h => ⟨h.1.le (Le.ex e), h.2⟩
        refine s_dput (Pv := fun v H => ∃ l xs row, v = .ref l ∧ H l = some (.lst xs) ∧ ItsAt H xs row ∧ RowOkD regs ("" :: "" :: signs) (i + 1) row ∧ RowL (tgP tg n t) (regs.take (i + 1)) t row) g1 ((New.evP (new_ifA (N := fun o H => ∃ xs row, o = .lst xs ∧ ItsAt H xs row ∧ RowOkD regs ("" :: "" :: signs) (i + 1) row ∧ RowL (tgP tg n t) (regs.take (i + 1)) t row) (eta_E (ep_nextI (ev_var rfl) ev_c (hD.ex I3.1) (by decide)) ev_c)
          ((new_cat (Pa := fun xs H => ItsAt H xs row0 ∧ xs.length = row0.length) (Pb := fun xs H => ItsAt H xs [.r n] ∧ xs.length = 1) (hget H3 (Ex.refl H3)) hone (stab _ _) (stab _ _) (fun xs ys _ _ h1 h2 => by omega)).imp fun o H4 _ ⟨xs, ys, h1, h2, h3⟩ => ⟨_, _, h1, h2.1.append h3.1, q4.app (one_r hnr), q4L.here (tkS i) (tkN hn).1 (tkN hn).2 (.inl rfl)⟩)
          ((new_cat (Pa := fun xs H => ItsAt H xs [.r n] ∧ xs.length = 1) (Pb := fun xs H => ItsAt H xs row0 ∧ xs.length = row0.length) (hone H3 (Ex.refl H3)) hget (stab _ _) (stab _ _) (fun xs ys _ _ h1 h2 => by omega)).imp fun o H4 _ ⟨xs, ys, h1, h2, h3⟩ => ⟨_, _, h1, h2.1.append h3.1, ((one_r hnr).app q4).up (by omega), q4L.here (tkS i) (tkN hn).1 (tkN hn).2 (.inr rfl)⟩))).imp fun v H4 _ ⟨p, o, h1, h2, xs, row, h3, h4, h5⟩ => ⟨p, xs, row, h1, by rw [h2, h3], h4, h5⟩)
          (ev_var rfl) (ev_var rfl) (k := .inr t) rfl (by
            have := congrArg List.length g2
            rw [List.length_map, List.length_map] at this
            omega) (fun v H4 e4 ⟨l, xs, row, q1, q2, q3, q5⟩ _ => ?_) (fun v H H' e ⟨l, xs, row, h1, h2, h3, h4⟩ => ⟨l, xs, row, h1, e _ _ h2, h3.le (Le.ex e), h4⟩)
        subst q1
        exact ⟨turn I3.1 g1 g2 g3 e4 hn ht q2 q3 q5.1 q5.2, some (.str n), some (.str t), rfl⟩
    · rintro σ' H' ⟨I, v3, v5, rfl⟩
      rw [hll] at I
      obtain ⟨tg, I2⟩ := I.2
      rw [List.take_of_length_le (Nat.le_refl _)] at I2
      -- the second loop: a row is as long as names and one more where its text is in
      refine q_forL (K := K) (ev_var rfl) (sq_of (I.1 _ _ hra)) (fun i σ' H' => (Ex H H' ∧ ∃ kvs : List (Key × V), H' rd = some (.dK kvs) ∧ kvs.map (·.1) = regs.map Sum.inr ∧ ∀ n v, (Sum.inr n, v) ∈ kvs → ∃ a xs row, v = .ref a ∧ H' a = some (.lst xs) ∧ ItsAt H' xs row ∧ RowOkD regs ("" :: "" :: signs) (regs.length + 1) row ∧ ((∃ j, i ≤ j ∧ regs[j]? = some n) → row.length ≤ regs.length) ∧ RowL tg regs n row) ∧ ∃ v3 v6, σ' = [some (.ref d), some (.ref ra), some (.ref sa), v3, some (.ref rd), v5, v6]) (fun H2 e2 => ?_) (fun i σ' H' _ h => sq_of (h.1.1 _ _ hra)) ?_ ?_
      · refine ⟨⟨I.1.trans e2, ?_⟩, v3, none, rfl⟩
        obtain ⟨kv, g1, g2, g3⟩ := I2.ex e2
        refine ⟨kv, g1, g2, fun n v m => ?_⟩
        obtain ⟨a, xs, row, q1, q2, q3, q4, q5⟩ := g3 n v m
        exact ⟨a, xs, row, q1, q2, q3, q4.up (Nat.le_succ _), fun _ => q4.1, q5⟩
      · rintro i x σ' H2 hx ⟨⟨ex, kv, g1, g2, g3⟩, v3, v6, rfl⟩
        obtain ⟨n, hn, rfl, hnr⟩ := at_str hx
        refine q_asgP (Pv := fun v _ => ∃ t, v = .str t ∧ t ∈ (("" : Str) :: "" :: signs)) ((ep_pick (K := K) (xs := (("" : Str) :: "" :: signs).map V.str) (ev_var rfl) (((New.evP (new_cat (Pa := fun xs _ => xs = [.str "", .str ""]) (Pb := fun xs _ => xs = signs.map V.str) (((New.ofL (el_lst (ea_cons ev_c (ea_cons ev_c ea_nil)) (by show 2 ≤ 100000; decide))).evP).imp fun v H3 _ ⟨p, o, h1, h2, h3⟩ => ⟨p, _, h1, by rw [h2, h3], rfl⟩) (fun H3 e3 => (EvP.of (ev_var rfl)).imp fun v H4 e4 hv => ⟨sa, _, hv, ((ex.trans e3).trans e4) _ _ hsa, rfl⟩) (fun _ _ _ _ h => h) (fun _ _ _ _ h => h) (fun xs ys _ _ h1 h2 => by rw [h1, h2, List.length_map]; show 2 + signs.length ≤ 100000; omega)))).imp fun v H3 _ ⟨p, o, h1, h2, xs, ys, h3, h4, h5⟩ => ⟨p, h1, sq_of (by rw [h2, h3, h4, h5]; rfl)⟩) (hD.ex ex) (by intro z; cases z)).imp fun v _ _ hv => ?_) fun v H3 e3 p => ?_
        · obtain ⟨t, ht, rfl⟩ := List.mem_map.mp hv
          exact ⟨t, rfl, ht⟩
        · obtain ⟨t, rfl, ht⟩ := p
          have ex3 := ex.trans e3
          obtain ⟨v0, hv0, hm0⟩ := valV_key (kvs := kv) (k := .inr n) (by rw [g2]; exact List.mem_map_of_mem hnr)
          obtain ⟨a0, xs0, row0, rfl, q2, q3, q4, q5, q6⟩ := g3 n v0 hm0
          have hlen0 := q5 ⟨i, Nat.le_refl _, hn⟩
          have hget : ∀ H4, Ex H3 H4 → EvP (tDGet (tVar 4) (tVar 3)) [some (.ref d), some (.ref ra), some (.ref sa), some (.str n), some (.ref rd), v5, some (.str t)] H4 (fun v H2 => ∃ a xs, v = .ref a ∧ H2 a = some (.lst xs) ∧ (ItsAt H2 xs row0 ∧ xs.length = row0.length)) := fun H4 e4 => (EvP.of (ev_get (ev_var rfl) (ev_var rfl) (k := .inr n) rfl (.inl ((e3.trans e4) _ _ g1)) hv0)).imp fun v H5 e5 hv => ⟨a0, xs0, hv, ((e3.trans e4).trans e5) _ _ q2, q3.le (Le.ex ((e3.trans e4).trans e5)), q3.1⟩
          have hone : ∀ H4, Ex H3 H4 → EvP (tLst (tCons (tVar 6) tNil)) [some (.ref d), some (.ref ra), some (.ref sa), some (.str n), some (.ref rd), v5, some (.str t)] H4 (fun v H2 => ∃ a xs, v = .ref a ∧ H2 a = some (.lst xs) ∧ (ItsAt H2 xs [.t t] ∧ xs.length = 1)) := fun H4 e4 => (new_oneT rfl).imp fun v H5 _ ⟨a, xs, h1, h2, h3⟩ => ⟨a, xs, h1, h2, h3, h3.1⟩
          have stab : ∀ (row : List Itm) (m : Nat) (xs : List V) (H H' : Hp), Ex H H' → (ItsAt H xs row ∧ xs.length = m) → (ItsAt H' xs row ∧ xs.length = m) := fun row m xs H H' e h => ⟨h.1.le (Le.ex e), h.2⟩
          have q4' : RowOkD regs ("" :: "" :: signs) regs.length row0 := ⟨hlen0, q4.2⟩
          refine s_dput (Pv := fun v H => ∃ l xs row, v = .ref l ∧ H l = some (.lst xs) ∧ ItsAt H xs row ∧ RowOkD regs ("" :: "" :: signs) (regs.length + 1) row ∧ RowL tg regs n row) (e3 _ _ g1) ((New.evP (new_ifA (N := fun o H => ∃ xs row, o = .lst xs ∧ ItsAt H xs row ∧ RowOkD regs ("" :: "" :: signs) (regs.length + 1) row ∧ RowL tg regs n row) (eta_E (ep_nextI (ev_var rfl) ev_c (hD.ex ex3) (by decide)) ev_c)
            ((new_cat (Pa := fun xs H => ItsAt H xs [.t t] ∧ xs.length = 1) (Pb := fun xs H => ItsAt H xs row0 ∧ xs.length = row0.length) (hone H3 (Ex.refl H3)) hget (stab _ _) (stab _ _) (fun xs ys _ _ h1 h2 => by omega)).imp fun o H4 _ ⟨xs, ys, h1, h2, h3⟩ => ⟨_, _, h1, h2.1.append h3.1, ((one_t ht).app q4').up (by omega), q6.text (.inr rfl)⟩)
            ((new_cat (Pa := fun xs H => ItsAt H xs row0 ∧ xs.length = row0.length) (Pb := fun xs H => ItsAt H xs [.t t] ∧ xs.length = 1) (hget H3 (Ex.refl H3)) hone (stab _ _) (stab _ _) (fun xs ys _ _ h1 h2 => by omega)).imp fun o H4 _ ⟨xs, ys, h1, h2, h3⟩ => ⟨_, _, h1, h2.1.append h3.1, q4'.app (one_t ht), q6.text (.inl rfl)⟩))).imp fun v H4 _ ⟨p, o, h1, h2, xs, row, h3, h4, h5⟩ => ⟨p, xs, row, h1, by rw [h2, h3], h4, h5⟩)
            (ev_var rfl) (ev_var rfl) (k := .inr n) rfl (by
              have := congrArg List.length g2
              rw [List.length_map, List.length_map] at this
              omega) (fun v H4 e4 ⟨l, xs, row, q1, q2', q3', q5'⟩ _ => ?_) (fun v H H' e ⟨l, xs, row, h1, h2, h3, h4⟩ => ⟨l, xs, row, h1, e _ _ h2, h3.le (Le.ex e), h4⟩)
          subst q1
          have e34 := e3.trans e4
          have hg := e34 _ _ g1
          have ne : ∀ {b : Addr} {ys : List V}, H4 b = some (.lst ys) → b ≠ rd := fun hb z => by
            subst z
            rw [hb] at hg
            cases hg
          have hmn : (Sum.inr n : Key) ∈ kv.map (·.1) := by rw [g2]; exact List.mem_map_of_mem hnr
          refine ⟨⟨Ex.mut (ex3.trans e4) hrd, _, upd_same, by rw [putK_keys hmn, g2], fun m v hmv => ?_⟩, some (.str n), some (.str t), rfl⟩
          rcases putK_mem hmn hmv with ⟨z1, rfl⟩ | ⟨z1, z2⟩
          · cases z1
            refine ⟨l, xs, row, rfl, by rw [upd_ne (ne q2')]; exact q2', q3'.upK hg, q5'.1, fun ⟨j, hj, hjr⟩ => ?_, q5'.2⟩
            have := nodup_ix' hN hjr hn
            omega
          · obtain ⟨b, ys, row', r1, r2, r3, r4, r5, r6⟩ := g3 m v z2
            exact ⟨b, ys, row', r1, by rw [upd_ne (ne (e34 _ _ r2))]; exact e34 _ _ r2, (r3.le (Le.ex e34)).upK hg, r4, fun ⟨j, hj, hjr⟩ => r5 ⟨j, by omega, hjr⟩, r6⟩
      · rintro σ' H2 ⟨⟨ex, kv, g1, g2, g3⟩, v3, v6, rfl⟩
        have hkn : (kv.map (·.1)).Nodup := by rw [g2]; exact hNk
        obtain ⟨R, hR⟩ := rows_funN (kvs := kv) hkn (Q := fun n v row => ∃ a xs, v = .ref a ∧ H2 a = some (.lst xs) ∧ ItsAt H2 xs row ∧ RowOkD regs ("" :: "" :: signs) (regs.length + 1) row ∧ RowL tg regs n row) fun n v m => by
          obtain ⟨a, xs, row, q1, q2, q3, q4, _, q6⟩ := g3 n v m
          exact ⟨row, a, xs, q1, q2, q3, q4, q6⟩
        have hRR : ∀ n ∈ regs, RowOkD regs ("" :: "" :: signs) (regs.length + 1) (R n) ∧ RowL tg regs n (R n) := fun n hn => by
          obtain ⟨v0, hv0, hm0⟩ := valV_key (kvs := kv) (k := .inr n) (by rw [g2]; exact List.mem_map_of_mem hn)
          obtain ⟨a0, xs0, _, _, _, q4⟩ := hR n v0 hm0
          exact q4
        refine s_retN (new_dictP (K := K) hNk (Q := fun i v H => ∀ n, regs[i]? = some n → ∃ a, v = .ref a ∧ RowAt H a (R n)) (fun i v H H' e h n hn => (h n hn).imp fun a ⟨h1, h2⟩ => ⟨h1, h2.le (Le.ex e)⟩) ((new_lc (src_list (K := K) (ev_var rfl) (sq_of (ex _ _ hra))) (by omega) (fun x => rfl)
          (fun i x H => ∃ n b a, regs[i]? = some n ∧ x = .ref b ∧ H b = some (.tup [.str n, .ref a]) ∧ RowAt H a (R n)) (fun i x => stab_ex fun n => stab_ex fun b => stab_ex fun a => stab_and stab_pure (stab_and stab_pure (stab_and (stab_at rfl rfl) (stab_row (fun _ => rfl))))) ?_).imp fun o H3 _ ⟨xs, h1, h2, h3⟩ => ⟨xs, h1, by rw [h2, hll, List.length_map], fun i x hx kk hk => ?_⟩)) fun r o H3 hr3 e3 h3 ⟨l, n3, hk3, hv3⟩ => ?_
        · intro i x H' e hi hx
          obtain ⟨n, hn, rfl, hnr⟩ := at_str hx
          obtain ⟨v0, hv0, hm0⟩ := valV_key (kvs := kv) (k := .inr n) (by rw [g2]; exact List.mem_map_of_mem hnr)
          obtain ⟨a0, xs0, rfl, q2, q3, q4⟩ := hR n v0 hm0
          have eT : EvP (tCB (rTupOf K) (tCons (tDGet (tVar 4) (tVar 3)) tNil)) [some (.ref d), some (.ref ra), some (.ref sa), some (.str n), some (.ref rd), v5, v6] H' (fun v H2 => ∃ c, v = .ref c ∧ RowAt H2 c (R n)) :=
            (ep_tupL (Pv := fun xs H => ItsAt H xs (R n)) ((EvP.of (ev_get (v := .ref a0) (ev_var rfl) (ev_var rfl) (k := .inr n) rfl (.inl (e _ _ g1)) hv0)).imp fun v H5 e5 hv => ⟨a0, xs0, hv, (e.trans e5) _ _ q2, q3.le (Le.ex (e.trans e5))⟩) (fun _ _ _ e h => h.le (Le.ex e))).imp fun v H2 _ ⟨c, xs, h1, h2, h3⟩ => ⟨c, h1, xs, h2, h3⟩
          exact ((new_tup (pa1 (P := fun v _ => v = .str n) (fun _ _ _ _ h => h) (EvP.of (ev_var rfl)) (pa1 (Pr := fun vs _ => vs = []) (fun v H H' e ⟨l, h1, h2⟩ => ⟨l, h1, h2.le (Le.ex e)⟩) eT pa0)) (fun vs H2 ⟨v, r, h1, h2, v', r', h3, h4, h5⟩ => by rw [h1, h3, h5]; show 2 ≤ 1000; decide)
            (fun vs H H' e ⟨v, r, h1, h2, v', r', h3, ⟨l, h4, h6⟩, h5⟩ => ⟨v, r, h1, h2, v', r', h3, ⟨l, h4, h6.le (Le.ex e)⟩, h5⟩)).evP).imp fun v H2 _ ⟨b, o, h1, h2, vs, h3, v1, r1, h4, h5, v2, r2, h6, ⟨l, h7, h8⟩, h10⟩ => ⟨n, b, l, hn, h1, by rw [h2, h3, h4, h5, h6, h7, h10], h8⟩
        · obtain ⟨n, b, a, g4, g5, g6, g7⟩ := h3 i x hx
          rw [List.getElem?_map, g4] at hk
          cases hk
          exact ⟨b, _, g5, g6, fun m hm => by
            rw [g4] at hm
            cases hm
            exact ⟨a, rfl, g7⟩⟩
        · subst n3
          refine k _ H3 (ex.trans e3) ⟨r, R, rfl, ⟨l, h3, hk3, fun n v m => ?_⟩, ⟨fun n hn => (hRR n hn).1, tg, fun n hn => ⟨(hRR n hn).2.1, fun m hm => ((hRR n hn).2.2 m hm).1⟩⟩, fun z => by
            subst z
            rw [ex _ _ hza] at hr3
            cases hr3⟩
          · obtain ⟨i, hi⟩ := List.mem_iff_getElem?.mp m
            have h2 := congrArg (fun z : List Key => z[i]?) hk3
            simp only [List.getElem?_map, hi, Option.map_some] at h2
            cases hr : regs[i]? with
            | none => rw [hr] at h2; cases h2
            | some m' =>
              rw [hr] at h2
              have : (Sum.inr n : Key) = Sum.inr m' := Option.some.inj h2
              cases this
              exact hv3 i _ hi n hr
theorem ok_law_end (F : Fun K "_law_end" "_law_end" s_law_end f fd) (Z : Zs mg C) (G_law_next : Has P w K mg base "_law_next" 3 ["draw", "bound"] (sp_law_next K)) (G_law_pick : Has P w K mg base "_law_pick" 4 ["draw", "things"] (sp_law_pick K)) :
    FnOk P w K mg base CX0 5 f fd ["draw", "registers", "signs"] (sp_law_end K) := by
  refine F.ok sc_law_end (fun vs H Q E h => ?_) (fun cdv A outer s H vs Q E hr h => ?_)
  · obtain ⟨i, ⟨rfl, _⟩, _⟩ := h
    rfl
  · obtain ⟨⟨d, ra, sa, regs, signs⟩, ⟨rfl, hD, hra, hsa, h10, hs10⟩, k⟩ := h
    dsimp only at hD hra hsa h10 hs10
    have k : ∀ v H', Ex H H' → (∃ a row, v = .ref a ∧ RowAt H' a row ∧ RowOkD regs ("" :: "" :: signs) (regs.length + 1) row) → Q v H' := k
    refine ⟨_, (pss_cons (ps_set (i := 3) sc_law_end.nd rfl (Or.inl rfl) (pe_lst pa_nil)) 
    (pss_cons (ps_for PassesOwn.never rfl (pi_list (pv 1)) (pg_name (i := 4) sc_law_end.nd rfl (Or.inl rfl)) 
     (pss_one (ps_if (pt_cmpR op_gt (pe_use G_law_next (hr.mono (by decide)) (pa_cons (pv 0) (pa_cons pe_int pa_nil))) pe_int (nomark _)) 
      (pss_one (ps_set (i := 3) sc_law_end.nd rfl (Or.inl rfl) (pe_ifExp (pt_cmpR op_eq (pe_use G_law_next (hr.mono (by decide)) (pa_cons (pv 0) (pa_cons pe_int pa_nil))) pe_int (nomark _)) (pe_op op_cat (pv 3) (pe_lst (pa_cons (pe_tup (pa_cons (pv 4) pa_nil)) pa_nil))) (pe_op op_cat (pe_lst (pa_cons (pe_tup (pa_cons (pv 4) pa_nil)) pa_nil)) (pv 3))))) pss_nil))) 
    (pss_one (ps_ret (pe_callTy (cTup (K := K)) (by rfl) Z.z_tuple (by decide +kernel) (pa_cons (pe_op op_cat (pv 3) (pe_lst (pa_cons (pe_use G_law_pick (hr.mono (by decide)) (pa_cons (pv 0) (pa_cons (pe_op op_cat (pe_lst (pa_cons pe_str (pa_cons pe_str pa_nil))) (pv 2)) pa_nil))) pa_nil))) pa_nil)))))), ?_⟩
    have hll : (regs.map V.str).length = regs.length := List.length_map _
    have at_str : ∀ {i : Nat} {x : V}, (regs.map V.str)[i]? = some x → ∃ n, regs[i]? = some n ∧ x = .str n ∧ n ∈ regs := fun {i x} h => by
      rw [List.getElem?_map] at h
      cases hr : regs[i]? with
      | none => rw [hr] at h; cases h
      | some n =>
        rw [hr] at h
        exact ⟨n, rfl, (Option.some.inj h).symm, List.mem_of_getElem? hr⟩
    have stab : ∀ (row : List Itm) (m : Nat) (xs : List V) (H H' : Hp), Ex H H' → (ItsAt H xs row ∧ xs.length = m) → (ItsAt H' xs row ∧ xs.length = m) := fun row m xs H H' e h => ⟨h.1.le (Le.ex e), h.2⟩
    refine q_asgL (el_lst ea_nil (Nat.zero_le _)) fun l H1 hl e1 h1 => ?_
    refine q_forL (K := K) (ev_var rfl) (sq_of (e1 _ _ hra)) (fun i σ' H' => Ex H H' ∧ ∃ l xs row v4, σ' = [some (.ref d), some (.ref ra), some (.ref sa), some (.ref l), v4] ∧ H' l = some (.lst xs) ∧ ItsAt H' xs row ∧ RowOkD regs ("" :: "" :: signs) i row) (fun H2 e2 => ⟨e1.trans e2, l, [], [], none, rfl, e2 _ _ h1, ItsAt.nil, nil_okD⟩) (fun i σ' H' _ h => sq_of (h.1 _ _ hra)) ?_ ?_
    · rintro i x σ' H' hx ⟨ex, l, xs, row, v4, rfl, hl, hI, hO⟩
      obtain ⟨n, hn, rfl, hnr⟩ := at_str hx
      have hi : i < regs.length := (List.getElem?_eq_some_iff.mp hn).1
      have hrow := hO.1
      refine s_ifA (eta_I (g := fun i j => decide (j < i)) (ep_nextI (ev_var rfl) ev_c (hD.ex ex) (by decide)) ev_c) (fun H2 e2 => ?_) (fun H2 e2 => ⟨ex.trans e2, l, xs, row, some (.str n), rfl, e2 _ _ hl, hI.le (Le.ex e2), hO.up (Nat.le_succ _)⟩)
      have hl2 := e2 _ _ hl
      have hI2 := hI.le (Le.ex e2)
      have hget : ∀ H4, Ex H2 H4 → EvP (tVar 3) [some (.ref d), some (.ref ra), some (.ref sa), some (.ref l), some (.str n)] H4 (fun v H2 => ∃ a xs, v = .ref a ∧ H2 a = some (.lst xs) ∧ (ItsAt H2 xs row ∧ xs.length = row.length)) := fun H4 e4 => (EvP.of (ev_var rfl)).imp fun v H5 e5 hv => ⟨l, xs, hv, (e4.trans e5) _ _ hl2, hI2.le (Le.ex (e4.trans e5)), hI2.1⟩
      have hone : ∀ H4, Ex H2 H4 → EvP (tLst (tCons (tTup (tCons (tVar 4) tNil)) tNil)) [some (.ref d), some (.ref ra), some (.ref sa), some (.ref l), some (.str n)] H4 (fun v H2 => ∃ a xs, v = .ref a ∧ H2 a = some (.lst xs) ∧ (ItsAt H2 xs [.r n] ∧ xs.length = 1)) := fun H4 e4 => (new_one rfl).imp fun v H5 _ ⟨a, xs, h1, h2, h3⟩ => ⟨a, xs, h1, h2, h3, h3.1⟩
      refine s_new (new_ifA (N := fun o H => ∃ xs row, o = .lst xs ∧ ItsAt H xs row ∧ RowOkD regs ("" :: "" :: signs) (i + 1) row) (eta_E (ep_nextI (ev_var rfl) ev_c (hD.ex (ex.trans e2)) (by decide)) ev_c)
        ((new_cat (Pa := fun xs H => ItsAt H xs row ∧ xs.length = row.length) (Pb := fun xs H => ItsAt H xs [.r n] ∧ xs.length = 1) (hget H2 (Ex.refl H2)) hone (stab _ _) (stab _ _) (fun xs ys _ _ h1 h2 => by omega)).imp fun o H4 _ ⟨xs, ys, h1, h2, h3⟩ => ⟨_, _, h1, h2.1.append h3.1, hO.app (one_r hnr)⟩)
        ((new_cat (Pa := fun xs H => ItsAt H xs [.r n] ∧ xs.length = 1) (Pb := fun xs H => ItsAt H xs row ∧ xs.length = row.length) (hone H2 (Ex.refl H2)) hget (stab _ _) (stab _ _) (fun xs ys _ _ h1 h2 => by omega)).imp fun o H4 _ ⟨xs, ys, h1, h2, h3⟩ => ⟨_, _, h1, h2.1.append h3.1, ((one_r hnr).app hO).up (by omega)⟩)) fun p o H3 _ e3 h3 ⟨ys, row', n3, q1, q2⟩ => ?_
      subst n3
      exact ⟨(ex.trans e2).trans e3, p, ys, row', some (.str n), rfl, h3, q1, q2⟩
    · rintro σ' H' ⟨ex, l, xs, row, v4, rfl, hl, hI, hO⟩
      rw [hll] at hO
      have hrow := hO.1
      have eP : ∀ H1, Ex H' H1 → EvP (tCall (sp_law_pick K) [] E0 (tCons (tVar 0) (tCons (tOp rCat (tLst (tCons (tC (.str "")) (tCons (tC (.str "")) tNil))) (tVar 2)) tNil))) [some (.ref d), some (.ref ra), some (.ref sa), some (.ref l), v4] H1 (fun v _ => ∃ t, v = .str t ∧ t ∈ (("" : Str) :: "" :: signs)) := fun H1 e1 =>
        (ep_pick (K := K) (xs := (("" : Str) :: "" :: signs).map V.str) (ev_var rfl) (((New.evP (new_cat (Pa := fun xs _ => xs = [.str "", .str ""]) (Pb := fun xs _ => xs = signs.map V.str) (((New.ofL (el_lst (ea_cons ev_c (ea_cons ev_c ea_nil)) (by show 2 ≤ 100000; decide))).evP).imp fun v H3 _ ⟨p, o, h1, h2, h3⟩ => ⟨p, _, h1, by rw [h2, h3], rfl⟩) (fun H3 e3 => (EvP.of (ev_var rfl)).imp fun v H4 e4 hv => ⟨sa, _, hv, (((ex.trans e1).trans e3).trans e4) _ _ hsa, rfl⟩) (fun _ _ _ _ h => h) (fun _ _ _ _ h => h) (fun xs ys _ _ h1 h2 => by rw [h1, h2, List.length_map]; show 2 + signs.length ≤ 100000; omega)))).imp fun v H3 _ ⟨p, o, h1, h2, xs, ys, h3, h4, h5⟩ => ⟨p, h1, sq_of (by rw [h2, h3, h4, h5]; rfl)⟩) (hD.ex (ex.trans e1)) (by intro z; cases z)).imp fun v _ _ hv => by
          obtain ⟨t, ht, rfl⟩ := List.mem_map.mp hv
          exact ⟨t, rfl, ht⟩
      refine s_retP ((ep_tupL (K := K) (Pv := fun xs H => ∃ row, ItsAt H xs row ∧ RowOkD regs ("" :: "" :: signs) (regs.length + 1) row) (((New.evP (new_cat (Pa := fun xs H => ItsAt H xs row ∧ xs.length = row.length) (Pb := fun xs H => ∃ t, t ∈ (("" : Str) :: "" :: signs) ∧ xs = [.str t]) ((EvP.of (ev_var rfl)).imp fun v H5 e5 hv => ⟨l, xs, hv, e5 _ _ hl, hI.le (Le.ex e5), hI.1⟩)
        (fun H1 e1 => ((New.evP (new_lst (pa1 (Pr := fun vs _ => vs = []) (fun _ _ _ _ h => h) (eP H1 e1) pa0) (fun vs H2 ⟨v, r, h1, h2, h3⟩ => by rw [h1, h3]; show 1 ≤ 1000; decide) (fun vs H H' e h => h)))).imp fun v H2 _ ⟨p, o, h1, h2, vs, h3, v1, r1, h4, ⟨t, h5, h6⟩, h7⟩ => ⟨p, vs, h1, by rw [h2, h3], t, h6, by rw [h4, h5, h7]⟩) (stab _ _) (fun _ _ _ _ h => h) (fun xs ys _ _ h1 ⟨t, _, h2⟩ => by rw [h2]; show xs.length + 1 ≤ 100000; omega)))).imp fun v H2 _ ⟨p, o, h1, h2, xs, ys, h3, h4, t, h5, h6⟩ => ⟨p, xs ++ ys, h1, by rw [h2, h3], row ++ [.t t], h4.1.append (by rw [h6]; exact ItsAt.one rfl), hO.app (one_t h5)⟩)
        (fun xs H H' e ⟨row, h1, h2⟩ => ⟨row, h1.le (Le.ex e), h2⟩)).imp (P' := fun v H' => ∃ a row, v = .ref a ∧ RowAt H' a row ∧ RowOkD regs ("" :: "" :: signs) (regs.length + 1) row) fun v H2 _ ⟨c, xs, h1, h2, row, h3, h4⟩ => ⟨c, row, h1, ⟨xs, h2, h3⟩, h4⟩) fun v H2 e2 p => k v H2 (ex.trans e2) p
end
end KX
end
section
set_option Elab.async false
set_option linter.all false
set_option maxRecDepth 100000
set_option maxHeartbeats 8000000
/-! Bs17: a program is drawn. -/
namespace KX
open PySem PySem.Spec PyProof.Rows L2 Evl
theorem key_fun {κ β : Type} [DecidableEq κ] [Inhabited β] {kvs : List (κ × V)} (hn : (kvs.map (·.1)).Nodup) {Q : κ → V → β → Prop} (h : ∀ k v, (k, v) ∈ kvs → ∃ b, Q k v b) : ∃ R : κ → β, ∀ k v, (k, v) ∈ kvs → Q k v (R k) := by
  classical
  refine ⟨fun k => if z : ∃ b, ∀ v, valV kvs k = some v → Q k v b then z.choose else default, fun k v m => ?_⟩
  have z : ∃ b, ∀ v, valV kvs k = some v → Q k v b := by
    obtain ⟨b, hq⟩ := h k v m
    refine ⟨b, fun v' hv' => ?_⟩
    rw [valV_uniq hn m] at hv'
    cases hv'
    exact hq
  show Q k v (if z : ∃ b, ∀ v, valV kvs k = some v → Q k v b then z.choose else default)
  rw [dif_pos z]
  exact z.choose_spec v (valV_uniq hn m)
section
variable {K : PySem.W.Frag} {σ : L2.St} {H : Hp} {ta tb te tl tv td ty : TE} {tz : TS} {D : Ends}
theorem EvPA.imp {tA : TA} {P P' : List V → Hp → Prop} (h : EvPA tA σ H P) (f : ∀ vs H2, Ex H H2 → P vs H2 → P' vs H2) : EvPA tA σ H P' := fun H1 e Q q => h H1 e Q fun vs H2 e2 p => q vs H2 e2 (f vs H2 (e.trans e2) p)
theorem q_par {i j : Nat} {tA : TA} {Pz : V → V → Hp → Prop} (h : EvPA tA σ H (fun vs H => ∃ v w, vs = [v, w] ∧ Pz v w H)) (k : ∀ v w H1, Ex H H1 → Pz v w H1 → tz D ((σ.set i (some v)).set j (some w)) H1) : tSeq (tPar i j tA) tz D σ H :=
  h H (Ex.refl H) _ fun vs H1 e ⟨v, w, ev, p⟩ => ⟨v, w, ev, k v w H1 e p⟩
theorem ep_opI {g : Int → Int → V} {a : Int} {P : Int → Prop} (ha : Ev ta σ H (.int a)) (hb : EvP tb σ H (fun v _ => ∃ r, v = .int r ∧ P r)) : EvP (tOp (rI0 g) ta tb) σ H (fun v _ => ∃ r, v = g a r ∧ P r) := fun H1 e Q q =>
  ha H1 e _ fun H2 e2 => hb H2 (e.trans e2) _ fun v H3 e3 ⟨r, ev, p⟩ => ⟨a, r, rfl, ev, q _ H3 (e2.trans e3) ⟨r, rfl, p⟩⟩
/-- xs[:k], k drawn -/
theorem new_cut {xs : List V} {P : Int → Prop} (hl : EvL tl σ H xs) (hk : ∀ H1, Ex H H1 → EvP te σ H1 (fun v _ => ∃ r, v = .int r ∧ P r)) : New (tSl (rSlL K) tl tNoPart (tPart te)) σ H (fun o _ => ∃ r, P r ∧ o = .lst (cutV xs none (some r))) := fun H1 e Q q =>
  hl H1 e _ fun a H2 _ e2 h2 => hk H2 (e.trans e2) H2 (Ex.refl H2) _ fun v H3 e3 ⟨r, ev, p⟩ => ⟨r, ev, a, xs, rfl, sq_of (e3 _ _ h2), fun p' hp => q p' _ _ (fresh_back (e2.trans e3) hp) ((e2.trans e3).trans (Ex.new hp)) upd_same ⟨r, p, rfl⟩⟩
/-- d[a tuple] = v -/
theorem s_dputT {Pv : V → Hp → Prop} {d : Addr} {kvs : List (List Key × V)} {k : List Key} (hd : H d = some (.dT kvs)) (hv : EvP tv σ H Pv) (ho : ∀ H1, Ex H H1 → Ev td σ H1 (.ref d)) (hy : ∀ H1, Ex H H1 → EvU ty σ H1 (k.map kV)) (hz : kvs.length < 100000)
    (mV : ∀ v H H', Ex H H' → Pv v H → Pv v H') (kk : ∀ v H1, Ex H H1 → Pv v H1 → D.nx σ (upd H1 d (.dT (putK kvs k v)))) : sDPut td ty tv D σ H :=
  hv H (Ex.refl H) _ fun v H1 e1 p => ho H1 e1 H1 (Ex.refl H1) _ fun H2 e2 => hy H2 (e1.trans e2) H2 (Ex.refl H2) _ fun b H3 _ e3 hb => by
    have e := (e1.trans e2).trans e3
    exact ⟨d, _, rfl, DPut.t (e _ _ hd) hb (sz_lt hz), kk v H3 e (mV _ _ _ (e2.trans e3) p)⟩
end
theorem RowsN.updK {regs : List Str} {R : Str → List Itm} {H : Hp} {d D : Addr} {l l' : List (Key × V)} (h : RowsN regs R H d) (hD : H D = some (.dK l)) (ne : d ≠ D) : RowsN regs R (upd H D (.dK l')) d := by
  obtain ⟨kvs, h1, h2, h3⟩ := h
  refine ⟨kvs, by rw [upd_ne ne]; exact h1, h2, fun n v m => ?_⟩
  obtain ⟨a, e1, e2⟩ := h3 n v m
  exact ⟨a, e1, e2.upd hD (fun xs z => by cases z)⟩
/-- a step as drawn -/
def StepD (n : Int) (regs sg : List Str) (ea : Addr) (H : Hp) (v : V) (x : Int × (Str → List Itm)) : Prop := ∃ b r, v = .ref b ∧ H b = some (.tup [.int x.1, .ref r]) ∧ 0 ≤ x.1 ∧ x.1 < n ∧ RowsN regs x.2 H r ∧ RowsLin regs sg x.2 ∧ r ≠ ea
theorem StepD.ex {n : Int} {regs sg : List Str} {ea : Addr} {H H' : Hp} {v : V} {x : Int × (Str → List Itm)} (e : Ex H H') (h : StepD n regs sg ea H v x) : StepD n regs sg ea H' v x := by
  obtain ⟨b, r, h1, h2, h3, h4, h5, h6, h7⟩ := h
  exact ⟨b, r, h1, e _ _ h2, h3, h4, h5.ex e, h6, h7⟩
theorem StepD.updT {n : Int} {regs sg : List Str} {ea D : Addr} {H : Hp} {v : V} {x : Int × (Str → List Itm)} {l l' : List (List Key × V)} (hD : H D = some (.dT l)) (h : StepD n regs sg ea H v x) : StepD n regs sg ea (upd H D (.dT l')) v x := by
  obtain ⟨b, r, h1, h2, h3, h4, h5, h6, h7⟩ := h
  refine ⟨b, r, h1, ?_, h3, h4, stab_rowsN.up _ _ _ _ rfl rfl hD h5, h6, h7⟩
  rw [upd_ne (show b ≠ D from fun z => by
    subst z
    rw [h2] at hD
    cases hD)]
  exact h2
theorem StepD.updK {n : Int} {regs sg : List Str} {ea : Addr} {H : Hp} {v : V} {x : Int × (Str → List Itm)} {l l' : List (Key × V)} (hD : H ea = some (.dK l)) (h : StepD n regs sg ea H v x) : StepD n regs sg ea (upd H ea (.dK l')) v x := by
  obtain ⟨b, r, h1, h2, h3, h4, h5, h6, h7⟩ := h
  refine ⟨b, r, h1, ?_, h3, h4, h5.updK hD h7, h6, h7⟩
  rw [upd_ne (show b ≠ ea from fun z => by
    subst z
    rw [h2] at hD
    cases hD)]
  exact h2
/-- a program as drawn -/
structure DrOk (sg : List Str) (g : Pg) : Prop where
  L : g.L = "ab" ∨ g.L = "b"
  n : g.n = 1 ∨ g.n = 2
  r : g.regs = [("x" : Str)] ∨ g.regs = [("x" : Str), "y"] ∨ g.regs = []
  f : ∀ n ∈ g.regs, g.fst n = "" ∨ g.fst n = "a"
  go : ∀ s c, SL g.L g.n s c → 0 ≤ g.goal s c ∧ g.goal s c < g.n
  ro : ∀ s c, SL g.L g.n s c → ∀ n ∈ g.regs, RowOkD g.regs sg (g.regs.length + 1) (g.row s c n)
  li : ∀ s c, SL g.L g.n s c → Lin g.regs (g.row s c)
  fi : ∀ s row, g.fin s = some row → 0 ≤ s ∧ s < g.n ∧ RowOkD g.regs sg (g.regs.length + 1) row
def Told (H : Hp) (g : Pg) (b : Addr) : Prop := ∃ ra fa sa ea, H b = some (.tup [.str g.L, .int g.n, .ref ra, .ref fa, .ref sa, .ref ea]) ∧ PgD H g ra fa sa ea
def sp_law_program (K : PySem.W.Frag) : Sp := spE (fun (x : Addr × Addr × List Str) vs H => vs = [.ref x.1, .ref x.2.1] ∧ DrAt K H x.1 ∧ H x.2.1 = some (.lst (x.2.2.map V.str)) ∧ x.2.2.length ≤ 10) (fun x v H => ∃ b g, v = .ref b ∧ Told H g b ∧ DrOk ("" :: "" :: x.2.2) g)
/-- done with m states, and j letters of the next one -/
def Done (L : Str) (m j : Nat) (s : Int) (c : Nat) : Prop := ∃ s' : Nat, s = (s' : Int) ∧ ((s' < m ∧ c ∈ cds L) ∨ (s' = m ∧ c ∈ (cds L).take j))
structure Inv2 (L : Str) (n : Int) (regs sg : List Str) (sa ea : Addr) (H4 : Hp) (m j : Nat) (H : Hp) : Prop where
  ex : Ex H4 H
  s : ∃ kvs : List (List Key × V), H sa = some (.dT kvs) ∧ (kvs.map (·.1)).Nodup ∧ kvs.length ≤ m * 10 + j ∧ (∀ k v, (k, v) ∈ kvs → ∃ s c, k = [.inl s, .inr ⟨#[c]⟩] ∧ Done L m j s c ∧ ∃ x, StepD n regs sg ea H v x) ∧ ∀ s c, Done L m j s c → [Sum.inl s, Sum.inr ⟨#[c]⟩] ∈ kvs.map (·.1)
  e : ∃ kvs : List (Key × V), H ea = some (.dK kvs) ∧ (kvs.map (·.1)).Nodup ∧ kvs.length ≤ m ∧ ∀ k v, (k, v) ∈ kvs → ∃ (s : Nat) (a : Addr) (row : List Itm), k = .inl (s : Int) ∧ s < m ∧ v = .ref a ∧ RowAt H a row ∧ RowOkD regs sg (regs.length + 1) row
theorem Inv2.ext {L : Str} {n : Int} {regs sg : List Str} {sa ea : Addr} {H4 H H' : Hp} {m j : Nat} (e : Ex H H') (h : Inv2 L n regs sg sa ea H4 m j H) : Inv2 L n regs sg sa ea H4 m j H' where
  ex := h.ex.trans e
  s := h.s.imp fun kvs ⟨h1, h2, h3, h4, h5⟩ => ⟨e _ _ h1, h2, h3, fun k v hm => by
    obtain ⟨s, c, e1, e2, x, e3⟩ := h4 k v hm
    exact ⟨s, c, e1, e2, x, e3.ex e⟩, h5⟩
  e := h.e.imp fun kvs ⟨h1, h2, h3, h4⟩ => ⟨e _ _ h1, h2, h3, fun k v hm => by
    obtain ⟨s, a, row, e1, e2, e3, e4, e5⟩ := h4 k v hm
    exact ⟨s, a, row, e1, e2, e3, e4.le (Le.ex e), e5⟩⟩
theorem pl_inj {s s' : Int} {c c' : Nat} (h : ([Sum.inl s, Sum.inr ⟨#[c]⟩] : List Key) = [Sum.inl s', Sum.inr ⟨#[c']⟩]) : s = s' ∧ c = c' := by
  injection h with q1 q2
  injection q2 with q2 _
  injection q1 with q1
  injection q2 with q2
  injection q2 with q2
  exact ⟨q1, by simpa using q2⟩
end KX
end
section
set_option Elab.async false
set_option linter.all false
set_option maxRecDepth 100000
set_option maxHeartbeats 8000000
/-! Bs18: _law_program. -/
namespace KX
open PySem PySem.Spec PyProof.Rows L2 Evl
theorem cds_nodup_L {L : Str} (h : L = "ab" ∨ L = "b") : (cds L).Nodup ∧ (cds L).length ≤ 2 := by
  rcases h with rfl | rfl
  · exact ⟨by decide +kernel, by decide +kernel⟩
  · exact ⟨by decide +kernel, by decide +kernel⟩
section
variable {P : Program} {w : World} {K : PySem.W.Frag} {mg : Str → Option Value} {base : Heap} {C : Addr} {f : Addr} {fd : FuncData}
theorem ok_law_program (F : Fun K "_law_program" "_law_program" s_law_program f fd) (Z : Zs mg C) (G_law_next : Has P w K mg base "_law_next" 3 ["draw", "bound"] (sp_law_next K)) (G_law_pick : Has P w K mg base "_law_pick" 4 ["draw", "things"] (sp_law_pick K))
    (G_law_rows : Has P w K mg base "_law_rows" 5 ["draw", "registers", "signs"] (sp_law_rows K)) (G_law_end : Has P w K mg base "_law_end" 5 ["draw", "registers", "signs"] (sp_law_end K)) : FnOk P w K mg base CX0 6 f fd ["draw", "signs"] (sp_law_program K) := by
  refine F.ok sc_law_program (fun vs H Q E h => ?_) (fun cdv A outer s H vs Q E hr h => ?_)
  · obtain ⟨i, ⟨rfl, _⟩, _⟩ := h
    rfl
  · obtain ⟨⟨d, sg, signs⟩, ⟨rfl, hD, hsg, hs10⟩, k⟩ := h
    dsimp only at hD hsg hs10
    have k : ∀ v H', Ex H H' → (∃ b g, v = .ref b ∧ Told H' g b ∧ DrOk ("" :: "" :: signs) g) → Q v H' := k
    have hu := hu_of hr
    have hu64 := hr.units
    have hu0 := Nat.lt_of_succ_lt hu
    refine ⟨_, (pss_cons (ps_par (i := 2) (j := 3) (by rfl) sc_law_program.nd rfl rfl (by decide) rfl rfl (pa_cons (pe_use G_law_pick (hr.mono (by decide)) (pa_cons (pv 0) (pa_cons (pe_lst (pa_cons pe_str (pa_cons pe_str (pa_cons pe_str (pa_cons pe_str pa_nil))))) pa_nil))) (pa_cons (pe_op op_add pe_int (pe_use G_law_next (hr.mono (by decide)) (pa_cons (pv 0) (pa_cons pe_int pa_nil)))) pa_nil)) (by rfl)) 
    (pss_cons (ps_set (i := 4) sc_law_program.nd rfl (Or.inl rfl) (pe_slice sl_list (pe_lst (pa_cons pe_str (pa_cons pe_str pa_nil))) po_none (po_some (pe_use G_law_pick (hr.mono (by decide)) (pa_cons (pv 0) (pa_cons (pe_lst (pa_cons pe_int (pa_cons pe_int (pa_cons pe_int (pa_cons pe_int (pa_cons pe_int pa_nil)))))) pa_nil)))))) 
    (pss_cons (ps_set (i := 5) sc_law_program.nd rfl (Or.inl rfl) (pe_callTy (call_dictP rfl) (by rfl) Z.z_dict (by decide +kernel) (pa_cons (pe_lc (own := [(("name" : Str), 10)]) (g := gName 10) rfl sc_law_program.nd (pi_list (pv 4)) (blkOk_by (own := [(("name" : Str), 10)]) (N := n_law_program) (sc := defScope s_law_program) (by decide +kernel)) (fun _ _ _ _ _ => (pg_name (i := 10) sc_law_program.nd rfl (Or.inl rfl))) (fun _ _ _ _ _ => pts_nil) (fun _ _ _ _ _ => (pe_tup (pa_cons (pv 10) (pa_cons (pe_use G_law_pick (hr.mono (by decide)) (pa_cons (pv 0) (pa_cons (pe_lst (pa_cons pe_str (pa_cons pe_str (pa_cons pe_str pa_nil)))) pa_nil))) pa_nil))))) pa_nil))) 
    (pss_cons (ps_par (i := 6) (j := 7) (by rfl) sc_law_program.nd rfl rfl (by decide) rfl rfl (pa_cons pe_dnewT (pa_cons pe_dnewK pa_nil)) (by rfl)) 
    (pss_cons (ps_for PassesOwn.never rfl (pi_range1 rfl Z.z_range (pa_cons (pv 3) pa_nil)) (pg_name (i := 8) sc_law_program.nd rfl (Or.inl rfl)) 
     (pss_cons (ps_for PassesOwn.never rfl (pi_str (pv 2)) (pg_name (i := 9) sc_law_program.nd rfl (Or.inl rfl)) 
      (pss_one (ps_dput hu (pv 6) (pe_tup (pa_cons (pv 8) (pa_cons (pv 9) pa_nil))) (pe_tup (pa_cons (pe_use G_law_next (hr.mono (by decide)) (pa_cons (pv 0) (pa_cons (pv 3) pa_nil))) (pa_cons (pe_use G_law_rows (hr.mono (by decide)) (pa_cons (pv 0) (pa_cons (pv 4) (pa_cons (pv 1) pa_nil)))) pa_nil))) rfl))) 
     (pss_one (ps_if (pt_cmpR op_gt (pe_use G_law_next (hr.mono (by decide)) (pa_cons (pv 0) (pa_cons pe_int pa_nil))) pe_int (nomark _)) 
      (pss_one (ps_dput hu (pv 7) (pv 8) (pe_use G_law_end (hr.mono (by decide)) (pa_cons (pv 0) (pa_cons (pv 4) (pa_cons (pv 1) pa_nil)))) rfl)) pss_nil)))) 
    (pss_one (ps_ret (pe_tup (pa_cons (pv 2) (pa_cons (pv 3) (pa_cons (pv 4) (pa_cons (pv 5) (pa_cons (pv 6) (pa_cons (pv 7) pa_nil)))))))))))))), ?_⟩
    -- letters, states
    refine q_par (Pz := fun v w _ => ∃ (L : Str) (n : Int), v = .str L ∧ w = .int n ∧ (L = "ab" ∨ L = "b") ∧ (n = 1 ∨ n = 2)) (((pa1 (P := fun v _ => ∃ L : Str, v = .str L ∧ (L = "ab" ∨ L = "b")) (fun _ _ _ _ h => h) ((ep_pick (K := K) (xs := [("ab" : Str), "ab", "ab", "b"].map V.str) (ev_var rfl) (((New.ofL (el_lst (ea_cons ev_c (ea_cons ev_c (ea_cons ev_c (ea_cons ev_c ea_nil)))) (by show 4 ≤ 100000; decide))).evP).imp fun v H2 _ ⟨p, o, h1, h2, h3⟩ => ⟨p, h1, sq_of (by rw [h2, h3]; rfl)⟩) hD (by intro z; cases z)).imp fun v _ _ hv => ?_)
      (pa1 (P := fun v _ => ∃ r, v = .int (1 + r) ∧ (0 ≤ r ∧ r < 2)) (Pr := fun vs _ => vs = []) (fun _ _ _ _ h => h) (ep_opI ev_c (ep_next (ev_var rfl) ev_c hD (by decide))) pa0)) : EvPA _ _ _ _).imp fun vs H2 e2 p => ?_) fun v w' H1 e1 p => ?_
    · have hv : v ∈ ([.str "ab", .str "ab", .str "ab", .str "b"] : List V) := hv
      simp only [List.mem_cons, List.not_mem_nil, or_false] at hv
      rcases hv with h | h | h | h
      · exact ⟨_, h, .inl rfl⟩
      · exact ⟨_, h, .inl rfl⟩
      · exact ⟨_, h, .inl rfl⟩
      · exact ⟨_, h, .inr rfl⟩
    · obtain ⟨v, r, h1, ⟨L, h2, h3⟩, v', r', h4, ⟨x, h5, h6⟩, h7⟩ := p
      exact ⟨v, v', by rw [h1, h4, h7], L, 1 + x, h2, h5, h3, by omega⟩
    obtain ⟨L, n, rfl, rfl, hL, hn⟩ := p
    obtain ⟨hLn, hLl⟩ := cds_nodup_L hL
    have hn0 : 0 < n := by omega
    -- registers
    refine q_new ((new_cut (K := K) (P := fun r => r = 1 ∨ r = 2 ∨ r = 0) (el_lst (ea_cons ev_c (ea_cons ev_c ea_nil)) (by show 2 ≤ 100000; decide)) fun H2 e2 => (ep_pick (K := K) (xs := [(1 : Int), 2, 2, 2, 0].map V.int) (ev_var rfl) (((New.ofL (el_lst (ea_cons ev_c (ea_cons ev_c (ea_cons ev_c (ea_cons ev_c (ea_cons ev_c ea_nil))))) (by show 5 ≤ 100000; decide))).evP).imp fun v H3 _ ⟨p, o, h1, h2, h3⟩ => ⟨p, h1, sq_of (by rw [h2, h3]; rfl)⟩) (hD.ex (e1.trans e2)) (by intro z; cases z)).imp fun v _ _ hv => ?_).imp (N' := fun o _ => ∃ regs : List Str, o = .lst (regs.map V.str) ∧ (regs = [("x" : Str)] ∨ regs = [("x" : Str), "y"] ∨ regs = [])) fun o _ _ ⟨r, hr, ho⟩ => ?_) fun ra o H2 hra0 e2 h2 n2 => ?_
    · have hv : v ∈ ([.int 1, .int 2, .int 2, .int 2, .int 0] : List V) := hv
      simp only [List.mem_cons, List.not_mem_nil, or_false] at hv
      rcases hv with h | h | h | h | h
      · exact ⟨_, h, .inl rfl⟩
      · exact ⟨_, h, .inr (.inl rfl)⟩
      · exact ⟨_, h, .inr (.inl rfl)⟩
      · exact ⟨_, h, .inr (.inl rfl)⟩
      · exact ⟨_, h, .inr (.inr rfl)⟩
    · rcases hr with rfl | rfl | rfl
      · exact ⟨["x"], ho, .inl rfl⟩
      · exact ⟨["x", "y"], ho, .inr (.inl rfl)⟩
      · exact ⟨[], ho, .inr (.inr rfl)⟩
    obtain ⟨regs, rfl, hregs⟩ := n2
    have hN : regs.Nodup := by
      rcases hregs with rfl | rfl | rfl
      · decide +kernel
      · decide +kernel
      · exact List.nodup_nil
    have h10 : regs.length ≤ 2 := by
      rcases hregs with rfl | rfl | rfl <;> simp
    have e12 := e1.trans e2
    have hNk : (regs.map (Sum.inr : Str → Key)).Nodup := List.Pairwise.map Sum.inr (fun a b h q => h (Sum.inr.inj q)) hN
    have hll : (regs.map V.str).length = regs.length := List.length_map _
    have at_str : ∀ {i : Nat} {x : V}, (regs.map V.str)[i]? = some x → ∃ n, regs[i]? = some n ∧ x = .str n ∧ n ∈ regs := fun {i x} h => by
      rw [List.getElem?_map] at h
      cases hr : regs[i]? with
      | none => rw [hr] at h; cases h
      | some n =>
        rw [hr] at h
        exact ⟨n, rfl, (Option.some.inj h).symm, List.mem_of_getElem? hr⟩
    -- firsts
    refine q_new (new_dictP (K := K) hNk (Q := fun _ v _ => ∃ s : Str, v = .str s ∧ (s = "" ∨ s = "a")) (fun _ _ _ _ _ h => h) ((new_lc (src_list (K := K) (ev_var rfl) (sq_of h2)) (by omega) (fun x => rfl)
      (fun i x H => ∃ n b, regs[i]? = some n ∧ x = .ref b ∧ ∃ s : Str, H b = some (.tup [.str n, .str s]) ∧ (s = "" ∨ s = "a")) (fun i x => stab_ex fun n => stab_ex fun b => stab_and stab_pure (stab_and stab_pure (stab_ex fun s => stab_and (stab_at rfl rfl) stab_pure))) ?_).imp fun o H3 _ ⟨xs, g1, g2, g3⟩ => ⟨xs, g1, by rw [g2, hll, List.length_map], fun i x hx kk hk => ?_⟩)) fun fa o H3 hfa0 e3 h3 ⟨kf, n3, hkf, hvf⟩ => ?_
    · intro i x H' e hi hx
      obtain ⟨n', hn', rfl, hnr⟩ := at_str hx
      have eP : EvP (tCall (sp_law_pick K) [] E0 (tCons (tVar 0) (tCons (tLst (tCons (tC (.str "")) (tCons (tC (.str "")) (tCons (tC (.str "a")) tNil)))) tNil))) [some (.ref d), some (.ref sg), some (.str L), some (.int n), some (.ref ra), none, none, none, none, none, some (.str n')] H' (fun v _ => ∃ s : Str, v = .str s ∧ (s = "" ∨ s = "a")) :=
        (ep_pick (K := K) (xs := [("" : Str), "", "a"].map V.str) (ev_var rfl) (((New.ofL (el_lst (ea_cons ev_c (ea_cons ev_c (ea_cons ev_c ea_nil))) (by show 3 ≤ 100000; decide))).evP).imp fun v H3 _ ⟨p, o, h1, h2, h3⟩ => ⟨p, h1, sq_of (by rw [h2, h3]; rfl)⟩) (hD.ex (e12.trans e)) (by intro z; cases z)).imp fun v _ _ hv => by
          have hv : v ∈ ([.str "", .str "", .str "a"] : List V) := hv
          simp only [List.mem_cons, List.not_mem_nil, or_false] at hv
          rcases hv with h | h | h
          · exact ⟨_, h, .inl rfl⟩
          · exact ⟨_, h, .inl rfl⟩
          · exact ⟨_, h, .inr rfl⟩
      exact ((new_tup (pa1 (P := fun v _ => v = .str n') (fun _ _ _ _ h => h) (EvP.of (ev_var rfl)) (pa1 (Pr := fun vs _ => vs = []) (fun _ _ _ _ h => h) eP pa0)) (fun vs H2 ⟨v, r, h1, h2, v', r', h3, h4, h5⟩ => by rw [h1, h3, h5]; show 2 ≤ 1000; decide)
        (fun vs H H' e h => h)).evP).imp fun v H2 _ ⟨b, o, h1, h2, vs, h3, v1, r1, h4, h5, v2, r2, h6, ⟨s, h7, h8⟩, h10⟩ => ⟨n', b, hn', h1, s, by rw [h2, h3, h4, h5, h6, h7, h10], h8⟩
    · obtain ⟨n', b, g4, g5, s, g6, g7⟩ := g3 i x hx
      rw [List.getElem?_map, g4] at hk
      cases hk
      exact ⟨b, _, g5, g6, s, rfl, g7⟩
    subst n3
    have hkfn : (kf.map (·.1)).Nodup := by rw [hkf]; exact hNk
    obtain ⟨fst, hfst⟩ := key_fun (β := Str) (kvs := kf) (hn := hkfn) (Q := fun _ v s => v = .str s ∧ (s = "" ∨ s = "a")) fun kk v m => by
      obtain ⟨i, hi⟩ := List.mem_iff_getElem?.mp m
      exact hvf i _ hi
    have hkfe : kf = hk regs (fun n => fst (.inr n)) := hk_of hkf fun i p hp m hm => by
      have h2 := congrArg (fun z : List Key => z[i]?) hkf
      simp only [List.getElem?_map, hp, hm, Option.map_some] at h2
      have h4 : p.1 = Sum.inr m := Option.some.inj h2
      have := hfst p.1 p.2 (List.mem_of_getElem? hp)
      rw [h4] at this
      exact this.1
    have hfstok : ∀ m ∈ regs, fst (.inr m) = "" ∨ fst (.inr m) = "a" := fun m hm => by
      obtain ⟨v, hv, hmm⟩ := valV_key (kvs := kf) (k := .inr m) (by rw [hkf]; exact List.mem_map_of_mem hm)
      exact (hfst _ v hmm).2
    rw [hkfe] at h3
    have e13 := e12.trans e3
    -- steps, ends
    intro sa hsa ea hea
    refine ⟨_, _, rfl, ?_⟩
    have nse : ea ≠ sa := fun z => by
      subst z
      rw [upd_same] at hea
      cases hea
    have hea3 : H3 ea = none := by
      rw [upd_ne nse] at hea
      exact hea
    have x4 : Ex H3 (upd (upd H3 sa (.dT [])) ea (.dK [])) := (Ex.new hsa).trans (Ex.new hea)
    have I0 : Inv2 L n regs ("" :: "" :: signs) sa ea H3 0 0 (upd (upd H3 sa (.dT [])) ea (.dK [])) := {
      ex := x4
      s := ⟨[], by rw [upd_ne (Ne.symm nse), upd_same], List.nodup_nil, Nat.zero_le _, fun _ _ h => (by cases h), fun s c ⟨s', _, h⟩ => by
        rcases h with ⟨h, _⟩ | ⟨_, h⟩
        · omega
        · simp at h⟩
      e := ⟨[], upd_same, List.nodup_nil, Nat.zero_le _, fun _ _ h => (by cases h)⟩ }
    have hra3 := e3 _ _ h2
    refine q_forR1 (n := n) (ea_cons (ev_var rfl) ea_nil) ⟨by omega, by omega⟩ (fun m σ' H' => Inv2 L n regs ("" :: "" :: signs) sa ea H3 m 0 H' ∧ ∃ v8 v9, σ' = [some (.ref d), some (.ref sg), some (.str L), some (.int n), some (.ref ra), some (.ref fa), some (.ref sa), some (.ref ea), v8, v9, none]) (fun H5 e5 => ⟨I0.ext e5, none, none, rfl⟩) ?_ ?_
    · rintro m σ' H' hm ⟨I, v8, v9, rfl⟩
      show (tSeq _ _) _ _ _
      refine s_forS (ev_var rfl) (fun j σ' H' => Inv2 L n regs ("" :: "" :: signs) sa ea H3 m j H' ∧ ∃ v9, σ' = [some (.ref d), some (.ref sg), some (.str L), some (.int n), some (.ref ra), some (.ref fa), some (.ref sa), some (.ref ea), some (.int (m : Int)), v9, none]) (fun H5 e5 => ⟨I.ext e5, v9, rfl⟩) ?_ ?_
      · rintro j c σ' H5 hc ⟨I, v9, rfl⟩
        have hc' : (cds L)[j]? = some c := by rw [Array.getElem?_toList]; exact hc
        have hjl : j < (cds L).length := (List.getElem?_eq_some_iff.mp hc').1
        obtain ⟨kvs, g1, g2, g3, g4, g5⟩ := I.s
        obtain ⟨ke, q1, q2, q3, q4⟩ := I.e
        have htk : (cds L).take (j + 1) = (cds L).take j ++ [c] := by rw [List.take_succ, hc']; rfl
        have hcn : c ∉ (cds L).take j := fun z => by
          have := hLn
          rw [← List.take_append_drop (j + 1) (cds L), htk] at this
          have h2 := (List.nodup_append.mp (List.nodup_append.mp this).1)
          exact h2.2.2 c z c (List.mem_singleton.mpr rfl) rfl
        have hnew : [Sum.inl (m : Int), Sum.inr ⟨#[c]⟩] ∉ kvs.map (·.1) := fun z => by
          obtain ⟨p, hp, e⟩ := List.mem_map.mp z
          obtain ⟨s, c2, e1, ⟨s', e2, e3⟩, _⟩ := g4 p.1 p.2 hp
          rw [e1] at e
          obtain ⟨e4, rfl⟩ := pl_inj e
          rcases e3 with ⟨e3, _⟩ | ⟨_, e3⟩
          · omega
          · exact hcn e3
        have hvn : valV kvs [Sum.inl (m : Int), Sum.inr ⟨#[c]⟩] = none := by
          cases hv : valV kvs [Sum.inl (m : Int), Sum.inr ⟨#[c]⟩] with
          | none => rfl
          | some v => exact absurd (List.mem_map_of_mem (f := (·.1)) (valV_mem hv)) hnew
        have hD5 := hD.ex (e13.trans I.ex)
        have hsg5 := (e13.trans I.ex) _ _ hsg
        have hra5 := I.ex _ _ hra3
        have eR : ∀ H6, Ex H5 H6 → EvP (tCall (sp_law_rows K) [] E0 (tCons (tVar 0) (tCons (tVar 4) (tCons (tVar 1) tNil)))) [some (.ref d), some (.ref sg), some (.str L), some (.int n), some (.ref ra), some (.ref fa), some (.ref sa), some (.ref ea), some (.int (m : Int)), some (.str ⟨#[c]⟩), none] H6 (fun v H => ∃ r R, v = .ref r ∧ RowsN regs R H r ∧ RowsLin regs ("" :: "" :: signs) R ∧ r ≠ ea) := fun H6 e6 =>
          ep_use (ea_cons (ev_var rfl) (ea_cons (ev_var rfl) (ea_cons (ev_var rfl) ea_nil))) (spE_P (d, ra, sg, regs, signs, ea) (fun _ e7 => ⟨rfl, hD5.ex (e6.trans e7), (e6.trans e7) _ _ hra5, (e6.trans e7) _ _ hsg5, hN, by show regs.length ≤ 10; omega, hs10, _, (e6.trans e7) _ _ q1⟩) fun v H7 _ p => p)
        refine s_dputT (k := [.inl (m : Int), .inr ⟨#[c]⟩]) (Pv := fun v H => ∃ x, StepD n regs ("" :: "" :: signs) ea H v x) g1
          (((new_tup (pa1 (P := fun v _ => ∃ r, v = .int r ∧ 0 ≤ r ∧ r < n) (fun _ _ _ _ h => h) (ep_next (ev_var rfl) (ev_var rfl) hD5 hn0) (pa1 (Pr := fun vs _ => vs = []) (fun v H H' e ⟨r, R, a1, a2, a3⟩ => ⟨r, R, a1, a2.ex e, a3⟩) (eR H5 (Ex.refl H5)) pa0)) (fun vs H2 ⟨v, r, h1, h2, v', r', h3, h4, h5⟩ => by rw [h1, h3, h5]; show 2 ≤ 1000; decide)
            (fun vs H H' e ⟨v, r, h1, h2, v', r', h3, ⟨l, R, h4, h6, h7⟩, h5⟩ => ⟨v, r, h1, h2, v', r', h3, ⟨l, R, h4, h6.ex e, h7⟩, h5⟩)).evP).imp fun v H6 _ ⟨b, o, h1, h2, vs, h3, v1, r1, h4, ⟨g, h5, h5a, h5b⟩, v2, r2, h6, ⟨l, R, h7, h8, h8a, h8b⟩, h10⟩ => ⟨(g, R), b, l, h1, by rw [h2, h3, h4, h5, h6, h7, h10], h5a, h5b, h8, h8a, h8b⟩)
          (fun H6 e6 => ev_var rfl) (fun H6 e6 => eu_tup (ea_cons (ev_var rfl) (ea_cons (ev_var rfl) ea_nil)) (by show 2 ≤ 100000; decide)) (by omega) (fun v H H' e ⟨x, h⟩ => ⟨x, h.ex e⟩) fun v H6 e6 ⟨x, hx⟩ => ?_
        have I6 := I.ext e6
        have g16 := e6 _ _ g1
        rw [putK_new _ hvn]
        refine ⟨{ ex := ?_, s := ⟨_, upd_same, ?_, ?_, ?_, ?_⟩, e := ⟨ke, ?_, q2, q3, ?_⟩ }, some (.str ⟨#[c]⟩), rfl⟩
        · exact Ex.mut I6.ex hsa
        · rw [List.map_append, List.nodup_append]
          refine ⟨g2, by simp, fun a ha b hb z => ?_⟩
          subst z
          rw [List.mem_singleton.mp hb] at ha
          exact hnew ha
        · rw [List.length_append]
          show kvs.length + 1 ≤ m * 10 + (j + 1)
          omega
        · intro kk v' hm'
          rcases List.mem_append.mp hm' with h | h
          · obtain ⟨s, c2, e1, ⟨s', e2, e3⟩, y, e4⟩ := g4 kk v' h
            refine ⟨s, c2, e1, ⟨s', e2, ?_⟩, y, (e4.ex e6).updT g16⟩
            rcases e3 with e3 | ⟨e3, e3b⟩
            · exact .inl e3
            · exact .inr ⟨e3, by rw [htk]; exact List.mem_append_left _ e3b⟩
          · cases List.mem_singleton.mp h
            exact ⟨(m : Int), c, rfl, ⟨m, rfl, .inr ⟨rfl, by rw [htk]; exact List.mem_append_right _ (List.mem_singleton.mpr rfl)⟩⟩, x, hx.updT g16⟩
        · rintro s c2 ⟨s', rfl, hd⟩
          rw [List.map_append]
          rcases hd with hd | ⟨rfl, hd⟩
          · exact List.mem_append_left _ (g5 _ _ ⟨s', rfl, .inl hd⟩)
          · rw [htk] at hd
            rcases List.mem_append.mp hd with hd | hd
            · exact List.mem_append_left _ (g5 _ _ ⟨_, rfl, .inr ⟨rfl, hd⟩⟩)
            · rw [List.mem_singleton.mp hd]
              exact List.mem_append_right _ (List.mem_singleton.mpr rfl)
        · rw [upd_ne nse]
          exact e6 _ _ q1
        · intro kk v' hm'
          obtain ⟨s, a, row, e1, e2, e3, e4, e5⟩ := q4 kk v' hm'
          exact ⟨s, a, row, e1, e2, e3, (e4.le (Le.ex e6)).upd g16 (fun xs z => by cases z), e5⟩
      · rintro σ' H5 ⟨I, v9, rfl⟩
        have hsz : L.cps.size = (cds L).length := by rw [Array.length_toList]
        have Ifull : ∀ {H6 : Hp}, Ex H5 H6 → (∃ kvs : List (List Key × V), H6 sa = some (.dT kvs) ∧ (kvs.map (·.1)).Nodup ∧ kvs.length ≤ (m + 1) * 10 + 0 ∧ (∀ k v, (k, v) ∈ kvs → ∃ s c, k = [.inl s, .inr ⟨#[c]⟩] ∧ Done L (m + 1) 0 s c ∧ ∃ x, StepD n regs ("" :: "" :: signs) ea H6 v x) ∧ ∀ s c, Done L (m + 1) 0 s c → [Sum.inl s, Sum.inr ⟨#[c]⟩] ∈ kvs.map (·.1)) := fun {H6} e6 => by
          obtain ⟨kvs, g1, g2, g3, g4, g5⟩ := (I.ext e6).s
          rw [hsz] at g3 g4 g5
          refine ⟨kvs, g1, g2, by omega, fun kk v hm' => ?_, fun s c ⟨s', e1, e2⟩ => g5 s c ⟨s', e1, ?_⟩⟩
          · obtain ⟨s, c, e1, ⟨s', e2, e3⟩, x, e4⟩ := g4 kk v hm'
            refine ⟨s, c, e1, ⟨s', e2, .inl ?_⟩, x, e4⟩
            rcases e3 with ⟨e3, e3b⟩ | ⟨e3, e3b⟩
            · exact ⟨by omega, e3b⟩
            · exact ⟨by omega, by rw [List.take_length] at e3b; exact e3b⟩
          · rcases e2 with ⟨e2, e2b⟩ | ⟨_, e2b⟩
            · by_cases h : s' < m
              · exact .inl ⟨h, e2b⟩
              · exact .inr ⟨by omega, by rw [List.take_length]; exact e2b⟩
            · simp at e2b
        have hD5 := hD.ex (e13.trans I.ex)
        obtain ⟨ke, q1, q2, q3, q4⟩ := I.e
        refine s_ifA (eta_I (g := fun i j => decide (j < i)) (ep_nextI (ev_var rfl) ev_c hD5 (by decide)) ev_c) (fun H6 e6 => ?_) (fun H6 e6 => ⟨{ ex := I.ex.trans e6, s := Ifull e6, e := ⟨ke, e6 _ _ q1, q2, by omega, fun kk v hm' => ?_⟩ }, some (.int (m : Int)), v9, rfl⟩)
        · have hvn : valV ke (Sum.inl (m : Int)) = none := by
            cases hv : valV ke (Sum.inl (m : Int)) with
            | none => rfl
            | some v =>
              obtain ⟨s, a, row, e1, e2, _⟩ := q4 _ v (valV_mem hv)
              cases e1
              omega
          have e6' := I.ex.trans e6
          refine s_dput (k := .inl (m : Int)) (Pv := fun v H => ∃ a row, v = .ref a ∧ RowAt H a row ∧ RowOkD regs ("" :: "" :: signs) (regs.length + 1) row) (e6 _ _ q1) (ep_use (ea_cons (ev_var rfl) (ea_cons (ev_var rfl) (ea_cons (ev_var rfl) ea_nil))) (spE_P (d, ra, sg, regs, signs) (fun _ e7 => ⟨rfl, hD.ex ((e13.trans e6').trans e7), (e6'.trans e7) _ _ hra3, ((e13.trans e6').trans e7) _ _ hsg, by show regs.length ≤ 10; omega, hs10⟩) fun v H7 _ p => p))
            (ev_var rfl) (ev_var rfl) rfl (by omega) (fun v H7 e7 ⟨a, row, b1, b2, b3⟩ _ => ?_) (fun v H H' e ⟨a, row, b1, b2, b3⟩ => ⟨a, row, b1, b2.le (Le.ex e), b3⟩)
          have q17 := (e6.trans e7) _ _ q1
          rw [putK_new _ hvn]
          obtain ⟨kvs, g1, g2, g3, g4, g5⟩ := Ifull (e6.trans e7)
          refine ⟨{ ex := Ex.mut (e6'.trans e7) hea3, s := ⟨kvs, by rw [upd_ne (Ne.symm nse)]; exact g1, g2, g3, fun kk v' hm' => ?_, g5⟩, e := ⟨_, upd_same, ?_, ?_, ?_⟩ }, some (.int (m : Int)), v9, rfl⟩
          · obtain ⟨s, c, e1, e2, x, e3⟩ := g4 kk v' hm'
            exact ⟨s, c, e1, e2, x, e3.updK q17⟩
          · rw [List.map_append, List.nodup_append]
            refine ⟨q2, by simp, fun a' ha b hb z => ?_⟩
            subst z
            rw [List.mem_singleton.mp hb] at ha
            obtain ⟨v', hv', _⟩ := valV_key ha
            rw [hvn] at hv'
            cases hv'
          · rw [List.length_append]
            show ke.length + 1 ≤ m + 1
            omega
          · intro kk v' hm'
            rcases List.mem_append.mp hm' with h | h
            · obtain ⟨s, a', row', c1, c2, c3, c4, c5⟩ := q4 kk v' h
              exact ⟨s, a', row', c1, by omega, c3, (c4.le (Le.ex (e6.trans e7))).upd q17 (fun xs z => by cases z), c5⟩
            · cases List.mem_singleton.mp h
              exact ⟨m, a, row, rfl, Nat.lt_succ_self m, b1, b2.upd q17 (fun xs z => by cases z), b3⟩
        · obtain ⟨s, a, row, c1, c2, c3, c4, c5⟩ := q4 kk v hm'
          exact ⟨s, a, row, c1, by omega, c3, c4.le (Le.ex e6), c5⟩
    · rintro σ' H' ⟨I, v8, v9, rfl⟩
      obtain ⟨kvs, g1, g2, g3, g4, g5⟩ := I.s
      obtain ⟨ke, q1, q2, q3, q4⟩ := I.e
      obtain ⟨fx, hfx⟩ := key_fun (β := Int × (Str → List Itm)) (kvs := kvs) g2 (Q := fun _ v x => StepD n regs ("" :: "" :: signs) ea H' v x) fun kk v hm' => by
        obtain ⟨s, c, _, _, x, hx⟩ := g4 kk v hm'
        exact ⟨x, hx⟩
      obtain ⟨fe, hfe⟩ := key_fun (β := List Itm) (kvs := ke) q2 (Q := fun _ v row => ∃ a, v = .ref a ∧ RowAt H' a row ∧ RowOkD regs ("" :: "" :: signs) (regs.length + 1) row) fun kk v hm' => by
        obtain ⟨s, a, row, _, _, c3, c4, c5⟩ := q4 kk v hm'
        exact ⟨row, a, c3, c4, c5⟩
      have hdone : ∀ s c, Done L n.toNat 0 s c ↔ SL L n s c := fun s c => by
        constructor
        · rintro ⟨s', rfl, h⟩
          rcases h with ⟨h, h2⟩ | ⟨_, h⟩
          · exact ⟨by omega, by omega, h2⟩
          · simp at h
        · rintro ⟨h0, h1, h2⟩
          exact ⟨s.toNat, by omega, .inl ⟨by omega, h2⟩⟩
      let g : Pg := ⟨L, n, regs, fun m => fst (.inr m), fun s c => (fx [.inl s, .inr ⟨#[c]⟩]).1, fun s c => (fx [.inl s, .inr ⟨#[c]⟩]).2, fun s => if (valV ke (.inl s)).isSome = true then some (fe (.inl s)) else none⟩
      have PD : PgD H' g ra fa sa ea := {
        rS := I.ex _ _ hra3
        f := I.ex _ _ h3
        s := ⟨kvs, g1, by omega, g2, fun kk v hm' => by
          obtain ⟨s, c, e1, e2, _⟩ := g4 kk v hm'
          obtain ⟨b, r, d1, d2, d3, d4, d5, d6, d7⟩ := hfx kk v hm'
          subst e1
          exact ⟨s, c, b, r, rfl, (hdone s c).mp e2, d1, d2, d5⟩, fun s c h => g5 s c ((hdone s c).mpr h)⟩
        e := ⟨ke, q1, by omega, q2, fun kk v hm' => by
          obtain ⟨s, a, row, c1, c2, c3, c4, c5⟩ := q4 kk v hm'
          obtain ⟨a', d1, d2, d3⟩ := hfe kk v hm'
          subst c1
          refine ⟨(s : Int), a', _, rfl, ?_, d1, d2⟩
          show (if (valV ke (.inl (s : Int))).isSome = true then some (fe (.inl (s : Int))) else none) = _
          rw [valV_uniq q2 hm']
          rfl, fun s h => by
          have h : (if (valV ke (.inl s)).isSome = true then some (fe (.inl s)) else none).isSome = true := h
          by_cases hv : (valV ke (.inl s)).isSome = true
          · obtain ⟨v, hv'⟩ := Option.isSome_iff_exists.mp hv
            exact List.mem_map_of_mem (f := (·.1)) (valV_mem hv')
          · rw [if_neg hv] at h
            cases h⟩ }
      have DO : DrOk ("" :: "" :: signs) g := {
        L := hL
        n := hn
        r := hregs
        f := hfstok
        go := fun s c h => by
          obtain ⟨v, hv, hm'⟩ := valV_key (g5 s c ((hdone s c).mpr h))
          obtain ⟨b, r, d1, d2, d3, d4, _⟩ := hfx _ v hm'
          exact ⟨d3, d4⟩
        ro := fun s c h => by
          obtain ⟨v, hv, hm'⟩ := valV_key (g5 s c ((hdone s c).mpr h))
          obtain ⟨b, r, d1, d2, d3, d4, d5, d6, d7⟩ := hfx _ v hm'
          exact d6.1
        li := fun s c h => by
          obtain ⟨v, hv, hm'⟩ := valV_key (g5 s c ((hdone s c).mpr h))
          obtain ⟨b, r, d1, d2, d3, d4, d5, d6, d7⟩ := hfx _ v hm'
          exact d6.2
        fi := fun s row h => by
          have h : (if (valV ke (.inl s)).isSome = true then some (fe (.inl s)) else none) = some row := h
          by_cases hv : (valV ke (.inl s)).isSome = true
          · rw [if_pos hv] at h
            obtain ⟨v, hv'⟩ := Option.isSome_iff_exists.mp hv
            have hm' := valV_mem hv'
            obtain ⟨s', a, row', c1, c2, _⟩ := q4 _ v hm'
            obtain ⟨a', d1, d2, d3⟩ := hfe _ v hm'
            cases c1
            cases h
            exact ⟨by omega, by show (s' : Int) < n; omega, d3⟩
          · rw [if_neg hv] at h
            cases h }
      refine s_retU (eu_tup (ea_cons (ev_var rfl) (ea_cons (ev_var rfl) (ea_cons (ev_var rfl) (ea_cons (ev_var rfl) (ea_cons (ev_var rfl) (ea_cons (ev_var rfl) ea_nil)))))) (by show 6 ≤ 100000; decide)) fun b H7 hb e7 h7 => ?_
      exact k _ H7 ((e13.trans I.ex).trans e7) ⟨b, g, rfl, ⟨ra, fa, sa, ea, h7, PD.ex e7⟩, DO⟩
end
end KX
end
section
set_option Elab.async false
set_option linter.all false
set_option maxRecDepth 100000
set_option maxHeartbeats 8000000
/-! Bs19: a drawn program is as told, and runs. -/
namespace KX
open PySem PySem.Spec PyProof.Rows L2 Evl
def Pg.td (g : Pg) : Td := ⟨g.L, g.n, g.regs, fun n => some (g.fst n), g.goal, fun s c n => some (g.row s c n), g.fin⟩
theorem tx_ok {s : Str} (h : s ∈ [("" : Str), "", "a", "b"]) : Tx s := by
  simp only [List.mem_cons, List.not_mem_nil, or_false] at h
  rcases h with rfl | rfl | rfl | rfl
  · exact ⟨by decide +kernel, by decide +kernel⟩
  · exact ⟨by decide +kernel, by decide +kernel⟩
  · exact ⟨by decide +kernel, by decide +kernel⟩
  · exact ⟨by decide +kernel, by decide +kernel⟩
abbrev sg4 : List Str := ["", "", "a", "b"]
theorem len_sg {s : Str} (h : s ∈ sg4) : s.length ≤ 1 := by
  simp only [List.mem_cons, List.not_mem_nil, or_false] at h
  rcases h with rfl | rfl | rfl | rfl <;> decide +kernel
theorem rowLen_le {regs : List Str} {k : Nat} : ∀ {row : List Itm}, RowOkD regs sg4 k row → rowLen row ≤ row.length
  | [], _ => Nat.le_refl _
  | t :: r, h => by
    have ih := rowLen_le (regs := regs) (k := r.length) (row := r) ⟨Nat.le_refl _, fun u hu => h.2 u (List.mem_cons_of_mem _ hu)⟩
    have ht := h.2 t List.mem_cons_self
    have : tLen t ≤ 1 := by
      cases t with
      | t s => exact len_sg ht
      | r m => exact Nat.zero_le _
    show tLen t + rowLen r ≤ r.length + 1
    omega
theorem regs_ok {g : Pg} {sg : List Str} (D : DrOk sg g) : g.regs.Nodup ∧ g.regs.length ≤ 2 ∧ ∀ x ∈ g.regs, Wd x := by
  have r := D.r
  generalize g.regs = regs at r
  rcases r with rfl | rfl | rfl
  · exact ⟨by decide +kernel, by decide, fun x hx => by rw [List.mem_singleton.mp hx]; decide +kernel⟩
  · refine ⟨by decide +kernel, by decide, fun x hx => ?_⟩
    simp only [List.mem_cons, List.not_mem_nil, or_false] at hx
    rcases hx with rfl | rfl <;> decide +kernel
  · exact ⟨List.nodup_nil, by decide, fun x hx => by cases hx⟩
theorem L_ok {g : Pg} {sg : List Str} (D : DrOk sg g) : Tx g.L ∧ 1 ≤ g.L.length ∧ g.L.length ≤ 4 ∧ ((cds g.L).map fun c => (⟨#[c]⟩ : Str)).Nodup := by
  have l := D.L
  generalize g.L = L at l
  rcases l with rfl | rfl
  · exact ⟨⟨by decide +kernel, by decide +kernel⟩, by decide +kernel, by decide +kernel, by decide +kernel⟩
  · exact ⟨⟨by decide +kernel, by decide +kernel⟩, by decide +kernel, by decide +kernel, by decide +kernel⟩
/-- all places: so many -/
theorem places_len {L : Str} {n : Int} (hL : (cds L).Nodup) (hn : 0 ≤ n) {kvs : List (List Key × V)} (h1 : (kvs.map (·.1)).Nodup) (h2 : ∀ k v, (k, v) ∈ kvs → ∃ s c, k = [.inl s, .inr ⟨#[c]⟩] ∧ SL L n s c) (h3 : ∀ s c, SL L n s c → [Sum.inl s, Sum.inr ⟨#[c]⟩] ∈ kvs.map (·.1)) :
    (kvs.length : Int) = n * (L.length : Int) := by
  let all : List (List Key) := (List.range n.toNat).flatMap fun (s : Nat) => (cds L).map fun c => [Sum.inl (s : Int), Sum.inr ⟨#[c]⟩]
  have hmem : ∀ k, k ∈ all ↔ k ∈ kvs.map (·.1) := fun k => by
    constructor
    · intro h
      obtain ⟨s, hs, hk⟩ := List.mem_flatMap.mp h
      obtain ⟨c, hc, rfl⟩ := List.mem_map.mp hk
      have := List.mem_range.mp hs
      exact h3 _ _ ⟨by omega, by omega, hc⟩
    · intro h
      obtain ⟨p, hp, rfl⟩ := List.mem_map.mp h
      obtain ⟨s, c, e, h0, h1, h2⟩ := h2 p.1 p.2 hp
      rw [e]
      refine List.mem_flatMap.mpr ⟨s.toNat, List.mem_range.mpr (by omega), List.mem_map.mpr ⟨c, h2, ?_⟩⟩
      have : ((s.toNat : Nat) : Int) = s := by omega
      rw [this]
  have hnd : all.Nodup := by
    refine List.pairwise_flatMap.mpr ⟨fun s _ => ?_, ?_⟩
    · refine List.Pairwise.map _ (fun a b hab q => hab ?_) hL
      exact (pl_inj q).2
    · refine List.Pairwise.imp ?_ (List.nodup_range (n := n.toNat))
      intro a b hab k hk1 k2 hk2 q
      obtain ⟨c, _, rfl⟩ := List.mem_map.mp hk1
      obtain ⟨c', _, rfl⟩ := List.mem_map.mp hk2
      have := (pl_inj q).1
      exact hab (by omega)
  have hp : all.Perm (kvs.map (·.1)) := (List.perm_ext_iff_of_nodup hnd h1).mpr hmem
  have hl := hp.length_eq
  rw [List.length_map] at hl
  have ha : all.length = n.toNat * (cds L).length := by
    show (List.flatMap _ _).length = _
    rw [List.length_flatMap]
    simp
    rw [List.map_const', List.sum_replicate_nat, List.length_range]
  rw [← hl, ha, len_cds, Int.natCast_mul]
  congr 1
  omega
theorem told_ok {H : Hp} {g : Pg} {ra fa sa ea : Addr} (D : DrOk sg4 g) (T : PgD H g ra fa sa ea) : TdAt H g.td ra fa sa ea ∧ PartsX H g.L g.n g.regs ra fa sa ea := by
  obtain ⟨hN, h2, hW⟩ := regs_ok D
  obtain ⟨lT, l1, l4, lN⟩ := L_ok D
  obtain ⟨hLn, _⟩ := cds_nodup_L D.L
  have hn := D.n
  have okrow : ∀ {row : List Itm}, RowOkD g.regs sg4 (g.regs.length + 1) row → RowZ row ∧ (∀ t ∈ row, ItOk g.regs t) := fun {row} h => by
    have h1 := rowLen_le h
    have h3 := h.1
    refine ⟨⟨by omega, by omega⟩, fun t ht => ?_⟩
    have h4 := h.2 t ht
    cases t with
    | t s => exact tx_ok h4
    | r m => exact h4
  obtain ⟨kvs, g1, g2, g3, g4, g5⟩ := T.s
  obtain ⟨ke, q1, q2, q3, q4, q5⟩ := T.e
  have hlen := places_len hLn (by omega) g3 (fun k v m => by
    obtain ⟨s, c, b, r, h1, h2, _⟩ := g4 k v m
    exact ⟨s, c, h1, h2⟩) g5
  have hkl : kvs.length ≤ 8 := by
    have h1 : (g.L.length : Int) ≤ 4 := by omega
    rcases hn with h | h <;> rw [h] at hlen <;> omega
  have hkel : ke.length ≤ 2 := by
    have hp : ∀ k ∈ ke.map (·.1), k ∈ [(Sum.inl 0 : Key), Sum.inl 1] := fun k hk => by
      obtain ⟨p, hp, rfl⟩ := List.mem_map.mp hk
      obtain ⟨s, a, row, h1, h2, _⟩ := q4 p.1 p.2 hp
      obtain ⟨f0, f1, _⟩ := D.fi s row h2
      rw [h1]
      have : s = 0 ∨ s = 1 := by omega
      rcases this with rfl | rfl <;> simp
    have := List.Nodup.length_le_of_subset q3 hp
    rw [List.length_map] at this
    exact this
  have rowD : ∀ {s c r}, SL g.L g.n s c → RowsN g.regs (g.row s c) H r → RowD g.regs (g.td.row s c) H r := fun {s c r} hsl hR => by
    obtain ⟨l, a1, a2, a3⟩ := hR
    refine ⟨l, .inl a1, fun m hm => .inr ?_⟩
    obtain ⟨v, hv, hmm⟩ := valV_key (kvs := l) (k := .inr m) (by rw [a2]; exact List.mem_map_of_mem hm)
    obtain ⟨a, rfl, hA⟩ := a3 m v hmm
    have hz := (okrow (D.ro s c hsl m hm)).1
    exact ⟨g.row s c m, a, rfl, hv, hA, hz.1, hz.2⟩
  have rowX : ∀ {s c r}, SL g.L g.n s c → RowsN g.regs (g.row s c) H r → RowsX g.regs H r := fun {s c r} hsl hR => by
    obtain ⟨l, a1, a2, a3⟩ := hR
    have hl : l.length = g.regs.length := by simpa using congrArg List.length a2
    refine ⟨l, a1, by omega, fun k v m => ?_⟩
    have hk : k ∈ l.map (·.1) := List.mem_map_of_mem (f := (·.1)) m
    rw [a2] at hk
    obtain ⟨m', hm', rfl⟩ := List.mem_map.mp hk
    obtain ⟨a, rfl, hA⟩ := a3 m' v m
    have hz := okrow (D.ro s c hsl m' hm')
    exact ⟨m', a, rfl, rfl, hm', g.row s c m', hA, hz.1.1, hz.2⟩
  refine ⟨⟨T.rS, hN, by show g.regs.length ≤ 60; omega, by show g.L.length ≤ 100000; omega, ⟨_, T.f, fun n hn => hk_at hn⟩, ⟨kvs, g1, by omega, g3, fun k v m => ?_, g5⟩, ⟨ke, q1, by omega, q3, fun k v m => ?_, q5⟩⟩, ?_⟩
  · obtain ⟨s, c, b, r, h1, h2, h3, h4, h5⟩ := g4 k v m
    exact ⟨s, c, b, r, h1, h2, h3, h4, rowD h2 h5⟩
  · obtain ⟨s, a, row, h1, h2, h3, h4⟩ := q4 k v m
    exact ⟨s, a, row, h1, h2, h3, h4, (okrow (D.fi s row h2).2.2).1⟩
  · refine ⟨lT, l1, l4, lN, by omega, by omega, T.rS, hN, by omega, hW, ⟨_, T.f, by unfold hk; rw [List.length_map]; omega, fun k v m => ?_⟩, ⟨kvs, g1, by omega, hlen, fun k v m => ?_⟩, ⟨ke, q1, by omega, fun k v m => ?_⟩⟩
    · obtain ⟨n, hn, e⟩ := List.mem_map.mp m
      cases e
      refine ⟨n, _, rfl, rfl, hn, ?_⟩
      rcases D.f n hn with h | h <;> rw [h] <;> exact tx_ok (by simp)
    · obtain ⟨s, c, b, r, h1, h2, h3, h4, h5⟩ := g4 k v m
      have hgo := D.go s c h2
      exact ⟨⟨s, c, h1, h2.1, h2.2.1, h2.2.2⟩, b, h3, g.goal s c, r, h4, hgo.1, hgo.2, rowX h2 h5⟩
    · obtain ⟨s, a, row, h1, h2, h3, h4⟩ := q4 k v m
      obtain ⟨f0, f1, f2⟩ := D.fi s row h2
      have hz := okrow f2
      exact ⟨s, a, h1, h3, f0, f1, row, h4, hz.1.1, hz.2⟩
end KX
end
section
set_option Elab.async false
set_option linter.all false
set_option maxRecDepth 100000
set_option maxHeartbeats 8000000
/-! Bs20: what is kept of a drawn program runs as it is told. -/
namespace KX
open PySem PySem.Spec PyProof.Rows L2 Evl
theorem nrmGo_len : ∀ (row acc : List Itm) (ts : List Str), (nrmGo row acc ts).length ≤ acc.length + 2 * row.length + 1
  | [], acc, ts => by
    show (acc ++ (oneS ts).map Itm.t).length ≤ _
    rw [List.length_append, List.length_map]
    have := oneS_len ts
    simp
    omega
  | .t s :: r, acc, ts => by
    have := nrmGo_len r acc (ts ++ [s])
    show (nrmGo r acc (ts ++ [s])).length ≤ acc.length + 2 * (r.length + 1) + 1
    omega
  | .r n :: r, acc, ts => by
    have h := nrmGo_len r (acc ++ (oneS ts).map .t ++ [.r n]) []
    have h1 := oneS_len ts
    rw [List.length_append, List.length_append, List.length_map] at h
    show (nrmGo r (acc ++ (oneS ts).map .t ++ [.r n]) []).length ≤ acc.length + 2 * (r.length + 1) + 1
    have h2 : [Itm.r n].length = 1 := rfl
    omega
theorem nrm_len (row : List Itm) : (nrm row).length ≤ 2 * row.length + 1 := by
  have := nrmGo_len row [] []
  show (nrmGo row [] []).length ≤ _
  simpa using this
theorem goOk {g : Pg} (D : DrOk sg4 g) : GoOk g.td.pg := by
  obtain ⟨hN, h2, hW⟩ := regs_ok D
  have hp := srtS_perm g.regs
  have hn := D.n
  have sl : ∀ {s c}, SL (lts g.L) g.n s c → SL g.L g.n s c := fun h => ⟨h.1, h.2.1, lts_mem.mp h.2.2⟩
  refine ⟨by show 1 ≤ g.n; omega, hp.1.nodup_iff.mpr hN, by show (srtS g.regs).length ≤ 60; rw [hp.1.length_eq]; omega, fun s c h => D.go s c (sl h), fun s c h n hn => ?_, fun s row h => ?_⟩
  · have hro := D.ro s c (sl h) n (hp.1.mem_iff.mp hn)
    have h1 := nrm_len (g.row s c n)
    have h3 := hro.1
    refine ⟨by show (nrm (g.row s c n)).length ≤ 1000; omega, fun m hm => hp.1.mem_iff.mpr (hro.2 _ (nrm_mem hm))⟩
  · have h : (g.fin s).map nrm = some row := h
    obtain ⟨row0, h0, rfl⟩ := Option.map_eq_some_iff.mp h
    have hfi := (D.fi s row0 h0).2.2
    have h1 := nrm_len row0
    have h3 := hfi.1
    exact ⟨by omega, fun m hm => hp.1.mem_iff.mpr (hfi.2 _ (nrm_mem hm))⟩
/-- runs as told -/
theorem runG_td (g : Pg) : ∀ (w : List Nat), runG g.td.pg w = runG g w := by
  have h : ∀ (w : List Nat) (x : Int × (Str → Str)), w.foldl (stp g.td.pg) x = w.foldl (stp g) x := by
    intro w
    induction w with
    | nil => intro x; rfl
    | cons c w ih =>
      intro x
      have e : stp g.td.pg x c = stp g x c := by
        show (g.goal x.1 c, fun n => wr (nrm (g.row x.1 c n)) x.2) = (g.goal x.1 c, fun n => wr (g.row x.1 c n) x.2)
        congr 1
        funext n
        rw [wr_nrm]
      show w.foldl (stp g.td.pg) (stp g.td.pg x c) = w.foldl (stp g) (stp g x c)
      rw [e, ih]
  intro w
  have e0 : (fun n => (g.td.fs n).getD "") = g.fst := rfl
  show w.foldl (stp g.td.pg) (0, fun n => (g.td.fs n).getD "") = w.foldl (stp g) (0, g.fst)
  rw [e0]
  exact h w _
theorem wrG_td (g : Pg) (w : List Nat) : wrG g.td.pg w = wrG g w := by
  unfold wrG
  rw [runG_td]
  show ((g.fin (runG g w).1).map nrm).map (fun row => wr row (runG g w).2) = (g.fin (runG g w).1).map (fun row => wr row (runG g w).2)
  cases g.fin (runG g w).1 with
  | none => rfl
  | some row =>
    show some (wr (nrm row) (runG g w).2) = some (wr row (runG g w).2)
    rw [wr_nrm]
end KX
end
section
set_option Elab.async false
set_option linter.all false
set_option maxRecDepth 100000
set_option maxHeartbeats 4000000
/-! Lm1: a lambda made: its code object is told with its own table. -/
namespace LmK
open PySem PySem.Spec PyProof.Rows PySem.Calls L2

/-- at c: a code object of the name q, whose table stands at P -/
def Cd (c P : Addr) (q : Str) : HO := .ext fun h => PySem.W.CodeHd h c P ∧ ∃ (oc : Obj) (vs : Array Value) (t : Tok), h.get? c = some oc ∧ oc.data = .fields vs ∧ vs[1]? = some (.str q t)
theorem cd_at {P : Program} {w : World} {H : Hp} {h : Heap} {c T : Addr} {q : Str} (hok : HOk P w H h) (e : H c = some (Cd c T q)) : PySem.W.CodeHd h c T ∧ h.CodeRec (.ref c) q := by
  have x : ObjOk P w H h c (Cd c T q) := hok c _ e
  obtain ⟨⟨hd, oc, vs, t, e1, e2, e3⟩, _⟩ := x
  exact ⟨hd, c, oc, vs, t, rfl, e1, e2, e3⟩
theorem hd_one {h h' : Heap} {c T : Addr} (x : PySem.W.CodeHd h c T) (k : ∀ o, h.get? c = some o → h'.get? c = some o) : PySem.W.CodeHd h' c T := by
  obtain ⟨o, vs, file, tf, flags, tg, inF, text, tt, e, r⟩ := x
  exact ⟨o, vs, file, tf, flags, tg, inF, text, tt, k _ e, r⟩
theorem cd_ok {P : Program} {w : World} {H : Hp} {h : Heap} {c T : Addr} {q : Str} (hC : PySem.W.CodeHd h c T) (hN : ∃ (oc : Obj) (vs : Array Value) (t : Tok), h.get? c = some oc ∧ oc.data = .fields vs ∧ vs[1]? = some (.str q t)) : ObjOk P w H h c (Cd c T q) := by
  obtain ⟨oc, vs, t, e1, e2, e3⟩ := hN
  refine ⟨⟨hC, oc, vs, t, e1, e2, e3⟩, ⟨oc, e1⟩, fun h1 h2 ⟨a, oc, vs, t, b, c, d⟩ st => ⟨hd_one a st, oc, vs, t, st _ b, c, d⟩⟩
theorem cd_tbl {c T : Addr} {q : Str} (ps : Array Value) : Cd c T q ≠ .tbl ps := fun z => by
  unfold Cd at z
  cases z

section
variable {M : Model} {A : Around} {E : Value → Shared → Prop} {s : Shared} {name qual : Str} {params : Arguments} {body : Expr} {scope : Scope} {env : Env} {c P : Addr} {ps : Array Value} {pos : Pos} {firstLine : Nat} {mg : Str → Option Value} {clos : List (Str × Addr)} {Q : Value → Shared → Prop}
/-- .. where the table has no code object for this place yet -/
theorem mk_new (hcl : closureFor scope env = pure clos) (hglob : env.globals = mainGlobals) (hg : s.heap.Ns mainGlobals mg) (hcode : env.code = .ref c) (hC : PySem.W.CodeHd s.heap c P) (hP : s.heap.get? P = some (PySem.W.tabObj ps))
    (tok : TriplesOk ps.toList) (hnone : codeAmong pos ps.toList = none) (apart : mainGlobals ≠ P) (hbi : s.heap.BuiltinsAt mg P)
    (fin : ∀ c' P' ctv h' tk, Heap.ExtBut P s.heap h' → s.heap.objs.size ≤ c' → s.heap.objs.size ≤ P' → c' < h'.objs.size → PySem.W.CodeHd h' c' P' → h'.get? P' = some (PySem.W.tabObj #[]) → h'.CodeRec (.ref c') qual →
      h'.get? P = some (PySem.W.tabObj (ps ++ #[rawInt pos.line, rawInt pos.col, .ref c'])) → Q (.ref h'.objs.size) { s with heap := h'.push (PySem.W.kla_obj name qual params body scope clos ((mg "__name__").getD .none) c' ctv), toks := tk }) :
    wpAny M A (makeFunction name qual params (.expr body) scope env [] [] [] pos firstLine) Q E s := by
  rw [makeFunction_eq]
  simp only [List.zip_nil_right, List.filterMap_nil, List.isEmpty_nil, if_true, pure_bind]
  obtain ⟨bm, ob, hbm, hne, _, hneP, hbo, hcls, hdict, hdata⟩ := hbi
  unfold makeTail
  rw [hcl, hglob]
  refine wpAny_bind (wpAny_pure ?_)
  cases clos with
  | nil =>
    simp only [List.isEmpty_nil, if_true]
    refine wpAny_bind (wpAny_pure ?_)
    refine wpAny_bind (wpAny_functionCodeX hcode (hC.code hP tok) (hC.tab hP) hnone fun c' h' tk ext big lt _ rec_ tab inner => ?_)
    obtain ⟨P', bigP, isC, tabC⟩ := inner
    have hg2 := hg.extBut ext apart
    refine wpAny_bind (wpAny_builtinsFor hg2 hbm hne (ext _ _ hneP hbo) hcls hdict hdata ?_)
    refine wpAny_bind (wpAny_nsGet hg2 ?_)
    refine wpAny_bind (wpAny_pure (wpAny_newObj_type ?_ (by size_fits)))
    exact fin c' P' .none h' tk ext big bigP lt (PySem.W.CodeHd.of isC tabC) tabC.2 rec_ tab.2
  | cons q0 r0 =>
    simp only [List.isEmpty_cons, Bool.false_eq_true, if_false]
    refine wpAny_bind (wpAny_newTextTuple ?_)
    have push : ∀ (u : Obj) b o, s.heap.get? b = some o → (s.heap.push u).get? b = some o := fun u b o e => Heap.get?_push_of_some _ e
    refine wpAny_bind (wpAny_functionCodeX hcode ((hC.keeps (push _)).code (push _ _ _ hP) tok) ((hC.keeps (push _)).tab (push _ _ _ hP)) hnone fun c' h' tk ext big lt _ rec_ tab inner => ?_)
    obtain ⟨P', bigP, isC, tabC⟩ := inner
    have hg2 := (hg.push _).extBut ext apart
    have ext2 : Heap.ExtBut P s.heap h' := fun b o hb e => ext b o hb (push _ b o e)
    have more : ∀ u : Obj, s.heap.objs.size ≤ (s.heap.push u).objs.size := fun u => by
      rw [Heap.size_push]
      omega
    refine wpAny_bind (wpAny_builtinsFor hg2 hbm hne (ext2 _ _ hneP hbo) hcls hdict hdata ?_)
    refine wpAny_bind (wpAny_nsGet hg2 ?_)
    refine wpAny_bind (wpAny_pure (wpAny_newObj_type ?_ (by size_fits)))
    exact fin c' P' _ h' tk ext2 (Nat.le_trans (more _) big) (Nat.le_trans (more _) bigP) lt (PySem.W.CodeHd.of isC tabC) tabC.2 rec_ tab.2
end

section
variable {X : Cx} {pins : List (Addr × Obj)} {σ : L2.St} {H : Hp} {s : Shared}
/-- the table at P has grown, a new code object stands at c', with an empty table at P' -/
def addCd (H : Hp) (P : Addr) (qs : Array Value) (c' P' : Addr) (q : Str) : Hp := upd (upd (upd H P (.tbl qs)) c' (Cd c' P' q)) P' (.tbl #[])
theorem addCd_old {H : Hp} {P c' P' b : Addr} {qs : Array Value} {q : Str} (h1 : b ≠ P) (h2 : b ≠ c') (h3 : b ≠ P') : addCd H P qs c' P' q b = H b := by
  unfold addCd
  rw [upd_ne h3, upd_ne h2, upd_ne h1]
theorem addCd_told {H : Hp} {P c' P' b : Addr} {qs : Array Value} {q : Str} {o : HO} (hc : H c' = none) (hp : H P' = none) (h1 : b ≠ P) (e : H b = some o) : addCd H P qs c' P' q b = some o := by
  rw [addCd_old h1 (ne_of_none e hc) (ne_of_none e hp), e]
theorem inv_code {P c' P' : Addr} {q : Str} {ps more : Array Value} {h' : Heap} {t' : Nat} (I : Inv X pins σ H s) (hP : H P = some (.tbl ps)) (k : ∀ b o, b ≠ P → s.heap.get? b = some o → h'.get? b = some o)
    (hm : h'.get? P = some (PySem.W.tabObj (ps ++ more))) (hc : s.heap.objs.size ≤ c') (hp : s.heap.objs.size ≤ P') (hC : PySem.W.CodeHd h' c' P')
    (hN : ∃ (oc : Obj) (vs : Array Value) (t : Tok), h'.get? c' = some oc ∧ oc.data = .fields vs ∧ vs[1]? = some (.str q t)) (hT : h'.get? P' = some (PySem.W.tabObj #[])) :
    Inv X pins σ (addCd H P (ps ++ more) c' P' q) { s with heap := h', toks := t' } := by
  have nc : H c' = none := I.hok.fresh hc
  have np : H P' = none := I.hok.fresh hp
  have ncp : c' ≠ P' := by
    obtain ⟨_, _, _, _, _, _, _, _, _, r⟩ := hC
    exact r.2.2.2.2.2.2.2.2.2
  have told : ∀ {b : Addr} {o : HO}, H b = some o → (∀ qs, o ≠ .tbl qs) → b ≠ P := fun {b o} e n z => by
    subst z
    rw [hP] at e
    exact n ps (Option.some.inj e).symm
  have empty : ∀ {b : Addr}, H b = none → b ≠ P := fun {b} e z => by
    subst z
    rw [hP] at e
    cases e
  have old : ∀ {b : Addr} {o : Obj}, s.heap.get? b = some o → b ≠ c' ∧ b ≠ P' := fun {b o} e =>
    ⟨Nat.ne_of_lt (Nat.lt_of_lt_of_le (Heap.lt_size e) hc), Nat.ne_of_lt (Nat.lt_of_lt_of_le (Heap.lt_size e) hp)⟩
  refine I.step (g' := s.gens) (d' := s.drawn) (t' := t') (ch := []) (fun b hb => absurd hb (by simp)) ?keep ?slot ?free ?there ?tups ?frzs ?tbls ?ns ?hok I.bare
  case keep => exact fun b o _ _ _ e n => k b o (empty n) e
  case slot => exact fun b o _ _ _ e n => ⟨o.slots, k b o (empty n) e⟩
  case free =>
    intro b o _ e n
    rw [addCd_old (empty n) (old e).1 (old e).2]
    exact n
  case there =>
    intro b o _ e
    by_cases hb : b = P
    · subst hb
      exact ⟨_, hm⟩
    · exact ⟨o, k b o hb e⟩
  case tups => exact fun b xs e => addCd_told nc np (told e fun qs z => by cases z) e
  case frzs => exact fun b o u e => addCd_told nc np (told e fun qs z => by cases z) e
  case tbls =>
    intro b qs e
    by_cases hb : b = P
    · subst hb
      rw [hP] at e
      cases e
      refine ⟨more, ?_⟩
      unfold addCd
      rw [upd_ne (ne_of_none hP np), upd_ne (ne_of_none hP nc), upd_same]
    · refine ⟨#[], ?_⟩
      rw [addCd_told nc np hb e]
      simp
  case ns =>
    intro m hn
    obtain ⟨ob, es, ep, e, r⟩ := hn
    exact ⟨ob, es, ep, k _ ob (empty I.free) e, r⟩
  case hok =>
    intro b u e
    by_cases hbP' : b = P'
    · subst hbP'
      unfold addCd at e
      rw [upd_same] at e
      cases e
      exact hT
    by_cases hbc : b = c'
    · subst hbc
      unfold addCd at e
      rw [upd_ne ncp, upd_same] at e
      cases e
      exact cd_ok hC hN
    by_cases hbP : b = P
    · subst hbP
      unfold addCd at e
      rw [upd_ne hbP', upd_ne hbc, upd_same] at e
      cases e
      exact hm
    rw [addCd_old hbP hbc hbP'] at e
    refine (I.hok b u e).stay (fun d v hd r => k d v ?_ r) (fun d r => addCd_told nc np (told r fun qs z => by cases z) r) fun d xs r => addCd_told nc np (told r fun qs z => by cases z) r
    rcases hd with z | z
    · rw [z]
      exact hbP
    · exact told z fun qs z => by cases z
/-- f: a lambda's function object, made by the context X, its code object at c' -/
def FnL (X : Cx) (H : Hp) (h : Heap) (f c' : Addr) (q : Str) (params : Arguments) (body : Expr) (scope : Scope) : Prop :=
  (∃ pm ctv, h.get? f = some (PySem.W.kla_obj "<lambda>" q params body scope (cloFrom X.env.cells scope.names []) pm c' ctv)) ∧ H f = none ∧ f ∉ frs X.stack
theorem lam_mk {c P : Addr} {q : Str} {ps : Array Value} {params : Arguments} {body : Expr} {scope : Scope} {pos : Pos} {E : Value → Shared → Prop} {Q : Value → Shared → Prop} {A : Around} {M : Model} (I : Inv X pins σ H s) (hcode : X.env.code = .ref c) (hC : PySem.W.CodeHd s.heap c P)
    (hP : H P = some (.tbl ps)) (ht : TriplesOk ps.toList) (bP : s.heap.BuiltinsAt X.mg P) (gP : mainGlobals ≠ P) (hq : X.env.qual ++ "<lambda>" = q) (hdef : defaultsOf params X.env = ([], []))
    (hfree : ∀ y ∈ scope.names, y.2 = .free → ∃ c, X.env.cells.lookup y.1 = some c)
    (new : codeAmong pos ps.toList = none → ∀ f c' P' s', H c' = none → H P' = none → c' ≠ P' → Inv X pins σ (addCd H P (ps ++ #[rawInt pos.line, rawInt pos.col, .ref c']) c' P' q) s' → FnL X (addCd H P (ps ++ #[rawInt pos.line, rawInt pos.col, .ref c']) c' P' q) s'.heap f c' q params body scope → Q (.ref f) s')
    (hit : ∀ cv, codeAmong pos ps.toList = some cv → ∃ c', cv = .ref c' ∧ ∀ f s', Inv X pins σ H s' → FnL X H s'.heap f c' q params body scope → Q (.ref f) s') :
    wpAny M A (eval (.Lambda params body scope pos) X.env) Q E s := by
  refine PySem.W.kla_eval hdef ?_
  rw [hq]
  have hP' : s.heap.get? P = some (PySem.W.tabObj ps) := I.hok P _ hP
  have nofr : ∀ f, s.heap.objs.size ≤ f → f ∉ frs X.stack := fun f hf z => by
    rcases List.mem_cons.mp (I.stkSub _ z) with e | e
    · rw [e] at hf
      exact absurd (Nat.lt_of_lt_of_le I.lt hf) (Nat.lt_irrefl _)
    · exact I.nofs hf e
  cases hc : codeAmong pos ps.toList with
  | some cv =>
    obtain ⟨c', e, go⟩ := hit cv hc
    subst e
    refine PySem.W.kla_makeFunctionHit (mg := X.mg) (c := c) (P := P) (ps := ps) (closure_ok hfree) I.ok.glob (I.mod.glob.keeps I.bk) hcode hC hP' ht hc bP fun ctv h' tk old big => ?_
    refine go h'.objs.size _ (I.kept fun b o e => Heap.get?_push_of_some _ (old b o e)) ⟨⟨_, ctv, Heap.get?_push_size _ rfl⟩, I.hok.fresh big, nofr _ big⟩
  | none =>
    refine mk_new (mg := X.mg) (c := c) (P := P) (ps := ps) (closure_ok hfree) I.ok.glob (I.mod.glob.keeps I.bk) hcode hC hP' ht hc gP bP fun c' P' ctv h' tk ext big bigP lt hd tb rec_ tabP => ?_
    obtain ⟨c2, oc, vs, t, e2, hoc, hdat, hv⟩ := rec_
    cases e2
    have sz : s.heap.objs.size ≤ h'.objs.size := Nat.le_trans big (Nat.le_of_lt lt)
    have ncp : c' ≠ P' := by
      obtain ⟨_, _, _, _, _, _, _, _, _, r⟩ := id hd
      exact r.2.2.2.2.2.2.2.2.2
    let ob := PySem.W.kla_obj "<lambda>" q params body scope (cloFrom X.env.cells scope.names []) ((X.mg "__name__").getD .none) c' ctv
    have up : ∀ b o, h'.get? b = some o → (h'.push ob).get? b = some o := fun b o e => Heap.get?_push_of_some _ e
    have J := inv_code (t' := tk) (q := q) (more := #[rawInt pos.line, rawInt pos.col, .ref c']) (h' := h'.push ob) I hP (fun b o hb e => up b o (ext b o hb e)) (up _ _ tabP) big bigP (hd.keeps up) ⟨oc, vs, t, up _ _ hoc, hdat, hv⟩ (up _ _ tb)
    refine new hc h'.objs.size c' P' _ (I.hok.fresh big) (I.hok.fresh bigP) ncp J ⟨⟨_, ctv, Heap.get?_push_size _ rfl⟩, ?_, nofr _ sz⟩
    have lp : P' < h'.objs.size := Heap.lt_size tb
    have lP : P < h'.objs.size := Heap.lt_size tabP
    rw [addCd_old (Nat.ne_of_gt lP) (Nat.ne_of_gt lt) (Nat.ne_of_gt lp)]
    exact I.hok.fresh sz
end
end LmK
end
section
set_option Elab.async false
set_option linter.all false
set_option maxRecDepth 100000
set_option maxHeartbeats 4000000
/-! Lm2: tables of lambdas' code objects, two deep. -/
namespace LmK
open PySem PySem.Spec PyProof.Rows PySem.Calls L2 Evl

/-- the table at P: its code objects bear the name q -/
def T0 (H : Hp) (P : Addr) (q : Str) : Prop := ∃ ps : Array Value, H P = some (.tbl ps) ∧ TriplesOk ps.toList ∧ ∀ (pos : Pos) (cv : Value), codeAmong pos ps.toList = some cv → ∃ c P', cv = .ref c ∧ H c = some (Cd c P' q)
/-- .. and their own tables hold ones of the name q2 -/
def T1 (H : Hp) (P : Addr) (q q2 : Str) : Prop := ∃ ps : Array Value, H P = some (.tbl ps) ∧ TriplesOk ps.toList ∧
  ∀ (pos : Pos) (cv : Value), codeAmong pos ps.toList = some cv → ∃ c P', cv = .ref c ∧ P' ≠ P ∧ H c = some (Cd c P' q) ∧ T0 H P' q2
/-- all but the tables stays -/
def TEx (H H' : Hp) : Prop := ∀ b o, H b = some o → (∀ ps, o ≠ .tbl ps) → H' b = some o
theorem TEx.refl (H : Hp) : TEx H H := fun _ _ h _ => h
theorem TEx.trans {H H1 H2 : Hp} (a : TEx H H1) (b : TEx H1 H2) : TEx H H2 := fun c o h n => b c o (a c o h n) n
theorem TEx.of {H H' : Hp} (e : Ex H H') : TEx H H' := fun b o h _ => e b o h
section
variable {H H' : Hp} {P P1 c' P' : Addr} {q q2 : Str} {ps qs : Array Value} {pos : Pos}
theorem T0.nil (h : H P = some (.tbl #[])) : T0 H P q := ⟨#[], h, True.intro, fun pos cv hc => by
  have z : codeAmong pos [] = some cv := hc
  simp [codeAmong] at z⟩
theorem T1.nil (h : H P = some (.tbl #[])) : T1 H P q q2 := ⟨#[], h, True.intro, fun pos cv hc => by
  have z : codeAmong pos [] = some cv := hc
  simp [codeAmong] at z⟩
theorem T0.kept (t : T0 H P q) (hP : ∀ ps, H P = some (.tbl ps) → H' P = some (.tbl ps)) (e : TEx H H') : T0 H' P q := by
  obtain ⟨ps, h1, h2, h3⟩ := t
  refine ⟨ps, hP _ h1, h2, fun pos cv hc => ?_⟩
  obtain ⟨c, P', e1, e2⟩ := h3 pos cv hc
  exact ⟨c, P', e1, e _ _ e2 cd_tbl⟩
theorem T0.ex (t : T0 H P q) (e : Ex H H') : T0 H' P q := t.kept (fun _ h => e _ _ h) (.of e)
theorem T1.ex (t : T1 H P q q2) (e : Ex H H') : T1 H' P q q2 := by
  obtain ⟨ps, h1, h2, h3⟩ := t
  refine ⟨ps, e _ _ h1, h2, fun pos cv hc => ?_⟩
  obtain ⟨c, P', e1, e2, e3, e4⟩ := h3 pos cv hc
  exact ⟨c, P', e1, e2, e _ _ e3, e4.ex e⟩
theorem addCd_ex (hP : H P = some (.tbl ps)) (hc : H c' = none) (hp : H P' = none) : TEx H (addCd H P qs c' P' q) := fun b o e n => addCd_told hc hp (fun z => by
  subst z
  rw [hP] at e
  exact n ps (Option.some.inj e).symm) e
theorem addCd_c (hc : H c' = none) (ne : c' ≠ P') : addCd H P qs c' P' q c' = some (Cd c' P' q) := by
  unfold addCd
  rw [upd_ne ne, upd_same]
theorem addCd_t : addCd H P qs c' P' q P' = some (.tbl #[]) := by
  unfold addCd
  rw [upd_same]
theorem addCd_P (hP : H P = some (.tbl ps)) (hc : H c' = none) (hp : H P' = none) : addCd H P qs c' P' q P = some (.tbl qs) := by
  unfold addCd
  rw [upd_ne (ne_of_none hP hp), upd_ne (ne_of_none hP hc), upd_same]
theorem snoc3 (pos : Pos) (v : Value) : (ps ++ #[rawInt pos.line, rawInt pos.col, v]).toList = ps.toList ++ [rawInt pos.line, rawInt pos.col, v] := by simp
theorem T0.add (t : T0 H P q) (hP : H P = some (.tbl ps)) (hc : H c' = none) (hp : H P' = none) (ne : c' ≠ P') : T0 (addCd H P (ps ++ #[rawInt pos.line, rawInt pos.col, .ref c']) c' P' q) P q := by
  obtain ⟨ps', h1, h2, h3⟩ := t
  rw [hP] at h1
  cases h1
  refine ⟨_, addCd_P hP hc hp, by rw [snoc3]; exact PySem.TriplesOk_snoc _ _ _ _ h2, fun p' cv hcv => ?_⟩
  rw [snoc3] at hcv
  rcases LamX.among_app _ h2 hcv with z | z
  · obtain ⟨c, P2, e1, e2⟩ := h3 p' cv z
    exact ⟨c, P2, e1, addCd_ex hP hc hp _ _ e2 cd_tbl⟩
  · exact ⟨c', P', z, addCd_c hc ne⟩
theorem T1.add (t : T1 H P q q2) (hP : H P = some (.tbl ps)) (hc : H c' = none) (hp : H P' = none) (ne : c' ≠ P') : T1 (addCd H P (ps ++ #[rawInt pos.line, rawInt pos.col, .ref c']) c' P' q) P q q2 := by
  obtain ⟨ps', h1, h2, h3⟩ := t
  rw [hP] at h1
  cases h1
  have nP : P' ≠ P := (ne_of_none hP hp).symm
  refine ⟨_, addCd_P hP hc hp, by rw [snoc3]; exact PySem.TriplesOk_snoc _ _ _ _ h2, fun p' cv hcv => ?_⟩
  rw [snoc3] at hcv
  rcases LamX.among_app _ h2 hcv with z | z
  · obtain ⟨c, P2, e1, e2, e3, e4⟩ := h3 p' cv z
    exact ⟨c, P2, e1, e2, addCd_ex hP hc hp _ _ e3 cd_tbl, e4.kept (fun _ h => addCd_told hc hp e2 h) (addCd_ex hP hc hp)⟩
  · exact ⟨c', P', z, nP, addCd_c hc ne, T0.nil addCd_t⟩
/-- a code object of the second depth is added -/
theorem T1.inner (t : T1 H P q q2) (hP : H P1 = some (.tbl ps)) (n1 : P1 ≠ P) (hc : H c' = none) (hp : H P' = none) (ne : c' ≠ P') : T1 (addCd H P1 (ps ++ #[rawInt pos.line, rawInt pos.col, .ref c']) c' P' q2) P q q2 := by
  obtain ⟨ps', h1, h2, h3⟩ := t
  have x := addCd_ex (qs := ps ++ #[rawInt pos.line, rawInt pos.col, .ref c']) (q := q2) hP hc hp
  refine ⟨ps', addCd_told hc hp (Ne.symm n1) h1, h2, fun p' cv hcv => ?_⟩
  obtain ⟨c, P2, e1, e2, e3, e4⟩ := h3 p' cv hcv
  refine ⟨c, P2, e1, e2, x _ _ e3 cd_tbl, ?_⟩
  by_cases z : P2 = P1
  · subst z
    exact e4.add hP hc hp ne
  · exact e4.kept (fun _ h => addCd_told hc hp z h) x
end
/-- what a context needs to make lambdas: in states of G, their code objects are of the name q and of the kind G' -/
def LamAt (X : Cx) (G : Hp → Prop) (q : Str) (G' : Hp → Addr → Prop) : Prop :=
  ∀ {pins : List (Addr × Obj)} {σ : L2.St} {H : Hp} {s : Shared} {params : Arguments} {body : Expr} {scope : Scope} {pos : Pos} {E Q : Value → Shared → Prop} {A : Around} {M : Model}, Inv X pins σ H s → G H → defaultsOf params X.env = ([], []) →
    (∀ y ∈ scope.names, y.2 = .free → ∃ c, X.env.cells.lookup y.1 = some c) →
    (∀ f c' P' H1 s', Inv X pins σ H1 s' → TEx H H1 → G H1 → G' H1 c' → H1 c' = some (Cd c' P' q) → FnL X H1 s'.heap f c' q params body scope → Q (.ref f) s') →
    wpAny M A (eval (.Lambda params body scope pos) X.env) Q E s
section
variable {X : Cx} {c P c1 : Addr} {q q2 : Str}
theorem built {pins : List (Addr × Obj)} {σ : L2.St} {H : Hp} {s : Shared} {o : HO} {P' : Addr} (I : Inv X pins σ H s) (TB : LamX.TabB X.base X.mg c P) (h : H P' = some o) : s.heap.BuiltinsAt X.mg P' ∧ mainGlobals ≠ P' := by
  have apart : ∀ {b : Addr} {ob : Obj}, X.base.get? b = some ob → b ≠ P' := fun {b ob} e z => by
    subst z
    rw [(I.bs _ _ e).2] at h
    cases h
  obtain ⟨bm, ob, b1, b2, b3, b4, b5, b6⟩ := TB.bm
  obtain ⟨og, _, _, eg, _⟩ := I.mod.glob
  exact ⟨⟨bm, ob, b1, b2, b3, apart b5, (I.bs _ _ b5).1, b6⟩, apart eg⟩
/-- .. the law's own frame -/
theorem lamAt_outer (TB : LamX.TabB X.base X.mg c P) (hcode : X.env.code = .ref c) (hq : X.env.qual ++ "<lambda>" = q) : LamAt X (fun H => T1 H P q q2) q (fun H c' => ∃ P', H c' = some (Cd c' P' q) ∧ P' ≠ P ∧ T0 H P' q2) := by
  intro pins σ H s params body scope pos E Q A M I g hdef hfree go
  obtain ⟨ps, hP, ht, ha⟩ := id g
  obtain ⟨bP, gP⟩ := built I TB hP
  refine lam_mk I hcode (TB.code.keeps I.bk) hP ht bP gP hq hdef hfree (fun _ f c' P' s' hc hp ne J F => ?_) fun cv hcv => ?_
  · exact go f c' P' _ s' J (addCd_ex hP hc hp) (g.add hP hc hp ne) ⟨P', addCd_c hc ne, (ne_of_none hP hp).symm, T0.nil addCd_t⟩ (addCd_c hc ne) F
  · obtain ⟨c', P', e, n, e1, e2⟩ := ha pos cv hcv
    exact ⟨c', e, fun f s' J F => go f c' P' H s' J (TEx.refl H) g ⟨P', e1, n, e2⟩ e1 F⟩
/-- .. the frame of a lambda that the law made -/
theorem lamAt_inner (TB : LamX.TabB X.base X.mg c P) (hcode : X.env.code = .ref c1) (hq : X.env.qual ++ "<lambda>" = q2) :
    LamAt X (fun H => T1 H P q q2 ∧ ∃ P1, H c1 = some (Cd c1 P1 q) ∧ P1 ≠ P ∧ T0 H P1 q2) q2 (fun _ _ => True) := by
  intro pins σ H s params body scope pos E Q A M I g hdef hfree go
  obtain ⟨t, P1, e1, n1, t0⟩ := g
  obtain ⟨ps, hP, ht, ha⟩ := id t0
  obtain ⟨bP, gP⟩ := built I TB hP
  refine lam_mk I hcode (cd_at I.hok e1).1 hP ht bP gP hq hdef hfree (fun _ f c' P' s' hc hp ne J F => ?_) fun cv hcv => ?_
  · have x := addCd_ex (qs := ps ++ #[rawInt pos.line, rawInt pos.col, .ref c']) (q := q2) hP hc hp
    exact go f c' P' _ s' J x ⟨t.inner hP n1 hc hp ne, P1, x _ _ e1 cd_tbl, n1, t0.add hP hc hp ne⟩ True.intro (addCd_c hc ne) F
  · obtain ⟨c', P', e, e2⟩ := ha pos cv hcv
    exact ⟨c', e, fun f s' J F => go f c' P' H s' J (TEx.refl H) ⟨t, P1, e1, n1, t0⟩ True.intro e2 F⟩
end
end LmK
end
section
set_option Elab.async false
set_option linter.all false
set_option maxRecDepth 100000
set_option maxHeartbeats 4000000
/-! Lm3: a lambda with parameters, called in a def that got it. -/
namespace LmK
open PySem PySem.Spec PyProof.Rows PySem.Calls L2 Evl

/-- the parameters ps, no other name of its own; captured ones and globals -/
structure LamP (sc scope : Scope) (ps : List Str) : Prop where
  kind : scope.kind = .function
  co : scope.isCoroutine = false
  gen : scope.isGenerator = false
  nocell : ∀ y ∈ scope.names, y.2 ≠ .cell
  own : ∀ y ∈ scope.names, y.2 = .local → y.1 ∈ ps
  par : ∀ p ∈ ps, scope.names.lookup p = some .local
  free : ∀ y ∈ scope.names, y.2 = .free → sc.names.lookup y.1 = some .cell ∨ sc.names.lookup y.1 = some .free
def lamPB (sc scope : Scope) (ps : List Str) : Bool :=
  decide (scope.kind = .function) && !scope.isCoroutine && !scope.isGenerator && (ps.all fun p => decide (scope.names.lookup p = some .local)) &&
    scope.names.all fun y => !decide (y.2 = .cell) && (!decide (y.2 = .local) || ps.contains y.1) && (!decide (y.2 = .free) || decide (sc.names.lookup y.1 = some .cell) || decide (sc.names.lookup y.1 = some .free))
theorem lamP_by {sc scope : Scope} {ps : List Str} (h : lamPB sc scope ps = true) : LamP sc scope ps := by
  unfold lamPB at h
  simp only [Bool.and_eq_true, Bool.or_eq_true, Bool.not_eq_true', decide_eq_true_eq, decide_eq_false_iff_not, List.all_eq_true, List.contains_iff_mem] at h
  obtain ⟨⟨⟨⟨h1, h2⟩, h3⟩, h4⟩, h5⟩ := h
  refine ⟨h1, h2, h3, fun y hy => (h5 y hy).1.1, fun y hy e => ?_, h4, fun y hy e => ?_⟩
  · exact (h5 y hy).1.2.resolve_left fun z => z e
  · rcases (h5 y hy).2 with (z | z) | z
    · exact absurd e z
    · exact .inl z
    · exact .inr z
theorem LamP.has {X : Cx} {scope : Scope} {ps : List Str} (L : LamP X.env.scope scope ps) (ok : X.Ok) : ∀ y ∈ scope.names, y.2 = .free → ∃ c, X.env.cells.lookup y.1 = some c := fun y hy e => ok.has _ (L.free y hy e)
/-- the context of the lambda's body, entered at s from the frames outer -/
abbrev lmCx (X : Cx) (A : Around) (outer : List Env) (s : Shared) (H : Hp) (E : XK) (scope : Scope) (f c' : Addr) (ps : List Str) : Cx := { LamX.lamCx X A outer s H E scope f c' with N := X.N ++ ps }
section
variable {X : Cx} {pins : List (Addr × Obj)} {σ : L2.St} {H HZ : Hp} {s s1 : Shared} {scope : Scope} {ps : List Str} {f c' : Addr}
theorem lm_start {A : Around} {outer : List Env} {E : XK} {h₁ : Heap} {tk : Nat} {m : Str → Option Value} {vs : List V} (I : Inv X pins σ H s) (L : LamP X.env.scope scope ps) (dis : ∀ p ∈ ps, p ∉ X.N) (e0 : Env0 X.prog X.w X.K X.mg X.base A outer s1 HZ) (calm : A.handled = none)
    (un : Un (frs X.stack) [] H HZ s.heap s1.heap) (hl : vs.length = ps.length) (hm : ∀ (i : Nat) (p : Str) (v : V), ps[i]? = some p → vs[i]? = some v → ∃ u, RelV v u ∧ m p = some u) (hns : h₁.Ns s1.heap.objs.size m) (kp : ∀ b o, s1.heap.get? b = some o → h₁.get? b = some o) :
    Inv (lmCx X A outer s1 HZ E scope f c' ps) [] (σ ++ vs.map some) HZ { s1 with heap := h₁, toks := tk } := by
  have had := L.has I.ok
  have back : ∀ {y c}, (cloFrom X.env.cells scope.names []).lookup y = some c → X.env.cells.lookup y = some c := fun {y c} e => by
    rcases cloFrom_mem (PySem.mem_of_lookup e) with hm | ⟨h1, h2⟩
    · cases hm
    · obtain ⟨c1, hc⟩ := had _ h1 rfl
      have hc : X.env.cells.lookup y = some c1 := hc
      have e2 : c = c1 := by
        rw [h2, hc] <;> rfl
      rw [e2]
      exact hc
  have on : ∀ {y}, scope.names.lookup y = some .free → ∃ c, (cloFrom X.env.cells scope.names []).lookup y = some c := fun {y} e => by
    have hy : (y, NameKind.free) ∈ scope.names := PySem.mem_of_lookup e
    exact mem_lookup (cloFrom_has (cells := X.env.cells) (acc := []) hy)
  have cellK : ∀ {c : Addr} {v : Option Value}, H c = none → s.heap.IsCell c v → h₁.IsCell c v := fun {c v} n ⟨o, ho, hd⟩ => by
    obtain ⟨sl, r⟩ := un.any ho n (by simp)
    exact ⟨_, kp _ _ r, hd⟩
  have none_ : ∀ b : Addr, b ∉ (lmCx X A outer s1 HZ E scope f c' ps).ex := fun b z => absurd (show b ∈ ([] : List Addr) from z) (by simp)
  have isfree : ∀ {y : Str}, scope.names.lookup y = some .cell ∨ scope.names.lookup y = some .free → scope.names.lookup y = some .free := fun {y} h => by
    rcases h with h | h
    · exact absurd rfl (L.nocell _ (PySem.mem_of_lookup h))
    · exact h
  have ok : (lmCx X A outer s1 HZ E scope f c' ps).Ok := {
    mod := e0.mod
    kind := L.kind
    glob := rfl
    blt := rfl
    above := Nat.le_refl _
    inj := fun y z c a b => I.ok.inj y z c (back a) (back b)
    has := fun y hy => on (isfree hy)
    cab := fun y c z _ => absurd (show false = true from z) Bool.false_ne_true
    hd := fun _ => calm
    frames := Around.frames_deeper e0.frames
    stk := .inr ⟨rfl, rfl⟩
    exf := fun b z => absurd z (none_ b)
    bs := e0.bs
    bsz := e0.bsz
    noex := fun b _ _ => none_ b
    exfs := fun b z => absurd z (none_ b)
    funs := e0.funs
    frf := e0.frf }
  refine ⟨ok, rfl, e0.bare, Un.kept kp, ⟨m, hns, fun i y v a b vis => ?loc⟩, fun y c e => ?cell, e0.hok.fresh (Nat.le_refl _), fun y c e => ?fresh, fun q hq => absurd (show q ∈ ([] : List (Addr × Obj)) ++ [] from hq) (by simp), e0.hok.kept kp, ?len⟩
  case cell =>
    obtain ⟨w', z⟩ := I.cell y c (back e)
    exact ⟨w', cellK (I.freeC y c (back e)) z⟩
  case fresh =>
    obtain ⟨v, o, ho, hd⟩ := I.cell y c (back e)
    exact un.free c o ho (I.freeC y c (back e)) (by simp)
  case len =>
    show (σ ++ vs.map some).length = (X.N ++ ps).length
    rw [List.length_append, List.length_append, List.length_map, I.len, hl]
  case loc =>
    have a : (X.N ++ ps)[i]? = some y := a
    have vis : Vis scope y := vis
    by_cases hi : i < X.N.length
    · rw [List.getElem?_append_left hi] at a
      rw [List.getElem?_append_left (by rw [I.len]; exact hi)] at b
      have hf : scope.names.lookup y = some .free := by
        rcases vis with k | k | k
        · exact absurd (List.mem_of_getElem? a) (dis _ (L.own _ (PySem.mem_of_lookup k) rfl))
        · exact isfree (.inl k)
        · exact k
      obtain ⟨m0, _, hlk⟩ := I.loc
      have hvis : Vis X.env.scope y := (L.free _ (PySem.mem_of_lookup hf) rfl).elim (fun k => .inr (.inl k)) (fun k => .inr (.inr k))
      obtain ⟨w', r, l⟩ := hlk i y v a b hvis
      obtain ⟨c2, h2⟩ := on hf
      refine ⟨w', r, .inr ⟨.inr hf, c2, h2, ?_⟩⟩
      rcases l with ⟨k', _⟩ | ⟨_, c3, e', z⟩
      · have k' : X.env.scope.names.lookup y = some .local := k'
        rcases L.free _ (PySem.mem_of_lookup hf) rfl with k2 | k2 <;> rw [show X.env.scope.names.lookup y = _ from k2] at k' <;> cases k'
      · have c1 := back h2
        rw [c1] at e'
        cases e'
        exact cellK (I.freeC y _ c1) z
    · rw [List.getElem?_append_right (by omega)] at a
      rw [List.getElem?_append_right (by rw [I.len]; omega), I.len, List.getElem?_map] at b
      cases hv : vs[i - X.N.length]? with
      | none =>
        rw [hv] at b
        cases b
      | some v' =>
        rw [hv] at b
        obtain rfl : v' = v := Option.some.inj (Option.some.inj b)
        obtain ⟨u, r, e⟩ := hm _ _ _ a hv
        exact ⟨u, r, .inl ⟨L.par _ (List.mem_of_getElem? a), e⟩⟩
/-- the lambda is called: Z is the context of the def that got it, entered at s -/
theorem act_core {Z : Cx} {pm ctv : Value} {params : Arguments} {body : Expr} {k : Nat} {E : XK} {tb : TE} {pinsZ : List (Addr × Obj)} {σZ : L2.St} {sZ : Shared} {Q : VK} {us : List Value} {vs : List V} {q : Str} {P' : Addr} (I : Inv X pins σ H s) (L : LamP X.env.scope scope ps) (dis : ∀ p ∈ ps, p ∉ X.N)
    (nd : ps.Nodup) (hq : X.env.qual ++ "<lambda>" = q) (hf : s.heap.get? f = some (PySem.W.kla_obj "<lambda>" q params body scope (cloFrom X.env.cells scope.names []) pm c' ctv)) (hfn : H f = none) (hfr : f ∉ frs X.stack)
    (same : Z.prog = X.prog ∧ Z.w = X.w ∧ Z.K = X.K ∧ Z.mg = X.mg ∧ Z.base = X.base) (IZ : Inv Z pinsZ σZ HZ sZ) (un : Un (frs X.stack) [] H HZ s.heap sZ.heap) (calm : Z.A.handled = none) (hr : Room (k + 1) Z.A)
    (hbind : bindArgs (PySem.W.kla_fn "<lambda>" q params body scope (cloFrom X.env.cells scope.names []) pm (.ref c') ctv) ⟨us, []⟩ = pure (ps.zip us)) (r : Vals vs us) (hl : vs.length = ps.length)
    (hx : Passes (L2.CX X.prog X.w) Z E) (hbody : ∀ (A : Around) (outer : List Env) (s : Shared) (H : Hp), Room k (A.deeper (LamX.lamEnv X scope s.heap.objs.size f c')) → PE (lmCx X A outer s H E scope f c' ps) body tb)
    (hc : HZ c' = some (Cd c' P' q)) (h : tb (σ ++ vs.map some) HZ Q) : wpAny (model Z.prog Z.w) Z.A (call (.ref f) us) (EP Z pinsZ σZ Q) Z.xe sZ := by
  obtain ⟨e1, e2, e3, e4, e5⟩ := same
  have of1 := un.keep f _ hf hfn hfr (by simp)
  have e0 := IZ.env0
  rw [e1, e2, e3, e4, e5] at e0
  subst hq
  have zipl : ∀ y ∈ ps.zip us, scope.names.lookup y.1 = some .local := fun y hy => L.par _ (List.of_mem_zip hy).1
  have rc : codeAny (model X.prog X.w) Z.A (.call (.ref f) ⟨us, []⟩) (CR (L2.CX X.prog X.w) Z.stack X.prog X.w HZ sZ Q E) sZ := by
    refine PySem.W.kla_callFunE hr.depth of1 rfl L.co L.gen rfl (cd_at e0.hok hc).2 ?_
    rw [hbind]
    refine wpAny_pure (wpAny_newFunctionEnv L.nocell zipl (fun h₁ hns hsb => ⟨IZ.nolimit.fresh _ hsb, ?_⟩) L.kind)
    show codeAny _ _ (.expr body (LamX.lamEnv X scope sZ.heap.objs.size f c')) _ _
    have kp : ∀ b o, sZ.heap.get? b = some o → h₁.get? b = some o := fun b o e => hsb.extBut b o (Nat.ne_of_lt (Heap.lt_size e)) (Heap.get?_push_of_some _ e)
    have hm : ∀ (i : Nat) (p : Str) (v : V), ps[i]? = some p → vs[i]? = some v → ∃ u, RelV v u ∧ (ps.zip us).reverse.lookup p = some u := fun i p v a b => by
      obtain ⟨u, hu, rv⟩ := r.get b
      refine ⟨u, rv, ?_⟩
      have hz : (ps.zip us)[i]? = some (p, u) := by rw [List.getElem?_zip_eq_some]; exact ⟨a, hu⟩
      have ndz : ((ps.zip us).map (·.1)).Nodup := by
        rw [List.map_fst_zip (by rw [← r.length, hl]; exact Nat.le_refl _)]
        exact nd
      have hmem : (p, u) ∈ (ps.zip us).reverse := List.mem_reverse.mpr (List.mem_of_getElem? hz)
      have ndr : ((ps.zip us).reverse.map (·.1)).Nodup := by
        rw [List.map_reverse]
        exact (List.reverse_perm _).nodup_iff.mpr ndz
      have key : ∀ l : List (Str × Value), (l.map (·.1)).Nodup → (p, u) ∈ l → l.lookup p = some u := by
        intro l
        induction l with
        | nil =>
          intro _ h
          cases h
        | cons y l ih =>
          intro hn h
          obtain ⟨y1, y2⟩ := y
          rw [List.map_cons, List.nodup_cons] at hn
          rcases List.mem_cons.mp h with z | z
          · cases z
            simp [List.lookup]
          · have : p ≠ y1 := fun e => hn.1 (by
              rw [← e]
              exact List.mem_map_of_mem (f := (·.1)) z)
            have e : (p == y1) = false := by simpa using this
            simp [List.lookup, e]
            exact ih hn.2 z
      exact key _ ndr hmem
    have J := lm_start (E := E) (f := f) (c' := c') (tk := sZ.toks + (ps.zip us).length) I L dis e0 calm un hl hm hns kp
    refine PySem.W.kla_codeExpr (wpAny_mono ((hbody _ _ sZ HZ (hr.deeper _)).run [] _ _ HZ Q J h) (fun v s' hv => ?_) fun e s' he => he)
    obtain ⟨w', H', J', rv, g⟩ := hv
    exact ⟨w', H', J'.os, J'.bare, J'.base, J'.hok, rv, g⟩
  rw [e1, e2]
  refine wpAny_call (codeAny_mono rc fun res s' hres => ?_)
  cases res with
  | error e => exact hx pinsZ σZ HZ sZ e s' IZ hres
  | ok fl =>
    cases fl with
    | ret u =>
      rw [← e1, ← e2] at hres
      exact IZ.after hres
    | next => exact False.elim hres
    | brk => exact False.elim hres
    | cont => exact False.elim hres
end
end LmK
end
section
set_option Elab.async false
set_option linter.all false
set_option maxRecDepth 100000
set_option maxHeartbeats 4000000
/-! Lm4: with o as y: body, of an own class, where an error may leave the body. -/
namespace LmK
open PySem PySem.Spec PyProof.Rows PySem.Calls PySem.W

section
variable {prog : Program} {w : World} {A : Around} {E : Value → Shared → Prop} {s : Shared} {env : Env} {K : Frag} {x C fe fx : Addr} {ox : Obj} {od : Option Obj} {pos : Pos}
/-- what is to be shown where the error e leaves the body -/
def WOut (prog : Program) (w : World) (A : Around) (E : Value → Shared → Prop) (env : Env) (x fx : Addr) (Q : Flow → Shared → Prop) (e : Value) (s : Shared) : Prop :=
  wpAny (model prog w) A (noteFrame e env) (fun _ s1 => wpAny (model prog w) A (setFlight e none) (fun _ s2 =>
    ∃ (a : Addr) (cls tr : Value), e = .ref a ∧ Looks (model prog w) s2.heap (typeOf e) cls ∧ Looks (model prog w) s2.heap (tracebackOf e) tr ∧
      codeAny (model prog w) (A.mark (some e)) (.call (.ref fx) ⟨[.ref x, cls, e, tr], []⟩) (fun r s3 => match r with
        | .ok (.ret v) => v = .none ∧ wpAny (model prog w) A (PySem.passOn "with" e env : Sem Flow) Q E s3
        | .ok _ => False
        | .error _ => False) s2) E s1) E s
theorem with_x {b : Value → Sem Unit} {bdy : Sem Flow} {Q : Flow → Shared → Prop} (X : K.In s.heap) (I : PySem.W.InstAt s.heap x ox C od) (he : findIn K (.ref C) "__enter__" = some (some (.ref fe))) (hfe : isFn K (.ref fe) = true) (hx : findIn K (.ref C) "__exit__" = some (some (.ref fx)))
    (hfx : isFn K (.ref fx) = true)
    (h : wpAny (model prog w) A (call (.ref fe) [.ref x]) (fun v s2 => wpAny (model prog w) A (b v) (fun _ s3 => wpAny (model prog w) A bdy (fun f s4 => wpAny (model prog w) A (call (.ref fx) [.ref x, .none, .none, .none]) (fun _ s5 => Q f s5) E s4) (WOut prog w A E env x fx Q) s3) (fun _ _ => False) s2) E s) :
    wpAny (model prog w) A (withItem false pos env (pure (.ref x)) (some b) bdy) Q E s := by
  obtain ⟨cd, hcd, a1⟩ := kw_along he
  obtain ⟨cd', hcd', a2⟩ := kw_along hx
  obtain rfl := Option.some.inj (hcd.symm.trans hcd')
  obtain ⟨hh, g, d, tt, os⟩ := s
  have u1 : Looks (model prog w) hh (specialOnItsLine (.ref x) "__enter__") _ := kw_special X I hcd a1
  have u2 : Looks (model prog w) hh (specialOnItsLine (.ref x) "__exit__") _ := kw_special X I hcd a2
  have u3 : Looks (model prog w) hh (bindSpecial (.ref fe) (.ref x)) _ := bind_fn X _ (beq_iff_eq.mp hfe)
  have u4 : Looks (model prog w) hh (bindSpecial (.ref fx) (.ref x)) _ := bind_fn X _ (beq_iff_eq.mp hfx)
  have u5 : Looks (model prog w) hh (aMethodOfAnotherBuiltinTypeStops (.ref fe) cd.mro) () := Looks.of_pure rfl
  have u6 : Looks (model prog w) hh (aMethodOfAnotherBuiltinTypeStops (.ref fx) cd.mro) () := Looks.of_pure rfl
  unfold withItem
  refine wpAny_bind (wpAny_pure ?_)
  refine wpAny_bind (wpAny_standAt ?_)
  simp only [Bool.false_eq_true, if_false]
  kw_lk
  refine wpAny_mono h (fun v s2 h2 => ?_) fun _ _ z => z
  kw_lk
  refine wpAny_attempt (kw_held ?_)
  show wpAny _ _ (b v >>= fun _ => bdy) _ _ _
  refine wpAny_bind (wpAny_mono h2 (fun _ s3 h3 => wpAny_mono h3 (fun f s4 h4 => ?_) fun e s4 h4 => ?_) fun _ _ z => z.elim)
  · kw_lk
    refine wpAny_mono h4 (fun _ s5 h5 => ?_) fun _ _ z => z
    kw_lk
    exact h5
  · refine wpAny_bind (wpAny_mono h4 (fun _ s5 h5 => ?_) fun _ _ z => z)
    refine wpAny_bind (wpAny_mono h5 (fun _ s6 h6 => ?_) fun _ _ z => z)
    obtain ⟨a, cls, tr, ea, l1, l2, hc⟩ := h6
    refine wpAny_bind (wpAny_standAt (wpAny_holding ?_))
    refine wpAny_bind (l1.here ?_)
    refine wpAny_bind (l2.here ?_)
    unfold withItem.marked
    refine wpAny_bind (wpAny_bind (wpAny_run (codeAny_mono hc fun r s7 hr => ?_) (by rw [ea]; intro z; cases z)))
    cases r with
    | error z => exact hr.elim
    | ok f =>
      cases f with
      | ret v =>
        obtain ⟨rfl, hp⟩ := hr
        refine wpAny_pure ?_
        try simp only [Bool.false_eq_true, if_false]
        refine wpAny_bind (wpAny_pure (wpAny_bind (wpAny_pure ?_)))
        try simp only [Bool.false_eq_true, if_false]
        exact hp
      | next => exact hr.elim
      | brk => exact hr.elim
      | cont => exact hr.elim
end
end LmK
end
section
set_option Elab.async false
set_option linter.all false
set_option maxRecDepth 100000
set_option maxHeartbeats 4000000
/-! Lm5: a def called while an error is handled (it raises nothing); the with statement over the layer. -/
namespace LmK
open PySem PySem.Spec PyProof.Rows PySem.Calls L2 L2H

/-- the def keeps its promise also where an error is handled -/
structure FnM (P : Program) (w : World) (K : PySem.W.Frag) (mg : Str → Option Value) (base : Heap) (k : Nat) (f : Addr) (fd : FuncData) (ps : List Str) (sp : Sp) : Prop where
  len : ∀ vs H Q E, sp vs H Q E → vs.length = ps.length
  run : ∀ (A : Around) (outer : List Env) (s : Shared) (H : Hp) (args : Args) (us : List Value) (vs : List V) (Q : VK) (E : XK), RoomH k A → Env0 P w K mg base A outer s H → BindsTo s fd args (ps.zip us) → Vals vs us → sp vs H Q E →
    codeAny (model P w) A (.call (.ref f) args) (CR CX0 outer P w H s Q E) s
/-- the context of its body -/
abbrev cxM (P : Program) (w : World) (K : PySem.W.Frag) (mg : Str → Option Value) (base : Heap) (N : List Str) (qual : Str) (scope : Scope) (f : Addr) (cd : Value) (A : Around) (outer : List Env) (s : Shared) (H : Hp) (E : XK) : Cx := { cxOf CX0 P w K mg base N qual scope f cd A outer s H E with calm := false }
theorem fnM_of {P : Program} {w : World} {K : PySem.W.Frag} {mg : Str → Option Value} {base : Heap} {k : Nat} {f : Addr} {name qual : Str} {params : Arguments} {body : List Stmt} {scope : Scope} {dV kV doc pm cdv ct oc : Value} {an od : Option Addr} {osl : Array (Option Value)} {N ps : List Str} {sp : Sp}
    (lk : K.lookup f = some ⟨oc, od, .func (PySem.W.fnOf name qual params body scope dV kV doc pm an cdv ct), osl⟩) (hcd : PySem.W.codeIn K cdv qual = true) (S : FnScope N ps scope) (len : ∀ vs H Q E, sp vs H Q E → vs.length = ps.length)
    (hbody : ∀ (A : Around) (outer : List Env) (s : Shared) (H : Hp) (vs : List V) (Q : VK) (E : XK), RoomH k (A.deeper (envOfC qual scope s.heap.objs.size f cdv)) → sp vs H Q E →
      ∃ t, PSs (cxM P w K mg base N qual scope f cdv A outer s H E) body t ∧ t { nx := fun _ H' => Q .non H', rt := Q } (L2.start N vs) H) :
    FnM P w K mg base (k + 1) f (PySem.W.fnOf name qual params body scope dV kV doc pm an cdv ct) ps sp := by
  refine ⟨len, fun A outer s H args us vs Q E hr e0 hb r hsp => ?_⟩
  have hl := len _ _ _ _ hsp
  have keep : ∀ b o, base.get? b = some o → s.heap.get? b = some o := fun b o e => (e0.bs b o e).1
  have inK : K.In s.heap := e0.mod.kin.keeps keep
  have slots : ∀ y ∈ ps.zip us, scope.names.lookup y.1 = some .local ∨ (scope.names.lookup y.1 = some .cell ∧ ((cellsFrom (s.heap.objs.size + 1) scope.names []).lookup y.1).isSome = true) := fun y hy => by
    rcases S.par y.1 (List.of_mem_zip hy).1 with q | q
    · exact .inl q
    · exact .inr ⟨q, PySem.W.cellsFrom_some _ _ _ (.inl q)⟩
  refine codeAny_call_function hr.depth (inK _ _ lk) rfl S.co S.gen rfl (PySem.W.codeRec_of inK hcd) (hb _ _ _ _ ?_)
  refine wpAny_newFunctionEnv_cells S.kind slots fun env he s1 x => ?_
  subst he
  refine ⟨(e0.mod.nolimit.keeps keep).keeps x.toInCall.keep, codeAny_func ?_⟩
  obtain ⟨t, ht, hq⟩ := hbody A outer s H vs Q E (hr.deeper _) hsp
  have e1 : Env0 P w K mg base { A with handled := none } outer s H := ⟨e0.frames, e0.mod, e0.bs, e0.bsz, e0.funs, e0.frf, e0.hok, e0.bare⟩
  have J := inv_start (CX := CX0) (E := E) (f := f) (cd := cdv) (qual := qual) (A := { A with handled := none }) S rfl e1 hl r x
  have ok : (cxM P w K mg base N qual scope f cdv A outer s H E).Ok := ⟨J.ok.mod, J.ok.kind, J.ok.glob, J.ok.blt, J.ok.above, J.ok.inj, J.ok.has, J.ok.cab, fun z => absurd (show false = true from z) Bool.false_ne_true, Around.frames_deeper e0.frames, J.ok.stk, J.ok.exf, J.ok.bs, J.ok.bsz, J.ok.noex, J.ok.exfs, J.ok.funs, J.ok.frf⟩
  have I : Inv (cxM P w K mg base N qual scope f cdv A outer s H E) [] (L2.start N vs) H s1 := ⟨ok, J.os, J.bare, J.base, J.loc, J.cell, J.free, J.freeC, J.pin, J.hok, J.len⟩
  refine wpAny_mono (ht.run [] s1 (L2.start N vs) H _ I hq) (fun fl s' hs => ?_) fun e s' hs => hs
  have out : ∀ {σ' : L2.St} {H' : Hp} {v : V} {u : Value}, Inv (cxM P w K mg base N qual scope f cdv A outer s H E) [] σ' H' s' → RelV v u → Q v H' → CE outer P w H s Q u s' :=
    fun {σ' H' v u} J rv q => ⟨v, H', J.os, J.bare, J.base, J.hok, rv, q⟩
  cases fl with
  | next =>
    obtain ⟨σ', H', J2, q⟩ := hs
    exact out (v := V.non) (u := Value.none) J2 rfl q
  | ret u =>
    obtain ⟨v, σ', H', J2, rv, q⟩ := hs
    exact out J2 rv q
  | brk => exact hs.elim fun _ h => h.elim fun _ h => False.elim h.2
  | cont => exact hs.elim fun _ h => h.elim fun _ h => False.elim h.2
/-- what the end of the body wishes: __exit__ without an error -/
def dWith (sp : Sp) (a : Addr) (D : Ends) : Ends := { nx := fun σ H => sp [.ref a, .non, .non, .non] H (fun _ H2 => D.nx σ H2) E0, rt := fun v H => sp [.ref a, .non, .non, .non] H (fun _ H2 => D.rt v H2) E0 }
/-- .. of an error: __exit__ with it, that gives None -/
def wWith (sp : Sp) (a : Addr) (W : WX) : WX := fun cls d σ H => ∃ c, cls = .ref c ∧ ∀ (e : Addr) (tr : V), H e = none → sp [.ref a, .ref c, .ref e, tr] H (fun v H2 => v = .non ∧ W cls d σ H2) E0
def tWith (C : Addr) (i : Nat) (spe spx : Sp) (tc : TE) (tb : WX → TS) (W : WX) : TS := fun D σ H => tc σ H fun x H1 => ∃ a dx fs, x = .ref a ∧ H1 a = some (.ins C dx fs) ∧ spe [.ref a] H1 (fun v H2 => tb (wWith spx a W) (dWith spx a D) (σ.set i (some v)) H2) E0

section
variable {X : Cx} {pins : List (Addr × Obj)}
/-- back from a call that was made while the error at a is handled: the error flies on -/
theorem XE.again {a : Addr} {B : Heap} {σ : L2.St} {H H2 : Hp} {sI s s2 : Shared} {cls : Value} {d : Option Addr} (hs : X.stack = X.env :: X.outer) (I : Inv X pins σ H sI) (nb : ∀ b o, sI.heap.get? b = some o → b ∉ frs X.stack → B.get? b = some o) (up : sI.heap.UpToSlots s.heap)
    (fl : HandSPX.FlyingZ B X.stack a (Zc cls d) s.heap) (na : H a = none) (un : Un (frs X.stack) [] H H2 s.heap s2.heap) (hok : HOk X.prog X.w H2 s2.heap) (os1 : s.os = sI.os) (os2 : s2.os = s.os) (ag : AllBare s2.gens) :
    ∃ (B2 : Heap) (sJ : Shared), Inv X pins σ H2 sJ ∧ (∀ b o, sJ.heap.get? b = some o → b ∉ frs X.stack → B2.get? b = some o) ∧ sJ.heap.UpToSlots s2.heap ∧ HandSPX.FlyingZ B2 X.stack a (Zc cls d) s2.heap ∧ H2 a = none ∧ s2.os = sJ.os := by
  obtain ⟨st, hB, ff, oe, vs, T, oT, ts, he, hz, hd, h1, hT, hTa, hoT, hdT, h3⟩ := fl
  have notF : ∀ {b : Addr} {o : Obj} {us : Array Value}, s.heap.get? b = some o → o.data = .fields us → b ∉ frs X.stack := fun {b o us} e dd hm => by
    obtain ⟨_, o', e', hnf⟩ := ff.mem hm
    rw [e] at e'
    cases e'
    exact hnf _ dd
  have told : ∀ {b : Addr} {u : HO}, H b = some u → ∃ o, B.get? b = some o := fun {b u} e => by
    have l := (I.inGround nb b u e).lt
    cases z : B.get? b with
    | some o => exact ⟨o, rfl⟩
    | none =>
      have g := I.hok b u e
      obtain ⟨o, eo⟩ : ∃ o, sI.heap.get? b = some o := by
        cases w : sI.heap.get? b with
        | some o => exact ⟨o, rfl⟩
        | none =>
          exfalso
          cases u with
          | lst xs => obtain ⟨_, _, _, _, y⟩ := g; rw [w] at y; cases y
          | tup xs => obtain ⟨_, _, _, p⟩ := g; obtain ⟨_, y, _⟩ := p; rw [w] at y; cases y
          | dK kvs => obtain ⟨_, _, _, _, _, _, _, y, _⟩ := g; rw [w] at y; cases y
          | dT kvs => obtain ⟨_, _, _, _, _, _, _, y, _⟩ := g; rw [w] at y; cases y
          | set S n => obtain ⟨_, _, _, _, y, _⟩ := g; rw [w] at y; cases y
          | ins C dx fs => obtain ⟨_, _, _, y, _⟩ := g; rw [w] at y; cases y
          | own y => obtain ⟨_, y⟩ := g; rw [w] at y; cases y
          | xd fs => obtain ⟨_, ⟨_, _, _, y, _⟩, _⟩ := g; rw [w] at y; cases y
          | rng lo hi => obtain ⟨_, _, _, y⟩ := g; rw [w] at y; cases y
          | frz ob u => obtain ⟨y, _⟩ := g; rw [w] at y; cases y
          | tbl ps => exact absurd (show sI.heap.get? b = some _ from g) (by rw [w]; simp)
          | met f y => exact absurd (show sI.heap.get? b = some _ from g) (by rw [w]; simp)
          | ext φ => obtain ⟨_, ⟨_, y⟩, _⟩ := g; rw [w] at y; cases y
      have := nb b o eo fun hm => by
        rw [I.stkFree b hm] at e
        cases e
      rw [z] at this
      cases this
  have nT : H T = none := by
    cases z : H T with
    | none => rfl
    | some u =>
      obtain ⟨o, e⟩ := told z
      rw [hT] at e
      cases e
  have fa := notF he hd
  have fT := notF hoT hdT
  have he2 := un.keep a oe he na fa (by simp)
  have hT2 := un.keep T oT hoT nT fT (by simp)
  have na2 : H2 a = none := un.free a oe he na (by simp)
  have nT2 : H2 T = none := un.free T oT hoT nT (by simp)
  obtain ⟨G, g1, g2⟩ := restrict s2.heap fun b => decide (b ≠ a) && decide (b ≠ T)
  have gk : ∀ {b : Addr}, b ≠ a → b ≠ T → G.get? b = s2.heap.get? b := fun {b} x y => g1 b (by simp [x, y])
  have ga : G.get? a = none := g2 a (by simp)
  have gT : G.get? T = none := g2 T (by simp)
  have gs : ∀ {b : Addr} {o : Obj}, G.get? b = some o → s2.heap.get? b = some o := fun {b o} e => by
    by_cases x : b = a
    · rw [x, ga] at e
      cases e
    by_cases y : b = T
    · rw [y, gT] at e
      cases e
    rw [gk x y] at e
    exact e
  have inB : ∀ {b : Addr} {o : Obj}, B.get? b = some o → b ≠ a ∧ b ≠ T := fun {b o} e => ⟨fun z => (by rw [z, hB] at e; cases e), fun z => (by rw [z, hT] at e; cases e)⟩
  have inF : ∀ {b : Addr}, b ∈ frs X.stack → b ≠ a ∧ b ≠ T := fun {b} hm => ⟨fun z => fa (z ▸ hm), fun z => fT (z ▸ hm)⟩
  have toS : ∀ {b : Addr} {o : Obj}, sI.heap.get? b = some o → b ∉ frs X.stack → s.heap.get? b = some o ∧ b ≠ a ∧ b ≠ T := fun {b o} e hm => ⟨st _ _ (nb b o e hm), inB (nb b o e hm)⟩
  have frD : ∀ {b : Addr} {o : Obj}, sI.heap.get? b = some o → b ∈ frs X.stack → ∃ sl, s.heap.get? b = some { o with slots := sl } := fun {b o} e hm => by
    obtain ⟨_, o', e', hnf⟩ := I.stack.mem hm
    rw [e] at e'
    cases e'
    exact up b o e hnf
  have ne2 : ∀ {b : Addr} {u : HO}, H2 b = some u → b ≠ a ∧ b ≠ T := fun {b u} e => ⟨fun z => (by rw [z, na2] at e; cases e), fun z => (by rw [z, nT2] at e; cases e)⟩
  have U : Un (frs X.stack) [] H H2 sI.heap G := {
    keep := fun b o e n hm hx => by
      obtain ⟨e1, x, y⟩ := toS e hm
      rw [gk x y]
      exact un.keep b o e1 n hm hx
    slot := fun b o e n hm hx => by
      obtain ⟨sl, e1⟩ := frD e hm
      obtain ⟨sl2, e2⟩ := un.slot b _ e1 n hm hx
      exact ⟨sl2, by rw [gk (inF hm).1 (inF hm).2]; exact e2⟩
    free := fun b o e n hx => by
      by_cases hm : b ∈ frs X.stack
      · obtain ⟨sl, e1⟩ := frD e hm
        exact un.free b _ e1 n hx
      · exact un.free b o (toS e hm).1 n hx
    there := fun b o e hx => by
      by_cases hm : b ∈ frs X.stack
      · obtain ⟨sl, e1⟩ := frD e hm
        obtain ⟨o', e2⟩ := un.there b _ e1 hx
        exact ⟨o', by rw [gk (inF hm).1 (inF hm).2]; exact e2⟩
      · obtain ⟨e1, x, y⟩ := toS e hm
        obtain ⟨o', e2⟩ := un.there b o e1 hx
        exact ⟨o', by rw [gk x y]; exact e2⟩
    tups := un.tups
    frzs := un.frzs
    tbls := un.tbls }
  have hokG : HOk X.prog X.w H2 G := fun b u e => (hok b u e).stay (fun c v hc r => by
    have : c ≠ a ∧ c ≠ T := by
      rcases hc with hc | hc
      · rw [hc]
        exact ne2 e
      · exact ne2 hc
    rw [gk this.1 this.2]
    exact r) (fun _ r => r) fun _ _ r => r
  have J : Inv X pins σ H2 { s2 with heap := G } := I.call' (ch := []) (os2.trans os1) U hokG ag (fun b z => absurd z (by simp))
  have un0 : ∀ b ∈ frs X.stack, ∃ sl o, s.heap.get? b = some o ∧ (∀ us, o.data ≠ .fields us) ∧ s2.heap.get? b = some { o with slots := sl } := fun b hm => by
    obtain ⟨_, o, e, hnf⟩ := ff.mem hm
    obtain ⟨sl, e2⟩ := un.slot b o e (I.stkFree b hm) hm (by simp)
    exact ⟨sl, o, e, hnf, e2⟩
  have hid : ∀ {b : Addr}, G.get? b = none → (PySem.W.hideAll G (frs X.stack)).get? b = none := fun {b} e => by
    cases z : (PySem.W.hideAll G (frs X.stack)).get? b with
    | none => rfl
    | some o =>
      have y := PySem.W.of_hideAll _ z
      rw [e] at y
      cases y
  refine ⟨PySem.W.hideAll G (frs X.stack), _, J, fun b o e hm => PySem.W.hideAll_get _ e hm, Heap.UpToSlots.of_keeps fun b o e => gs e, ⟨fun b o e => gs (PySem.W.of_hideAll _ e), hid ga, ?_, oe, vs, T, oT, ts, he2, hz, hd, h1, hid gT, hTa, hT2, hdT, h3⟩, na2, rfl⟩
  exact Heap.FunFrames.of_keeps (fun b o e _ => ⟨o, gs e, rfl⟩) (funFrames_none J.stack fun b hb => PySem.W.hideAll_none _ hb)
end

end LmK
end
section
set_option Elab.async false
set_option linter.all false
set_option maxRecDepth 100000
set_option maxHeartbeats 4000000
/-! Lm6: the with statement over the layer. -/
namespace LmK
open PySem PySem.Spec PyProof.Rows PySem.Calls L2 L2H

section
variable {X : Cx} {W : WX} {ctx : Expr} {y : Str} {yp pos : Pos} {body : List Stmt} {tc : TE} {tb : WX → TS} {C fe fx : Addr} {fde fdx : FuncData} {spe spx : Sp} {k i : Nat}
theorem with_err {xe0 : Value → Shared → Prop} {pins : List (Addr × Obj)} {D : Ends} {a : Addr} {u : Value} {s' : Shared} (ok : X.Ok) (hs : X.stack = X.env :: X.outer) (hf : X.env.frame = some X.env.locals) (hr : Room k X.A) (tk : L2.Takes X W)
    (Mx : FnM X.prog X.w X.K X.mg X.base k fx fdx ["self", "kind", "value", "trace"] spx) (bx : Binds X.K fdx ["self", "kind", "value", "trace"] []) (xx : L2.XE (X.tr (X.pn ++ pins) xe0) (wWith spx a W) u s') :
    WOut X.prog X.w X.A X.xe X.env a fx (SP X pins D) u s' := by
  have hfr : X.A.frames = some (X.env :: X.outer) := by rw [ok.frames, hs]
  obtain ⟨e, B, sI, pins', σ', H', cls, d, rfl, J', nb, up, sky, na, os, ag, c, rfl, w⟩ := xx
  have J : Inv X pins σ' H' sI := J'.ofTry ok
  have sky' : Sky B (X.env :: X.outer) e (Zc (.ref c) d) X.env.locals s'.heap := by rw [← hs]; exact sky
  unfold WOut
  refine Sky.land Zc.steady hfr hf sky' fun h3 fl3 up3 => ?_
  have J3 : Inv X pins σ' H' { s' with heap := h3 } := J.landed nb fl3.1 (up.trans up3) os ag
  obtain ⟨_, _, _, oe, vs, T, oT, ts, he, hz, hd, hv1, hT, hTe, hoT, hdT, h3f⟩ := id fl3
  have lt3 : 3 < ts.size := (Array.getElem?_eq_some_iff.mp h3f).1
  obtain ⟨t1, ht1⟩ : ∃ t1, ts[1]? = some t1 := ⟨ts[1], Array.getElem?_eq_getElem (by omega)⟩
  have LT : PySem.W.Looks (model X.prog X.w) h3 (typeOf (.ref e)) (.ref c) := fun A Q E s k q => wpAny_typeOf_ref (k _ _ he) (by rw [hz.1]; exact q)
  obtain ⟨tr, trv, rtr, LB⟩ : ∃ (tr : Value) (trv : V), RelV trv tr ∧ PySem.W.Looks (model X.prog X.w) h3 (tracebackOf (.ref e)) tr := by
    by_cases z : t1 = .none
    · refine ⟨.none, .non, rfl, fun A Q E s k q => ?_⟩
      unfold tracebackOf
      refine wpAny_bind (wpAny_field (k _ _ he) hd hv1 ?_)
      refine wpAny_bind (wpAny_field (k _ _ hoT) hdT ht1 ?_)
      rw [z, if_pos (show (Value.none == Value.none) = true from rfl)]
      exact wpAny_pure q
    · refine ⟨.ref T, .ref T, rfl, fun A Q E s k q => ?_⟩
      unfold tracebackOf
      refine wpAny_bind (wpAny_field (k _ _ he) hd hv1 ?_)
      refine wpAny_bind (wpAny_field (k _ _ hoT) hdT ht1 ?_)
      rw [if_neg (show ¬ ((t1 == Value.none) = true) from fun h => z (by simpa using h))]
      exact wpAny_pure q
  refine ⟨e, .ref c, tr, rfl, LT, LB, ?_⟩
  have e0 : Env0 X.prog X.w X.K X.mg X.base (X.A.mark (some (.ref e))) X.stack { s' with heap := h3 } H' := ⟨J3.ok.frames, J3.ok.mod, J3.bs, Nat.le_trans J3.ok.bsz J3.sz, J3.stack, J3.stkFree, J3.hok, J3.bare⟩
  have bnd := bx { s' with heap := h3 } [.ref a, .ref c, .ref e, tr] J3.kIn rfl
  refine codeAny_mono (Mx.run (X.A.mark (some (.ref e))) X.stack { s' with heap := h3 } H' ⟨[.ref a, .ref c, .ref e, tr], []⟩ [.ref a, .ref c, .ref e, tr] [.ref a, .ref c, .ref e, trv] _ E0 ⟨hr.dp, hr.un⟩ e0 bnd (.cons rfl (.cons rfl (.cons rfl (.cons rtr .nil)))) (w e trv na)) fun r s5 hq => ?_
  cases r with
  | error z => exact (show False from hq).elim
  | ok f =>
    cases f with
    | ret u =>
      obtain ⟨v5, H5, os5, bare5, un5, hok5, rv5, rfl, w5⟩ := hq
      refine ⟨rv5, ?_⟩
      obtain ⟨B2, sJ, K2, nb2, up2, fl2, na2, osJ⟩ := XE.again hs J nb (up.trans up3) (by rw [hs]; exact fl3) na un5 hok5 os os5 bare5
      rw [hs] at fl2
      obtain ⟨_, _, _, oe2, vs2, T2, oT2, ts2, he2, hz2, hd2, hv2, r2⟩ := id fl2
      unfold PySem.passOn
      refine wpAny_bind (wpAny_field he2 hd2 hv2 ?_)
      rw [if_neg (show ¬ ((Value.ref T2 == Value.none) = true) from by simp)]
      have fin : wpAny (model X.prog X.w) X.A (setFlight (.ref e) X.env.frame) (fun _ s6 => wpAny (model X.prog X.w) X.A (throw (.ref e) : Sem Flow) (SP X pins D) X.xe s6) X.xe s5 := by
        rw [hf]
        refine HandSPX.setFlight_upZ fl2 fun h6 hh6 up6 => wpAny_throw (tk _ _ ?_)
        exact ⟨e, B2, sJ, pins, σ', H5, .ref c, d, rfl, K2, nb2, up2.trans up6, .inr (.inr (by rw [hs]; exact hh6)), na2, osJ, bare5, w5⟩
      first
        | exact wpAny_bind (wpAny_pure (wpAny_bind fin))
        | exact wpAny_bind fin
    | next => exact (show False from hq).elim
    | brk => exact (show False from hq).elim
    | cont => exact (show False from hq).elim
theorem ps_with (hs : X.stack = X.env :: X.outer) (hf : X.env.frame = some X.env.locals) (hr : Room k X.A) (tk : L2.Takes X W) (hc : PE X ctx tc) (me : Meth X.K C "__enter__" fe) (mx : Meth X.K C "__exit__" fx)
    (Fe : FnOk X.prog X.w X.K X.mg X.base CX0 k fe fde ["self"] spe) (be : Binds X.K fde ["self"] []) (Fx : FnOk X.prog X.w X.K X.mg X.base CX0 k fx fdx ["self", "kind", "value", "trace"] spx)
    (Mx : FnM X.prog X.w X.K X.mg X.base k fx fdx ["self", "kind", "value", "trace"] spx) (bx : Binds X.K fdx ["self", "kind", "value", "trace"] []) (hN : X.N.Nodup) (hi : X.N[i]? = some y) (hl : X.env.scope.names.lookup y = some .local)
    (hb : ∀ (W : WX) (pn : List (Addr × Obj)) (xe : Value → Shared → Prop), L2.Takes (X.tr pn xe) W → PSs (X.tr pn xe) body (tb W)) :
    PS X (.With [⟨ctx, some (.Name y yp)⟩] body pos) (fun D σ H => tWith C i spe spx tc tb W D σ H) := by
  refine ⟨fun pins s σ H D I h => ?_⟩
  have ok := I.ok
  have hfr : X.A.frames = some (X.env :: X.outer) := by rw [ok.frames, hs]
  refine PySem.W.kw_execN (thn (hc.run pins s σ H _ I h) fun v s1 ⟨x, H1, I1, r1, a, dx, fs, ex, ea, q⟩ => ?_)
  subst ex
  obtain rfl : v = Value.ref a := r1
  unfold PySem.W.KwIn
  obtain ⟨mA, O, _, _, _, _⟩ := ins_get I1.hok ea
  obtain ⟨od, hO⟩ : ∃ od, PySem.W.InstAt s1.heap a (PySem.W.instObj C dx) C (some od) := by
    obtain ⟨o1, ⟨od, _, _, e1, _⟩, _⟩ := O
    exact ⟨od, o1, rfl, rfl, e1⟩
  refine with_x I1.kIn hO me.at_ me.fn mx.at_ mx.fn ?_
  refine wpAny_mono (run_fn (us := [.ref a]) (vs := [.ref a]) (E := E0) Fe hr be .nil pass0 I1 (.cons rfl .nil) q) (fun v2 s2 ⟨w2, H2, I2, r2, q2⟩ => ?_) fun _ _ z => z
  refine wpAny_assign_Name (store_ok I2 hN hi (.inl hl) r2 (fun s3 I3 => ?_) (.inr hl))
  refine wpAny_mono ((hb (wWith spx a W) (X.pn ++ pins) (WOut X.prog X.w X.A X.xe X.env a fx (SP X pins D)) (fun u s' xx => ?_)).run [] s3 _ H2 _ (I3.toTry _) q2) (fun f s4 hsp => ?_) fun e s4 he => he
  · -- an error
    exact with_err ok hs hf hr tk Mx bx xx
  · -- the end of the body
    have leave : ∀ {σ4 : L2.St} {H4 : Hp} {Q4 : VK} {f : Flow}, Inv X pins σ4 H4 s4 → spx [.ref a, .non, .non, .non] H4 Q4 E0 → (∀ v s5 H5, Inv X pins σ4 H5 s5 → Q4 v H5 → SP X pins D f s5) →
        wpAny (model X.prog X.w) X.A (call (.ref fx) [.ref a, .none, .none, .none]) (fun _ s5 => SP X pins D f s5) X.xe s4 := fun {σ4 H4 Q4 f} J hq go =>
      wpAny_mono (run_fn (us := [.ref a, .none, .none, .none]) (vs := [.ref a, .non, .non, .non]) (E := E0) Fx hr bx .nil pass0 J (.cons rfl (.cons rfl (.cons rfl (.cons rfl .nil)))) hq) (fun u s5 ⟨v5, H5, I5, _, q5⟩ => go v5 s5 H5 I5 q5) fun _ _ z => z
    cases f with
    | next =>
      obtain ⟨σ4, H4, J4, q4⟩ := hsp
      exact leave (J4.ofTry ok) q4 fun v s5 H5 J5 q5 => ⟨σ4, H5, J5, q5⟩
    | ret u =>
      obtain ⟨v4, σ4, H4, J4, r4, q4⟩ := hsp
      exact leave (J4.ofTry ok) q4 fun v s5 H5 J5 q5 => ⟨v4, σ4, H5, J5, r4, q5⟩
    | brk =>
      obtain ⟨_, _, _, z⟩ := hsp
      exact False.elim z
    | cont =>
      obtain ⟨_, _, _, z⟩ := hsp
      exact False.elim z
end
end LmK
end
section
set_option Elab.async false
set_option linter.all false
set_option maxRecDepth 100000
set_option maxHeartbeats 4000000
/-! Lm7: an own error whose __init__ calls super().__init__ with a text, and keeps what it was given. -/
namespace LmK
open PySem PySem.Spec PyProof.Rows PySem.Calls L2

/-- what the written part has of the class at C, its __init__ at f, of two parameters -/
structure SupF (P : Program) (K : PySem.W.Frag) (mg : Str → Option Value) (C f cc cda : Addr) (fld : Str) : Prop where
  T : OexC K C
  code : ∃ (ccl : Value) (cdd : Option Addr) (vs : Array Value) (ccs : Array (Option Value)) (file : Str) (tf : Tok), K.lookup cda = some ⟨ccl, cdd, .fields vs, ccs⟩ ∧ vs[2]? = some (.str file tf) ∧ ((P.main.file : Str) == file) = true
  cell : ∃ (cl : Value) (cld : Option Addr) (csl : Array (Option Value)), K.lookup cc = some ⟨cl, cld, .cell (some (.ref C)), csl⟩
  sub : PySem.W.mroIn K C (.ref C) = some true
  subV : PySem.W.subIn K (.ref C) (.type "ValueError") = some true
  sup : mg "super" = none
  init : PySem.W.ks_superIn K C C "__init__" = some (some (.builtin "ValueError.__init__"))
  opq : PySem.W.nsIn K cStatics "thirdparty.any" = some none
  fld : PySem.W.findIn K (.ref C) fld = some none
  top : (P.main.scope.names.lookup ("super" : Str)).isSome = false
/-- its scope -/
structure SupS (scope : Scope) (n0 n1 : Str) : Prop where
  kind : scope.kind = .function
  co : scope.isCoroutine = false
  gen : scope.isGenerator = false
  nocell : ∀ y ∈ scope.names, y.2 ≠ .cell
  free : ∀ y ∈ scope.names, y.2 = .free → y.1 = "__class__"
  s0 : scope.names.lookup n0 = some .local
  s1 : scope.names.lookup n1 = some .local
  sup : scope.names.lookup ("super" : Str) = some .globalImplicit
  cls : scope.names.lookup ("__class__" : Str) = some .free
  ne : n0 ≠ n1
/-- the context of its body -/
abbrev cxS (P : Program) (w : World) (K : PySem.W.Frag) (mg : Str → Option Value) (base : Heap) (N : List Str) (qual : Str) (scope : Scope) (f : Addr) (cd : Value) (cc : Addr) (A : Around) (outer : List Env) (s : Shared) (H : Hp) : Cx :=
  { cxOf CX0 P w K mg base N qual scope f cd A outer s H (fun _ _ _ => False) with
    A := A.deeper (PySem.W.ksEnv qual scope s.heap.objs.size f cd cc)
    env := PySem.W.ksEnv qual scope s.heap.objs.size f cd cc
    stack := PySem.W.ksEnv qual scope s.heap.objs.size f cd cc :: outer
    fn := fun _ => false
    xe := fun _ _ => False }
/-- a text, whatever it says -/
def SomeTxt (t : TE) (vs : List V) : Prop := ∀ (H : Hp) (Q : VK), (∀ y : Str, Q (.str y) H) → t (vs.map some) H Q
def sp_exc1 (C : Addr) (fld : Str) : Sp := fun vs H Q _ => ∃ a v, vs = [.ref a, v] ∧ (v = .non ∨ ∃ i : Int, v = .int i ∧ i.natAbs.log2 < 1920) ∧ H a = some (exo a C none) ∧ ∀ dx, H dx = none → dx ≠ a → Q .non (upd (upd H dx (exd dx [(fld, v)])) a (exo a C (some dx)))
theorem start_S {P : Program} {w : World} {K : PySem.W.Frag} {mg : Str → Option Value} {base : Heap} {n0 n1 qual : Str} {scope : Scope} {f C cc cda : Addr} {fld : Str} {A : Around} {outer : List Env} {s : Shared} {H : Hp} {h₀ : Heap} {tk : Nat} {v0 v1 : V} {u0 u1 : Value} {cd : Value}
    (F : SupF P K mg C f cc cda fld) (S : SupS scope n0 n1) (calm : A.handled = none) (e0 : Env0 P w K mg base A outer s H) (r0 : RelV v0 u0) (r1 : RelV v1 u1) (hns : h₀.Ns s.heap.objs.size fun y => ([(n0, u0), (n1, u1)] : List (Str × Value)).reverse.lookup y) (hk : ∀ b o, s.heap.get? b = some o → h₀.get? b = some o) :
    Inv (cxS P w K mg base [n0, n1] qual scope f cd cc A outer s H) [] [some v0, some v1] H { s with heap := h₀, toks := tk } := by
  obtain ⟨cl, cld, csl, hcc⟩ := F.cell
  have inB := e0.mod.kin _ _ hcc
  have one : ∀ {y : Str} {c : Addr}, ([(("__class__" : Str), cc)] : List (Str × Addr)).lookup y = some c → y = "__class__" ∧ c = cc := fun {y c} e => by
    by_cases h : y = "__class__"
    · subst h
      simp [List.lookup] at e
      exact ⟨rfl, e.symm⟩
    · have h2 : (y == ("__class__" : Str)) = false := by simpa using h
      simp [List.lookup, h2] at e
  have none_ : ∀ b : Addr, b ∉ (cxS P w K mg base [n0, n1] qual scope f cd cc A outer s H).ex := fun b z => absurd (show b ∈ ([] : List Addr) from z) (by simp)
  have ok : (cxS P w K mg base [n0, n1] qual scope f cd cc A outer s H).Ok := {
    mod := e0.mod
    kind := S.kind
    glob := rfl
    blt := rfl
    above := Nat.le_refl _
    inj := fun y z c a b => (one a).1.trans (one b).1.symm
    has := fun y hy => by
      have hy : scope.names.lookup y = some .cell ∨ scope.names.lookup y = some .free := hy
      rcases hy with h | h
      · exact absurd rfl (S.nocell _ (PySem.mem_of_lookup h))
      · have e := S.free _ (PySem.mem_of_lookup h) rfl
        have e : y = "__class__" := e
        subst e
        exact ⟨cc, by show ([(("__class__" : Str), cc)] : List (Str × Addr)).lookup _ = _; simp [List.lookup]⟩
    cab := fun y c z _ => absurd (show false = true from z) Bool.false_ne_true
    hd := fun _ => calm
    frames := Around.frames_deeper e0.frames
    stk := .inr ⟨rfl, rfl⟩
    exf := fun b z => absurd z (none_ b)
    bs := e0.bs
    bsz := e0.bsz
    noex := fun b _ _ => none_ b
    exfs := fun b z => absurd z (none_ b)
    funs := e0.funs
    frf := e0.frf }
  have l0 : ([(n0, u0), (n1, u1)] : List (Str × Value)).reverse.lookup n0 = some u0 := by
    have h : (n0 == n1) = false := by simpa using S.ne
    simp [List.lookup, h]
  have l1 : ([(n0, u0), (n1, u1)] : List (Str × Value)).reverse.lookup n1 = some u1 := by simp [List.lookup]
  refine ⟨ok, rfl, e0.bare, Un.kept hk, ⟨_, hns, fun i y v a b vis => ?_⟩, fun y c e => ?_, e0.hok.fresh (Nat.le_refl _), fun y c e => ?_, fun q hq => absurd (show q ∈ ([] : List (Addr × Obj)) ++ [] from hq) (by simp), e0.hok.kept hk, rfl⟩
  · match i, a, b with
    | 0, a, b =>
      cases a
      cases b
      exact ⟨u0, r0, .inl ⟨S.s0, l0⟩⟩
    | 1, a, b =>
      cases a
      cases b
      exact ⟨u1, r1, .inl ⟨S.s1, l1⟩⟩
    | i + 2, a, b =>
      have a : ([n0, n1] : List Str)[i + 2]? = some y := a
      simp at a
  · obtain ⟨_, e⟩ := one e
    rw [e]
    exact ⟨_, _, hk _ _ (e0.bs _ _ inB).1, rfl⟩
  · obtain ⟨_, e⟩ := one e
    rw [e]
    exact (e0.bs _ _ inB).2
theorem pinned1 {X : Cx} {pins : List (Addr × Obj)} {σ : L2.St} {H : Hp} {s : Shared} {b : Addr} {o : Obj} {us : Array Value} (I : Inv X pins σ H s) (hb : s.heap.get? b = some o) (hn : H b = none) (hl : b ≠ X.env.locals) (hf : b ∉ X.fs) (hd : o.data = .fields us) : Inv X ((b, o) :: pins) σ H s :=
  ⟨I.ok, I.os, I.bare, I.base, I.loc, I.cell, I.free, I.freeC, fun p hp => by
    rcases List.mem_append.mp hp with h | h
    · exact I.pin p (List.mem_append_left _ h)
    · rcases List.mem_cons.mp h with e | h
      · subst e
        refine ⟨hb, hn, hl, hf, fun v z => ?_⟩
        have z : o.data = .cell v := z
        rw [hd] at z
        cases z
      · exact I.pin p (List.mem_append_right _ h), I.hok, I.len⟩
section
variable {X : Cx} {pins : List (Addr × Obj)} {σ : L2.St} {H : Hp} {s : Shared}
/-- the bound __init__ is called -/
theorem bound_init {a C u : Addr} {us : List Value} {A : Around} {E Q : Value → Shared → Prop} (T : OexC X.K C) (I : Inv X pins σ H s) (e : H a = some (exo a C none)) (hu : s.heap.get? u = some (PySem.W.kxs_mw "ValueError.__init__" a)) (hz : us.length ≤ sizeLine)
    (h : ∀ s', Inv X pins σ H s' → Q .none s') : wpAny (model X.prog X.w) A (call (.ref u) us) Q E s := by
  obtain ⟨nm, q, N, bs, bm, sn, sub, ab, col, dd, k0, k1, k2, k3, k5, hC, hbm⟩ := T.cls
  obtain ⟨t1, ho⟩ := exo_at I.hok e
  obtain ⟨hp, g, d, t, os⟩ := s
  have FB := F.excBase_ValueError
  refine wpAny_call (codeAny_of_tree ?_)
  show wpAny _ A.in1 (callAny (.ref u) ⟨us, []⟩) _ _ _
  simp only [callAny]
  refine wpAny_bind (wpAny_load hu ?_)
  simp only [PySem.W.kxs_mw, show (Value.type "method-wrapper" == Value.type "method" || Value.type "method-wrapper" == Value.type "builtin_function_or_method" || Value.type "method-wrapper" == Value.type "method-wrapper") = true by decide, if_true]
  refine PySem.W.KFB.if_so (by decide) ?_
  refine wpAny_bind (PySem.W.check_bound_init FB.toExcCallFacts (I.kIn _ _ hC) ho rfl ?_)
  refine wpAny_bind (wpAny_pure (wpAny_pure ?_))
  refine ⟨plainId_quiet FB.init.plain _, codeAny_builtin FB.initEntry ?_⟩
  refine PySem.W.exc_init_tree (cls := .ref C) (t0 := t1) (dv := none) (c2 := .none) (c3 := .none) (b4 := .bool false) ho hz fun h' keep e' _ => ?_
  have J := I.write (t' := t) (x := a) (e := a) (o := exo a C none) (by rw [e]; exact True.intro) (.inl rfl) keep ⟨_, e'⟩ (exo_ok e')
  have eu : upd H a (exo a C none) = H := by
    funext b
    by_cases hb : b = a
    · rw [hb, upd_same, e]
    · rw [upd_ne hb]
  rw [eu] at J
  exact h _ J
end
end LmK
end
section
set_option Elab.async false
set_option linter.all false
set_option maxRecDepth 100000
set_option maxHeartbeats 4000000
/-! Lm8: such an __init__ keeps its promise. -/
namespace LmK
open PySem PySem.Spec PyProof.Rows PySem.Calls L2 Evl

section
variable {P : Program} {w : World} {K : PySem.W.Frag} {mg : Str → Option Value} {base : Heap} {C f cc cda : Addr} {n0 n1 fld : Str} {name qual : Str} {params : Arguments} {scope : Scope} {dV kV doc pm ct oc : Value} {an od : Option Addr} {osl : Array (Option Value)}
  {fe : Expr} {p0 p1 p2 p3 p4 p5 p6 p7 p8 : Pos} {tF : TE}
theorem fn_exc1 {ar : Arg} {pl : Sem Bool} (F : SupF P K mg C f cc cda fld) (S : SupS scope n0 n1)
    (lk : K.lookup f = some ⟨oc, od, .func (PySem.W.ksFn name qual params [.Expr (.Call (.Attribute (.Call (.Name "super" p0) [] [] p1) "__init__" p2) [fe] [] p3) p4, .Assign [.Attribute (.Name n0 p5) fld p6] (.Name n1 p7) p8] scope dV kV doc pm an (.ref cda) ct cc), osl⟩)
    (hcd : PySem.W.codeIn K (.ref cda) qual = true) (hp : (params.posonlyargs ++ params.args).head? = some ar) (har : ar.arg = n0)
    (hfe : ∀ (A : Around) (outer : List Env) (s : Shared) (H : Hp), Room 0 (A.deeper (PySem.W.ksEnv qual scope s.heap.objs.size f (.ref cda) cc)) → PE (cxS P w K mg base [n0, n1] qual scope f (.ref cda) cc A outer s H) fe tF)
    (htF : ∀ a v, (v = .non ∨ ∃ i : Int, v = .int i ∧ i.natAbs.log2 < 1920) → SomeTxt tF [.ref a, v])
    (hst : ∀ env : Env, starEach [fe] env = [(false, eval fe env)] := by intro _; rfl)
    (hcall : ∀ env : Env, eval (.Call (.Attribute (.Call (.Name "super" p0) [] [] p1) "__init__" p2) [fe] [] p3) env = (do
      let ov ← attributeBase (.Call (.Name "super" p0) [] [] p1) "__init__" env (eval (.Call (.Name "super" p0) [] [] p1) env)
      standAt p2.atName
      let (f, first) ← holding [ov] (getMethod ov "__init__" pl)
      callWith p3 f first (backTo p3 (starEach [fe] env)) []) := by intro _; rfl)
    (hd0 : (n0 == ("__debug__" : Str)) = false := by decide) (hc0 : (n0 == ("__classdict__" : Str)) = false := by decide) (hd1 : (n1 == ("__debug__" : Str)) = false := by decide) (hc1 : (n1 == ("__classdict__" : Str)) = false := by decide) :
    FnOk P w K mg base CX0 1 f (PySem.W.ksFn name qual params [.Expr (.Call (.Attribute (.Call (.Name "super" p0) [] [] p1) "__init__" p2) [fe] [] p3) p4, .Assign [.Attribute (.Name n0 p5) fld p6] (.Name n1 p7) p8] scope dV kV doc pm an (.ref cda) ct cc) [n0, n1] (sp_exc1 C fld) := by
  refine ⟨fun vs H Q E h => ?_, fun A outer s H args us vs Q E hr e0 hb r hsp => ?_⟩
  · obtain ⟨a, v, rfl, _⟩ := h
    rfl
  obtain ⟨a, v, rfl, hv, ha, hQ⟩ := hsp
  cases r with
  | @cons _ u0 _ ur r0 rr =>
  cases rr with
  | @cons _ u1 _ ur2 r1 rr2 =>
  cases rr2
  obtain rfl : u0 = Value.ref a := r0
  have keep : ∀ b o, base.get? b = some o → s.heap.get? b = some o := fun b o e => (e0.bs b o e).1
  have inK : K.In s.heap := e0.mod.kin.keeps keep
  refine PySem.ks_codeAny_call_defAt (fd := PySem.W.ksFn name qual params _ scope dV kV doc pm an (.ref cda) ct cc) (body := _) (binds := [(n0, .ref a), (n1, u1)]) hr.depth (inK _ _ lk) rfl (e0.mod.nolimit.keeps keep) (PySem.W.codeRec_of inK hcd) rfl hb S.nocell (fun y hy => ?_) (fun h₀ hns hk => ?_) S.co S.gen S.kind
  · rcases List.mem_cons.mp hy with e | hy
    · subst e
      exact S.s0
    · rcases List.mem_cons.mp hy with e | hy
      · subst e
        exact S.s1
      · cases hy
  let X := cxS P w K mg base [n0, n1] qual scope f (.ref cda) cc A outer s H
  have J : Inv X [] [some (.ref a), some v] H { s with heap := h₀, toks := s.toks + 2 } := start_S (fld := fld) (cda := cda) F S hr.hd e0 rfl r1 hns hk
  show _root_.PySem.wpAt (model P w) X.A (.func _ X.env) (execs _ X.env) _ _ _
  refine PySem.ks_wpAt_execs_cons (PySem.ks_wpAt_Expr_any (PySem.ks_wpAt_MethodCall (pl := pl) ?_ (hcall _)) (hi := by
    show (scope.kind == .module && _) = false
    rw [S.kind]
    rfl))
  obtain ⟨ccl, cdd, cvs, ccs, file, tf, hcode, hcvs, hfile⟩ := F.code
  obtain ⟨cl, cld, csl, hcell⟩ := F.cell
  obtain ⟨nm, q, N, bs, bm, sn, sub, ab, col, dd, k0, k1, k2, k3, k5, hC, hbm⟩ := F.T.cls
  have inK0 : K.In h₀ := inK.keeps hk
  have hcl : PySem.W.clsIn K C = some { name := nm, bases := bs, mro := .ref C :: bm, ns := N, qualname := q, hasDict := true, slotNames := sn, subclasses := sub, abstract := ab, collection := col, hasDel := false } := by unfold PySem.W.clsIn; rw [hC] <;> rfl
  obtain ⟨mb, hmb, hbb⟩ := J.mod.blt
  obtain ⟨t1, hoa⟩ := exo_at J.hok ha
  have aC : a ≠ C := fun z => by
    subst z
    rw [(e0.bs _ _ (e0.mod.kin _ _ hC)).2] at ha
    cases ha
  refine PySem.ks_wpAt_super_base (env := X.env) S.sup S.cls (by decide) rfl (inK0 _ _ lk) rfl hp rfl (inK0 _ _ hcode) rfl hcvs hfile F.top ?_
  refine PySem.W.ks_loadName_global S.kind S.sup (loadGlobal_builtin (env := X.env) (J.mod.glob.keeps J.bk) F.sup (hmb.keeps J.bk) ((hbb _ (by decide)).trans (by first | boot_by_name | rfl | kernel_rfl)) ⟨rfl, ?_⟩)
  refine wpAny_loadName_free S.kind S.cls (by show ([(("__class__" : Str), cc)] : List (Str × Addr)).lookup _ = _; simp [List.lookup]) ⟨_, inK0 _ _ hcell, rfl⟩ ?_
  refine wpAny_loadName_local S.kind (by rw [har]; exact S.s0) hns (v := .ref a) (by
    rw [har]
    have h : (n0 == n1) = false := by simpa using S.ne
    simp [List.lookup, h]) ?_
  refine PySem.ks_wpAny_isType_cls (inK0 _ _ hC) rfl ⟨rfl, ?_⟩
  refine PySem.ks_wpAny_call_super (inK0 _ _ hC) rfl hoa rfl (fun c z => by cases z) (PySem.W.looks_mroIn inK0 F.sub) fun h1 hso k1' => ?_
  have J1 : Inv X [] [some (.ref a), some v] H { s with heap := h1, toks := s.toks + 2 } := J.kept k1'
  have inK1 : K.In h1 := inK0.keeps k1'
  have hm : PySem.W.alongIn K "__init__" (((.ref C :: bm : List Value).dropWhile (· != .ref C)).drop 1) = some (some (.builtin "ValueError.__init__")) := by
    have h := F.init
    unfold PySem.W.ks_superIn at h
    rw [hcl] at h
    exact h
  have hI : PySem.W.Looks (model P w) h1 (isInstance (.ref a) (.type "ValueError")) true :=
    PySem.W.Looks.andThen (fun A Q E s k q => wpAny_typeOf_ref (k _ _ (k1' _ _ hoa)) q) (PySem.W.looks_subIn inK1 F.subV)
  refine PySem.W.kxs_getMethod PySem.W.kxs_ValueError hso (PySem.W.looks_opaque inK1 F.opq) (l₀ := .ref C :: bm) ?_ rfl inK1 hm hI aC (by decide) ?_
  · exact fun A Q E s k q => wpAny_bind ((PySem.W.looks_clsIn inK1 hcl) A _ E s k (wpAny_pure q))
  let u : Addr := h1.objs.size
  have J2 : Inv X [] [some (.ref a), some v] H { s with heap := h1.push (PySem.W.kxs_mw "ValueError.__init__" a), toks := s.toks + 2 + 1 } := J1.kept fun b o e => Heap.get?_push_of_some _ e
  have hu : (h1.push (PySem.W.kxs_mw "ValueError.__init__" a)).get? u = some (PySem.W.kxs_mw "ValueError.__init__" a) := Heap.get?_push_size _ rfl
  have nu : H u = none := J1.hok.fresh (Nat.le_refl _)
  have J3 := pinned1 J2 hu nu (Nat.ne_of_gt J1.lt) (J1.nofs (Nat.le_refl _)) rfl
  rw [hst]
  refine PySem.W.kxs_callWith (i := "ValueError.__init__") (x := a) (by rfl) (evalArgs_plain ?_)
  have pa : PA X [fe] (tCons tF tNil) := pa_cons (hfe A outer s H ((hr.deeper _).mono (Nat.zero_le _))) pa_nil (hst _)
  have run := pa.run p3 _ _ _ H (fun vs H' => ∃ y : Str, vs = [.str y] ∧ H' = H) J3 (htF a v hv H _ fun y => ⟨y, rfl, rfl⟩)
  rw [hst] at run
  refine wpAny_mono run (fun us2 s2 ⟨vs2, H2, J4, r2, y, e2, eH⟩ => ?_) fun _ _ z => False.elim z
  subst e2 eH
  have lenu := r2.length
  have hu2 := (J4.pin (u, _) (by exact List.mem_cons_self)).1
  refine ⟨hu2, ?_⟩
  refine bound_init (X := X) F.T J4 ha hu2 (by
    show us2.length ≤ sizeLine
    rw [← lenu, sizeLine_eq]
    show 1 ≤ 16777216
    decide) fun s3 J5 => ?_
  refine _root_.PySem.wpAt_of_wpAny ?_
  have st : PSs X [.Assign [.Attribute (.Name n0 p5) fld p6] (.Name n1 p7) p8] (tOst K fld (tVar 0) (tVar 1)) := pss_one (ps_ost (pe_var (i := 0) rfl (.inl S.s0) hd0 hc0) (pe_var (i := 1) rfl (.inl S.s1) hd1 hc1))
  have rd : tOst K fld (tVar 0) (tVar 1) { nx := fun _ H' => Q .non H', rt := Q } [some (.ref a), some v] H2 :=
    ⟨v, rfl, .ref a, rfl, a, C, rfl, F.T, F.fld, .inl ⟨ha, fun dx h1 h2 => hQ dx h1 h2⟩⟩
  refine wpAny_mono (st.run _ s3 _ H2 _ J5 rd) (fun fl s4 hs => ?_) fun _ _ z => False.elim z
  cases fl with
  | next =>
    obtain ⟨σ', H', J6, q6⟩ := hs
    exact ⟨.non, H', J6.os, J6.bare, J6.base, J6.hok, rfl, q6⟩
  | ret u =>
    obtain ⟨v6, σ', H', J6, rv, q6⟩ := hs
    exact ⟨v6, H', J6.os, J6.bare, J6.base, J6.hok, rv, q6⟩
  | brk => exact hs.elim fun _ h => h.elim fun _ h => False.elim h.2
  | cont => exact hs.elim fun _ h => h.elim fun _ h => False.elim h.2
end
end LmK
end
section
set_option Elab.async false
set_option linter.all false
set_option maxRecDepth 100000
set_option maxHeartbeats 8000000
/-! Rn1: {a tuple: v}; what is kept of a program, told again. -/
namespace KX
open PySem PySem.Spec PyProof.Rows L2 Evl

/-- a written dict of one entry, its key a tuple -/
def tDisp1 (tk tv : TE) : TE := fun σ H Q => ∀ p, H p = none → tk σ (upd H p (.dT [])) fun y H2 => tv σ H2 fun x H3 => ∃ (b : Addr) (kk : List Key), y = .ref b ∧ H3 b = some (.tup (kk.map kV)) ∧ H3 p = some (.dT []) ∧ Q (.ref p) (upd H3 p (.dT [(kk, x)]))
theorem pe_disp1 {X : Cx} {k v : Expr} {tk tv : TE} {pos : Pos} (hu : X.A.units + 1 < cLine) (hk : PE X k tk) (hv : PE X v tv) : PE X (.Dict [some k] [v] pos) (tDisp1 tk tv) := by
  refine ⟨fun pins s σ H Q I q => ?_⟩
  have hn := I.hok.fresh (Nat.le_refl s.heap.objs.size)
  have I1 := I.laid (a := s.heap.objs.size) (o := .dT []) (h' := s.heap.push { cls := .type "dict", data := .dict #[] }) (t' := s.toks) (fun _ _ q => Heap.get?_push_of_some _ q) (Nat.le_refl _) (dt_empty s.heap I.big)
  rw [arm_eval_Dict, zip_pairTrees _ _ _ _ rfl rfl, dictDisplay_pairs _ (by simp [pairTrees]) (by simp [pairTrees])]
  refine wpAny_bind (wpAny_standAt ?_)
  refine wpAny_bind ?_
  unfold subDict
  refine wpAny_bind (wpAny_alloc ?_)
  refine wpAny_bind (wpAny_holding ?_)
  rw [if_pos (by simp [pairTrees])]
  refine wpAny_bind (pairTrees_cons_walk (thn (hk.run pins _ σ _ _ I1 (q _ hn)) fun kv s2 ⟨y, H2, I2, ry, q2⟩ => thn (hv.run pins s2 σ H2 _ I2 q2) fun vv s3 ⟨x, H3, I3, rx, b, kk, ey, hb, hp, q3⟩ => pairTrees_nil_walk ?_))
  subst ey
  cases (show kv = Value.ref b from ry)
  refine wpAny_holding ?_
  obtain ⟨z, hd, xs, rel, dd⟩ := dt_of I3.hok hp
  cases rel
  simp only [List.forIn_cons, List.forIn_nil]
  refine wpAny_bind (wpAny_bind (wpAny_bind (wpAny_dictSet_heap (hsz := by size_fits) (Nat.lt_of_succ_lt hu) (key_of I3.hok hb) dd fun h' dd' hs => ?_)))
  obtain ⟨o, es, ep, ho, h2, h3, h4, _, h5⟩ := dd'
  have J := d_write (t' := s3.toks + (tupleKind (mixKind X.prog X.w)).draws kk) (ob := .dT [(kk, x)]) I3 (by rw [hp]; exact True.intro) hs ⟨o, ho⟩ ⟨by show 1 ≤ sizeLine; rw [sizeLine_eq]; decide, hd, [(kk, b, vv)], .cons ⟨rfl, by rw [upd_ne (ne_of hb hp (fun z => nomatch z))]; exact hb, rx⟩ .nil, o, es, ep, ho, h2, h3, h4, h5⟩
  refine wpAny_pure (wpAny_pure (wpAny_pure (wpAny_pure (wpAny_pure ?_))))
  exact ⟨.ref s.heap.objs.size, _, J, rfl, q3⟩
section
variable {K : PySem.W.Frag} {σ : L2.St} {H : Hp}
/-- what a kept program needs to be put together again -/
structure Small (g : Pg) (k : Nat) : Prop where
  ro : ∀ s c, SL g.L g.n s c → ∀ n ∈ g.regs, (g.row s c n).length ≤ k ∧ rowLen (g.row s c n) ≤ k
  fi : ∀ s row, g.fin s = some row → row.length ≤ k ∧ rowLen row ≤ k
theorem rowLen_app (a b : List Itm) : rowLen (a ++ b) = rowLen a + rowLen b := by
  unfold rowLen
  rw [List.map_append, List.sum_append]
theorem rowLen_one (ts : List Str) : rowLen ((oneS ts).map .t) = (ts.map (·.length)).sum := by
  rw [← len_cat]
  unfold oneS
  by_cases h : cat ts = ""
  · rw [if_pos h, h]
    rfl
  · rw [if_neg h]
    show (cat ts).length + 0 = _
    omega
theorem rowLen_nrmGo : ∀ (row acc : List Itm) (ts : List Str), rowLen (nrmGo row acc ts) = rowLen acc + (ts.map (·.length)).sum + rowLen row
  | [], acc, ts => by
    show rowLen (acc ++ (oneS ts).map .t) = _ + 0
    rw [rowLen_app, rowLen_one]
    rfl
  | .t s :: r, acc, ts => by
    show rowLen (nrmGo r acc (ts ++ [s])) = _
    rw [rowLen_nrmGo r acc (ts ++ [s]), List.map_append, List.sum_append]
    show rowLen acc + (_ + (s.length + 0)) + rowLen r = rowLen acc + _ + (s.length + rowLen r)
    omega
  | .r n :: r, acc, ts => by
    show rowLen (nrmGo r (acc ++ (oneS ts).map .t ++ [.r n]) []) = _
    rw [rowLen_nrmGo r _ [], rowLen_app, rowLen_app, rowLen_one]
    show rowLen acc + _ + 0 + 0 + rowLen r = rowLen acc + _ + (0 + rowLen r)
    omega
theorem rowLen_nrm (row : List Itm) : rowLen (nrm row) = rowLen row := by
  show rowLen (nrmGo row [] []) = _
  rw [rowLen_nrmGo]
  show 0 + 0 + rowLen row = rowLen row
  omega
theorem Small.td {g : Pg} {k : Nat} (S : Small g k) : Small g.td.pg (2 * k + 1) := by
  have hp := srtS_perm g.regs
  have sl : ∀ {s c}, SL (lts g.L) g.n s c → SL g.L g.n s c := fun h => ⟨h.1, h.2.1, lts_mem.mp h.2.2⟩
  refine ⟨fun s c h n hn => ?_, fun s row h => ?_⟩
  · have h1 := S.ro s c (sl h) n (hp.1.mem_iff.mp hn)
    have h2 := nrm_len (g.row s c n)
    have h3 := rowLen_nrm (g.row s c n)
    exact ⟨by show (nrm (g.row s c n)).length ≤ _; omega, by show rowLen (nrm (g.row s c n)) ≤ _; omega⟩
  · have h : (g.fin s).map nrm = some row := h
    obtain ⟨row0, h0, rfl⟩ := Option.map_eq_some_iff.mp h
    have h1 := S.fi s row0 h0
    have h2 := nrm_len row0
    have h3 := rowLen_nrm row0
    exact ⟨by omega, by omega⟩
theorem GoOk.td {g : Pg} {k : Nat} (G : GoOk g) (S : Small g k) (hk : k ≤ 400) : GoOk g.td.pg := by
  have hp := srtS_perm g.regs
  have sl : ∀ {s c}, SL (lts g.L) g.n s c → SL g.L g.n s c := fun h => ⟨h.1, h.2.1, lts_mem.mp h.2.2⟩
  refine ⟨G.n1, hp.1.nodup_iff.mpr G.rN, by show (srtS g.regs).length ≤ 60; rw [hp.1.length_eq]; exact G.r6, fun s c h => G.go s c (sl h), fun s c h n hn => ?_, fun s row h => ?_⟩
  · have h1 := (S.td.ro s c h n hn).1
    refine ⟨by omega, fun m hm => hp.1.mem_iff.mpr ?_⟩
    exact (G.rw s c (sl h) n (hp.1.mem_iff.mp hn)).2 m (nrm_mem hm)
  · have h1 := (S.td.fi s row h).1
    have h : (g.fin s).map nrm = some row := h
    obtain ⟨row0, h0, rfl⟩ := Option.map_eq_some_iff.mp h
    exact ⟨by omega, fun m hm => hp.1.mem_iff.mpr ((G.fn s row0 h0).2 m (nrm_mem hm))⟩
/-- a kept program's parts are as told -/
theorem td_of {g : Pg} {k : Nat} {ra fa sa ea : Addr} (G : GoOk g) (S : Small g k) (hk : k ≤ 1000) (hL : g.L.length ≤ 100000) (T : PgD H g ra fa sa ea) : TdAt H g.td ra fa sa ea := by
  have rowD : ∀ {s c r}, SL g.L g.n s c → RowsN g.regs (g.row s c) H r → RowD g.regs (g.td.row s c) H r := fun {s c r} hsl hR => by
    obtain ⟨l, a1, a2, a3⟩ := hR
    refine ⟨l, .inl a1, fun m hm => .inr ?_⟩
    obtain ⟨v, hv, hmm⟩ := valV_key (kvs := l) (k := .inr m) (by rw [a2]; exact List.mem_map_of_mem hm)
    obtain ⟨a, rfl, hA⟩ := a3 m v hmm
    have hz := S.ro s c hsl m hm
    exact ⟨g.row s c m, a, rfl, hv, hA, by omega, by omega⟩
  obtain ⟨kvs, g1, g2, g3, g4, g5⟩ := T.s
  obtain ⟨ke, q1, q2, q3, q4, q5⟩ := T.e
  refine ⟨T.rS, G.rN, G.r6, hL, ⟨_, T.f, fun n hn => hk_at hn⟩, ⟨kvs, g1, g2, g3, fun k v m => ?_, g5⟩, ⟨ke, q1, q2, q3, fun k v m => ?_, q5⟩⟩
  · obtain ⟨s, c, b, r, h1, h2, h3, h4, h5⟩ := g4 k v m
    exact ⟨s, c, b, r, h1, h2, h3, h4, rowD h2 h5⟩
  · obtain ⟨s, a, row, h1, h2, h3, h4⟩ := q4 k v m
    have hz := S.fi s row h2
    exact ⟨s, a, row, h1, h2, h3, h4, by omega, by omega⟩
theorem small_of {g : Pg} (D : DrOk sg4 g) : Small g 5 := by
  obtain ⟨hN, h2, hW⟩ := regs_ok D
  refine ⟨fun s c h n hn => ?_, fun s row h => ?_⟩
  · have h1 := D.ro s c h n hn
    have h3 := rowLen_le h1
    have h4 := h1.1
    exact ⟨by omega, by omega⟩
  · have h1 := (D.fi s row h).2.2
    have h3 := rowLen_le h1
    have h4 := h1.1
    exact ⟨by omega, by omega⟩
end
end KX
end
section
set_option Elab.async false
set_option linter.all false
set_option maxRecDepth 100000
set_option maxHeartbeats 8000000
/-! Rn2: programs are made of told ones and copied. -/
namespace KX
open PySem PySem.Spec PyProof.Rows L2 Evl

section
variable {K : PySem.W.Frag} {σ : L2.St} {H : Hp} {ta : TA} {te tk tv : TE}
theorem ep_dnewK : New tDNewK σ H (fun o _ => o = .dK []) := fun H1 e Q q p hp => q p _ _ hp (Ex.new hp) upd_same rfl
theorem new_disp1 {Pk Pv : V → Hp → Prop} (hk : EvP tk σ H Pk) (hv : EvP tv σ H Pv) {kk : List Key} (key : ∀ v H1, Pk v H1 → ∃ b, v = .ref b ∧ H1 b = some (.tup (kk.map kV))) (hS : ∀ x, Stab isDt (Pv x)) :
    New (tDisp1 tk tv) σ H (fun o H' => ∃ x, o = .dT [(kk, x)] ∧ Pv x H') := fun H1 e Q q p hp => by
  have x0 : Ex H1 (upd H1 p (.dT [])) := Ex.new hp
  refine hk _ (e.trans x0) _ fun y H2 e2 py => ?_
  refine hv H2 ((e.trans x0).trans e2) _ fun x H3 e3 px => ?_
  obtain ⟨b, rfl, hb⟩ := key y H2 py
  have hp3 : H3 p = some (.dT []) := e3 _ _ (e2 _ _ upd_same)
  have ex13 : Ex H1 (upd H3 p (.dT [(kk, x)])) := Ex.mut ((x0.trans e2).trans e3) hp
  exact ⟨b, kk, rfl, e3 _ _ hb, hp3, q p _ _ hp ex13 upd_same ⟨x, rfl, (hS x).up H3 p (.dT []) _ rfl rfl hp3 px⟩⟩
/-- C(..) -/
theorem make_P {C : Addr} {sp : Sp} {E : XK} {Pa : List V → Hp → Prop} {Po : Addr → Hp → Prop} (h : EvPA ta σ H Pa)
    (hs : ∀ vs H1 x dx, Ex H H1 → Pa vs H1 → H1 x = none → H1 dx = none → dx ≠ x → ∀ Q : VK, (∀ H2, Ex H1 H2 → Po x H2 → Q .non H2) → sp (.ref x :: vs) (upd (upd H1 dx (.own x)) x (.ins C dx [])) Q E) :
    EvP (tMake C sp [] E ta) σ H (fun v H2 => ∃ x, v = .ref x ∧ Po x H2) := fun H1 e Q q =>
  h H1 e _ fun vs H2 e2 p x dx hx hdx ne => by
    rw [List.append_nil]
    exact hs vs H2 x dx (e.trans e2) p hx hdx ne _ fun H3 e3 po => ⟨rfl, q _ H3 (e2.trans e3) ⟨x, rfl, po⟩⟩
theorem Pa.mono {P : V → Hp → Prop} {Pr : List V → Hp → Prop} (hP : ∀ v H H', Ex H H' → P v H → P v H') (hr : ∀ vs H H', Ex H H' → Pr vs H → Pr vs H') : ∀ (vs : List V) (H H' : Hp), Ex H H' → (∃ v r, vs = v :: r ∧ P v H ∧ Pr r H) → ∃ v r, vs = v :: r ∧ P v H' ∧ Pr r H' :=
  fun vs H H' e ⟨v, r, a, b, c⟩ => ⟨v, r, a, hP v H H' e b, hr r H H' e c⟩
end
/-- the program that is made to be overwritten -/
def t1 : Td := ⟨"a", 1, [], fun _ => none, fun _ _ => 0, fun _ _ _ => none, fun _ => none⟩
def sp_made (C : Addr) : Sp := spE (fun (x : Td × Addr × Addr × Addr × Addr) vs H => vs = [.str x.1.L, .int x.1.n, .ref x.2.1, .ref x.2.2.1, .ref x.2.2.2.1, .ref x.2.2.2.2] ∧ TdAt H x.1 x.2.1 x.2.2.1 x.2.2.2.1 x.2.2.2.2) (fun x v H => ∃ p, v = .ref p ∧ PgAt C H p x.1.pg)
def sp_copied (C : Addr) : Sp := spE (fun (x : Addr × Pg × Nat) vs H => vs = [.ref x.1] ∧ PgAt C H x.1 x.2.1 ∧ GoOk x.2.1 ∧ Small x.2.1 x.2.2 ∧ x.2.2 ≤ 1000 ∧ x.2.1.L.length ≤ 100000) (fun x v H => ∃ p, v = .ref p ∧ PgAt C H p x.2.1.td.pg)
/-- what isinstance asks of the class of programs -/
structure IsP (K : PySem.W.Frag) (C : Addr) : Prop where
  a : PySem.W.findIn K (.ref C) "__class__" = some (some (.builtin "object.__class__"))
  n : PySem.W.specialIn K (.builtin "object.__class__") "__get__" = some (some (.builtin "getset_descriptor.__get__"))
  t : PySem.W.takesIn K (.builtin "object.__class__") = some true
  m : PySem.W.mroIn K C (.type "object") = some true
theorem ev_isP {K : PySem.W.Frag} {C a dx : Addr} {fs : List (Str × V)} {σ : L2.St} {H : Hp} {ta : TE} (cl : Cls K C) (I : IsP K C) (ha : Ev ta σ H (.ref a)) (h : H a = some (.ins C dx fs)) : Ev (tCB (rIsi K) (tCons ta (tCons (tC (.ref C)) tNil))) σ H (.bl true) :=
  ev_isi ha (.own C) (fun H1 e1 => .base (.ins (e1 _ _ h) cl I.a I.n I.t I.m)) (by
    show (if (Value.ref C == Value.ref C) = true then some true else _) = some true
    rw [if_pos (by simp)])
def sp_check_program (C : Addr) : Sp := spE (fun (x : Addr) vs H => vs = [.ref x] ∧ ∃ dx fs, H x = some (.ins C dx fs)) (fun _ v _ => v = .non)
section
variable {P : Program} {w : World} {K : PySem.W.Frag} {mg : Str → Option Value} {base : Heap} {C : Addr} {f : Addr} {fd : FuncData}
abbrev psPut : List Str := ["self", "letters", "states", "registers", "firsts", "steps", "ends"]
theorem t1_ok {H : Hp} {ra fa sa ea b r : Addr} (h1 : H ra = some (.lst [])) (h2 : H fa = some (.dK [])) (h3 : H sa = some (.dT [([.inl 0, .inr "a"], .ref b)])) (h4 : H b = some (.tup [.int 0, .ref r])) (h5 : H r = some (.dK [])) (h6 : H ea = some (.dK [])) :
    TdAt H t1 ra fa sa ea ∧ PartsX H t1.L t1.n t1.regs ra fa sa ea := by
  have ha : ("a" : Str) = ⟨#[97]⟩ := by decide +kernel
  have cda : cds ("a" : Str) = [97] := by decide +kernel
  constructor
  · refine ⟨h1, List.nodup_nil, by decide, by decide +kernel, ⟨[], h2, fun n hn => by cases hn⟩, ⟨[([.inl 0, .inr "a"], .ref b)], h3, by show 1 ≤ 100000; decide, by simp, fun k v m => ?_, fun s c hs => ?_⟩, ⟨[], h6, by decide, by simp, fun k v m => (by cases m), fun s hs => by cases hs⟩⟩
    · have m := List.mem_singleton.mp m
      cases m
      refine ⟨0, 97, b, r, by rw [ha], ⟨by decide, by decide, by rw [show t1.L = ("a" : Str) from rfl, cda]; simp⟩, rfl, h4, ⟨[], .inl h5, fun n hn => by cases hn⟩⟩
    · obtain ⟨a1, a2, a3⟩ := hs
      have a2 : s < 1 := a2
      have a3 : c ∈ cds ("a" : Str) := a3
      rw [cda] at a3
      have e1 : s = 0 := by omega
      have e2 := List.mem_singleton.mp a3
      subst e1 e2
      rw [← ha]
      simp
  · refine ⟨⟨by decide +kernel, by decide +kernel⟩, by decide +kernel, by decide +kernel, by decide +kernel, by decide, by decide, h1, List.nodup_nil, by decide, fun x hx => (by cases hx), ⟨[], h2, by decide, fun k v m => by cases m⟩,
      ⟨[([.inl 0, .inr "a"], .ref b)], h3, by show 1 ≤ 1000; decide, by show ((1 : Nat) : Int) = 1 * (("a" : Str).length : Int); decide +kernel, fun k v m => ?_⟩, ⟨[], h6, by decide, fun k v m => by cases m⟩⟩
    have m := List.mem_singleton.mp m
    cases m
    refine ⟨⟨0, 97, by rw [ha], by decide, by decide, by show 97 ∈ cds ("a" : Str); rw [cda]; simp⟩, b, rfl, 0, r, h4, by decide, by decide, ⟨[], h5, by decide, fun k v m => by cases m⟩⟩
theorem ok_made (F : Fun K "made" "made" s_made f fd) (Z : Zs mg C) (G_Program__init : HasC P w K mg base "Program" C 8 psPut (sp_Program_init C)) {f_Program_put : Addr} {fd_Program_put : FuncData} (G_Program_put : HasM P w K mg base C "_put" 4 f_Program_put fd_Program_put psPut (sp_Program_put C)) :
    FnOk P w K mg base CX0 10 f fd ["letters", "states", "registers", "firsts", "steps", "ends"] (sp_made C) := by
  refine F.ok sc_made (fun vs H Q E h => ?_) (fun cdv A outer s H vs Q E hr h => ?_)
  · obtain ⟨i, ⟨rfl, _⟩, _⟩ := h
    rfl
  · obtain ⟨⟨t, ra, fa, sa, ea⟩, ⟨rfl, T⟩, k⟩ := h
    dsimp only at T
    have hu := hu_of hr
    have hu0 := Nat.lt_of_succ_lt hu
    refine ⟨_, (pss_cons (ps_set (i := 6) sc_made.nd rfl (Or.inl rfl) (pe_mk G_Program__init (hr.mono (by decide)) (pa_cons pe_str (pa_cons pe_int (pa_cons (pe_lst pa_nil) (pa_cons pe_dnewK (pa_cons (pe_disp1 hu (pe_tup (pa_cons pe_int (pa_cons pe_str pa_nil))) (pe_tup (pa_cons pe_int (pa_cons pe_dnewK pa_nil)))) (pa_cons pe_dnewK pa_nil)))))))) 
    (pss_cons (ps_expr (pe_meth (pv 6) G_Program_put.cl G_Program_put.me G_Program_put.ok (hr.mono (by decide)) G_Program_put.b .nil pass0 (pa_cons (pv 0) (pa_cons (pv 1) (pa_cons (pv 2) (pa_cons (pv 3) (pa_cons (pv 4) (pa_cons (pv 5) pa_nil)))))))) 
    (pss_one (ps_ret (pv 6))))), ?_⟩
    have toP : ∀ {te : TE} {σ : L2.St} {o : HO}, New te σ H (fun o' _ => o' = o) → EvP te σ H (fun v H2 => ∃ p, v = .ref p ∧ H2 p = some o) := fun {te σ o} h => h.evP.imp fun v H2 _ ⟨p, o', a, b, c⟩ => ⟨p, a, by rw [b, c]⟩
    have st : ∀ (o : HO) (v : V) (H H' : Hp), Ex H H' → (∃ p, v = .ref p ∧ H p = some o) → ∃ p, v = .ref p ∧ H' p = some o := fun o v H H' e ⟨p, a, b⟩ => ⟨p, a, e _ _ b⟩
    have stp : ∀ (z : V) (v : V) (H H' : Hp), Ex H H' → v = z → v = z := fun z v H H' _ h => h
    let Pv : V → Hp → Prop := fun x H2 => ∃ b r, x = .ref b ∧ H2 b = some (.tup [.int 0, .ref r]) ∧ H2 r = some (.dK [])
    have dsp : New (tDisp1 (tTup (tCons (tC (.int 0)) (tCons (tC (.str "a")) tNil))) (tTup (tCons (tC (.int 0)) (tCons tDNewK tNil)))) [some (.str t.L), some (.int t.n), some (.ref ra), some (.ref fa), some (.ref sa), some (.ref ea), none] H (fun o H' => ∃ x, o = .dT [([.inl 0, .inr "a"], x)] ∧ Pv x H') := by
      refine new_disp1 (Pk := fun v H2 => ∃ b, v = .ref b ∧ H2 b = some (.tup [.int 0, .str "a"])) (kk := [.inl 0, .inr "a"]) ?_ ?_ (fun v H1 ⟨b, e1, e2⟩ => ⟨b, e1, e2⟩) fun x => stab_ex fun b => stab_ex fun r => stab_and stab_pure (stab_and (stab_at rfl rfl) ?_)
      · exact (New.ofU (eu_tup (ea_cons ev_c (ea_cons ev_c ea_nil)) (by show 2 ≤ 100000; decide))).evP.imp fun v H2 _ ⟨p, o, a, b, c⟩ => ⟨p, a, by rw [b, c]⟩
      · refine (new_tup (pa1 (stp (.int 0)) (EvP.of ev_c) (pa1 (st (.dK [])) (toP ep_dnewK) pa0)) (fun vs H2 ⟨v, r, e1, _, v2, r2, e2, _, e3⟩ => by rw [e1, e2, e3]; show 2 ≤ 1000; decide) (Pa.mono (stp (.int 0)) (Pa.mono (st (.dK [])) fun _ _ _ _ h => h))).evP.imp fun v H2 _ ⟨p, o, a, b, vs, e0, v1, r1, e1, e2, v2, r2, e3, ⟨q, e4, e5⟩, e6⟩ => ⟨p, q, a, ?_, e5⟩
        rw [b, e0, e1, e2, e3, e4, e6]
      · exact ⟨fun _ _ e h => e _ _ h, fun H D o o' k _ hD h => by
          rw [upd_ne (show r ≠ D from fun z => by
            subst z
            rw [h] at hD
            cases hD
            cases k)]
          exact h⟩
    have mk := make_P (C := C) (sp := sp_Program_init C) (E := E0) (Po := fun x H2 => H x = none ∧ PgAt C H2 x t1.pg ∧ ∀ dx' fs', H2 x = some (.ins C dx' fs') → fs'.length ≤ 6) (σ := [some (.str t.L), some (.int t.n), some (.ref ra), some (.ref fa), some (.ref sa), some (.ref ea), none]) (H := H)
      (pa1 (stp (.str "a")) (EvP.of ev_c) (pa1 (stp (.int 1)) (EvP.of ev_c) (pa1 (st (.lst [])) (toP (New.ofL (el_lst ea_nil (Nat.zero_le _)))) (pa1 (st (.dK [])) (toP ep_dnewK)
        (pa1 (P := fun v H2 => ∃ p x, v = .ref p ∧ H2 p = some (.dT [([.inl 0, .inr "a"], x)]) ∧ Pv x H2) (fun v H H' e ⟨p, x, a, b, b2, r, c, d, f⟩ => ⟨p, x, a, e _ _ b, b2, r, c, e _ _ d, e _ _ f⟩) (dsp.evP.imp fun v H2 _ ⟨p, o, a, b, x, c, d⟩ => ⟨p, x, a, by rw [b, c], d⟩) (pa1 (st (.dK [])) (toP ep_dnewK) pa0))))))
      fun vs H1 x dx e ⟨_, _, r1, e1, _, _, r2, e2, _, _, r3, ⟨p1, e3, h1⟩, _, _, r4, ⟨p2, e4, h2⟩, _, _, r5, ⟨p3, y, e5, h3, b, r, e6, h4, h5⟩, _, _, r6, ⟨p4, e7, h6⟩, e8⟩ hx hdx ne Q q => by
        subst r1 e1 r2 e2 r3 e3 r4 e4 r5 e5 e6 r6 e7 e8
        obtain ⟨A1, A2⟩ := t1_ok h1 h2 h3 h4 h5 h6
        have xx : Ex H1 (upd (upd H1 dx (.own x)) x (.ins C dx [])) := fun a o h => by rw [upd_ne (ne_of_none h hx), upd_ne (ne_of_none h hdx)]; exact h
        exact ⟨t1, x, p1, p2, p3, p4, dx, H1, rfl, hx, xx, upd_same, A1, A2, fun H' e' A' z' => q H' e' ⟨fresh_back e hx, A', z'⟩⟩
    refine q_asgP mk fun v H1 e1 ⟨p, ev, hpn, hp, hz⟩ => ?_
    subst ev
    obtain ⟨dx, fs, ra', fa', sa', ea', hi, PF, PD⟩ := hp
    refine q_meth (ev_var rfl) hi (PF.o.no (by decide +kernel)) (ea_cons (ev_var rfl) (ea_cons (ev_var rfl) (ea_cons (ev_var rfl) (ea_cons (ev_var rfl) (ea_cons (ev_var rfl) (ea_cons (ev_var rfl) ea_nil)))))) fun H2 e2 => ?_
    have hl := hz dx fs hi
    refine ⟨t, p, ra, fa, sa, ea, dx, fs, H, rfl, hpn, e1.trans e2, e2 _ _ hi, by omega, PF.o, T, fun H' e' A' _ => ?_⟩
    exact s_ret (ev_var rfl) fun H3 e3 => k _ H3 (e'.trans e3) ⟨p, rfl, A'.ex e3⟩
theorem ok_copied (F : Fun K "copied" "copied" s_copied f fd) (PC : PgC K C) (G_made : Has P w K mg base "made" 10 ["letters", "states", "registers", "firsts", "steps", "ends"] (sp_made C)) : FnOk P w K mg base CX0 11 f fd ["program"] (sp_copied C) := by
  refine F.ok sc_copied (fun vs H Q E h => ?_) (fun cdv A outer s H vs Q E hr h => ?_)
  · obtain ⟨i, ⟨rfl, _⟩, _⟩ := h
    rfl
  · obtain ⟨⟨p, g, n⟩, ⟨rfl, hp, G, S, hn, hL⟩, k⟩ := h
    dsimp only at hp G S hn hL
    obtain ⟨dx, fs, ra, fa, sa, ea, hi, PF, PD⟩ := hp
    refine ⟨_, (pss_one (ps_ret (pe_use G_made (hr.mono (by decide)) (pa_cons (pe_fldK (K := K) (pv 0) rfl) (pa_cons (pe_fldK (K := K) (pv 0) rfl) (pa_cons (pe_fldK (K := K) (pv 0) rfl) (pa_cons (pe_fldK (K := K) (pv 0) rfl) (pa_cons (pe_fldK (K := K) (pv 0) rfl) (pa_cons (pe_fldK (K := K) (pv 0) rfl) pa_nil))))))))), ?_⟩
    refine s_retP (ep_use (ea_cons (ev_fld (K := K) (ev_var rfl) hi PC.cl PC.l PF.l) (ea_cons (ev_fld (K := K) (ev_var rfl) hi PC.cl PC.n PF.n) (ea_cons (ev_fld (K := K) (ev_var rfl) hi PC.cl PC.r PF.r) (ea_cons (ev_fld (K := K) (ev_var rfl) hi PC.cl PC.f PF.f) (ea_cons (ev_fld (K := K) (ev_var rfl) hi PC.cl PC.s PF.s) (ea_cons (ev_fld (K := K) (ev_var rfl) hi PC.cl PC.e PF.e) ea_nil))))))
      (spE_P (P := fun v H' => ∃ p, v = .ref p ∧ PgAt C H' p g.td.pg) (g.td, ra, fa, sa, ea) (fun _ e => ⟨rfl, (td_of G S hn hL PD).ex e⟩) fun v H' _ q => q)) fun v H1 e1 q => k v H1 e1 q
theorem ok_check_program (F : Fun K "check_program" "check_program" s_check_program f fd) (Z : Zs mg C) (PC : PgC K C) (IC : IsP K C) : FnOk P w K mg base CX0 1 f fd ["thing"] (sp_check_program C) := by
  refine F.ok sc_check_program (fun vs H Q E h => ?_) (fun cdv A outer s H vs Q E hr h => ?_)
  · obtain ⟨i, ⟨rfl, _⟩, _⟩ := h
    rfl
  · obtain ⟨p, ⟨rfl, dx, fs, hp⟩, k⟩ := h
    refine ⟨_, (pss_one (ps_if (pt_not (pt_val (pe_callB (cIsi (K := K)) (by rfl) Z.z_isinstance (by decide +kernel) (pa_cons (pv 0) (pa_cons (pe_glob rfl Z.k_Program (show RelV (.ref C) _ from rfl)) pa_nil))))) 
     (pss_one ps_never) pss_nil)), ?_⟩
    exact s_when (b := false) (et_not (a := true) (et_B (ev_isP PC.cl IC (ev_var rfl) hp))) (fun z => by cases z) fun _ H1 e1 => k _ H1 e1 rfl
end
end KX
end
section
set_option Elab.async false
set_option linter.all false
set_option maxRecDepth 100000
set_option maxHeartbeats 8000000
/-! Rn3: x != x of an instance that has no == of its own; len(x) of one; x.f(..) where f is an instance. -/
namespace NeS
open PySem PySem.Spec PyProof.Rows PySem.SeqAt
section
variable {M : Model} {prog : Program} {w : World} {A : Around} {E : Value → Shared → Prop} {s : Shared} {K : PySem.W.Frag} {x C : Addr} {ox : Obj} {od : Option Obj}
theorem eq_self {Q : Option Value → Shared → Prop} (X : K.In s.heap) (I : PySem.W.InstAt s.heap x ox C od) (hm : PySem.W.mroIn K C (.type "object") = some true) (hs : PySem.W.findIn K (.ref C) "__eq__" = some (some (.builtin "object.__eq__")))
    (h : Q (some (.bool true)) s) : wpAny (model prog w) A (callSpecialIfBound? (.ref x) "__eq__" [.ref x]) Q E s :=
  HN.ifBound_objEq X I hs (wpAny_call (codeAny_call_builtin F.cmp_object.eq.plain F.cmpEntry_eq (PySem.W.check_slot F.cmpKind_eq F.cmpSplit_eq (I.type.andThen (PySem.W.looks_mroIn X hm)) (F.cmpArgs_eq _ _) (objEq_entry_same h))))
theorem ne_entry {Q : Fin → Shared → Prop} (hu : A.units < cLine) (X : K.In s.heap) (I : PySem.W.InstAt s.heap x ox C od) (hm : PySem.W.mroIn K C (.type "object") = some true) (hs : PySem.W.findIn K (.ref C) "__eq__" = some (some (.builtin "object.__eq__")))
    (hq : Q (.done (.ret (.bool false))) s) : wpAny (model prog w) A (Builtin.«object.__ne__» ⟨[.ref x, .ref x], []⟩) Q E s := by
  unfold Builtin.«object.__ne__»
  repeat (first | with_reducible refine wpAny_cRoomFor hu ?_ | with_reducible refine eq_self X I hm hs ?_ | wp_step)
  exact hq
theorem ifBound_objNe {args : List Value} {Q : Option Value → Shared → Prop} (X : K.In s.heap) (I : PySem.W.InstAt s.heap x ox C od) (hs : PySem.W.findIn K (.ref C) "__ne__" = some (some (.builtin "object.__ne__")))
    (h : wpAny M A (call (.builtin "object.__ne__") (.ref x :: args)) (fun v => Q (some v)) E s) : wpAny M A (callSpecialIfBound? (.ref x) "__ne__" args) Q E s := by
  simp only [callSpecialIfBound?, bindSpecialIfBound?]
  refine wpAny_holding (wpAny_bind (wpAny_bind (wpAny_bind (I.type.here ((PySem.W.looks_findIn X hs).here ?_)))))
  refine wpAny_bind (wpAny_askSetting (wpAny_ite ?_))
  have go : wpAny M A (call (.builtin "object.__ne__") ([.ref x] ++ args) >>= fun v => pure (some v)) Q E s := wpAny_bind (wpAny_mono h (fun v s' z => wpAny_pure z) fun _ _ z => z)
  split
  · exact wpAny_bind (wpAny_of_eq (F.cmp_object.ne.bind _) (wpAny_pure (by exact go)))
  · exact wpAny_tryCatch (wpAny_bind (wpAny_of_eq (F.cmp_object.ne.bind _) (wpAny_pure (by exact go))))
theorem rc_ne_self {Q : Value → Shared → Prop} (hu : A.units + 1 < cLine) (X : K.In s.heap) (I : PySem.W.InstAt s.heap x ox C od) (hm : PySem.W.mroIn K C (.type "object") = some true) (he : PySem.W.findIn K (.ref C) "__eq__" = some (some (.builtin "object.__eq__")))
    (hn : PySem.W.findIn K (.ref C) "__ne__" = some (some (.builtin "object.__ne__"))) (h : Q (.bool false) s) : wpAny (model prog w) A (richCompare .NotEq (.ref x) (.ref x)) Q E s := by
  have one : wpAny (model prog w) A (tryCompare (.ref x) "__ne__" (.ref x)) (fun r s' => r = some (.bool false) ∧ s' = s) E s := by
    unfold tryCompare
    refine wpAny_bind (ifBound_objNe X I hn (wpAny_call (codeAny_call_builtin F.cmp_object.ne.plain F.cmpEntry_ne (PySem.W.check_slot F.cmpKind_ne F.cmpSplit_ne (I.type.andThen (PySem.W.looks_mroIn X hm)) (F.cmpArgs_ne _ _) (ne_entry (A := A.in1) hu X I hm he ?_)))))
    exact wpAny_pure ⟨rfl, rfl⟩
  simp only [richCompare, cmpInfo_NotEq, oneThing_ref]
  refine wpAny_holding (wpAny_bind (wpAny_cRoomFor (Nat.lt_of_succ_lt hu) ?_))
  refine wpAny_bind (I.type.here ?_)
  refine wpAny_bind (I.type.here ?_)
  split
  · rename_i q
    exact absurd q (by simp)
  · refine wpAny_bind (wpAny_pure ?_)
    simp only [Bool.false_eq_true, if_false, Bool.not_false, if_true]
    refine wpAny_bind (m := tryCompare (.ref x) _ (.ref x)) (wpAny_mono one (fun r s1 z => ?_) fun _ _ e => e)
    obtain ⟨z1, z2⟩ := z
    subst z1
    subst z2
    exact wpAny_pure h
end
end NeS
namespace KX
open PySem PySem.Spec PyProof.Rows L2 Evl
/-- what is asked of a class whose instances are compared by what they are -/
structure IdC (K : PySem.W.Frag) (C : Addr) : Prop where
  m : PySem.W.mroIn K C (.type "object") = some true
  e : PySem.W.findIn K (.ref C) "__eq__" = some (some (.builtin "object.__eq__"))
  n : PySem.W.findIn K (.ref C) "__ne__" = some (some (.builtin "object.__ne__"))
def rNeI (K : PySem.W.Frag) : R2 := fun x y H Q => ∃ a C dx fs, x = .ref a ∧ y = .ref a ∧ H a = some (.ins C dx fs) ∧ IdC K C ∧ Q (.bl false) H
theorem op_neI {X : Cx} {K : PySem.W.Frag} (hu : X.A.units + 1 < cLine) (hK : X.K = K := by rfl) : OpR X (compareOp .NotEq) (rNeI K) := by
  subst hK
  intro pins s σ H x y v u Q I rx ry h
  obtain ⟨a, C, dx, fs, rfl, rfl, ha, D, q⟩ := h
  cases rx
  cases ry
  obtain ⟨mA, O, _⟩ := ins_get I.hok ha
  obtain ⟨od, J, _⟩ := O.look
  exact NeS.rc_ne_self hu I.kIn J D.m D.e D.n ⟨.bl false, H, I, rfl, q⟩
theorem rv_neI {K : PySem.W.Frag} {H : Hp} {a C dx : Addr} {fs : List (Str × V)} (h : H a = some (.ins C dx fs)) (D : IdC K C) : RV (rNeI K) (.ref a) (.ref a) H (.bl false) := fun H1 e Q q => ⟨a, C, dx, fs, rfl, rfl, e _ _ h, D, q H1 (Ex.refl H1)⟩
end KX
namespace KX
open PySem PySem.Spec PyProof.Rows L2 Evl
section
variable {X : Cx} {k : Nat} {f C C2 : Addr} {fd : FuncData} {sp : Sp} {m : Str} {o e : Expr} {es : List Expr} {ta : TE} {t : TA} {apos pos : Pos}
/-- len(x), by __len__ -/
def rLenI (C : Addr) (sp : Sp) : List V → Hp → VK → Prop := fun xs H Q => ∃ a dx fs, xs = [.ref a] ∧ H a = some (.ins C dx fs) ∧ sp [.ref a] H (fun v H2 => ∃ n : Nat, v = .int (n : Int) ∧ n ≤ 1000000 ∧ Q (.int (n : Int)) H2) E0
theorem call_lenI (hs : PySem.W.findIn X.K (.ref C) "__len__" = some (some (.ref f))) (hf : PySem.W.isFn X.K (.ref f) = true) (F : FnOk X.prog X.w X.K X.mg X.base CX0 k f fd ["self"] sp) (b : Binds X.K fd ["self"] []) (hr : Room (k + 1) X.A) : CallR X (.builtin "len") (rLenI C sp) := by
  intro pins s σ H xs us Q I rv h
  obtain ⟨a, dx, fs, rfl, ha, hp⟩ := h
  cases rv with
  | @cons _ u _ ur r0 rr =>
  cases rr
  cases r0
  obtain ⟨mA, O, _⟩ := ins_get I.hok ha
  obtain ⟨od, J, _⟩ := O.look
  obtain ⟨m, fr⟩ := I.fr
  refine PySem.W.len_K fr I.ok.mod.kin J hs hf ?_
  have b' := b s [.ref a] I.kIn rfl
  refine wpAny_call (codeAny_mono (F.run X.A.in1 X.stack s H ⟨[.ref a], []⟩ [.ref a] [.ref a] _ E0 hr.in1 I.env0.in1 b' (.cons rfl .nil) hp) fun r s' hq => ?_)
  cases r with
  | error z => exact (show False from hq).elim
  | ok fl =>
    cases fl with
    | ret u =>
      obtain ⟨v, H2, I2, rv, n, rfl, hn, q⟩ := (I.after hq : EP X pins σ _ u s')
      obtain ⟨t, rfl⟩ := rv
      exact ⟨⟨by omega, by omega⟩, .int (n : Int), H2, I2.tok _, ⟨_, rfl⟩, q⟩
    | next => exact (show False from hq).elim
    | brk => exact (show False from hq).elim
    | cont => exact (show False from hq).elim
/-- o.m(e, ..), where o's field m is an instance of C2 that is called -/
def tCallF (C C2 : Addr) (m : Str) (sp : Sp) (ta : TE) (t : TA) : TE := fun σ H Q => ta σ H fun x H1 => ∃ a dx fs p, x = .ref a ∧ H1 a = some (.ins C dx fs) ∧ fs.lookup m = some (.ref p) ∧ t σ H1 fun vs H2 => (∃ dx2 fs2, H2 p = some (.ins C2 dx2 fs2)) ∧ sp (.ref p :: vs) H2 Q E0
theorem getfield_ok {pins : List (Addr × Obj)} {σ : L2.St} {H : Hp} {s : Shared} {a dx : Addr} {fs : List (Str × V)} {v : V} {A : Around} {E : Value → Shared → Prop} {pl : Sem Bool} {Q : Value × List Value → Shared → Prop} (I : Inv X pins σ H s) (e : H a = some (.ins C dx fs)) (c : Cls X.K C) (n : NoAttr X.K C m) (l : fs.lookup m = some v)
    (h : ∀ u s', Inv X pins σ H s' → RelV v u → Q (u, []) s') : wpAny (model X.prog X.w) A (getMethod (.ref a) m pl) Q E s := by
  obtain ⟨mA, O, _⟩ := ins_get I.hok e
  obtain ⟨od, J, _⟩ := O.look
  obtain ⟨g1, g2⟩ := PySem.W.plainGet_of (c.get m)
  unfold getMethod
  refine wpAny_bind (wpAny_bind (J.type.here ((PySem.W.looks_findIn I.kIn g1).here ?_)))
  show wpAny _ _ (if (Manifest.canonical "object.__getattribute__" != "object.__getattribute__") = true then _ else _) _ _ _
  rw [if_neg (by decide +kernel)]
  refine wpAny_bind (wpAny_bind (J.type.here ((PySem.W.looks_findIn I.kIn g2).here ?_)))
  simp only [Option.isSome_none, Bool.false_eq_true, if_false]
  refine wpAny_bind (wpAny_bind (J.type.here ((PySem.W.looks_findIn I.kIn n).here ?_)))
  exact wpAny_bind (getattr_ok I e c n l fun u s' I' r => wpAny_pure (h u s' I' r))
theorem pe_callF {g : Addr} {fdg : FuncData} {pl : Sem Bool} {p1 : Str} (he : PE X o ta) (c : Cls X.K C) (n : NoAttr X.K C m) (c2 : StX.CallO X.K C2 g) (F : FnOk X.prog X.w X.K X.mg X.base CX0 k g fdg ["self", p1] sp) (b : Binds X.K fdg ["self", p1] []) (hr : Room k X.A) (ha : PA X [e] t)
    (hst : starEach [e] X.env = (false, eval e X.env) :: starEach [] X.env := by rfl) (hpl : (backTo pos (starEach [] X.env)).any (·.1) = false := by rfl)
    (ht : eval (.Call (.Attribute o m apos) [e] [] pos) X.env = (do
      let ov ← eval o X.env
      standAt apos.atName
      let (f, first) ← holding [ov] (getMethod ov m pl)
      callWith pos f first (backTo pos (starEach [e] X.env)) (backToKw pos (keywordEach [] X.env))) := by rfl) :
    PE X (.Call (.Attribute o m apos) [e] [] pos) (tCallF C C2 m sp ta t) := by
  refine ⟨fun pins s σ H Q I h => ?_⟩
  refine PySem.W.methodCall_KW (pl := pl) (thn (he.run pins s σ H _ I h) fun u s1 ⟨x, H1, I1, rx, a, dx, fs, p, ex, ea, l, q⟩ => ?_) ht
  subst ex
  obtain rfl : u = Value.ref a := rx
  refine getfield_ok I1 ea c n l fun u2 s2 I2 r2 => ?_
  obtain rfl : u2 = Value.ref p := r2
  refine StX.callO_with (thn (ha.run pos pins s2 σ H1 _ I2 q) fun us s3 ⟨vs, H2, I3, r, ⟨dx2, fs2, hp⟩, q2⟩ => ?_) hst hpl
  obtain ⟨ox, od, J, hd⟩ := StX.insC_at I3 (.inr ⟨dx2, fs2, hp⟩)
  refine ⟨⟨C2, ox, od, J, hd⟩, ?_⟩
  have hlen : (Value.ref p :: us).length = 2 := by
    have := F.len _ _ _ _ q2
    rw [← (Vals.length (.cons (show RelV (.ref p) (.ref p) from rfl) r))]
    exact this
  have bnd := b s3 (.ref p :: us) I3.kIn (by rw [List.append_nil]; exact hlen)
  refine wpAny_call (PySem.W.kco_code I3.kIn J hd c2.at_ c2.fn c2.fi (codeAny_mono (F.run X.A X.stack s3 H2 ⟨.ref p :: us, []⟩ (.ref p :: us) (.ref p :: vs) _ E0 hr I3.env0 ?_ (.cons rfl r) q2) fun r s' hq => ?_))
  · rw [List.append_nil] at bnd
    exact bnd
  cases r with
  | error z => exact (show False from hq).elim
  | ok fl =>
    cases fl with
    | ret u => exact I3.after hq
    | next => exact (show False from hq).elim
    | brk => exact (show False from hq).elim
    | cont => exact (show False from hq).elim
end
end KX
end
section
set_option Elab.async false
set_option linter.all false
set_option maxRecDepth 100000
set_option maxHeartbeats 8000000
/-! Rn4: runs as they stand on the heap; made, asked. -/
namespace KX
open PySem PySem.Spec PyProof.Rows L2 Evl

/-- all but what stands at x stays -/
def ExB (x : Addr) (H H' : Hp) : Prop := ∀ a o, a ≠ x → H a = some o → H' a = some o
theorem ExB.refl (x : Addr) (H : Hp) : ExB x H H := fun _ _ _ h => h
theorem ExB.trans {x : Addr} {H H1 H2 : Hp} (a : ExB x H H1) (b : ExB x H1 H2) : ExB x H H2 := fun y o n h => b y o n (a y o n h)
theorem ExB.of {x : Addr} {H H' : Hp} (e : Ex H H') : ExB x H H' := fun a o _ h => e a o h
theorem ExB.upd {x : Addr} {H : Hp} {o : HO} : ExB x H (upd H x o) := fun a u n h => by rw [upd_ne n]; exact h
theorem ExB.ex {x : Addr} {H0 H H' : Hp} (e : Ex H0 H) (n : H0 x = none) (b : ExB x H H') : Ex H0 H' := fun a o h => b a o (ne_of_none h n) (e a o h)
theorem ExB.kp {x C dx : Addr} {fs : List (Str × V)} {H H' : Hp} (h : H x = some (.ins C dx fs)) (b : ExB x H H') : Kp H H' := fun a o k q => b a o (fun z => by
  subst z
  rw [h] at q
  cases q
  cases k) q
theorem PgD.kp {H H' : Hp} {g : Pg} {ra fa sa ea : Addr} (e : Kp H H') (h : PgD H g ra fa sa ea) : PgD H' g ra fa sa ea where
  rS := e _ _ rfl h.rS
  f := e _ _ rfl h.f
  s := h.s.imp fun kvs ⟨a, b, c, d, f⟩ => ⟨e _ _ rfl a, b, c, fun k v m => by
    obtain ⟨s, c, b, r, h1, h2, h3, h4, h5⟩ := d k v m
    exact ⟨s, c, b, r, h1, h2, h3, e _ _ rfl h4, h5.kp e⟩, f⟩
  e := h.e.imp fun kvs ⟨a, b, c, d, f⟩ => ⟨e _ _ rfl a, b, c, fun k v m => by
    obtain ⟨s, a, row, h1, h2, h3, h4⟩ := d k v m
    exact ⟨s, a, row, h1, h2, h3, h4.kp e⟩, f⟩
/-- the states on the way -/
def pth (g : Pg) (w : List Nat) : List Int := (List.range (w.length + 1)).map fun i => (runG g (w.take i)).1
def rnN : List Str := ["program", "state", "letters_read", "states_passed"]
structure RnF (fs : List (Str × V)) (p l : Addr) (t : Str) (q : Int) : Prop where
  z : fs.length ≤ 50
  p : fs.lookup ("program" : Str) = some (.ref p)
  s : fs.lookup ("state" : Str) = some (.int q)
  t : fs.lookup ("letters_read" : Str) = some (.str t)
  l : fs.lookup ("states_passed" : Str) = some (.ref l)
  o : OnlyF rnN fs
/-- a run at x, of a program that runs as g, that has read t -/
def RnAt (CR C : Addr) (H : Hp) (x : Addr) (g : Pg) (t : Str) : Prop := ∃ dx fs p l, H x = some (.ins CR dx fs) ∧ RnF fs p l t (runG g (cds t)).1 ∧ PgAt C H p g ∧ H l = some (.lst ((pth g (cds t)).map V.int))
theorem PgAt.exB {C CR x p dx : Addr} {H H' : Hp} {g : Pg} {fs : List (Str × V)} (h : H x = some (.ins CR dx fs)) (ho : OnlyF rnN fs) (b : ExB x H H') (P : PgAt C H p g) : PgAt C H' p g := by
  obtain ⟨dp, fp, ra, fa, sa, ea, h1, h2, h3⟩ := P
  refine ⟨dp, fp, ra, fa, sa, ea, b _ _ (fun z => ?_) h1, h2, h3.kp (ExB.kp h b)⟩
  subst z
  rw [h] at h1
  cases h1
  have := h2.l
  rw [ho.no (by decide +kernel)] at this
  cases this
theorem RnAt.ex {CR C x : Addr} {H H' : Hp} {g : Pg} {t : Str} (e : Ex H H') (h : RnAt CR C H x g t) : RnAt CR C H' x g t := by
  obtain ⟨dx, fs, p, l, h1, h2, h3, h4⟩ := h
  exact ⟨dx, fs, p, l, e _ _ h1, h2, h3.ex e, e _ _ h4⟩
theorem putF_has {f : Str} {v : V} : ∀ {fs : List (Str × V)}, fs.lookup f ≠ none → (putF f v fs).length = fs.length
  | [], h => absurd rfl h
  | (g, x) :: r, h => by
    show (if g = f then (g, v) :: r else (g, x) :: putF f v r).length = _
    by_cases e : g = f
    · rw [if_pos e]
      rfl
    · rw [if_neg e]
      have h2 : r.lookup f ≠ none := by
        have e2 : (f == g) = false := by simpa using fun z : f = g => e z.symm
        simpa [List.lookup, e2] using h
      show (putF f v r).length + 1 = r.length + 1
      rw [putF_has h2]
/-- what the class of runs is -/
structure RnC (K : PySem.W.Frag) (CR : Addr) : Prop where
  cl : Cls K CR
  p : NoAttr K CR "program"
  s : NoAttr K CR "state"
  t : NoAttr K CR "letters_read"
  l : NoAttr K CR "states_passed"
  id : IdC K CR
section
variable {K : PySem.W.Frag} {σ : L2.St} {H : Hp} {ta tb te tv to td tx : TE} {D : Ends} {tz : TS} {C p dx : Addr} {fs : List (Str × V)} {f : Str}
theorem q_fldP {Pv : V → Hp → Prop} (h : EvP tv σ H Pv) (hP : ∀ v H H', Ex H H' → Pv v H → Pv v H') (ho : Ev to σ H (.ref p)) (hp : H p = some (.ins C dx fs)) (cl : Cls K C) (na : NoAttr K C f) (few : fs.length ≤ 200)
    (k : ∀ v H1, Ex H H1 → Pv v H1 → tz D σ (upd H1 p (.ins C dx (putF f v fs)))) : tSeq (sFld K to tv f) tz D σ H :=
  h H (Ex.refl H) _ fun v H1 e1 pv => ho H1 e1 _ fun H2 e2 => ⟨p, C, dx, fs, rfl, (e1.trans e2) _ _ hp, cl, na, by omega, k v H2 (e1.trans e2) (hP v _ _ e2 pv)⟩
theorem s_fld {v : V} (h : Ev tv σ H v) (ho : Ev to σ H (.ref p)) (hp : H p = some (.ins C dx fs)) (cl : Cls K C) (na : NoAttr K C f) (few : fs.length ≤ 200) (k : ∀ H1, Ex H H1 → D.nx σ (upd H1 p (.ins C dx (putF f v fs)))) : sFld K to tv f D σ H :=
  h H (Ex.refl H) _ fun H1 e1 => ho H1 e1 _ fun H2 e2 => ⟨p, C, dx, fs, rfl, (e1.trans e2) _ _ hp, cl, na, by omega, k H2 (e1.trans e2)⟩
end
/-- a program that may be copied -/
structure CpOk (g : Pg) : Prop where
  go : GoOk g
  sm : ∃ k, k ≤ 400 ∧ Small g k
  L : g.L.length ≤ 100000
def sp_Run_init (CR C : Addr) : Sp := fun vs H Q _ => ∃ (x p0 dx : Addr) (g : Pg) (H0 : Hp), vs = [.ref x, .ref p0] ∧ H x = some (.ins CR dx []) ∧ H0 x = none ∧ Ex H0 H ∧ PgAt C H0 p0 g ∧ CpOk g ∧ ∀ H', Ex H0 H' → RnAt CR C H' x g.td.pg "" → Q .non H'
def sp_Run_text (CR C : Addr) : Sp := spE (fun (x : Addr × Pg × Str) vs H => vs = [.ref x.1] ∧ RnAt CR C H x.1 x.2.1 x.2.2) (fun x v _ => v = .str x.2.2)
/-- what may be read -/
structure RdOk (g : Pg) (t : Str) : Prop where
  go : GoOk g
  c : ∀ c ∈ cds t, c ∈ cds g.L
  f : Fit g (cds t)
  z : t.length ≤ 1000
def sp_Run_len (CR C : Addr) : Sp := spE (fun (x : Addr × Pg × Str) vs H => vs = [.ref x.1] ∧ RnAt CR C H x.1 x.2.1 x.2.2 ∧ x.2.2.length ≤ 100000) (fun x v _ => v = .int (x.2.2.length : Int))
def sp_Run_contents (CR C : Addr) : Sp := spE (fun (x : Addr × Pg × Str × Hp) vs H => vs = [.ref x.1] ∧ RnAt CR C H x.1 x.2.1 x.2.2.1 ∧ RdOk x.2.1 x.2.2.1 ∧ Ex x.2.2.2 H) (fun x v H => ∃ d, v = .ref d ∧ H d = some (.dK (hk x.2.1.regs (runG x.2.1 (cds x.2.2.1)).2)) ∧ x.2.2.2 d = none)
def sp_Run_written (CR C : Addr) : Sp := spE (fun (x : Addr × Pg × Str) vs H => vs = [.ref x.1] ∧ RnAt CR C H x.1 x.2.1 x.2.2 ∧ RdOk x.2.1 x.2.2 ∧ ∀ s, wrG x.2.1 (cds x.2.2) = some s → s.length ≤ big) (fun x v _ => v = vO (wrG x.2.1 (cds x.2.2)))
section
variable {P : Program} {w : World} {K : PySem.W.Frag} {mg : Str → Option Value} {base : Heap} {C CR : Addr} {f : Addr} {fd : FuncData}
theorem ok_Run_init (F : Fun K "__init__" "Run.__init__" s_Run__init f fd) (Z : Zs mg C) (RC : RnC K CR) (G_check_program : Has P w K mg base "check_program" 1 ["thing"] (sp_check_program C)) (G_copied : Has P w K mg base "copied" 11 ["program"] (sp_copied C)) :
    FnOk P w K mg base CX0 12 f fd ["self", "program"] (sp_Run_init CR C) := by
  refine F.ok sc_Run__init (fun vs H Q E h => ?_) (fun cdv A outer s H vs Q E hr h => ?_)
  · obtain ⟨x, p0, dx, g, H0, rfl, _⟩ := h
    rfl
  · obtain ⟨x, p0, dx, g, H0, rfl, hx, hn, e0, hP, G, k⟩ := h
    obtain ⟨dp, fp, ra, fa, sa, ea, hi, PF, PD⟩ := id hP
    obtain ⟨G1, ⟨ks, hks, S⟩, hL⟩ := G
    refine ⟨_, (pss_cons (ps_expr (pe_use G_check_program (hr.mono (by decide)) (pa_cons (pv 1) pa_nil))) 
    (pss_cons (ps_fld (pv 0) (pe_use G_copied (hr.mono (by decide)) (pa_cons (pv 1) pa_nil)) rfl) 
    (pss_cons (ps_fld (pv 0) pe_int rfl) 
    (pss_cons (ps_fld (pv 0) pe_str rfl) 
    (pss_one (ps_fld (pv 0) (pe_lst (pa_cons pe_int pa_nil)) rfl)))))), ?_⟩
    refine q_drop (v := .non) (ev_use (ea_cons (ev_var rfl) ea_nil) (spE_V p0 (fun _ e => ⟨rfl, dp, fp, e _ _ (e0 _ _ hi)⟩) fun v _ p => p)) fun H1 e1 => ?_
    refine q_fldP (K := K) (Pv := fun v H' => ∃ p, v = .ref p ∧ PgAt C H' p g.td.pg) (ep_use (ea_cons (ev_var rfl) ea_nil) (spE_P (p0, g, ks) (fun _ e => ⟨rfl, hP.ex (e0.trans (e1.trans e)), G1, S, Nat.le_trans hks (by decide), hL⟩) fun v H' _ q => q)) (fun v H H' e ⟨p, a, b⟩ => ⟨p, a, b.ex e⟩) (ev_var rfl) (e1 _ _ hx) RC.cl RC.p (by decide) fun v H2 e2 ⟨p, ev, hp⟩ => ?_
    subst ev
    have hx2 : H2 x = some (.ins CR dx []) := e2 _ _ (e1 _ _ hx)
    have hp2 : PgAt C (upd H2 x (.ins CR dx (putF "program" (.ref p) []))) p g.td.pg := hp.exB hx2 (fun m hm => absurd rfl hm) ExB.upd
    have E2 := Ex.mut (o := .ins CR dx (putF "program" (.ref p) [])) ((e0.trans e1).trans e2) hn
    have l2 : (putF "program" (.ref p) []).length ≤ 1 := putF_len _ _ _
    have l3 := putF_len "state" (.int 0) (putF "program" (.ref p) [])
    have l4 := putF_len "letters_read" (.str "") (putF "state" (.int 0) (putF "program" (.ref p) []))
    refine q_fld (K := K) (v := .int 0) ev_c (ev_var rfl) upd_same RC.cl RC.s (by have := putF_len "program" (.ref p) []; exact Nat.le_trans this (by decide)) fun H3 e3 => ?_
    have E3 := Ex.mut (o := .ins CR dx (putF "state" (.int 0) (putF "program" (.ref p) []))) (E2.trans e3) hn
    have hx3 : H3 x = some (.ins CR dx (putF "program" (.ref p) [])) := e3 _ _ upd_same
    have o3 : OnlyF rnN (putF "program" (.ref p) []) := OnlyF.put (fun m hm => absurd rfl hm) (by decide +kernel)
    have hp3 : PgAt C (upd H3 x (.ins CR dx (putF "state" (.int 0) (putF "program" (.ref p) [])))) p g.td.pg := (hp2.ex e3).exB hx3 o3 ExB.upd
    refine q_fld (K := K) (v := .str "") ev_c (ev_var rfl) upd_same RC.cl RC.t (by omega) fun H4 e4 => ?_
    have E4 := Ex.mut (o := .ins CR dx (putF "letters_read" (.str "") (putF "state" (.int 0) (putF "program" (.ref p) [])))) (E3.trans e4) hn
    have hx4 : H4 x = some (.ins CR dx (putF "state" (.int 0) (putF "program" (.ref p) []))) := e4 _ _ upd_same
    have o4 := OnlyF.put (f := "state") (v := .int 0) o3 (by decide +kernel)
    have hp4 : PgAt C (upd H4 x (.ins CR dx (putF "letters_read" (.str "") (putF "state" (.int 0) (putF "program" (.ref p) []))))) p g.td.pg := (hp3.ex e4).exB hx4 o4 ExB.upd
    refine s_fldN (K := K) (New.ofL (el_lst (vs := [.int 0]) (ea_cons ev_c ea_nil) (by show 1 ≤ 100000; decide))) (ev_var rfl) upd_same RC.cl RC.l (by omega) (fun _ _ _ _ h => h) fun l o H5 hl e5 h5 n5 => ?_
    subst n5
    have hx5 : H5 x = some (.ins CR dx (putF "letters_read" (.str "") (putF "state" (.int 0) (putF "program" (.ref p) [])))) := e5 _ _ upd_same
    have o5 := OnlyF.put (f := "letters_read") (v := .str "") o4 (by decide +kernel)
    have hp5 := (hp4.ex e5).exB hx5 o5 (ExB.upd (o := .ins CR dx (putF "states_passed" (.ref l) (putF "letters_read" (.str "") (putF "state" (.int 0) (putF "program" (.ref p) []))))))
    refine k _ (Ex.mut (E4.trans e5) hn) ⟨dx, _, p, l, upd_same, ⟨by have := putF_len "states_passed" (.ref l) (putF "letters_read" (.str "") (putF "state" (.int 0) (putF "program" (.ref p) []))); omega, ?_, ?_, ?_, ?_, OnlyF.put o5 (by decide +kernel)⟩, hp5, ?_⟩
    · repeat (first | rw [lookup_putF, if_pos rfl] | rw [lookup_putF, if_neg (by decide +kernel)])
    · repeat (first | rw [lookup_putF, if_pos rfl] | rw [lookup_putF, if_neg (by decide +kernel)])
      rfl
    · repeat (first | rw [lookup_putF, if_pos rfl] | rw [lookup_putF, if_neg (by decide +kernel)])
    · repeat (first | rw [lookup_putF, if_pos rfl] | rw [lookup_putF, if_neg (by decide +kernel)])
    · rw [upd_ne (fun z => by
        subst z
        rw [h5] at hx5
        cases hx5)]
      exact h5
theorem ok_Run_text (F : Fun K "text" "Run.text" s_Run_text f fd) (RC : RnC K CR) : FnOk P w K mg base CX0 1 f fd ["self"] (sp_Run_text CR C) := by
  refine F.ok sc_Run_text (fun vs H Q E h => ?_) (fun cdv A outer s H vs Q E hr h => ?_)
  · obtain ⟨i, ⟨rfl, _⟩, _⟩ := h
    rfl
  · obtain ⟨⟨x, g, t⟩, ⟨rfl, dx, fs, p, l, hx, RF, hP, hl⟩, k⟩ := h
    refine ⟨_, (pss_one (ps_ret (pe_fldK (K := K) (pv 0) rfl))), ?_⟩
    exact s_ret (ev_fld (K := K) (ev_var rfl) hx RC.cl RC.t RF.t) fun H1 e => k _ H1 e rfl
theorem ok_Run_len (F : Fun K "__len__" "Run.__len__" s_Run__len f fd) (Z : Zs mg C) (RC : RnC K CR) : FnOk P w K mg base CX0 1 f fd ["self"] (sp_Run_len CR C) := by
  refine F.ok sc_Run__len (fun vs H Q E h => ?_) (fun cdv A outer s H vs Q E hr h => ?_)
  · obtain ⟨i, ⟨rfl, _⟩, _⟩ := h
    rfl
  · obtain ⟨⟨x, g, t⟩, ⟨rfl, ⟨dx, fs, p, l, hx, RF, hP, hl⟩, hz⟩, k⟩ := h
    refine ⟨_, (pss_one (ps_ret (pe_callB call_len_str (by rfl) Z.z_len PySem.boot_len (pa_cons (pe_fldK (K := K) (pv 0) rfl) pa_nil)))), ?_⟩
    exact s_ret (ev_lenS (ev_fld (K := K) (ev_var rfl) hx RC.cl RC.t RF.t) hz) fun H1 e => k _ H1 e rfl
theorem ok_Run_contents (F : Fun K "contents" "Run.contents" s_Run_contents f fd) (Z : Zs mg C) (RC : RnC K CR) {fa : Addr} {fda : FuncData} (G : HasM P w K mg base C "after" 2 fa fda ["self", "text"] (sp_Program_after C)) : FnOk P w K mg base CX0 3 f fd ["self"] (sp_Run_contents CR C) := by
  refine F.ok sc_Run_contents (fun vs H Q E h => ?_) (fun cdv A outer s H vs Q E hr h => ?_)
  · obtain ⟨i, ⟨rfl, _⟩, _⟩ := h
    rfl
  · obtain ⟨⟨x, g, t, H0⟩, ⟨rfl, ⟨dx, fs, p, l, hx, RF, hP, hl⟩, R, hE⟩, k⟩ := h
    dsimp only at R hE
    obtain ⟨dp, fp, ra, fb, sa, ea, hi, PF, PD⟩ := id hP
    refine ⟨_, (pss_one (ps_ret (pe_ix (ixT (K := K)) (pe_meth (pe_fldK (K := K) (pv 0) rfl) G.cl G.me G.ok (hr.mono (by decide)) G.b .nil pass0 (pa_cons (pe_fldK (K := K) (pv 0) rfl) pa_nil)) pe_int (fun _ _ => rfl)))), ?_⟩
    have m := ep_meth (C := C) (m := "after") (sp := sp_Program_after C) (E := E0) (Pv := fun v H' => ∃ b y z, v = .ref b ∧ H' b = some (.tup [y, z]) ∧ y = .int (runG g (cds t)).1 ∧ ∃ d, z = .ref d ∧ H' d = some (.dK (hk g.regs (runG g (cds t)).2)) ∧ H0 d = none)
      (ev_fld (K := K) (ta := tVar 0) (σ := [some (.ref x)]) (ev_var rfl) hx RC.cl RC.p RF.p) hi (PF.o.no (by decide +kernel)) (ea_cons (ev_fld (K := K) (ta := tVar 0) (ev_var rfl) hx RC.cl RC.t RF.t) ea_nil) (spE_P (p, t, g, H0) (fun _ e => ⟨rfl, hP.ex e, R.go, R.c, R.f, hE.trans e⟩) fun v H' _ q => q)
    refine s_retP (Pv := fun v H' => ∃ d, v = .ref d ∧ H' d = some (.dK (hk g.regs (runG g (cds t)).2)) ∧ H0 d = none) (fun H1 e1 Q q => m H1 e1 _ fun v H2 e2 ⟨b, y, z, ev, hb, hy, d, hz, hd, hn0⟩ => ?_) fun v H1 e q => k v H1 e q
    subst ev hz
    exact (ev_c (v := .int ((1 : Nat) : Int))) H2 (Ex.refl H2) _ fun H3 e3 => rv_ixT (st_of (e3 _ _ hb)) (atI_nat (j := 1) rfl) H3 (Ex.refl H3) _ fun H4 e4 => q _ H4 ((e2.trans e3).trans e4) ⟨d, rfl, e4 _ _ (e3 _ _ hd), hn0⟩
theorem ok_Run_written (F : Fun K "written" "Run.written" s_Run_written f fd) (Z : Zs mg C) (RC : RnC K CR) {fc : Addr} {fdc : FuncData} (CO : StX.CallO K C fc) (G : FnOk P w K mg base CX0 3 fc fdc ["self", "text"] (sp_Program_call C)) (b : Binds K fdc ["self", "text"] []) : FnOk P w K mg base CX0 4 f fd ["self"] (sp_Run_written CR C) := by
  refine F.ok sc_Run_written (fun vs H Q E h => ?_) (fun cdv A outer s H vs Q E hr h => ?_)
  · obtain ⟨i, ⟨rfl, _⟩, _⟩ := h
    rfl
  · obtain ⟨⟨x, g, t⟩, ⟨rfl, ⟨dx, fs, p, l, hx, RF, hP, hl⟩, R, hz⟩, k⟩ := h
    obtain ⟨dp, fp, ra, fb, sa, ea, hi, PF, PD⟩ := id hP
    refine ⟨_, (pss_one (ps_ret (pe_callF (C := CR) (C2 := C) (pv 0) RC.cl RC.p CO G b (hr.mono (by decide)) (pa_cons (pe_fldK (K := K) (pv 0) rfl) pa_nil)))), ?_⟩
    refine s_ret (v := vO (wrG g (cds t))) (fun H1 e1 Q q => (ev_var (i := 0) rfl) H1 e1 _ fun H2 e2 => ⟨x, dx, fs, p, rfl, (e1.trans e2) _ _ hx, RF.p, ?_⟩) fun H1 e => k _ H1 e rfl
    exact (ea_cons (ev_fld (K := K) (ta := tVar 0) (ev_var rfl) hx RC.cl RC.t RF.t) ea_nil) H2 (e1.trans e2) _ fun H3 e3 => ⟨⟨dp, fp, ((e1.trans e2).trans e3) _ _ hi⟩, (p, t, g), ⟨rfl, hP.ex ((e1.trans e2).trans e3), R.go, R.c, R.f, hz⟩, fun v H4 e4 hv => by
      rw [hv]
      exact q H4 ((e2.trans e3).trans e4)⟩
end
end KX
end
section
set_option Elab.async false
set_option linter.all false
set_option maxRecDepth 100000
set_option maxHeartbeats 8000000
/-! Rn5: what is refused is told by an error: check_word, read. -/
namespace KX
open PySem PySem.Spec PyProof.Rows L2 Evl

/-- an error of the class at CB leaves, its field holds v -/
def Rz (CB : Addr) (fld : Str) (H : Hp) (E : XK) (v : V) : Prop := ∀ d H', Ex H H' → H d = none → H' d = some (.xd [(fld, v)]) → E (.ref CB) (some d) H'
theorem Rz.ex {CB : Addr} {fld : Str} {H H1 : Hp} {E : XK} {v : V} (e : Ex H H1) (r : Rz CB fld H E v) : Rz CB fld H1 E v := fun d H' e' n h => r d H' (e.trans e') (by
  cases q : H d with
  | none => rfl
  | some o =>
    rw [e _ _ q] at n
    cases n) h
/-- the def x, that may raise -/
def HasX (P : Program) (w : World) (K : PySem.W.Frag) (mg : Str → Option Value) (base : Heap) (x : Str) (k : Nat) (ps : List Str) (sp : Sp) : Prop :=
  ∃ (f : Addr) (fd : FuncData), FnOk P w K mg base (L2.CX P w) k f fd ps sp ∧ mg x = some (.ref f) ∧ PySem.W.keepIn K (.ref f) = true ∧ Binds K fd ps []
structure HasMX (P : Program) (w : World) (K : PySem.W.Frag) (mg : Str → Option Value) (base : Heap) (C : Addr) (m : Str) (k : Nat) (f : Addr) (fd : FuncData) (ps : List Str) (sp : Sp) : Prop where
  cl : Cls K C
  me : Meth K C m f
  ok : FnOk P w K mg base (L2.CX P w) k f fd ps sp
  b : Binds K fd ps []
/-- the error's class, made of one thing -/
structure ErC (P : Program) (w : World) (K : PySem.W.Frag) (mg : Str → Option Value) (base : Heap) (x : Str) (CB : Addr) (fld : Str) : Prop where
  T : OexC K CB
  gm : mg x = some (.ref CB)
  init : ∃ (f : Addr) (fd : FuncData) (ps : List Str), PySem.W.findIn K (.ref CB) "__init__" = some (some (.ref f)) ∧ PySem.W.typeIn K (.ref f) = some (.type "function") ∧ FnOk P w K mg base CX0 1 f fd ps (LmK.sp_exc1 CB fld) ∧ Binds K fd ps []
section
variable {X : Cx} {x m : Str} {k : Nat} {ps : List Str} {sp : Sp} {p pos apos : Pos} {e o : Expr} {es : List Expr} {t : TA} {ta : TE} {C : Addr} {E : XK} {W : WX}
theorem pe_useX (h : HasX X.prog X.w X.K X.mg X.base x k ps sp) (hr : Room k X.A) (tk : L2.Takes X W) (hW : ∀ cls d σ H, E cls d H → W cls d σ H) (ha : PA X (e :: es) t) (hg : Gl X x := by rfl) (hdb : (x == ("__debug__" : Str)) = false := by decide)
    (he : starEach (e :: es) X.env = (false, eval e X.env) :: starEach es X.env := by rfl) (hpl : (backTo pos (starEach es X.env)).any (·.1) = false := by rfl) : PE X (.Call (.Name x p) (e :: es) [] pos) (tCall sp [] E t) := by
  obtain ⟨f, fd, F, hm, hk, hb⟩ := h
  exact pe_call F hr hg hm hk hb .nil (passes_call tk hW) ha hdb he hpl
/-- raise X(e) -/
def tRz (CB : Addr) (fld : Str) (te : TE) (W : WX) : TS := fun _ σ H => tMkO CB (LmK.sp_exc1 CB fld) [] (tCons te tNil) σ H (fun cls d H' => W cls d σ H')
theorem ps_rz {CB : Addr} {fld : Str} (h : ErC X.prog X.w X.K X.mg X.base x CB fld) (hc : X.calm = true) (tk : L2.Takes X W) (hr : Room 2 X.A) (he : PE X e ta) (hg : Gl X x := by rfl) (hdb : (x == ("__debug__" : Str)) = false := by decide)
    (hst : starEach [e] X.env = (false, eval e X.env) :: starEach [] X.env := by rfl) (hpl : (backTo pos (starEach [] X.env)).any (·.1) = false := by rfl) : PS X (.Raise (some (.Call (.Name x p) [e] [] pos)) none apos) (tRz CB fld ta W) := by
  obtain ⟨f, fd, ps, iC, tI, F, hb⟩ := h.init
  exact L2.ps_raise (pos := apos) hc tk (pmk_oex (p := p) (pos := pos) h.T iC tI F hr hb .nil pass0 hg h.gm (pa_cons he pa_nil hst) hdb hst hpl)
theorem s_rz {σ : L2.St} {H : Hp} {D : Ends} {te : TE} {v : V} {CB : Addr} {fld : Str} (h : Ev te σ H v) (hv : v = .non ∨ ∃ i : Int, v = .int i ∧ i.natAbs.log2 < 1920) (r : Rz CB fld H E v) : tRz CB fld te (fun cls d _ H' => E cls d H') D σ H :=
  h H (Ex.refl H) _ fun H1 e1 => ⟨by show 1 ≤ 1000; decide, fun a ha => ⟨a, v, rfl, hv, upd_same, fun dx hdx ne => by
    have hdx' : H1 dx = none := by
      rw [upd_ne ne] at hdx
      exact hdx
    refine ⟨rfl, dx, [(fld, v)], upd_same, by rw [upd_ne ne, upd_same], hdx', (r.ex e1) dx _ (fun b o hb => ?_) hdx' upd_same⟩
    rw [upd_ne (ne_of_none hb hdx'), del_ne (ne_of_none hb ha), upd_ne (ne_of_none hb ha), upd_ne (ne_of_none hb hdx'), upd_ne (ne_of_none hb ha)]
    exact hb⟩⟩
end
def BadAt (L : Str) (w : List Nat) (i : Nat) : Prop := (∃ c, w[i]? = some c ∧ c ∉ cds L) ∧ ∀ (j : Nat) c, j < i → w[j]? = some c → c ∈ cds L
def sp_check_wordX (CB : Addr) : Sp := fun vs H Q E => ∃ L v, vs = [.str L, v] ∧ ((v = .non ∧ Rz CB "place" H E .non) ∨ (∃ t : Str, v = .str t ∧ (∀ c ∈ cds t, c ∈ cds L) ∧ ∀ H', Ex H H' → Q .non H') ∨
  (∃ (t : Str) (i : Nat), v = .str t ∧ t.length ≤ 100000 ∧ BadAt L (cds t) i ∧ Rz CB "place" H E (.int (i : Int))))
section
variable {P : Program} {w : World} {K : PySem.W.Frag} {mg : Str → Option Value} {base : Heap} {C CR CB : Addr} {f : Addr} {fd : FuncData}
theorem log_ok {i : Nat} (h : i ≤ 100000) : ((i : Int)).natAbs.log2 < 1920 := by
  have h1 : ((i : Int)).natAbs = i := rfl
  rw [h1]
  by_cases z : i = 0
  · subst z
    decide
  · have := Nat.log2_lt z (k := 1920)
    rw [this]
    exact Nat.lt_of_le_of_lt h (Nat.lt_of_lt_of_le (by decide : 100000 < 2 ^ 17) (Nat.pow_le_pow_right (n := 2) (i := 17) (j := 1920) (by decide) (by decide)))
theorem ok_check_wordX (F : Fun K "check_word" "check_word" s_check_word f fd) (Z : Zs mg C) (EB : ErC P w K mg base "BadWord" CB "place") : FnOk P w K mg base (L2.CX P w) 3 f fd ["letters", "text"] (sp_check_wordX CB) := by
  refine F.okX sc_check_word (fun vs H Q E h => ?_) (fun cdv A outer s H vs Q E hr h => ?_)
  · obtain ⟨L, v, rfl, _⟩ := h
    rfl
  · obtain ⟨L, v, rfl, h⟩ := h
    refine ⟨_, (pss_cons (ps_if (pt_not (pt_val (pe_callB (cIsi (K := K)) (by rfl) Z.z_isinstance (by decide +kernel) (pa_cons (pv 1) (pa_cons (pe_bltn (by rfl) Z.z_str (by decide +kernel) (show RelV (.ty "str") _ from rfl)) pa_nil))))) 
     (pss_one (ps_rz EB rfl (takes_of rfl rfl rfl rfl) hr pe_non)) pss_nil) 
    (pss_one (ps_for (passes_of rfl) rfl (pi_enumS (by rfl) Z.z_enumerate (pa_cons (pv 1) pa_nil)) (pg_tup rfl (pgs_cons (pg_name (i := 2) sc_check_word.nd rfl (Or.inl rfl)) (pgs_cons (pg_name (i := 3) sc_check_word.nd rfl (Or.inl rfl)) pgs_nil))) 
     (pss_one (ps_if (pt_cmpR op_notIn_sign (pv 3) (pv 0) (by rfl)) 
      (pss_one (ps_rz EB rfl (takes_of rfl rfl rfl rfl) hr (pv 2))) pss_nil))))), ?_⟩
    rcases h with ⟨rfl, rz⟩ | h
    · refine q_if (b := true) (et_not (a := false) (et_B (ev_isi (ev_var rfl) (.ty "str") (fun _ _ => .base .non) (kit_ty (by rfl))))) (fun _ H1 e1 => ?_) (fun z => by cases z)
      exact s_rz ev_c (.inl rfl) (rz.ex e1)
    -- a text
    obtain ⟨t, ev, hh⟩ : ∃ t : Str, v = .str t ∧ (((∀ c ∈ cds t, c ∈ cds L) ∧ ∀ H', Ex H H' → Q .non H') ∨ (∃ i : Nat, t.length ≤ 100000 ∧ BadAt L (cds t) i ∧ Rz CB "place" H E (.int (i : Int)))) := by
      rcases h with ⟨t, rfl, h1, h2⟩ | ⟨t, i, rfl, h1, h2, h3⟩
      · exact ⟨t, rfl, .inl ⟨h1, h2⟩⟩
      · exact ⟨t, rfl, .inr ⟨i, h1, h2, h3⟩⟩
    clear h
    subst ev
    refine q_when (b := false) (et_not (a := true) (et_B (ev_isS (ev_var rfl) rfl))) (fun z => by cases z) fun _ H1 e1 => ?_
    refine s_forE (ea_cons (ev_var rfl) ea_nil) (fun i σ' H' => Ex H H' ∧ (∃ v2 v3, σ' = [some (.str L), some (.str t), v2, v3]) ∧ ∀ (j : Nat) c, j < i → (cds t)[j]? = some c → c ∈ cds L) (fun H2 e2 => ⟨e1.trans e2, ⟨_, _, rfl⟩, fun j c hj => absurd hj (Nat.not_lt_zero _)⟩) ?_ fun σ' H' h' => ?_
    · rintro i c T σ' H' hi ⟨ex, ⟨v2, v3, rfl⟩, good⟩ hT
      have hi' : (cds t)[i]? = some c := by rw [Array.getElem?_toList]; exact hi
      refine ⟨T, _, rfl, st_of upd_same, rfl, ⟨_, _, rfl, ⟨_, _, rfl, rfl, ?_⟩⟩⟩
      have ex2 := ex.trans (Ex.new (o := .tup [.int (i : Int), .str ⟨#[c]⟩]) hT)
      by_cases hc : c ∈ cds L
      · refine s_when (b := false) (et_test (ev_is (ev_op (ev_var rfl) (ev_var rfl) (z := .bl (!decide (c ∈ cds L))) fun H3 _ Q q => ⟨c, L, rfl, rfl, q H3 (Ex.refl H3)⟩) (by simp [hc]))) (fun z => by cases z) fun _ H3 e3 => ⟨ex2.trans e3, ⟨_, _, rfl⟩, fun j d hj hd => ?_⟩
        by_cases hji : j < i
        · exact good j d hji hd
        · obtain rfl : j = i := by omega
          rw [hi'] at hd
          cases hd
          exact hc
      · refine s_if (b := true) (et_test (ev_is (ev_op (ev_var rfl) (ev_var rfl) (z := .bl (!decide (c ∈ cds L))) fun H3 _ Q q => ⟨c, L, rfl, rfl, q H3 (Ex.refl H3)⟩) (by simp [hc]))) (fun _ H3 e3 => ?_) (fun z => by cases z)
        rcases hh with ⟨h1, _⟩ | ⟨i2, hz, ⟨⟨c2, h2, h3⟩, h4⟩, rz⟩
        · exact absurd (h1 c (List.mem_of_getElem? hi')) hc
        · have hii : i = i2 := by
            rcases Nat.lt_trichotomy i i2 with z | z | z
            · exact absurd (h4 i c z hi') hc
            · exact z
            · exact absurd (good i2 c2 z h2) h3
          subst hii
          have hil : i < (cds t).length := (List.getElem?_eq_some_iff.mp hi').1
          rw [← len_cds] at hil
          exact s_rz (ev_var rfl) (.inr ⟨_, rfl, log_ok (by omega)⟩) (rz.ex (ex2.trans e3))
    · obtain ⟨ex, _, good⟩ := h'
      rcases hh with ⟨_, k⟩ | ⟨i2, hz, ⟨⟨c2, h2, h3⟩, h4⟩, rz⟩
      · exact k _ ex
      · refine absurd (good i2 c2 ?_ h2) h3
        have := (List.getElem?_eq_some_iff.mp h2).1
        rw [Array.length_toList] at this
        exact this
end
end KX
end
section
set_option Elab.async false
set_option linter.all false
set_option maxRecDepth 100000
set_option maxHeartbeats 8000000
/-! Rn6: a run reads on. -/
namespace KX
open PySem PySem.Spec PyProof.Rows L2 Evl ClX

theorem pth_snoc' (g : Pg) (w : List Nat) (c : Nat) : pth g (w ++ [c]) = pth g w ++ [(runG g (w ++ [c])).1] := by
  unfold pth
  rw [List.length_append, show ([c] : List Nat).length = 1 from rfl, List.range_succ, List.map_append]
  congr 1
  · apply List.map_congr_left
    intro i hi
    have := List.mem_range.mp hi
    rw [List.take_append_of_le_length (by omega)]
  · show [(runG g ((w ++ [c]).take (w.length + 1))).1] = [(runG g (w ++ [c])).1]
    rw [List.take_of_length_le (by rw [List.length_append]; exact Nat.le_refl _)]
theorem pth_last (g : Pg) (w : List Nat) : ∃ r : List V, (pth g w).map V.int = r ++ [.int (runG g w).1] := by
  refine ⟨((List.range w.length).map fun i => (runG g (w.take i)).1).map V.int, ?_⟩
  unfold pth
  rw [List.range_succ, List.map_append, List.map_append]
  show _ ++ [V.int (runG g (w.take w.length)).1] = _ ++ [_]
  rw [List.take_length]
theorem pth_len (g : Pg) (w : List Nat) : ((pth g w).map V.int).length = w.length + 1 := by
  unfold pth
  rw [List.length_map, List.length_map, List.length_range]
theorem atI_last' (xs : List V) (v : V) : atI (xs ++ [v]) (-1) = some v := by
  unfold atI
  have h : ixN (xs ++ [v]).length (-1) = some xs.length := by
    unfold ixN
    rw [List.length_append]
    simp
    omega
  first
    | (rw [h]; simp)
    | simp [h]
theorem cds_app (a b : Str) : cds (a ++ b) = cds a ++ cds b := by
  show (a.cps ++ b.cps).toList = a.cps.toList ++ b.cps.toList
  simp
theorem len_app (a b : Str) : (a ++ b).length = a.length + b.length := by
  show (a.cps ++ b.cps).size = a.cps.size + b.cps.size
  simp
/-- what the class of runs has under MOST -/
def MostC (K : PySem.W.Frag) (CR : Addr) : Prop := ∃ mc u, CRead K CR mc ∧ CVal K CR mc "MOST" (.int 1000) u
def sp_Run_read (CR C CB : Addr) : Sp := fun vs H Q E => ∃ (x : Addr) (g : Pg) (t : Str) (v : V), vs = [.ref x, v] ∧ RnAt CR C H x g t ∧ GoOk g ∧ (∀ c ∈ cds t, c ∈ cds g.L) ∧ ((v = .non ∧ Rz CB "place" H E .non) ∨
  (∃ u : Str, v = .str u ∧ (∀ c ∈ cds u, c ∈ cds g.L) ∧ t.length + u.length ≤ 1000 ∧ ∀ H', ExB x H H' → RnAt CR C H' x g (t ++ u) → Q (.ref x) H') ∨
  (∃ (u : Str) (i : Nat), v = .str u ∧ u.length ≤ 100000 ∧ BadAt g.L (cds u) i ∧ Rz CB "place" H E (.int (i : Int))))
section
variable {P : Program} {w : World} {K : PySem.W.Frag} {mg : Str → Option Value} {base : Heap} {C CR CB : Addr} {f : Addr} {fd : FuncData}
theorem ok_Run_read (F : Fun K "read" "Run.read" s_Run_read f fd) (Z : Zs mg C) (PC : PgC K C) (RC : RnC K CR) (MC : MostC K CR) (gR : mg "Run" = some (.ref CR)) (G_check_word : HasX P w K mg base "check_word" 3 ["letters", "text"] (sp_check_wordX CB)) : FnOk P w K mg base (L2.CX P w) 4 f fd ["self", "text"] (sp_Run_read CR C CB) := by
  refine F.okX sc_Run_read (fun vs H Q E h => ?_) (fun cdv A outer s H vs Q E hr h => ?_)
  · obtain ⟨x, g, t, v, rfl, _⟩ := h
    rfl
  · obtain ⟨x, g, t, v, rfl, hA, G, ht, h⟩ := h
    obtain ⟨dx, fs, p, l, hx, RF, hP, hL⟩ := id hA
    obtain ⟨dp, fp, ra, fa, sa, ea, hi, PF, PD⟩ := id hP
    have hu := hu_of hr
    refine ⟨_, (pss_cons (ps_expr (pe_useX G_check_word (hr.mono (by decide)) (takes_of (E := E) rfl rfl rfl rfl) (fun _ _ _ _ h => h) (pa_cons (pe_fldK (K := K) (pe_fldK (K := K) (pv 0) rfl) rfl) (pa_cons (pv 1) pa_nil)))) 
    (pss_cons (ps_if (pt_cmpR op_gt (pe_op op_add (pe_callB call_len_str (by rfl) Z.z_len PySem.boot_len (pa_cons (pe_fldK (K := K) (pv 0) rfl) pa_nil)) (pe_callB call_len_str (by rfl) Z.z_len PySem.boot_len (pa_cons (pv 1) pa_nil))) (pe_cval (pe_glob rfl gR (show RelV (.ref CR) _ from rfl))) (nomark _)) 
     (pss_one ps_never) pss_nil) 
    (pss_cons (ps_set (i := 2) sc_Run_read.nd rfl (Or.inl rfl) (pe_callTy call_list_of (by rfl) Z.z_list (by decide +kernel) (pa_cons (pe_fldK (K := K) (pv 0) rfl) pa_nil))) 
    (pss_cons (ps_for (passes_of rfl) rfl (pi_str (pv 1)) (pg_name (i := 3) sc_Run_read.nd rfl (Or.inl rfl)) 
     (pss_one (ps_expr (pe_bm PySem.F.plainAttrs_list PySem.F.slot_list_append PySem.F.type_list_append mt_append (pv 2) (pa_cons (pe_ix (ixT (K := K)) (pe_dget hu (pe_fldK (K := K) (pe_fldK (K := K) (pv 0) rfl) rfl) (pe_tup (pa_cons (pe_ix (ixL (K := K)) (pv 2) (pe_un un_neg pe_int) (fun _ _ => rfl)) (pa_cons (pv 3) pa_nil))) (fun _ _ => rfl)) pe_int (fun _ _ => rfl)) pa_nil))))) 
    (pss_cons (ps_fld (pv 0) (pe_op op_add_str (pe_fldK (K := K) (pv 0) rfl) (pv 1)) rfl) 
    (pss_cons (ps_fld (pv 0) (pv 2) rfl) 
    (pss_cons (ps_fld (pv 0) (pe_ix (ixL (K := K)) (pv 2) (pe_un un_neg pe_int) (fun _ _ => rfl)) rfl) 
    (pss_one (ps_ret (pv 0)))))))))), ?_⟩
    have letters : Ev (tFld K (tFld K (tVar 0) "program") "letters") [some (.ref x), some v, none, none] H (.str g.L) := ev_fld (K := K) (ev_fld (K := K) (ev_var rfl) hx RC.cl RC.p RF.p) hi PC.cl PC.l PF.l
    have first : ∀ {D : Ends} {tz : TS}, (∀ H1 : Hp, Ex H H1 → sp_check_wordX CB [.str g.L, v] H1 (fun _ H2 => tz D [some (.ref x), some v, none, none] H2) E) →
        tSeq (tDrop (tCall (sp_check_wordX CB) [] E (tCons (tFld K (tFld K (tVar 0) "program") "letters") (tCons (tVar 1) tNil)))) tz D [some (.ref x), some v, none, none] H := by
      intro D tz go
      refine (show EvA (tCons (tFld K (tFld K (tVar 0) "program") "letters") (tCons (tVar 1) tNil)) [some (.ref x), some v, none, none] H [.str g.L, v] from ea_cons letters (ea_cons (ev_var rfl) ea_nil)) H (Ex.refl H) (fun vs H1 => sp_check_wordX CB (vs ++ []) H1 (fun _ H2 => tz D [some (.ref x), some v, none, none] H2) E) fun H1 e1 => ?_
      exact go H1 e1
    refine first fun H1 e1 => ?_
    rcases h with ⟨rfl, rz⟩ | ⟨u, rfl, hu', hz, k⟩ | ⟨u, i, rfl, hz, hb, rz⟩
    · exact ⟨g.L, .non, rfl, .inl ⟨rfl, rz.ex e1⟩⟩
    · refine ⟨g.L, .str u, rfl, .inr (.inl ⟨u, rfl, hu', fun H2 e2 => ?_⟩)⟩
      have e12 := e1.trans e2
      obtain ⟨mc, uu, r1, r2⟩ := MC
      refine q_when (b := false) (et_test (ev_is (ev_op (z := .bl (decide ((1000 : Int) < (t.length : Int) + (u.length : Int)))) (ev_op (ev_lenS (ev_fld (K := K) (ta := tVar 0) (ev_var rfl) (e12 _ _ hx) RC.cl RC.t RF.t) (by omega)) (ev_lenS (ev_var rfl) (by omega)) rv_I0) (fun H3 e3 Q q => (show Ev (tC (.ref CR)) _ _ (.ref CR) from ev_c (σ := [some (.ref x), some (.str u), none, none]) (H := H3)) H3 (Ex.refl H3) _ fun H4 e4 => ⟨CR, mc, _, uu, rfl, r1, r2, q H4 e4⟩) rv_I0) ?_)) (fun z => by cases z) fun _ H3 e3 => ?_
      · have : ¬ ((1000 : Int) < (t.length : Int) + (u.length : Int)) := by omega
        simp [this]
      have e13 := e12.trans e3
      refine q_new (N := fun o _ => o = .lst ((pth g (cds t)).map V.int)) (fun H4 e4 Q q => (ev_fld (K := K) (ta := tVar 0) (σ := [some (.ref x), some (.str u), none, none]) (ev_var rfl) (e13 _ _ hx) RC.cl RC.l RF.l) H4 e4 _ fun H5 e5 => ⟨l, _, rfl, .inl (sq_of (((e13.trans e4).trans e5) _ _ hL)), fun l2 hl2 => q l2 _ _ (fresh_back e5 hl2) (e5.trans (Ex.new hl2)) upd_same rfl⟩) fun l2 o H4 hl2 e4 h4 n4 => ?_
      subst n4
      have e14 := e13.trans e4
      have hl2n : H l2 = none := fresh_back e13 hl2
      refine s_forS (ev_var rfl) (fun i σ' H' => ∃ v3, σ' = [some (.ref x), some (.str u), some (.ref l2), v3] ∧ Ex H H' ∧ H' l2 = some (.lst ((pth g (cds t ++ (cds u).take i)).map V.int))) (fun H5 e5 => ⟨none, rfl, e14.trans e5, by rw [List.take_zero, List.append_nil]; exact e5 _ _ h4⟩) ?_ ?_
      · rintro i c σ' H' hi' ⟨v3, rfl, ex, hL2⟩
        have hi' : (cds u)[i]? = some c := by rw [Array.getElem?_toList]; exact hi'
        have hil : i < (cds u).length := (List.getElem?_eq_some_iff.mp hi').1
        have htk : (cds u).take (i + 1) = (cds u).take i ++ [c] := by rw [List.take_succ, hi']; rfl
        have hin := runG_in G (cds t ++ (cds u).take i) (fun d hd => by
          rcases List.mem_append.mp hd with z | z
          · exact ht d z
          · exact hu' d (List.mem_of_mem_take z))
        have hsl : SL g.L g.n (runG g (cds t ++ (cds u).take i)).1 c := ⟨hin.1, hin.2, hu' c (List.mem_of_getElem? hi')⟩
        have hsn := pth_snoc' g (cds t ++ (cds u).take i) c
        have hst : (runG g (cds t ++ (cds u).take i ++ [c])).1 = g.goal (runG g (cds t ++ (cds u).take i)).1 c := by
          rw [runG_snoc]
          rfl
        obtain ⟨rr, hlast⟩ := pth_last g (cds t ++ (cds u).take i)
        have hlen := pth_len g (cds t ++ (cds u).take i)
        obtain ⟨ks, hks, _, _, hkv, hkc⟩ := PD.s
        obtain ⟨vv, hv, hm⟩ := valV_key (kvs := ks) (hkc _ c hsl)
        obtain ⟨s', c', b, r, hk1, _, rfl, hb, hR⟩ := hkv _ vv hm
        obtain ⟨rfl, rfl⟩ := pl_inj hk1
        have hix : atI ((pth g (cds t ++ (cds u).take i)).map V.int) (-1) = some (.int (runG g (cds t ++ (cds u).take i)).1) := by
          rw [hlast]
          exact atI_last' _ _
        have stp : Ev (tFld K (tFld K (tVar 0) "program") "steps") [some (.ref x), some (.str u), some (.ref l2), some (.str ⟨#[c]⟩)] H' (.ref sa) := ev_fld (K := K) (ev_fld (K := K) (ev_var rfl) (ex _ _ hx) RC.cl RC.p RF.p) (ex _ _ hi) PC.cl PC.s PF.s
        refine s_app hL2 (ev_var rfl) (ev_ixU (K := K) (i := 0) (ev_getU (k := [.inl (runG g (cds t ++ (cds u).take i)).1, .inr ⟨#[c]⟩]) stp (eu_tup (ea_cons (ev_op (ev_var (v := .ref l2) rfl) (ev_un ev_c ru_neg) (rv_ixL (K := K) (sq_of hL2) hix)) (ea_cons (ev_var rfl) ea_nil)) (by show 2 ≤ 100000; decide)) (.inl (ex _ _ hks)) hv) ev_c (ex _ _ hb) rfl) (by
          rw [hlen, List.length_append, List.length_take]
          rw [len_cds] at hz
          rw [len_cds] at hz
          omega) fun H2 e2 => ⟨some (.str ⟨#[c]⟩), rfl, Ex.mut (ex.trans e2) hl2n, ?_⟩
        rw [upd_same, htk, ← List.append_assoc, hsn, hst, List.map_append]
        rfl
      · rintro σ' H' ⟨v3, rfl, ex, hL2⟩
        have hsz : u.cps.size = (cds u).length := by rw [Array.length_toList]
        rw [hsz, List.take_length, ← cds_app] at hL2
        have hxl : x ≠ l2 := ne_of_none hx hl2n
        have hx1 := ex _ _ hx
        dsimp only []
        refine q_fld (K := K) (σ := [some (.ref x), some (.str u), some (.ref l2), v3]) (H := H') (v := .str (t ++ u)) ?_ (ev_var rfl) hx1 RC.cl RC.t (by have := RF.z; omega) fun H5 e5 => ?_
        · exact ev_op (ev_fld (K := K) (ta := tVar 0) (ev_var rfl) hx1 RC.cl RC.t RF.t) (ev_var rfl) (fun H3 _ Q q => ⟨t, u, rfl, rfl, sz_of (by omega), q H3 (Ex.refl H3)⟩)
        have z5 := putF_has (f := "letters_read") (v := .str (t ++ u)) (fs := fs) (by rw [RF.t]; exact fun z => by cases z)
        have b5 : ExB x H (upd H5 x (.ins CR dx (putF "letters_read" (.str (t ++ u)) fs))) := (ExB.of (ex.trans e5)).trans ExB.upd
        have o5 := OnlyF.put (f := "letters_read") (v := .str (t ++ u)) RF.o (by decide +kernel)
        have l5 : (upd H5 x (.ins CR dx (putF "letters_read" (.str (t ++ u)) fs))) l2 = some (.lst ((pth g (cds (t ++ u))).map V.int)) := by
          rw [upd_ne hxl.symm]
          exact e5 _ _ hL2
        refine q_fld (K := K) (v := .ref l2) (ev_var rfl) (ev_var rfl) upd_same RC.cl RC.l (by have := RF.z; omega) fun H6 e6 => ?_
        have z6 := putF_has (f := "states_passed") (v := .ref l2) (fs := putF "letters_read" (.str (t ++ u)) fs) (by rw [lookup_putF, if_neg (by decide +kernel), RF.l]; exact fun z => by cases z)
        have b6 : ExB x H (upd H6 x (.ins CR dx (putF "states_passed" (.ref l2) (putF "letters_read" (.str (t ++ u)) fs)))) := (b5.trans (ExB.of e6)).trans ExB.upd
        have o6 := OnlyF.put (f := "states_passed") (v := .ref l2) o5 (by decide +kernel)
        have l6 : (upd H6 x (.ins CR dx (putF "states_passed" (.ref l2) (putF "letters_read" (.str (t ++ u)) fs)))) l2 = some (.lst ((pth g (cds (t ++ u))).map V.int)) := by
          rw [upd_ne hxl.symm]
          exact e6 _ _ l5
        obtain ⟨rr, hlast⟩ := pth_last g (cds (t ++ u))
        have hix : atI ((pth g (cds (t ++ u))).map V.int) (-1) = some (.int (runG g (cds (t ++ u))).1) := by
          rw [hlast]
          exact atI_last' _ _
        refine q_fld (K := K) (v := .int (runG g (cds (t ++ u))).1) (ev_op (ev_var (v := .ref l2) rfl) (ev_un ev_c ru_neg) (rv_ixL (K := K) (sq_of l6) hix)) (ev_var rfl) upd_same RC.cl RC.s (by have := RF.z; omega) fun H7 e7 => ?_
        have z7 := putF_has (f := "state") (v := .int (runG g (cds (t ++ u))).1) (fs := putF "states_passed" (.ref l2) (putF "letters_read" (.str (t ++ u)) fs)) (by rw [lookup_putF, if_neg (by decide +kernel), lookup_putF, if_neg (by decide +kernel), RF.s]; exact fun z => by cases z)
        have b7 : ExB x H (upd H7 x (.ins CR dx (putF "state" (.int (runG g (cds (t ++ u))).1) (putF "states_passed" (.ref l2) (putF "letters_read" (.str (t ++ u)) fs))))) := (b6.trans (ExB.of e7)).trans ExB.upd
        refine s_ret (v := .ref x) (ev_var rfl) fun H8 e8 => k H8 (b7.trans (ExB.of e8)) ⟨dx, _, p, l2, e8 _ _ upd_same, ⟨by have := RF.z; omega, ?_, ?_, ?_, ?_, OnlyF.put o6 (by decide +kernel)⟩, (hP.exB hx RF.o b7).ex e8, e8 _ _ ?_⟩
        · repeat (first | rw [lookup_putF, if_pos rfl] | rw [lookup_putF, if_neg (by decide +kernel)])
          exact RF.p
        · repeat (first | rw [lookup_putF, if_pos rfl] | rw [lookup_putF, if_neg (by decide +kernel)])
        · repeat (first | rw [lookup_putF, if_pos rfl] | rw [lookup_putF, if_neg (by decide +kernel)])
        · repeat (first | rw [lookup_putF, if_pos rfl] | rw [lookup_putF, if_neg (by decide +kernel)])
        · rw [upd_ne hxl.symm]
          exact e7 _ _ l6
    · exact ⟨g.L, .str u, rfl, .inr (.inr ⟨u, i, rfl, hz, hb, rz.ex e1⟩)⟩
end
end KX
end
section
set_option Elab.async false
set_option linter.all false
set_option maxRecDepth 100000
set_option maxHeartbeats 8000000
/-! Rn7: a run goes back. -/
namespace KX
open PySem PySem.Spec PyProof.Rows L2 Evl ClX

/-- a def that may have defaults -/
structure FunD (K : PySem.W.Frag) (x qual : Str) (st : Stmt) (f : Addr) (fd : FuncData) : Prop where
  ex : ∃ (oc : Value) (od : Option Addr) (dV kV doc pm : Value) (an : Option Addr) (cdv ct : Value) (osl : Array (Option Value)), fd = PySem.W.fnOf x qual (defArgs st) (defBody st) (defScope st) dV kV doc pm an cdv ct ∧ K.lookup f = some ⟨oc, od, .func fd, osl⟩ ∧ PySem.W.codeIn K cdv qual = true
  kp : PySem.W.keepIn K (.ref f) = true
theorem FunD.okX {P : Program} {w : World} {K : PySem.W.Frag} {mg : Str → Option Value} {base : Heap} {x qual : Str} {st : Stmt} {f : Addr} {fd : FuncData} {N ps : List Str} {k : Nat} {sp : Sp} (F : FunD K x qual st f fd) (S : FnScope N ps (defScope st)) (len : ∀ vs H Q E, sp vs H Q E → vs.length = ps.length)
    (hbody : ∀ (cdv : Value) (A : Around) (outer : List Env) (s : Shared) (H : Hp) (vs : List V) (Q : VK) (E : XK), Room k (A.deeper (envOfC qual (defScope st) s.heap.objs.size f cdv)) → sp vs H Q E →
      ∃ t, PSs (cxOf (L2.CX P w) P w K mg base N qual (defScope st) f cdv A outer s H E) (defBody st) t ∧ t { nx := fun _ H' => Q .non H', rt := Q } (start N vs) H) : FnOk P w K mg base (L2.CX P w) (k + 1) f fd ps sp := by
  obtain ⟨oc, od, dV, kV, doc, pm, an, cdv, ct, osl, rfl, lk, hcd⟩ := F.ex
  exact fn_of lk hcd S len fun A outer s H vs Q E hr hsp => hbody cdv A outer s H vs Q E hr hsp
/-- .. called while an error is handled -/
theorem Fun.okM {P : Program} {w : World} {K : PySem.W.Frag} {mg : Str → Option Value} {base : Heap} {x qual : Str} {st : Stmt} {f : Addr} {fd : FuncData} {N ps : List Str} {k : Nat} {sp : Sp} (F : Fun K x qual st f fd) (S : FnScope N ps (defScope st)) (len : ∀ vs H Q E, sp vs H Q E → vs.length = ps.length)
    (hbody : ∀ (cdv : Value) (A : Around) (outer : List Env) (s : Shared) (H : Hp) (vs : List V) (Q : VK) (E : XK), L2H.RoomH k (A.deeper (envOfC qual (defScope st) s.heap.objs.size f cdv)) → sp vs H Q E →
      ∃ t, PSs (LmK.cxM P w K mg base N qual (defScope st) f cdv A outer s H E) (defBody st) t ∧ t { nx := fun _ H' => Q .non H', rt := Q } (start N vs) H) : LmK.FnM P w K mg base (k + 1) f fd ps sp := by
  obtain ⟨oc, od, kV, doc, pm, an, cdv, ct, osl, rfl, lk, hcd⟩ := F.ex
  exact LmK.fnM_of lk hcd S len fun A outer s H vs Q E hr hsp => hbody cdv A outer s H vs Q E hr hsp
/-- the first n letters of a text -/
def tkS (t : Str) (n : Nat) : Str := ⟨((cds t).take n).toArray⟩
theorem cds_tkS (t : Str) (n : Nat) : cds (tkS t n) = (cds t).take n := rfl
theorem len_tkS (t : Str) (n : Nat) : (tkS t n).length ≤ t.length := by
  rw [len_cds, len_cds, cds_tkS, List.length_take]
  exact Nat.min_le_right _ _
theorem tkS_all {t : Str} {n : Nat} (h : t.length ≤ n) : tkS t n = t := by
  unfold tkS
  rw [List.take_of_length_le (by rw [← len_cds]; exact h)]
theorem tkS_app (t u : Str) : tkS (t ++ u) t.length = t := by
  unfold tkS
  rw [cds_app, List.take_append_of_le_length (by rw [← len_cds]; exact Nat.le_refl _), List.take_of_length_le (by rw [← len_cds]; exact Nat.le_refl _)]
theorem slc_tkS (t : Str) (i : Nat) : cutS t none (some (i : Int)) = tkS t i := by
  rw [C8.cutS_slice]
  exact SX.slice_to (a := cds t) (i := (i : Int)) (by omega)
theorem cutV_to (xs : List V) (i : Nat) : cutV xs none (some (i : Int)) = xs.take i := by
  unfold cutV
  rw [HT.sIx_none, HT.sIx_nat, List.drop_zero, Nat.sub_zero]
  by_cases h : i ≤ xs.length
  · rw [Nat.min_eq_left h]
  · rw [Nat.min_eq_right (by omega), List.take_of_length_le (Nat.le_refl _), List.take_of_length_le (by omega)]
theorem pth_take (g : Pg) (w : List Nat) {n : Nat} (h : n ≤ w.length) : (pth g w).take (n + 1) = pth g (w.take n) := by
  unfold pth
  rw [← List.map_take, List.take_range, List.length_take, Nat.min_eq_left h, Nat.min_eq_left (by omega)]
  apply List.map_congr_left
  intro i hi
  have := List.mem_range.mp hi
  rw [List.take_take, Nat.min_eq_left (by omega)]
/-- an own error of a text alone -/
structure PlE (K : PySem.W.Frag) (mg : Str → Option Value) (x : Str) (C : Addr) : Prop where
  gm : mg x = some (.ref C)
  q : PySem.W.excIn K C [.type "ValueError", .type "Exception", .type "BaseException", .type "object"] "ValueError.__new__" = true
  k : PySem.W.keepIn K (.ref C) = true
  b : PySem.W.subIn K (.ref C) (.type "BaseException") = some true
  t : PySem.W.typeIn K (.ref C) = some (.type "type")
def Rp (C : Addr) (H : Hp) (E : XK) : Prop := ∀ H', Ex H H' → E (.ref C) none H'
theorem ps_rp {X : Cx} {x m : Str} {C : Addr} {W : WX} {j : Nat} {p p2 pos apos : Pos} (h : PlE X.K X.mg x C) (hc : X.calm = true) (tk : L2.Takes X W) (hg : Gl X x := by rfl) (hdb : (x == ("__debug__" : Str)) = false := by decide) :
    PS X (.Raise (some (.Call (.Name x p) [.Constant (.str m) j p2] [] pos)) none apos) (fun _ σ H => W (.ref C) none σ H) :=
  L2.ps_raise hc tk (L2.pmk_own PySem.F.excBase_ValueError h.q h.gm h.k (raises_own h.b h.t) hg hdb)
def sp_Run_back (CR C CN CT : Addr) : Sp := fun vs H Q E => ∃ (x : Addr) (g : Pg) (t : Str) (m : Int), vs = [.ref x, .int m] ∧ RnAt CR C H x g t ∧ t.length ≤ 1000 ∧ ((m < 0 ∧ Rp CN H E) ∨ ((t.length : Int) < m ∧ Rp CT H E) ∨
  (∃ k : Nat, m = (k : Int) ∧ k ≤ t.length ∧ ∀ H', ExB x H H' → RnAt CR C H' x g (tkS t (t.length - k)) → Q (.ref x) H'))
section
variable {P : Program} {w : World} {K : PySem.W.Frag} {mg : Str → Option Value} {base : Heap} {C CR CN CT : Addr} {f : Addr} {fd : FuncData}
theorem ok_Run_back (F : FunD K "back" "Run.back" s_Run_back f fd) (Z : Zs mg C) (RC : RnC K CR) (EN : PlE K mg "BadNumber" CN) (ET : PlE K mg "NothingDone" CT) (G_is_number : Has P w K mg base "is_number" 1 ["thing"] sp_is_number) : FnOk P w K mg base (L2.CX P w) 2 f fd ["self", "many"] (sp_Run_back CR C CN CT) := by
  refine F.okX sc_Run_back (fun vs H Q E h => ?_) (fun cdv A outer s H vs Q E hr h => ?_)
  · obtain ⟨x, g, t, m, rfl, _⟩ := h
    rfl
  · obtain ⟨x, g, t, m, rfl, hA, ht, h⟩ := h
    obtain ⟨dx, fs, p, l, hx, RF, hP, hL⟩ := id hA
    refine ⟨_, (pss_cons (ps_if (PW.pt (pw_or (pt_not (pt_val (pe_use G_is_number (hr.mono (by decide)) (pa_cons (pv 1) pa_nil)))) (pw_or1 (pt_cmpR op_lt (pv 1) pe_int (nomark _))))) 
     (pss_one (ps_rp EN rfl (takes_of rfl rfl rfl rfl))) pss_nil) 
    (pss_cons (ps_set (i := 2) sc_Run_back.nd rfl (Or.inl rfl) (pe_op op_sub (pe_callB call_len_str (by rfl) Z.z_len PySem.boot_len (pa_cons (pe_fldK (K := K) (pv 0) rfl) pa_nil)) (pv 1))) 
    (pss_cons (ps_if (pt_cmpR op_lt (pv 2) pe_int (nomark _)) 
     (pss_one (ps_rp ET rfl (takes_of rfl rfl rfl rfl))) pss_nil) 
    (pss_cons (ps_fld (pv 0) (pe_slice sl_str (pe_fldK (K := K) (pv 0) rfl) po_none (po_some (pv 2))) rfl) 
    (pss_cons (ps_fld (pv 0) (pe_slice sl_list (pe_fldK (K := K) (pv 0) rfl) po_none (po_some (pe_op op_add (pv 2) pe_int))) rfl) 
    (pss_cons (ps_fld (pv 0) (pe_ix (ixL (K := K)) (pe_fldK (K := K) (pv 0) rfl) (pe_un un_neg pe_int) (fun _ _ => rfl)) rfl) 
    (pss_one (ps_ret (pv 0))))))))), ?_⟩
    by_cases hm : m < 0
    · refine q_if (b := true) (et_is (et_or (a := false) (et_not (a := true) (et_B (ev_use (ea_cons (ev_var rfl) ea_nil) (spE_V m (fun _ _ => rfl) fun v _ p => p)))) fun _ => et_test (ev_op (ev_var rfl) ev_c rv_I0)) (by simp [hm])) (fun _ H1 e1 => ?_) (fun z => by cases z)
      rcases h with ⟨_, r⟩ | ⟨z, _⟩ | ⟨k, z, _⟩
      · exact r H1 e1
      · omega
      · omega
    refine q_when (b := false) (et_is (et_or (a := false) (et_not (a := true) (et_B (ev_use (ea_cons (ev_var rfl) ea_nil) (spE_V m (fun _ _ => rfl) fun v _ p => p)))) fun _ => et_test (ev_op (ev_var rfl) ev_c rv_I0)) (by simp [hm])) (fun z => by cases z) fun _ H1 e1 => ?_
    refine q_asg (v := .int ((t.length : Int) - m)) (ev_op (ev_lenS (ev_fld (K := K) (ta := tVar 0) (ev_var rfl) (e1 _ _ hx) RC.cl RC.t RF.t) (by omega)) (ev_var rfl) rv_I0) fun H2 e2 => ?_
    by_cases hb : (t.length : Int) < m
    · refine q_if (b := true) (et_test (ev_is (ev_op (ev_var rfl) ev_c rv_I0) (by simp; omega))) (fun _ H3 e3 => ?_) (fun z => by cases z)
      rcases h with ⟨z, _⟩ | ⟨_, r⟩ | ⟨k, z, z2, _⟩
      · exact absurd z hm
      · exact r H3 ((e1.trans e2).trans e3)
      · omega
    refine q_when (b := false) (et_test (ev_is (ev_op (ev_var rfl) ev_c rv_I0) (by simp; omega))) (fun z => by cases z) fun _ H3 e3 => ?_
    rcases h with ⟨z, _⟩ | ⟨z, _⟩ | ⟨k, rfl, hk, q⟩
    · exact absurd z hm
    · exact absurd z hb
    have e13 := (e1.trans e2).trans e3
    have hi : (t.length : Int) - (k : Int) = ((t.length - k : Nat) : Int) := by omega
    rw [hi]
    have hx3 := e13 _ _ hx
    refine q_fld (K := K) (v := .str (tkS t (t.length - k))) ?_ (ev_var rfl) hx3 RC.cl RC.t (by have := RF.z; omega) fun H5 e5 => ?_
    · exact fun H4 e4 Q q => (ev_fld (K := K) (ta := tVar 0) (ev_var rfl) hx3 RC.cl RC.t RF.t) H4 e4 _ fun H5 e5 => eo_none H5 (Ex.refl H5) _ fun H6 e6 => (eo_some (ev_var rfl)) H6 (Ex.refl H6) _ fun H7 e7 => ⟨t, rfl, sz_of (by omega), by rw [slc_tkS]; exact q H7 ((e5.trans e6).trans e7)⟩
    have z5 := putF_has (f := "letters_read") (v := .str (tkS t (t.length - k))) (fs := fs) (by rw [RF.t]; exact fun z => by cases z)
    have b5 : ExB x H (upd H5 x (.ins CR dx (putF "letters_read" (.str (tkS t (t.length - k))) fs))) := (ExB.of (e13.trans e5)).trans ExB.upd
    have o5 := OnlyF.put (f := "letters_read") (v := .str (tkS t (t.length - k))) RF.o (by decide +kernel)
    have hlx : l ≠ x := fun z => by
      subst z
      rw [hx] at hL
      cases hL
    have lk5 : (putF "letters_read" (.str (tkS t (t.length - k))) fs).lookup ("states_passed" : Str) = some (.ref l) := by
      rw [lookup_putF, if_neg (by decide +kernel)]
      exact RF.l
    have hL5 := b5 _ _ hlx hL
    have hlen := pth_len g (cds t)
    rw [← len_cds] at hlen
    refine q_fldN (K := K) (New.ofL (el_sl (ev_fld (K := K) (ta := tVar 0) (ev_var rfl) upd_same RC.cl RC.l lk5) eo_none (eo_some (ev_op (ev_var rfl) ev_c rv_I0)) (sq_of hL5))) (ev_var rfl) upd_same RC.cl RC.l (by have := RF.z; omega) (fun _ _ _ _ h => h) fun l2 o H6 hl2 e6 h6 n6 => ?_
    subst n6
    have hcut : cutV ((pth g (cds t)).map V.int) none (some (((t.length - k : Nat) : Int) + 1)) = (pth g (cds (tkS t (t.length - k)))).map V.int := by
      rw [show (((t.length - k : Nat) : Int) + 1) = ((t.length - k + 1 : Nat) : Int) by omega, cutV_to, ← List.map_take, pth_take g (cds t) (by rw [← len_cds]; omega), cds_tkS]
    rw [hcut] at h6
    have hl2x : l2 ≠ x := fun z => by
      subst z
      rw [upd_same] at hl2
      cases hl2
    have z6 := putF_has (f := "states_passed") (v := .ref l2) (fs := putF "letters_read" (.str (tkS t (t.length - k))) fs) (by rw [lk5]; exact fun z => by cases z)
    have b6 : ExB x H (upd H6 x (.ins CR dx (putF "states_passed" (.ref l2) (putF "letters_read" (.str (tkS t (t.length - k))) fs)))) := (b5.trans (ExB.of e6)).trans ExB.upd
    have o6 := OnlyF.put (f := "states_passed") (v := .ref l2) o5 (by decide +kernel)
    have l6 : (upd H6 x (.ins CR dx (putF "states_passed" (.ref l2) (putF "letters_read" (.str (tkS t (t.length - k))) fs)))) l2 = some (.lst ((pth g (cds (tkS t (t.length - k)))).map V.int)) := by
      rw [upd_ne hl2x]
      exact h6
    obtain ⟨rr, hlast⟩ := pth_last g (cds (tkS t (t.length - k)))
    have hix : atI ((pth g (cds (tkS t (t.length - k)))).map V.int) (-1) = some (.int (runG g (cds (tkS t (t.length - k)))).1) := by
      rw [hlast]
      exact atI_last' _ _
    have lk6 : (putF "states_passed" (.ref l2) (putF "letters_read" (.str (tkS t (t.length - k))) fs)).lookup ("states_passed" : Str) = some (.ref l2) := by
      rw [lookup_putF, if_pos rfl]
    refine q_fld (K := K) (v := .int (runG g (cds (tkS t (t.length - k)))).1) (ev_op (ev_fld (K := K) (ta := tVar 0) (ev_var rfl) upd_same RC.cl RC.l lk6) (ev_un ev_c ru_neg) (rv_ixL (K := K) (sq_of l6) hix)) (ev_var rfl) upd_same RC.cl RC.s (by have := RF.z; omega) fun H7 e7 => ?_
    have z7 := putF_has (f := "state") (v := .int (runG g (cds (tkS t (t.length - k)))).1) (fs := putF "states_passed" (.ref l2) (putF "letters_read" (.str (tkS t (t.length - k))) fs)) (by rw [lookup_putF, if_neg (by decide +kernel), lookup_putF, if_neg (by decide +kernel), RF.s]; exact fun z => by cases z)
    have b7 : ExB x H (upd H7 x (.ins CR dx (putF "state" (.int (runG g (cds (tkS t (t.length - k)))).1) (putF "states_passed" (.ref l2) (putF "letters_read" (.str (tkS t (t.length - k))) fs))))) := (b6.trans (ExB.of e7)).trans ExB.upd
    refine s_ret (v := .ref x) (ev_var rfl) fun H8 e8 => q H8 (b7.trans (ExB.of e8)) ⟨dx, _, p, l2, e8 _ _ upd_same, ⟨by have := RF.z; omega, ?_, ?_, ?_, ?_, OnlyF.put o6 (by decide +kernel)⟩, (hP.exB hx RF.o b7).ex e8, e8 _ _ ?_⟩
    · repeat (first | rw [lookup_putF, if_pos rfl] | rw [lookup_putF, if_neg (by decide +kernel)])
      exact RF.p
    · repeat (first | rw [lookup_putF, if_pos rfl] | rw [lookup_putF, if_neg (by decide +kernel)])
    · repeat (first | rw [lookup_putF, if_pos rfl] | rw [lookup_putF, if_neg (by decide +kernel)])
    · repeat (first | rw [lookup_putF, if_pos rfl] | rw [lookup_putF, if_neg (by decide +kernel)])
    · rw [upd_ne hl2x]
      exact e7 _ _ l6
end
end KX
end
section
set_option Elab.async false
set_option linter.all false
set_option maxRecDepth 100000
set_option maxHeartbeats 8000000
/-! Rn8: trials. -/
namespace KX
open PySem PySem.Spec PyProof.Rows L2 Evl ClX

def trN : List Str := ["run", "saved"]
structure TrF (fs : List (Str × V)) (x : Addr) (sv : V) : Prop where
  z : fs.length ≤ 20
  r : fs.lookup ("run" : Str) = some (.ref x)
  s : fs.lookup ("saved" : Str) = some sv
  o : OnlyF trN fs
def svN : List Str := ["program", "state", "letters_read", "states_passed", "outer"]
structure SvF (fs : List (Str × V)) (p l : Addr) (t : Str) (q : Int) (sv : V) : Prop where
  z : fs.length ≤ 50
  p : fs.lookup ("program" : Str) = some (.ref p)
  s : fs.lookup ("state" : Str) = some (.int q)
  t : fs.lookup ("letters_read" : Str) = some (.str t)
  l : fs.lookup ("states_passed" : Str) = some (.ref l)
  u : fs.lookup ("outer" : Str) = some sv
  o : OnlyF svN fs
structure TrC (K : PySem.W.Frag) (C : Addr) : Prop where
  cl : Cls K C
  r : NoAttr K C "run"
  s : NoAttr K C "saved"
structure SvC (K : PySem.W.Frag) (C : Addr) : Prop where
  cl : Cls K C
  p : NoAttr K C "program"
  s : NoAttr K C "state"
  t : NoAttr K C "letters_read"
  l : NoAttr K C "states_passed"
  u : NoAttr K C "outer"
/-- what is there, but may say anything else -/
structure FullF (fs : List (Str × V)) : Prop where
  z : fs.length ≤ 50
  p : fs.lookup ("program" : Str) ≠ none
  s : fs.lookup ("state" : Str) ≠ none
  t : fs.lookup ("letters_read" : Str) ≠ none
  l : fs.lookup ("states_passed" : Str) ≠ none
  o : OnlyF rnN fs
theorem some_ne {v : V} : some v ≠ none := fun z => by cases z
theorem RnF.full {fs : List (Str × V)} {p l : Addr} {t : Str} {q : Int} (h : RnF fs p l t q) : FullF fs := ⟨h.z, by rw [h.p]; exact some_ne, by rw [h.s]; exact some_ne, by rw [h.t]; exact some_ne, by rw [h.l]; exact some_ne, h.o⟩
/-- all but what stands at x and at y stays -/
def ExB2 (x y : Addr) (H H' : Hp) : Prop := ∀ a o, a ≠ x → a ≠ y → H a = some o → H' a = some o
theorem ExB2.refl (x y : Addr) (H : Hp) : ExB2 x y H H := fun _ _ _ _ h => h
theorem ExB2.trans {x y : Addr} {H H1 H2 : Hp} (a : ExB2 x y H H1) (b : ExB2 x y H1 H2) : ExB2 x y H H2 := fun c o n m h => b c o n m (a c o n m h)
theorem ExB2.l {x y : Addr} {H H' : Hp} (a : ExB x H H') : ExB2 x y H H' := fun c o n _ h => a c o n h
theorem ExB2.r {x y : Addr} {H H' : Hp} (a : ExB y H H') : ExB2 x y H H' := fun c o _ n h => a c o n h
theorem ExB2.of {x y : Addr} {H H' : Hp} (a : Ex H H') : ExB2 x y H H' := fun c o _ _ h => a c o h
theorem TrF.new {x : Addr} : TrF (putF "saved" .non (putF "run" (.ref x) [])) x .non where
  z := by
    have h1 : (putF "run" (.ref x) []).length ≤ 1 := putF_len _ _ _
    have h2 := putF_len "saved" .non (putF "run" (.ref x) [])
    omega
  r := by repeat (first | rw [lookup_putF, if_pos rfl] | rw [lookup_putF, if_neg (by decide +kernel)])
  s := by repeat (first | rw [lookup_putF, if_pos rfl] | rw [lookup_putF, if_neg (by decide +kernel)])
  o := OnlyF.put (OnlyF.put (fun m hm => absurd rfl hm) (by decide +kernel)) (by decide +kernel)
theorem TrF.put {fs : List (Str × V)} {x : Addr} {sv sw : V} (h : TrF fs x sv) : TrF (putF "saved" sw fs) x sw where
  z := by
    rw [putF_has (by rw [h.s]; exact fun z => by cases z)]
    exact h.z
  r := by
    repeat (first | rw [lookup_putF, if_pos rfl] | rw [lookup_putF, if_neg (by decide +kernel)])
    exact h.r
  s := by repeat (first | rw [lookup_putF, if_pos rfl] | rw [lookup_putF, if_neg (by decide +kernel)])
  o := OnlyF.put h.o (by decide +kernel)
theorem SvF.new {p l : Addr} {t : Str} {q : Int} {sv : V} : SvF (putF "outer" sv (putF "states_passed" (.ref l) (putF "letters_read" (.str t) (putF "state" (.int q) (putF "program" (.ref p) []))))) p l t q sv where
  z := by
    have h1 : (putF "program" (.ref p) []).length ≤ 1 := putF_len _ _ _
    have h2 := putF_len "state" (.int q) (putF "program" (.ref p) [])
    have h3 := putF_len "letters_read" (.str t) (putF "state" (.int q) (putF "program" (.ref p) []))
    have h4 := putF_len "states_passed" (.ref l) (putF "letters_read" (.str t) (putF "state" (.int q) (putF "program" (.ref p) [])))
    have h5 := putF_len "outer" sv (putF "states_passed" (.ref l) (putF "letters_read" (.str t) (putF "state" (.int q) (putF "program" (.ref p) []))))
    omega
  p := by repeat (first | rw [lookup_putF, if_pos rfl] | rw [lookup_putF, if_neg (by decide +kernel)])
  s := by repeat (first | rw [lookup_putF, if_pos rfl] | rw [lookup_putF, if_neg (by decide +kernel)])
  t := by repeat (first | rw [lookup_putF, if_pos rfl] | rw [lookup_putF, if_neg (by decide +kernel)])
  l := by repeat (first | rw [lookup_putF, if_pos rfl] | rw [lookup_putF, if_neg (by decide +kernel)])
  u := by repeat (first | rw [lookup_putF, if_pos rfl] | rw [lookup_putF, if_neg (by decide +kernel)])
  o := OnlyF.put (OnlyF.put (OnlyF.put (OnlyF.put (OnlyF.put (fun m hm => absurd rfl hm) (by decide +kernel)) (by decide +kernel)) (by decide +kernel)) (by decide +kernel)) (by decide +kernel)
theorem FullF.put {fs : List (Str × V)} (h : FullF fs) {f : Str} {v : V} (hf : f ∈ rnN) (hh : fs.lookup f ≠ none) : FullF (putF f v fs) := by
  have k : ∀ g : Str, fs.lookup g ≠ none → (putF f v fs).lookup g ≠ none := fun g hg => by
    rw [lookup_putF]
    by_cases e : g = f
    · rw [if_pos e]
      exact fun z => by cases z
    · rw [if_neg e]
      exact hg
  exact ⟨by rw [putF_has hh]; exact h.z, k _ h.p, k _ h.s, k _ h.t, k _ h.l, OnlyF.put h.o hf⟩
theorem RnF.new {fs : List (Str × V)} (h : FullF fs) {p l : Addr} {t : Str} {q : Int} : RnF (putF "states_passed" (.ref l) (putF "letters_read" (.str t) (putF "state" (.int q) (putF "program" (.ref p) fs)))) p l t q := by
  have h1 := h.put (f := "program") (v := .ref p) (by decide +kernel) h.p
  have h2 := h1.put (f := "state") (v := .int q) (by decide +kernel) h1.s
  have h3 := h2.put (f := "letters_read") (v := .str t) (by decide +kernel) h2.t
  have h4 := h3.put (f := "states_passed") (v := .ref l) (by decide +kernel) h3.l
  refine ⟨h4.z, ?_, ?_, ?_, ?_, h4.o⟩
  · repeat (first | rw [lookup_putF, if_pos rfl] | rw [lookup_putF, if_neg (by decide +kernel)])
  · repeat (first | rw [lookup_putF, if_pos rfl] | rw [lookup_putF, if_neg (by decide +kernel)])
  · repeat (first | rw [lookup_putF, if_pos rfl] | rw [lookup_putF, if_neg (by decide +kernel)])
  · repeat (first | rw [lookup_putF, if_pos rfl] | rw [lookup_putF, if_neg (by decide +kernel)])
/-- the three objects are apart -/
theorem apart_xa {fs fx : List (Str × V)} {y : Addr} {sv : V} (h : TrF fs y sv) (g : OnlyF rnN fx) : fs ≠ fx := fun z => by
  subst z
  have := h.r
  rw [g.no (by decide +kernel)] at this
  cases this
theorem apart_xs {fs fx : List (Str × V)} {p l : Addr} {t : Str} {q : Int} {sv : V} (h : SvF fs p l t q sv) (g : OnlyF rnN fx) : fs ≠ fx := fun z => by
  subst z
  have := h.u
  rw [g.no (by decide +kernel)] at this
  cases this
theorem apart_as {fs gs : List (Str × V)} {x p l : Addr} {t : Str} {q : Int} {sv sw : V} (h : SvF gs p l t q sv) (g : TrF fs x sw) : gs ≠ fs := fun z => by
  subst z
  have := h.u
  rw [g.o.no (by decide +kernel)] at this
  cases this
theorem ne_ins {H : Hp} {a b C D da db : Addr} {fs gs : List (Str × V)} (h : H a = some (.ins C da fs)) (g : H b = some (.ins D db gs)) (ne : fs ≠ gs) : a ≠ b := fun z => by
  subst z
  rw [h] at g
  cases g
  exact ne rfl
def sp_Trial_init (CT : Addr) : Sp := fun vs H Q _ => ∃ (a x da : Addr), vs = [.ref a, .ref x] ∧ H a = some (.ins CT da []) ∧ ∀ H' fs, ExB a H H' → H' a = some (.ins CT da fs) → TrF fs x .non → Q .non H'
def sp_Saved_init (CR CS : Addr) : Sp := fun vs H Q _ => ∃ (s x ds dx p l : Addr) (fx : List (Str × V)) (t : Str) (q : Int) (sv : V), vs = [.ref s, .ref x, sv] ∧ H s = some (.ins CS ds []) ∧ H x = some (.ins CR dx fx) ∧ RnF fx p l t q ∧
  ∀ H' gs, ExB s H H' → H' s = some (.ins CS ds gs) → SvF gs p l t q sv → Q .non H'
def sp_Run_trial (CT : Addr) : Sp := fun vs H Q _ => ∃ (x : Addr), vs = [.ref x] ∧ ∀ a da fs H', H a = none → Ex H H' → H' a = some (.ins CT da fs) → TrF fs x .non → Q (.ref a) H'
def sp_Trial_enter (CR CT CS : Addr) : Sp := fun vs H Q _ => ∃ (a x da dx p l : Addr) (fs fx : List (Str × V)) (t : Str) (q : Int) (sv : V), vs = [.ref a] ∧ H a = some (.ins CT da fs) ∧ TrF fs x sv ∧ H x = some (.ins CR dx fx) ∧ RnF fx p l t q ∧
  ∀ s ds gs fs' H', H s = none → ExB a H H' → H' a = some (.ins CT da fs') → TrF fs' x (.ref s) → H' s = some (.ins CS ds gs) → SvF gs p l t q sv → Q (.ref x) H'
def sp_Trial_exit (CR CT CS : Addr) : Sp := fun vs H Q _ => ∃ (a x s da dx ds p l : Addr) (fs gs fx : List (Str × V)) (t : Str) (q : Int) (sv kind v1 v2 : V), vs = [.ref a, kind, v1, v2] ∧ H a = some (.ins CT da fs) ∧ TrF fs x (.ref s) ∧ H s = some (.ins CS ds gs) ∧ SvF gs p l t q sv ∧
  ((kind = .non ∧ ∀ H', ExB a H H' → Q .non H') ∨ ((∃ c, kind = .ref c) ∧ H x = some (.ins CR dx fx) ∧ FullF fx ∧ ∀ H' fy, ExB2 a x H H' → H' x = some (.ins CR dx fy) → RnF fy p l t q → Q .non H'))
section
variable {P : Program} {w : World} {K : PySem.W.Frag} {mg : Str → Option Value} {base : Heap} {C CR CT CS : Addr} {f : Addr} {fd : FuncData}
theorem ok_Trial_init (F : Fun K "__init__" "Trial.__init__" s_Trial__init f fd) (TC : TrC K CT) : FnOk P w K mg base CX0 1 f fd ["self", "run"] (sp_Trial_init CT) := by
  refine F.ok sc_Trial__init (fun vs H Q E h => ?_) (fun cdv A outer s H vs Q E hr h => ?_)
  · obtain ⟨a, x, da, rfl, _⟩ := h
    rfl
  · obtain ⟨a, x, da, rfl, ha, k⟩ := h
    refine ⟨_, (pss_cons (ps_fld (pv 0) (pv 1) rfl) 
    (pss_one (ps_fld (pv 0) pe_non rfl))), ?_⟩
    refine q_fld (K := K) (v := .ref x) (ev_var rfl) (ev_var rfl) ha TC.cl TC.r (by decide) fun H1 e1 => ?_
    refine s_fld (K := K) (v := .non) ev_c (ev_var rfl) upd_same TC.cl TC.s (by have := putF_len "run" (.ref x) []; exact Nat.le_trans this (by decide)) fun H2 e2 => ?_
    exact k _ _ (((ExB.of e1).trans ExB.upd).trans ((ExB.of e2).trans ExB.upd)) upd_same TrF.new
theorem ok_Saved_init (F : Fun K "__init__" "Saved.__init__" s_Saved__init f fd) (RC : RnC K CR) (SC : SvC K CS) : FnOk P w K mg base CX0 1 f fd ["self", "run", "outer"] (sp_Saved_init CR CS) := by
  refine F.ok sc_Saved__init (fun vs H Q E h => ?_) (fun cdv A outer s H vs Q E hr h => ?_)
  · obtain ⟨s, x, ds, dx, p, l, fx, t, q, sv, rfl, _⟩ := h
    rfl
  · obtain ⟨a, x, da, dx, p, l, fx, t, q, sv, rfl, ha, hx, RF, k⟩ := h
    have hxa : x ≠ a := fun z => by
      subst z
      rw [hx] at ha
      cases ha
      cases RF.p
    refine ⟨_, (pss_cons (ps_fld (pv 0) (pe_fldK (K := K) (pv 1) rfl) rfl) 
    (pss_cons (ps_fld (pv 0) (pe_fldK (K := K) (pv 1) rfl) rfl) 
    (pss_cons (ps_fld (pv 0) (pe_fldK (K := K) (pv 1) rfl) rfl) 
    (pss_cons (ps_fld (pv 0) (pe_fldK (K := K) (pv 1) rfl) rfl) 
    (pss_one (ps_fld (pv 0) (pv 2) rfl)))))), ?_⟩
    have h1 : (putF "program" (.ref p) []).length ≤ 1 := putF_len _ _ _
    have h2 := putF_len "state" (.int q) (putF "program" (.ref p) [])
    have h3 := putF_len "letters_read" (.str t) (putF "state" (.int q) (putF "program" (.ref p) []))
    have h4 := putF_len "states_passed" (.ref l) (putF "letters_read" (.str t) (putF "state" (.int q) (putF "program" (.ref p) [])))
    refine q_fld (K := K) (v := .ref p) (ev_fld (K := K) (ta := tVar 1) (σ := [some (.ref a), some (.ref x), some sv]) (ev_var rfl) hx RC.cl RC.p RF.p) (ev_var rfl) ha SC.cl SC.p (by decide) fun H1 e1 => ?_
    have x1 : (upd H1 a (.ins CS da (putF "program" (.ref p) []))) x = some (.ins CR dx fx) := by rw [upd_ne hxa]; exact e1 _ _ hx
    refine q_fld (K := K) (v := .int q) (ev_fld (K := K) (ta := tVar 1) (σ := [some (.ref a), some (.ref x), some sv]) (ev_var rfl) x1 RC.cl RC.s RF.s) (ev_var rfl) upd_same SC.cl SC.s (by omega) fun H2 e2 => ?_
    have x2 : (upd H2 a (.ins CS da (putF "state" (.int q) (putF "program" (.ref p) [])))) x = some (.ins CR dx fx) := by rw [upd_ne hxa]; exact e2 _ _ x1
    refine q_fld (K := K) (v := .str t) (ev_fld (K := K) (ta := tVar 1) (σ := [some (.ref a), some (.ref x), some sv]) (ev_var rfl) x2 RC.cl RC.t RF.t) (ev_var rfl) upd_same SC.cl SC.t (by omega) fun H3 e3 => ?_
    have x3 : (upd H3 a (.ins CS da (putF "letters_read" (.str t) (putF "state" (.int q) (putF "program" (.ref p) []))))) x = some (.ins CR dx fx) := by rw [upd_ne hxa]; exact e3 _ _ x2
    refine q_fld (K := K) (v := .ref l) (ev_fld (K := K) (ta := tVar 1) (σ := [some (.ref a), some (.ref x), some sv]) (ev_var rfl) x3 RC.cl RC.l RF.l) (ev_var rfl) upd_same SC.cl SC.l (by omega) fun H4 e4 => ?_
    refine s_fld (K := K) (v := sv) (ev_var rfl) (ev_var rfl) upd_same SC.cl SC.u (by omega) fun H5 e5 => ?_
    exact k _ _ (((((ExB.of e1).trans ExB.upd).trans ((ExB.of e2).trans ExB.upd)).trans ((ExB.of e3).trans ExB.upd)).trans (((ExB.of e4).trans ExB.upd).trans ((ExB.of e5).trans ExB.upd))) upd_same SvF.new
theorem ok_Run_trial (F : Fun K "trial" "Run.trial" s_Run_trial f fd) (TI : HasC P w K mg base "Trial" CT 1 ["self", "run"] (sp_Trial_init CT)) : FnOk P w K mg base CX0 3 f fd ["self"] (sp_Run_trial CT) := by
  refine F.ok sc_Run_trial (fun vs H Q E h => ?_) (fun cdv A outer s H vs Q E hr h => ?_)
  · obtain ⟨x, rfl, _⟩ := h
    rfl
  · obtain ⟨x, rfl, k⟩ := h
    refine ⟨_, (pss_one (ps_ret (pe_mk TI hr (pa_cons (pv 0) pa_nil)))), ?_⟩
    refine s_retP (Pv := fun v H' => ∃ a, v = .ref a ∧ ∃ da fs, H a = none ∧ H' a = some (.ins CT da fs) ∧ TrF fs x .non) (make_P (C := CT) (sp := sp_Trial_init CT) (E := E0) (Po := fun a H' => ∃ da fs, H a = none ∧ H' a = some (.ins CT da fs) ∧ TrF fs x .non) (Pa := fun vs _ => vs = [.ref x]) (fun H1 e Q q => (ea_cons (ev_var rfl) ea_nil) H1 e _ fun H2 e2 => q _ H2 e2 rfl) ?_) fun v H1 e ⟨a, ev, da, fs, hn, ha, T⟩ => ?_
    · intro vs H1 a da e ev ha hda ne Q q
      subst ev
      have xx : Ex H1 (upd (upd H1 da (.own a)) a (.ins CT da [])) := fun b o h => by rw [upd_ne (ne_of_none h ha), upd_ne (ne_of_none h hda)]; exact h
      exact ⟨a, x, da, rfl, upd_same, fun H' fs b ha' T => q H' (b.ex xx ha) ⟨da, fs, fresh_back e ha, ha', T⟩⟩
    · subst ev
      exact k a da fs H1 hn e ha T
theorem ok_Trial_enter (F : Fun K "__enter__" "Trial.__enter__" s_Trial__enter f fd) (RC : RnC K CR) (TC : TrC K CT) (SI : HasC P w K mg base "Saved" CS 1 ["self", "run", "outer"] (sp_Saved_init CR CS)) : FnOk P w K mg base CX0 3 f fd ["self"] (sp_Trial_enter CR CT CS) := by
  refine F.ok sc_Trial__enter (fun vs H Q E h => ?_) (fun cdv A outer s H vs Q E hr h => ?_)
  · obtain ⟨a, x, da, dx, p, l, fs, fx, t, q, sv, rfl, _⟩ := h
    rfl
  · obtain ⟨a, x, da, dx, p, l, fs, fx, t, q, sv, rfl, ha, T, hx, RF, k⟩ := h
    have hax := ne_ins ha hx (apart_xa T RF.o)
    refine ⟨_, (pss_cons (ps_fld (pv 0) (pe_mk SI hr (pa_cons (pe_fldK (K := K) (pv 0) rfl) (pa_cons (pe_fldK (K := K) (pv 0) rfl) pa_nil))) rfl) 
    (pss_one (ps_ret (pe_fldK (K := K) (pv 0) rfl)))), ?_⟩
    refine q_fldP (K := K) (Pv := fun v H' => ∃ s, v = .ref s ∧ ∃ ds gs, H s = none ∧ H' s = some (.ins CS ds gs) ∧ SvF gs p l t q sv) (make_P (C := CS) (sp := sp_Saved_init CR CS) (E := E0) (Po := fun s H' => ∃ ds gs, H s = none ∧ H' s = some (.ins CS ds gs) ∧ SvF gs p l t q sv) (Pa := fun vs _ => vs = [.ref x, sv])
      (fun H1 e Q q => (ea_cons (ev_fld (K := K) (ta := tVar 0) (σ := [some (.ref a)]) (ev_var rfl) ha TC.cl TC.r T.r) (ea_cons (ev_fld (K := K) (ta := tVar 0) (ev_var rfl) ha TC.cl TC.s T.s) ea_nil)) H1 e _ fun H2 e2 => q _ H2 e2 rfl) ?_) (fun v H1 H2 e ⟨s, ev, ds, gs, hn, hs, S⟩ => ⟨s, ev, ds, gs, hn, e _ _ hs, S⟩) (ev_var rfl) ha TC.cl TC.s (by have := T.z; omega) fun v H1 e1 ⟨s, ev, ds, gs, hn, hs, S⟩ => ?_
    · intro vs H1 s ds e ev hs hds ne Q q'
      subst ev
      have xx : Ex H1 (upd (upd H1 ds (.own s)) s (.ins CS ds [])) := fun b o h => by rw [upd_ne (ne_of_none h hs), upd_ne (ne_of_none h hds)]; exact h
      exact ⟨s, x, ds, dx, p, l, fx, t, q, sv, rfl, upd_same, xx _ _ (e _ _ hx), RF, fun H' gs b hs' S => q' H' (b.ex xx hs) ⟨ds, gs, fresh_back e hs, hs', S⟩⟩
    · subst ev
      have hsa : s ≠ a := fun z => by
        subst z
        rw [ha] at hn
        cases hn
      have T2 : TrF (putF "saved" (.ref s) fs) x (.ref s) := T.put
      refine s_ret (ev_fld (K := K) (ta := tVar 0) (ev_var rfl) upd_same TC.cl TC.r T2.r) fun H2 e2 => ?_
      exact k s ds gs _ H2 hn (((ExB.of e1).trans ExB.upd).trans (ExB.of e2)) (e2 _ _ upd_same) T2 (e2 _ _ (by rw [upd_ne hsa]; exact hs)) S
theorem ok_Trial_exit (F : Fun K "__exit__" "Trial.__exit__" s_Trial__exit f fd) (RC : RnC K CR) (TC : TrC K CT) (SC : SvC K CS) : FnOk P w K mg base CX0 1 f fd ["self", "kind", "value", "trace"] (sp_Trial_exit CR CT CS) := by
  refine F.ok sc_Trial__exit (fun vs H Q E h => ?_) (fun cdv A outer s H vs Q E hr h => ?_)
  · obtain ⟨a, x, s, da, dx, ds, p, l, fs, gs, fx, t, q, sv, kind, v1, v2, rfl, _⟩ := h
    rfl
  · obtain ⟨a, x, s0, da, dx, ds, p, l, fs, gs, fx, t, q, sv, kind, v1, v2, rfl, ha, T, hs, S, h⟩ := h
    refine ⟨_, (pss_cons (ps_set (i := 4) sc_Trial__exit.nd rfl (Or.inl rfl) (pe_fldK (K := K) (pv 0) rfl)) 
    (pss_cons (ps_if (pt_cmpR op_notN (pv 1) pe_non (nomark _)) 
     (pss_cons (ps_fld (pv 4) (pe_fldK (K := K) (pe_fldK (K := K) (pv 0) rfl) rfl) rfl) 
     (pss_cons (ps_fld (pv 4) (pe_fldK (K := K) (pe_fldK (K := K) (pv 0) rfl) rfl) rfl) 
     (pss_cons (ps_fld (pv 4) (pe_fldK (K := K) (pe_fldK (K := K) (pv 0) rfl) rfl) rfl) 
     (pss_one (ps_fld (pv 4) (pe_fldK (K := K) (pe_fldK (K := K) (pv 0) rfl) rfl) rfl))))) pss_nil) 
    (pss_one (ps_fld (pv 0) (pe_fldK (K := K) (pe_fldK (K := K) (pv 0) rfl) rfl) rfl)))), ?_⟩
    refine q_asg (v := .ref x) (ev_fld (K := K) (ta := tVar 0) (ev_var rfl) ha TC.cl TC.r T.r) fun H1 e1 => ?_
    have hsa := ne_ins hs ha (apart_as S T)
    have sav : ∀ {σ : L2.St} {H2 : Hp} {g : Str} {v : V}, σ[0]? = some (some (.ref a)) → H2 a = some (.ins CT da fs) → H2 s0 = some (.ins CS ds gs) → NoAttr K CS g → gs.lookup g = some v → Ev (tFld K (tFld K (tVar 0) "saved") g) σ H2 v := fun {σ H2 g v} h0 h1 h2 n l => ev_fld (K := K) (ev_fld (K := K) (ta := tVar 0) (ev_var h0) h1 TC.cl TC.s T.s) h2 SC.cl n l
    rcases h with ⟨rfl, k⟩ | ⟨⟨c, rfl⟩, hx, FX, k⟩
    · refine q_when (b := false) (et_test (ev_op (ev_var rfl) ev_c rv_notN)) (fun z => by cases z) fun _ H2 e2 => ?_
      have e12 := e1.trans e2
      refine s_fld (K := K) (v := sv) (sav rfl (e12 _ _ ha) (e12 _ _ hs) SC.u S.u) (ev_var rfl) (e12 _ _ ha) TC.cl TC.s (by have := T.z; omega) fun H3 e3 => ?_
      exact k _ ((ExB.of (e12.trans e3)).trans ExB.upd)
    · refine q_if (b := true) (et_test (ev_op (ev_var rfl) ev_c rv_notN)) (fun _ H2 e2 => ?_) (fun z => by cases z)
      have hax := ne_ins ha hx (apart_xa T FX.o)
      have hsx := ne_ins hs hx (apart_xs S FX.o)
      have e12 := e1.trans e2
      have F1 := FX.put (f := "program") (v := .ref p) (by decide +kernel) FX.p
      have F2 := F1.put (f := "state") (v := .int q) (by decide +kernel) F1.s
      have F3 := F2.put (f := "letters_read") (v := .str t) (by decide +kernel) F2.t
      refine q_fld (K := K) (v := .ref p) (sav rfl (e12 _ _ ha) (e12 _ _ hs) SC.p S.p) (ev_var rfl) (e12 _ _ hx) RC.cl RC.p (by have := FX.z; omega) fun H3 e3 => ?_
      have b3 : ExB x H (upd H3 x (.ins CR dx (putF "program" (.ref p) fx))) := (ExB.of (e12.trans e3)).trans ExB.upd
      refine q_fld (K := K) (v := .int q) (sav rfl (b3 _ _ hax ha) (b3 _ _ hsx hs) SC.s S.s) (ev_var rfl) upd_same RC.cl RC.s (by have := F1.z; omega) fun H4 e4 => ?_
      have b4 : ExB x H (upd H4 x (.ins CR dx (putF "state" (.int q) (putF "program" (.ref p) fx)))) := (b3.trans (ExB.of e4)).trans ExB.upd
      refine q_fld (K := K) (v := .str t) (sav rfl (b4 _ _ hax ha) (b4 _ _ hsx hs) SC.t S.t) (ev_var rfl) upd_same RC.cl RC.t (by have := F2.z; omega) fun H5 e5 => ?_
      have b5 : ExB x H (upd H5 x (.ins CR dx (putF "letters_read" (.str t) (putF "state" (.int q) (putF "program" (.ref p) fx))))) := (b4.trans (ExB.of e5)).trans ExB.upd
      refine s_fld (K := K) (v := .ref l) (sav rfl (b5 _ _ hax ha) (b5 _ _ hsx hs) SC.l S.l) (ev_var rfl) upd_same RC.cl RC.l (by have := F3.z; omega) fun H6 e6 => ?_
      have b6 : ExB x H (upd H6 x (.ins CR dx (putF "states_passed" (.ref l) (putF "letters_read" (.str t) (putF "state" (.int q) (putF "program" (.ref p) fx)))))) := (b5.trans (ExB.of e6)).trans ExB.upd
      refine s_fld (K := K) (v := sv) (sav rfl (b6 _ _ hax ha) (b6 _ _ hsx hs) SC.u S.u) (ev_var rfl) (b6 _ _ hax ha) TC.cl TC.s (by have := T.z; omega) fun H7 e7 => ?_
      refine k _ _ (((ExB2.r b6).trans (ExB2.of e7)).trans (ExB2.l ExB.upd)) ?_ (RnF.new FX)
      rw [upd_ne hax.symm]
      exact e7 _ _ upd_same
theorem okM_Trial_exit (F : Fun K "__exit__" "Trial.__exit__" s_Trial__exit f fd) (RC : RnC K CR) (TC : TrC K CT) (SC : SvC K CS) : LmK.FnM P w K mg base 1 f fd ["self", "kind", "value", "trace"] (sp_Trial_exit CR CT CS) := by
  refine KX.Fun.okM F sc_Trial__exit (fun vs H Q E h => ?_) (fun cdv A outer s H vs Q E hr h => ?_)
  · obtain ⟨a, x, s, da, dx, ds, p, l, fs, gs, fx, t, q, sv, kind, v1, v2, rfl, _⟩ := h
    rfl
  · obtain ⟨a, x, s0, da, dx, ds, p, l, fs, gs, fx, t, q, sv, kind, v1, v2, rfl, ha, T, hs, S, h⟩ := h
    refine ⟨_, (pss_cons (ps_set (i := 4) sc_Trial__exit.nd rfl (Or.inl rfl) (pe_fldK (K := K) (pv 0) rfl)) 
    (pss_cons (ps_if (pt_cmpR op_notN (pv 1) pe_non (nomark _)) 
     (pss_cons (ps_fld (pv 4) (pe_fldK (K := K) (pe_fldK (K := K) (pv 0) rfl) rfl) rfl) 
     (pss_cons (ps_fld (pv 4) (pe_fldK (K := K) (pe_fldK (K := K) (pv 0) rfl) rfl) rfl) 
     (pss_cons (ps_fld (pv 4) (pe_fldK (K := K) (pe_fldK (K := K) (pv 0) rfl) rfl) rfl) 
     (pss_one (ps_fld (pv 4) (pe_fldK (K := K) (pe_fldK (K := K) (pv 0) rfl) rfl) rfl))))) pss_nil) 
    (pss_one (ps_fld (pv 0) (pe_fldK (K := K) (pe_fldK (K := K) (pv 0) rfl) rfl) rfl)))), ?_⟩
    refine q_asg (v := .ref x) (ev_fld (K := K) (ta := tVar 0) (ev_var rfl) ha TC.cl TC.r T.r) fun H1 e1 => ?_
    have hsa := ne_ins hs ha (apart_as S T)
    have sav : ∀ {σ : L2.St} {H2 : Hp} {g : Str} {v : V}, σ[0]? = some (some (.ref a)) → H2 a = some (.ins CT da fs) → H2 s0 = some (.ins CS ds gs) → NoAttr K CS g → gs.lookup g = some v → Ev (tFld K (tFld K (tVar 0) "saved") g) σ H2 v := fun {σ H2 g v} h0 h1 h2 n l => ev_fld (K := K) (ev_fld (K := K) (ta := tVar 0) (ev_var h0) h1 TC.cl TC.s T.s) h2 SC.cl n l
    rcases h with ⟨rfl, k⟩ | ⟨⟨c, rfl⟩, hx, FX, k⟩
    · refine q_when (b := false) (et_test (ev_op (ev_var rfl) ev_c rv_notN)) (fun z => by cases z) fun _ H2 e2 => ?_
      have e12 := e1.trans e2
      refine s_fld (K := K) (v := sv) (sav rfl (e12 _ _ ha) (e12 _ _ hs) SC.u S.u) (ev_var rfl) (e12 _ _ ha) TC.cl TC.s (by have := T.z; omega) fun H3 e3 => ?_
      exact k _ ((ExB.of (e12.trans e3)).trans ExB.upd)
    · refine q_if (b := true) (et_test (ev_op (ev_var rfl) ev_c rv_notN)) (fun _ H2 e2 => ?_) (fun z => by cases z)
      have hax := ne_ins ha hx (apart_xa T FX.o)
      have hsx := ne_ins hs hx (apart_xs S FX.o)
      have e12 := e1.trans e2
      have F1 := FX.put (f := "program") (v := .ref p) (by decide +kernel) FX.p
      have F2 := F1.put (f := "state") (v := .int q) (by decide +kernel) F1.s
      have F3 := F2.put (f := "letters_read") (v := .str t) (by decide +kernel) F2.t
      refine q_fld (K := K) (v := .ref p) (sav rfl (e12 _ _ ha) (e12 _ _ hs) SC.p S.p) (ev_var rfl) (e12 _ _ hx) RC.cl RC.p (by have := FX.z; omega) fun H3 e3 => ?_
      have b3 : ExB x H (upd H3 x (.ins CR dx (putF "program" (.ref p) fx))) := (ExB.of (e12.trans e3)).trans ExB.upd
      refine q_fld (K := K) (v := .int q) (sav rfl (b3 _ _ hax ha) (b3 _ _ hsx hs) SC.s S.s) (ev_var rfl) upd_same RC.cl RC.s (by have := F1.z; omega) fun H4 e4 => ?_
      have b4 : ExB x H (upd H4 x (.ins CR dx (putF "state" (.int q) (putF "program" (.ref p) fx)))) := (b3.trans (ExB.of e4)).trans ExB.upd
      refine q_fld (K := K) (v := .str t) (sav rfl (b4 _ _ hax ha) (b4 _ _ hsx hs) SC.t S.t) (ev_var rfl) upd_same RC.cl RC.t (by have := F2.z; omega) fun H5 e5 => ?_
      have b5 : ExB x H (upd H5 x (.ins CR dx (putF "letters_read" (.str t) (putF "state" (.int q) (putF "program" (.ref p) fx))))) := (b4.trans (ExB.of e5)).trans ExB.upd
      refine s_fld (K := K) (v := .ref l) (sav rfl (b5 _ _ hax ha) (b5 _ _ hsx hs) SC.l S.l) (ev_var rfl) upd_same RC.cl RC.l (by have := F3.z; omega) fun H6 e6 => ?_
      have b6 : ExB x H (upd H6 x (.ins CR dx (putF "states_passed" (.ref l) (putF "letters_read" (.str t) (putF "state" (.int q) (putF "program" (.ref p) fx)))))) := (b5.trans (ExB.of e6)).trans ExB.upd
      refine s_fld (K := K) (v := sv) (sav rfl (b6 _ _ hax ha) (b6 _ _ hsx hs) SC.u S.u) (ev_var rfl) (b6 _ _ hax ha) TC.cl TC.s (by have := T.z; omega) fun H7 e7 => ?_
      refine k _ _ (((ExB2.r b6).trans (ExB2.of e7)).trans (ExB2.l ExB.upd)) ?_ (RnF.new FX)
      rw [upd_ne hax.symm]
      exact e7 _ _ upd_same
end
end KX
end
section
set_option Elab.async false
set_option linter.all false
set_option maxRecDepth 100000
set_option maxHeartbeats 8000000
/-! Rn9: an attempt: what the body of Run.attempt does with what it got. -/
namespace KX
open PySem PySem.Spec PyProof.Rows L2 Evl ClX

/-- at a: the trial that was made since H -/
def TrAt (CT : Addr) (H : Hp) (a : Addr) (H2 : Hp) : Prop := ∃ da fs, H a = none ∧ H2 a = some (.ins CT da fs) ∧ OnlyF trN fs
theorem PgAt.exA {C CT p a da : Addr} {H H' : Hp} {g : Pg} {fs : List (Str × V)} (h : H a = some (.ins CT da fs)) (ho : OnlyF trN fs) (b : ExB a H H') (P : PgAt C H p g) : PgAt C H' p g := by
  obtain ⟨dp, fp, ra, fa, sa, ea, h1, h2, h3⟩ := P
  refine ⟨dp, fp, ra, fa, sa, ea, b _ _ (fun z => ?_) h1, h2, h3.kp (ExB.kp h b)⟩
  subst z
  rw [h] at h1
  cases h1
  have := h2.l
  rw [ho.no (by decide +kernel)] at this
  cases this
theorem RnAt.exA {CR C CT x a da : Addr} {H H' : Hp} {g : Pg} {t : Str} {fs : List (Str × V)} (R : RnAt CR C H x g t) (h : H a = some (.ins CT da fs)) (ho : OnlyF trN fs) (b : ExB a H H') : RnAt CR C H' x g t := by
  obtain ⟨dx, fx, p, l, h1, h2, h3, h4⟩ := R
  refine ⟨dx, fx, p, l, b _ _ (fun z => ?_) h1, h2, h3.exA h ho b, b _ _ (fun z => ?_) h4⟩
  · subst z
    rw [h] at h1
    cases h1
    have := h2.p
    rw [ho.no (by decide +kernel)] at this
    cases this
  · subst z
    rw [h] at h4
    cases h4
/-- the fields are put back -/
theorem RnAt.back2 {CR C CT x a da dy : Addr} {H H1 H2 H3 : Hp} {g : Pg} {t : Str} {fs fx fy fz : List (Str × V)} {dx p l : Addr} (hx : H x = some (.ins CR dx fx)) (RF : RnF fx p l t (runG g (cds t)).1) (hP : PgAt C H p g) (hL : H l = some (.lst ((pth g (cds t)).map V.int)))
    (ha : H a = none) (e1 : Ex H H1) (b2 : ExB x H1 H2) (ha2 : H2 a = some (.ins CT da fs)) (ho : OnlyF trN fs) (hx2 : H2 x = some (.ins CR dy fy)) (b3 : ExB2 a x H2 H3) (hx3 : H3 x = some (.ins CR dy fz)) (Rz : RnF fz p l t (runG g (cds t)).1) : RnAt CR C H3 x g t := by
  have P2 : PgAt C H2 p g := (hP.ex e1).exB (e1 _ _ hx) RF.o b2
  have L2 : H2 l = some (.lst ((pth g (cds t)).map V.int)) := b2 _ _ (fun z => by
    subst z
    rw [hx] at hL
    cases hL) (e1 _ _ hL)
  have kp : Kp H2 H3 := fun b o k q => b3 b o (fun z => by
    subst z
    rw [ha2] at q
    cases q
    cases k) (fun z => by
    subst z
    rw [hx2] at q
    cases q
    cases k) q
  refine ⟨dy, fz, p, l, hx3, Rz, ?_, kp _ _ rfl L2⟩
  obtain ⟨dp, fp, ra, fa, sa, ea, h1, h2, h3⟩ := P2
  have hpH : H p ≠ none := by
    obtain ⟨dp', fp', _, _, _, _, q, _⟩ := hP
    rw [q]
    exact fun z => by cases z
  refine ⟨dp, fp, ra, fa, sa, ea, b3 _ _ (fun z => ?_) (fun z => ?_) h1, h2, h3.kp kp⟩
  · subst z
    exact hpH ha
  · subst z
    obtain ⟨dp', fp', _, _, _, _, q, PF, _⟩ := hP
    rw [hx] at q
    cases q
    have := PF.l
    rw [RF.o.no (by decide +kernel)] at this
    cases this
/-- what the work's end must bring: Q behind the trial's end -/
def AttQ (CT x : Addr) (H H1 : Hp) (Q : VK) : VK := fun v H2 => ExB x H1 H2 ∧ ∀ a H3, TrAt CT H a H2 → ExB a H2 H3 → Q v H3
/-- .. an error of the work -/
def AttE (CR C CT x : Addr) (g : Pg) (t : Str) (H H1 : Hp) (E : XK) : XK := fun cls d H2 => (∃ c, cls = .ref c) ∧ ExB x H1 H2 ∧ ∃ dx fx, H2 x = some (.ins CR dx fx) ∧ FullF fx ∧ ∀ a H3, TrAt CT H a H2 → ExB2 a x H2 H3 → RnAt CR C H3 x g t → E cls d H3
/-- what is asked of the work -/
def TAtt (CR C CT : Addr) (x : Addr) (g : Pg) (t : Str) (tl : XK → V → Hp → VK → Prop) (H : Hp) (Q : VK) (E : XK) : Prop := RnAt CR C H x g t ∧ ∀ H1, Ex H H1 → ∀ Q' : VK, (∀ v H2, AttQ CT x H H1 Q v H2 → Q' v H2) → tl (AttE CR C CT x g t H H1 E) (.ref x) H1 Q'
section
variable {P : Program} {w : World} {K : PySem.W.Frag} {mg : Str → Option Value} {base : Heap} {C CR CT CS : Addr} {f : Addr} {fd : FuncData}
/-- the defs that an attempt needs -/
structure AttD (P : Program) (w : World) (K : PySem.W.Frag) (mg : Str → Option Value) (base : Heap) (CR CT CS : Addr) : Prop where
  tr : ∃ f fd, HasM P w K mg base CR "trial" 3 f fd ["self"] (sp_Run_trial CT)
  en : ∃ f fd, Meth K CT "__enter__" f ∧ FnOk P w K mg base CX0 3 f fd ["self"] (sp_Trial_enter CR CT CS) ∧ Binds K fd ["self"] []
  ex : ∃ f fd, Meth K CT "__exit__" f ∧ FnOk P w K mg base CX0 3 f fd ["self", "kind", "value", "trace"] (sp_Trial_exit CR CT CS) ∧ LmK.FnM P w K mg base 3 f fd ["self", "kind", "value", "trace"] (sp_Trial_exit CR CT CS) ∧ Binds K fd ["self", "kind", "value", "trace"] []
theorem att_body {g0 : Addr} {cdv : Value} {A : Around} {outer : List Env} {s : Shared} {H : Hp} {E : XK} {Q : VK} {tl : XK → V → Hp → VK → Prop} {x fl : Addr} {g : Pg} {t : Str} (D : AttD P w K mg base CR CT CS)
    (hr : Room 3 (A.deeper (envOfC "Run.attempt" (defScope s_Run_attempt) s.heap.objs.size g0 cdv)))
    (act : ∀ (W : WX) (pn : List (Addr × Obj)) (xe : Value → Shared → Prop) (Ech : XK) (p1 p2 p3 : Pos), L2.Takes ((cxOf (L2.CX P w) P w K mg base n_Run_attempt "Run.attempt" (defScope s_Run_attempt) g0 cdv A outer s H E).tr pn xe) W → (∀ cls d σ' H', Ech cls d H' → W cls d σ' H') →
      PE ((cxOf (L2.CX P w) P w K mg base n_Run_attempt "Run.attempt" (defScope s_Run_attempt) g0 cdv A outer s H E).tr pn xe) (.Call (.Name "work" p1) [.Name "same" p3] [] p2) (fun σZ HZ Q => ∃ v, σZ[1]? = some (some (.ref fl)) ∧ σZ[2]? = some (some v) ∧ tl Ech v HZ Q))
    (h : TAtt CR C CT x g t tl H Q E) :
    ∃ tt, PSs (cxOf (L2.CX P w) P w K mg base n_Run_attempt "Run.attempt" (defScope s_Run_attempt) g0 cdv A outer s H E) (defBody s_Run_attempt) tt ∧ tt { nx := fun _ H' => Q .non H', rt := Q } (L2.start n_Run_attempt [.ref x, .ref fl]) H := by
  obtain ⟨⟨ft, fdt, HT⟩, ⟨fe, fde, me, Fe, be⟩, ⟨fx, fdx, mx, Fx, Mx, bx⟩⟩ := D
  refine ⟨_, pss_one (LmK.ps_with (X := cxOf (L2.CX P w) P w K mg base n_Run_attempt "Run.attempt" (defScope s_Run_attempt) g0 cdv A outer s H E) (C := CT) (i := 2) (tb := fun W D σ H => ∃ Ech : XK, (∀ cls d σ' H', Ech cls d H' → W cls d σ' H') ∧ ∃ v, σ[1]? = some (some (.ref fl)) ∧ σ[2]? = some (some v) ∧ tl Ech v H D.rt)
    rfl rfl hr (takes_of rfl rfl rfl rfl) (pe_meth0 (pv 0) HT.cl HT.me HT.ok hr HT.b .nil pass0) me mx Fe be Fx Mx bx sc_Run_attempt.nd rfl rfl fun W pn xe tk => ?_), ?_⟩
  · refine ⟨fun pins s' σ H' D I h' => ?_⟩
    obtain ⟨Ech, hW, v, h1, h2, h3⟩ := h'
    exact (pss_one (ps_ret (act W pn xe Ech _ _ _ tk hW))).run pins s' σ H' D I ⟨v, h1, h2, h3⟩
  · obtain ⟨R, go⟩ := h
    obtain ⟨dx, fs, p, l, hx, RF, hP, hL⟩ := id R
    refine ⟨.ref x, rfl, x, dx, fs, rfl, hx, RF.o.no (by decide +kernel), x, rfl, fun a da fa H2 hn e2 ha2 TA => ?_⟩
    have x2 : H2 x = some (.ins CR dx fs) := e2 _ _ hx
    refine ⟨a, da, fa, rfl, ha2, a, x, da, dx, p, l, fa, fs, t, (runG g (cds t)).1, .non, rfl, ha2, TA, x2, RF, fun s ds gs fa' H3 hs2 b3 ha3 T3 hs3 S3 => ?_⟩
    have hs : H s = none := fresh_back e2 hs2
    have e3 : Ex H H3 := ExB.ex e2 hn b3
    have sa : s ≠ a := fun z => by
      subst z
      rw [ha2] at hs2
      cases hs2
    have hxa : a ≠ x := ne_of_none hx hn |>.symm
    have hsx : s ≠ x := ne_of_none hx hs |>.symm
    refine ⟨AttE CR C CT x g t H H3 E, fun cls d σ' H4 q => ?_, .ref x, rfl, rfl, ?_⟩
    · obtain ⟨⟨c, rfl⟩, b4, dy, fy, hy, FY, q⟩ := q
      have ha4 := b4 _ _ hxa ha3
      have hs4 := b4 _ _ hsx hs3
      refine ⟨c, rfl, fun e tr he => ⟨a, x, s, da, dy, ds, p, l, fa', gs, fy, t, (runG g (cds t)).1, .non, .ref c, .ref e, tr, rfl, ha4, T3, hs4, S3, .inr ⟨⟨c, rfl⟩, hy, FY, fun H5 fz b5 hx5 R5 => ⟨rfl, ?_⟩⟩⟩⟩
      exact q a H5 ⟨da, fa', hn, ha4, T3.o⟩ b5 (RnAt.back2 hx RF hP hL hn e3 b4 ha4 T3.o hy b5 hx5 R5)
    · refine go H3 e3 _ fun v H4 ⟨b4, q⟩ => ?_
      have ha4 := b4 _ _ hxa ha3
      exact ⟨a, x, s, da, dx, ds, p, l, fa', gs, fs, t, (runG g (cds t)).1, .non, .non, .non, .non, rfl, ha4, T3, b4 _ _ hsx hs3, S3, .inl ⟨rfl, fun H5 b5 => q a H5 ⟨da, fa', hn, ha4, T3.o⟩ b5⟩⟩
end
end KX
end
section
set_option Elab.async false
set_option linter.all false
set_option maxRecDepth 100000
set_option maxHeartbeats 8000000
/-! Rn10: what is told stays where a lambda is made; lambdas called in the def that got them. -/
namespace KX
open PySem PySem.Spec PyProof.Rows L2 Evl ClX

def isTb : HO → Bool
  | .tbl _ => true
  | _ => false
/-- all but instances and tables stays -/
def KT (H H' : Hp) : Prop := ∀ a o, isIns o = false → isTb o = false → H a = some o → H' a = some o
theorem KT.tex {H H' : Hp} (e : LmK.TEx H H') : KT H H' := fun a o _ t h => e a o h fun ps z => by
  subst z
  cases t
theorem KT.kp {H H' : Hp} (e : Kp H H') : KT H H' := fun a o i _ h => e a o i h
theorem ItAt.kt {H H' : Hp} {t : Itm} {x : V} (e : KT H H') (h : ItAt H t x) : ItAt H' t x := by
  cases t with
  | t z => exact h
  | r n => exact h.imp fun b ⟨h1, h2⟩ => ⟨h1, e _ _ rfl rfl h2⟩
theorem RowAt.kt {H H' : Hp} {a : Addr} {row : List Itm} (e : KT H H') (h : RowAt H a row) : RowAt H' a row := h.imp fun xs ⟨h1, h2, h3⟩ => ⟨e _ _ rfl rfl h1, h2, fun i x t a b => (h3 i x t a b).kt e⟩
theorem RowsN.kt {regs : List Str} {R : Str → List Itm} {H H' : Hp} {d : Addr} (e : KT H H') (h : RowsN regs R H d) : RowsN regs R H' d := h.imp fun kvs ⟨h1, h2, h3⟩ => ⟨e _ _ rfl rfl h1, h2, fun n v m => by
  obtain ⟨a, e1, e2⟩ := h3 n v m
  exact ⟨a, e1, e2.kt e⟩⟩
theorem PgD.kt {H H' : Hp} {g : Pg} {ra fa sa ea : Addr} (e : KT H H') (h : PgD H g ra fa sa ea) : PgD H' g ra fa sa ea where
  rS := e _ _ rfl rfl h.rS
  f := e _ _ rfl rfl h.f
  s := h.s.imp fun kvs ⟨a, b, c, d, f⟩ => ⟨e _ _ rfl rfl a, b, c, fun k v m => by
    obtain ⟨s, c, b, r, h1, h2, h3, h4, h5⟩ := d k v m
    exact ⟨s, c, b, r, h1, h2, h3, e _ _ rfl rfl h4, h5.kt e⟩, f⟩
  e := h.e.imp fun kvs ⟨a, b, c, d, f⟩ => ⟨e _ _ rfl rfl a, b, c, fun k v m => by
    obtain ⟨s, a, row, h1, h2, h3, h4⟩ := d k v m
    exact ⟨s, a, row, h1, h2, h3, h4.kt e⟩, f⟩
theorem TEx.at {H H' : Hp} {a : Addr} {o : HO} (e : LmK.TEx H H') (h : H a = some o) (t : isTb o = false) : H' a = some o := e a o h fun ps z => by
  subst z
  cases t
theorem PgAt.tex {C p : Addr} {H H' : Hp} {g : Pg} (e : LmK.TEx H H') (P : PgAt C H p g) : PgAt C H' p g := by
  obtain ⟨dp, fp, ra, fa, sa, ea, h1, h2, h3⟩ := P
  exact ⟨dp, fp, ra, fa, sa, ea, TEx.at e h1 rfl, h2, h3.kt (KT.tex e)⟩
theorem RnAt.tex {CR C x : Addr} {H H' : Hp} {g : Pg} {t : Str} (e : LmK.TEx H H') (R : RnAt CR C H x g t) : RnAt CR C H' x g t := by
  obtain ⟨dx, fs, p, l, h1, h2, h3, h4⟩ := R
  exact ⟨dx, fs, p, l, TEx.at e h1 rfl, h2, h3.tex e, TEx.at e h4 rfl⟩
section
variable {X Z : Cx} {pins : List (Addr × Obj)} {σ : L2.St} {H : Hp} {s : Shared} {scope : Scope} {f c' P' : Addr} {q a b z : Str} {params : Arguments} {body : Expr} {k i j : Nat} {E : XK} {tb : TE} {p1 p2 p3 : Pos}
/-- x(y), x a lambda with one parameter that X made at s; Z: the context of the def that got it -/
theorem pe_act1 (I : Inv X pins σ H s) (L : LmK.LamP X.env.scope scope [z]) (dis : z ∉ X.N) (hq : X.env.qual ++ "<lambda>" = q) (hf : LmK.FnL X H s.heap f c' q params body scope)
    (same : Z.prog = X.prog ∧ Z.w = X.w ∧ Z.K = X.K ∧ Z.mg = X.mg ∧ Z.base = X.base) (un : ∀ pinsZ σZ HZ sZ, Inv Z pinsZ σZ HZ sZ → Un (frs X.stack) [] H HZ s.heap sZ.heap) (calm : Z.A.handled = none) (hr : Room (k + 1) Z.A)
    (hbind : ∀ (q : Str) (cl : List (Str × Addr)) (pm cv ctv u : Value), bindArgs (PySem.W.kla_fn "<lambda>" q params body scope cl pm cv ctv) ⟨[u], []⟩ = pure [(z, u)]) (hx : Passes (L2.CX X.prog X.w) Z E)
    (hbody : ∀ (A : Around) (outer : List Env) (s : Shared) (H : Hp), Room k (A.deeper (LamX.lamEnv X scope s.heap.objs.size f c')) → PE (LmK.lmCx X A outer s H E scope f c' [z]) body tb)
    (h1 : PE Z (.Name a p1) (tVar i)) (h2 : PE Z (.Name b p3) (tVar j)) :
    PE Z (.Call (.Name a p1) [.Name b p3] [] p2) (fun σZ HZ Q => ∃ v, σZ[i]? = some (some (.ref f)) ∧ σZ[j]? = some (some v) ∧ HZ c' = some (LmK.Cd c' P' q) ∧ tb (σ ++ [some v]) HZ Q) := by
  refine ⟨fun pinsZ sZ σZ HZ Q IZ h => ?_⟩
  obtain ⟨v, hs1, hs2, hc, ht⟩ := h
  obtain ⟨⟨pm, ctv, hf1⟩, hf2, hf3⟩ := hf
  refine wpAny_Call_Name_kw (thn (h1.run pinsZ sZ σZ HZ (fun v H1 => v = .ref f ∧ H1 = HZ) IZ ⟨.ref f, hs1, rfl, rfl⟩) fun u s1 ⟨v0, H1, I1, r1, q1⟩ => ?_)
  obtain ⟨ev, eH⟩ := q1
  subst ev
  rw [eH] at I1
  obtain rfl : u = Value.ref f := r1
  have at_ : ∀ s2, Inv Z pinsZ σZ HZ s2 → s2.heap.get? f = some (PySem.W.kla_obj "<lambda>" q params body scope (cloFrom X.env.cells scope.names []) pm c' ctv) := fun s2 I2 => (un _ _ _ _ I2).keep f _ hf1 hf2 hf3 (by simp)
  refine PySem.W.callWith_F ⟨_, _, _, _, at_ s1 I1⟩ (thn ((pa_cons h2 pa_nil).run p2 pinsZ s1 σZ HZ (fun vs H2 => vs = [v] ∧ H2 = HZ) I1 ⟨v, hs2, rfl, rfl⟩) fun us s2 ⟨vs, H2, I2, r2, q2⟩ => ?_)
  obtain ⟨ev, eH2⟩ := q2
  subst ev
  rw [eH2] at I2
  refine ⟨⟨_, _, _, _, at_ s2 I2⟩, ?_⟩
  cases r2 with
  | cons ra rest =>
    cases rest with
    | nil => exact LmK.act_core (ps := [z]) (vs := [v]) I L (fun p hp => by rw [List.mem_singleton.mp hp]; exact dis) (by simp) hq hf1 hf2 hf3 same I2 (un _ _ _ _ I2) calm hr (hbind _ _ _ _ _ _) (.cons ra .nil) rfl hx hbody hc ht
/-- x() -/
theorem pe_act0 (I : Inv X pins σ H s) (L : LmK.LamP X.env.scope scope []) (hq : X.env.qual ++ "<lambda>" = q) (hf : LmK.FnL X H s.heap f c' q params body scope)
    (same : Z.prog = X.prog ∧ Z.w = X.w ∧ Z.K = X.K ∧ Z.mg = X.mg ∧ Z.base = X.base) (un : ∀ pinsZ σZ HZ sZ, Inv Z pinsZ σZ HZ sZ → Un (frs X.stack) [] H HZ s.heap sZ.heap) (calm : Z.A.handled = none) (hr : Room (k + 1) Z.A)
    (hbind : ∀ (q : Str) (cl : List (Str × Addr)) (pm cv ctv : Value), bindArgs (PySem.W.kla_fn "<lambda>" q params body scope cl pm cv ctv) ⟨[], []⟩ = pure []) (hx : Passes (L2.CX X.prog X.w) Z E)
    (hbody : ∀ (A : Around) (outer : List Env) (s : Shared) (H : Hp), Room k (A.deeper (LamX.lamEnv X scope s.heap.objs.size f c')) → PE (LmK.lmCx X A outer s H E scope f c' []) body tb)
    (h1 : PE Z (.Name a p1) (tVar i)) :
    PE Z (.Call (.Name a p1) [] [] p2) (fun σZ HZ Q => σZ[i]? = some (some (.ref f)) ∧ HZ c' = some (LmK.Cd c' P' q) ∧ tb σ HZ Q) := by
  refine ⟨fun pinsZ sZ σZ HZ Q IZ h => ?_⟩
  obtain ⟨hs1, hc, ht⟩ := h
  obtain ⟨⟨pm, ctv, hf1⟩, hf2, hf3⟩ := hf
  refine wpAny_Call_Name_kw (thn (h1.run pinsZ sZ σZ HZ (fun v H1 => v = .ref f ∧ H1 = HZ) IZ ⟨.ref f, hs1, rfl, rfl⟩) fun u s1 ⟨v0, H1, I1, r1, q1⟩ => ?_)
  obtain ⟨ev, eH⟩ := q1
  subst ev
  rw [eH] at I1
  obtain rfl : u = Value.ref f := r1
  refine PySem.W.callWith_F0 ⟨_, _, _, _, (un _ _ _ _ I1).keep f _ hf1 hf2 hf3 (by simp)⟩ ?_
  exact LmK.act_core (ps := []) (vs := []) (us := []) I L (fun p hp => by cases hp) (by simp) hq hf1 hf2 hf3 same I1 (un _ _ _ _ I1) calm hr (hbind _ _ _ _ _) .nil rfl hx hbody hc (by rw [List.map_nil, List.append_nil]; exact ht)
end
end KX
end
section
set_option Elab.async false
set_option linter.all false
set_option maxRecDepth 100000
set_option maxHeartbeats 8000000
/-! Rn11: o.attempt(lambda same: ..). -/
namespace KX
open PySem PySem.Spec PyProof.Rows L2 Evl ClX

/-- .. as a thing of its own -/
structure LamW (X : Cx) (G : Hp → Prop) (q : Str) (G' : Hp → Addr → Prop) : Prop where
  h : LmK.LamAt X G q G'
/-- the method attempt, by its text -/
structure AttM (K : PySem.W.Frag) (CR : Addr) (g0 : Addr) (fd : FuncData) : Prop where
  cl : Cls K CR
  me : Meth K CR "attempt" g0
  F : FunD K "attempt" "Run.attempt" s_Run_attempt g0 fd
  b : Binds K fd ["self", "work"] []
/-- what is asked where o.attempt(lambda z: body) stands -/
def tAtt (CR C CT : Addr) (G : Hp → Prop) (G' : Hp → Addr → Prop) (q : Str) (tb : XK → TE) (E : XK) (to : TE) : TE := fun σ H Q => to σ H fun ox H0 => ∃ x g t, ox = .ref x ∧ G H0 ∧ RnAt CR C H0 x g t ∧
  ∀ H1 c' P', LmK.TEx H0 H1 → G H1 → G' H1 c' → H1 c' = some (LmK.Cd c' P' q) → TAtt CR C CT x g t (fun Ech v HZ Q' => HZ c' = some (LmK.Cd c' P' q) ∧ tb Ech (σ ++ [some v]) HZ Q') H1 Q E
section
variable {X : Cx} {scope : Scope} {g0 : Addr} {fd : FuncData} {q z : Str} {params : Arguments} {body o : Expr} {k : Nat} {E : XK} {W : WX} {tb : XK → TE} {to : TE} {CR C CT CS : Addr} {G : Hp → Prop} {G' : Hp → Addr → Prop} {pos apos lpos : Pos} {pl : Sem Bool}
theorem pe_att (D : AttD X.prog X.w X.K X.mg X.base CR CT CS) (M : AttM X.K CR g0 fd) (LA : LamW X G q G') (L : LmK.LamP X.env.scope scope [z]) (dis : z ∉ X.N) (hq : X.env.qual ++ "<lambda>" = q) (hdef : defaultsOf params X.env = ([], []))
    (hbind : ∀ (q : Str) (cl : List (Str × Addr)) (pm cv ctv u : Value), bindArgs (PySem.W.kla_fn "<lambda>" q params body scope cl pm cv ctv) ⟨[u], []⟩ = pure [(z, u)]) (hr : Room (k + 4) X.A) (tk : L2.Takes X W) (hW : ∀ cls d σ H, E cls d H → W cls d σ H)
    (hbody : ∀ (Ech : XK) (A : Around) (outer : List Env) (s : Shared) (H : Hp) (f c' L : Addr), Room (k + 2) (A.deeper (LamX.lamEnv X scope L f c')) → L = s.heap.objs.size → PE (LmK.lmCx X A outer s H Ech scope f c' [z]) body (tb Ech))
    (ho : PE X o to)
    (ht : eval (.Call (.Attribute o "attempt" apos) [.Lambda params body scope lpos] [] pos) X.env = (do
      let ov ← eval o X.env
      standAt apos.atName
      let (f, first) ← holding [ov] (getMethod ov "attempt" pl)
      callWith pos f first (backTo pos (starEach [.Lambda params body scope lpos] X.env)) (backToKw pos (keywordEach [] X.env))) := by rfl) :
    PE X (.Call (.Attribute o "attempt" apos) [.Lambda params body scope lpos] [] pos) (tAtt CR C CT G G' q tb E to) := by
  refine ⟨fun pins s σ H Q I h => ?_⟩
  refine PySem.W.methodCall_KW (pl := pl) (thn (ho.run pins s σ H _ I h) fun u s1 ⟨x0, H1, I1, rx, x, g, t, ex, hG, R, go⟩ => ?_) ht
  subst ex
  obtain rfl : u = Value.ref x := rx
  obtain ⟨dx, fs, p, l, hx, RF, _, _⟩ := id R
  refine getmeth_ok I1 hx M.cl M.me (RF.o.no (by decide +kernel)) ?_
  refine PySem.W.callWith_K (first := [.ref x]) (h₀ := X.base) I1.ok.mod.kin M.me.kp ?_ (by rfl) (by rfl)
  show wpAny _ _ (spliced ((false, eval (.Lambda params body scope lpos) X.env) :: backTo pos (starEach [] X.env))) _ _ s1
  refine Calls.spliced_cons (LA.h I1 hG hdef (L.has I1.ok) fun f c' P' H2 s2 I2 te g2 g2' hc F => ?_)
  refine Calls.spliced_nil ⟨I2.kIn, ?_⟩
  obtain ⟨oc, od, dV, kV, doc, pm, an, cdv, ct, osl, efd, lk, hcd⟩ := M.F.ex
  have hb := M.b
  subst efd
  have rc : codeAny (model X.prog X.w) X.A (.call (.ref g0) ⟨[.ref x, .ref f], []⟩) (L2.CR (L2.CX X.prog X.w) X.stack X.prog X.w H2 s2 Q E) s2 := by
    refine LamX.run_ofS (N := n_Run_attempt) (ps := ["self", "work"]) (us := [.ref x, .ref f]) (vs := [.ref x, .ref f]) lk hcd sc_Run_attempt hr I2.env0 (hb s2 [.ref x, .ref f] I2.kIn rfl) (.cons rfl (.cons rfl .nil)) rfl fun hr' => ?_
    refine att_body (C := C) (CR := CR) (CT := CT) (CS := CS) (tl := fun Ech v HZ Q' => HZ c' = some (LmK.Cd c' P' q) ∧ tb Ech (σ ++ [some v]) HZ Q') D (hr'.mono (by omega)) (fun W' pn xe Ech p1 p2 p3 tk' hW' => ?_) (go H2 c' P' te g2 g2' hc)
    exact (pe_act1 (P' := P') (tb := tb Ech) (E := Ech) (i := 1) (j := 2) (k := k + 2) I2 L dis hq F ⟨rfl, rfl, rfl, rfl, rfl⟩ (fun _ _ _ _ IZ => IZ.base) hr'.hd hr' hbind (L2.passes_call tk' hW') (fun A outer s H hr2 => hbody Ech A outer s H f c' _ hr2 rfl) (pv 1) (pv 2))
  refine wpAny_call (codeAny_mono rc fun r s3 hq => ?_)
  cases r with
  | error e => exact (L2.passes_call tk hW) pins σ H2 s2 e s3 I2 hq
  | ok fl =>
    cases fl with
    | ret u => exact I2.after hq
    | next => exact False.elim hq
    | brk => exact False.elim hq
    | cont => exact False.elim hq
end
end KX
end
section
set_option Elab.async false
set_option linter.all false
set_option maxRecDepth 100000
set_option maxHeartbeats 4000000
/-! Rn12: try with several clauses, some of them with a name. -/
namespace KX
open PySem PySem.Spec PyProof.Rows PySem.Calls L2

section
variable {X : Cx} {pins : List (Addr × Obj)} {σ : L2.St} {H : Hp} {a : Addr} {B : Heap} {sI s : Shared} {cls : Value} {d : Option Addr} {D : Ends}
/-- an error at a has come into the frame of X -/
structure Cau (X : Cx) (pins : List (Addr × Obj)) (σ : L2.St) (H : Hp) (a : Addr) (B : Heap) (sI s : Shared) (cls : Value) (d : Option Addr) : Prop where
  inv : Inv X pins σ H sI
  nb : ∀ c o, sI.heap.get? c = some o → c ∉ frs X.stack → B.get? c = some o
  up : sI.heap.UpToSlots s.heap
  fly : HandSPX.FlyingZ B X.stack a (Zc cls d) s.heap
  na : H a = none
  os : s.os = sI.os
  bare : AllBare s.gens
theorem Cau.here (c : Cau X pins σ H a B sI s cls d) : Inv X pins σ H s := c.inv.landed c.nb c.fly.1 c.up c.os c.bare
theorem Cau.moved {h : Heap} (c : Cau X pins σ H a B sI s cls d) (f : HandSPX.FlyingZ B X.stack a (Zc cls d) h) (u : s.heap.UpToSlots h) : Cau X pins σ H a B sI { s with heap := h } cls d := ⟨c.inv, c.nb, c.up.trans u, f, c.na, c.os, c.bare⟩
theorem Cau.within (c : Cau X pins σ H a B sI s cls d) (hs : X.stack = X.env :: X.outer) (hf : X.env.frame = some X.env.locals) :
    ∃ oe, Zc cls d oe ∧ (∃ vs, oe.data = .fields vs) ∧ s.heap.get? a = some oe ∧ Inv (X.suite a ((a, oe) :: (X.pn ++ pins))) [] σ H s := by
  obtain ⟨oe, vs, e1, e2, e3⟩ := c.fly.there
  have out : a ∉ frs X.stack := fun m => by
    obtain ⟨_, o2, e4, no⟩ := c.fly.2.2.1.mem m
    rw [e1] at e4
    cases e4
    exact no _ e3
  rw [hs] at out
  have n1 : a ≠ X.env.locals := fun z => out (List.mem_filterMap.mpr ⟨_, List.mem_cons_self, hf.trans (congrArg some z.symm)⟩)
  have n2 : a ∉ X.fs := fun m => by
    obtain ⟨y, m1, m2⟩ := List.mem_filterMap.mp m
    exact out (List.mem_filterMap.mpr ⟨y, List.mem_cons_of_mem _ m1, m2⟩)
  exact ⟨oe, e2, ⟨vs, e3⟩, e1, c.here.suite e1 e3 c.na n1 n2⟩
/-- no clause is left: the error flies on -/
theorem Cau.pass {W : WX} (c : Cau X pins σ H a B sI s cls d) (hs : X.stack = X.env :: X.outer) (hf : X.env.frame = some X.env.locals) (tk : L2.Takes X W) (w : W cls d σ H) : wpAny (model X.prog X.w) X.A (handleBy (.ref a) X.env []) (SP X pins D) X.xe s := by
  refine wpAny_handleBy_nil ?_
  obtain ⟨_, _, _, _, _, tb, _, _, g1, _, g3, g4, _⟩ := id c.fly
  have off : wpAny (model X.prog X.w) X.A (setFlight (.ref a) X.env.frame) (fun _ t => wpAny (model X.prog X.w) X.A (throw (.ref a) : Sem Flow) (SP X pins D) X.xe t) X.xe s := by
    rw [hf]
    exact HandSPX.setFlight_upZ c.fly fun h hh u => wpAny_throw (tk _ _ ⟨a, B, sI, pins, σ, H, cls, d, rfl, c.inv, c.nb, c.up.trans u, .inr (.inr hh), c.na, c.os, c.bare, w⟩)
  unfold PySem.passOn
  refine wpAny_bind (wpAny_field g1 g3 g4 ?_)
  rw [if_neg (by simp : ¬ ((Value.ref tb == Value.none) = true))]
  first
    | exact wpAny_bind (wpAny_pure (wpAny_bind off))
    | exact wpAny_bind off
/-- what a clause wishes: with a name (slot i), or without -/
def wCl (K : PySem.W.Frag) (m : Nat) (c : Value) (i : Option Nat) (ts : Addr → Value → Option Addr → TS) (next : WX) (D : Ends) : WX := fun cls d σ H =>
  ∃ b, PySem.W.exmOne K cls c = some b ∧ (b = true → σ.length = m → ∀ a, H a = none → match i with
    | none => ts a cls d D σ H
    | some i => ts a cls d { nx := fun σ' H' => D.nx (σ'.set i none) H', rt := D.rt, bk := fun σ' H' => D.bk (σ'.set i none) H', ct := fun σ' H' => D.ct (σ'.set i none) H' } (σ.set i (some (.ref a))) H) ∧ (b = false → next cls d σ H)
section
variable {x n : Str} {c : Value} {i : Nat} {suite : List Stmt} {b0 : Stmt} {np pos' : Pos} {hds : List ExceptHandler} {ts : Addr → Value → Option Addr → TS} {next : WX}
/-- the clause's class is asked -/
theorem Cau.name {Q E : Value → Shared → Prop} (u : Cau X pins σ H a B sI s cls d) (hs : X.stack = X.env :: X.outer) (hf : X.env.frame = some X.env.locals) (hc : Names X x c) (q : Q c s) :
    wpAny (model X.prog X.w) (X.A.mark (some (.ref a))) (eval (.Name x np) X.env) Q E s := by
  obtain ⟨oe, _, _, _, S⟩ := u.within hs hf
  rcases hc with ⟨g1, g2, g | ⟨g, g3, g4⟩⟩
  · exact ld_glob S g1 g q g2
  · exact ld_blt S g1 g g3 q g4 g2
theorem Cau.isOf {b : Bool} (u : Cau X pins σ H a B sI s cls d) (e : PySem.W.exmOne X.K cls c = some b) : PySem.W.Looks (model X.prog X.w) s.heap (excMatches (.ref a) c) b := by
  obtain ⟨oe, vs, e1, e2, e3⟩ := u.fly.there
  refine PySem.W.exm_one u.here.kIn (fun A Q E t k q => ?_) e
  refine wpAny_typeOf_ref (k _ _ e1) ?_
  rw [e2.1]
  exact q
/-- a clause with a name -/
theorem Cau.clause (u : Cau X pins σ H a B sI s cls d) (hs : X.stack = X.env :: X.outer) (hf : X.env.frame = some X.env.locals) (hN : X.N.Nodup) (hi : X.N[i]? = some n) (hln : X.env.kindOf n = some .local) (hc : Names X x c)
    (hsu : ∀ (a : Addr) (oe : Obj) (cls : Value) (d : Option Addr) (pn : List (Addr × Obj)), Zc cls d oe → (∃ vs, oe.data = .fields vs) → PSs (X.suite a ((a, oe) :: pn)) (b0 :: suite) (ts a cls d)) (w : wCl X.K X.N.length c (some i) ts next D cls d σ H)
    (rest : next cls d σ H → wpAny (model X.prog X.w) X.A (handleBy (.ref a) X.env hds) (SP X pins D) X.xe s) :
    wpAny (model X.prog X.w) X.A (handleBy (.ref a) X.env (.ExceptHandler (some (.Name x np)) (some n) (b0 :: suite) pos' :: hds)) (SP X pins D) X.xe s := by
  obtain ⟨b, e, yes, no⟩ := w
  have ok := u.inv.ok
  refine wpAny_handleBy_cons (codeAny_handlers_test (u.name hs hf hc ((u.isOf e).here ?_))) (fun z => by cases z)
  cases b with
  | false => exact rest (no rfl)
  | true =>
    refine codeAny_handlers_suite_as (HandSPX.lands_againZ u.fly fun h4 f4 u4 => ?_)
    obtain ⟨oe, z, dt, _, S⟩ := (u.moved f4 u4).within hs hf
    refine store_ok (X := X.suite a ((a, oe) :: (X.pn ++ pins))) (v := .ref a) S hN hi (.inl hln) rfl (fun s5 S5 => ?_) (.inr hln)
    have out : ∀ {σ6 : L2.St} {H6 : Hp} {s6 : Shared} {Q : Shared → Prop}, Inv (X.suite a ((a, oe) :: (X.pn ++ pins))) [] σ6 H6 s6 → (∀ s7, Inv X pins (σ6.set i none) H6 s7 → Q s7) →
        wpAny (model X.prog X.w) X.A (do bindName X.env n .none; unbindBehindTheSuite X.env n pos') (fun _ t => Q t) X.xe s6 := fun S6 go => gone_ok (S6.unsuite ok) hN hi hln go
    refine wpAny_mono ((hsu a oe cls d (X.pn ++ pins) z dt).run [] s5 _ H _ S5 (yes rfl u.inv.len a u.na)) (fun f s6 r => ?_) (fun _ _ r => r.elim)
    cases f with
    | ret v =>
      obtain ⟨v6, σ6, H6, S6, rv, r⟩ := r
      exact out S6 fun _ J => ⟨v6, _, H6, J, rv, r⟩
    | next =>
      obtain ⟨σ6, H6, S6, r⟩ := r
      exact out S6 fun _ J => ⟨_, H6, J, r⟩
    | brk =>
      obtain ⟨σ6, H6, S6, r⟩ := r
      exact out S6 fun _ J => ⟨_, H6, J, r⟩
    | cont =>
      obtain ⟨σ6, H6, S6, r⟩ := r
      exact out S6 fun _ J => ⟨_, H6, J, r⟩
/-- .. without one -/
theorem Cau.clause0 (u : Cau X pins σ H a B sI s cls d) (hs : X.stack = X.env :: X.outer) (hf : X.env.frame = some X.env.locals) (hc : Names X x c)
    (hsu : ∀ (a : Addr) (oe : Obj) (cls : Value) (d : Option Addr) (pn : List (Addr × Obj)), Zc cls d oe → (∃ vs, oe.data = .fields vs) → PSs (X.suite a ((a, oe) :: pn)) (b0 :: suite) (ts a cls d)) (w : wCl X.K X.N.length c none ts next D cls d σ H)
    (rest : next cls d σ H → wpAny (model X.prog X.w) X.A (handleBy (.ref a) X.env hds) (SP X pins D) X.xe s) :
    wpAny (model X.prog X.w) X.A (handleBy (.ref a) X.env (.ExceptHandler (some (.Name x np)) none (b0 :: suite) pos' :: hds)) (SP X pins D) X.xe s := by
  obtain ⟨b, e, yes, no⟩ := w
  have ok := u.inv.ok
  refine wpAny_handleBy_cons (codeAny_handlers_test (u.name hs hf hc ((u.isOf e).here ?_))) (fun z => by cases z)
  cases b with
  | false => exact rest (no rfl)
  | true =>
    refine codeAny_handlers_suite (HandSPX.lands_againZ u.fly fun h4 f4 u4 => ?_)
    obtain ⟨oe, z, dt, _, S⟩ := (u.moved f4 u4).within hs hf
    refine wpAny_mono ((hsu a oe cls d (X.pn ++ pins) z dt).run [] _ _ H _ S (yes rfl u.inv.len a u.na)) (fun f s6 r => ?_) (fun _ _ r => r.elim)
    cases f with
    | ret v =>
      obtain ⟨v6, σ6, H6, S6, rv, r⟩ := r
      exact ⟨v6, σ6, H6, S6.unsuite ok, rv, r⟩
    | next =>
      obtain ⟨σ6, H6, S6, r⟩ := r
      exact ⟨σ6, H6, S6.unsuite ok, r⟩
    | brk =>
      obtain ⟨σ6, H6, S6, r⟩ := r
      exact ⟨σ6, H6, S6.unsuite ok, r⟩
    | cont =>
      obtain ⟨σ6, H6, S6, r⟩ := r
      exact ⟨σ6, H6, S6.unsuite ok, r⟩
end
/-- try: body / clauses; hh: what the clauses do with what comes in -/
theorem ps_try_mix {body : List Stmt} {h0 : ExceptHandler} {hds : List ExceptHandler} {pos : Pos} {tb : WX → TS} {wt : Ends → WX} (hs : X.stack = X.env :: X.outer) (hf : X.env.frame = some X.env.locals)
    (hb : ∀ (W : WX) (pn : List (Addr × Obj)) (xe : Value → Shared → Prop), L2.Takes (X.tr pn xe) W → PassesOwn (model X.prog X.w) X.A X.env xe → PSs (X.tr pn xe) body (tb W))
    (hh : ∀ {pins σ H a B sI s cls d D}, Cau X pins σ H a B sI s cls d → wt D cls d σ H → wpAny (model X.prog X.w) X.A (handleBy (.ref a) X.env (h0 :: hds)) (SP X pins D) X.xe s) :
    PS X (.Try body (h0 :: hds) [] [] pos) (fun D σ H => tb (wt D) D σ H) := by
  refine ⟨fun pins s σ H D I h => wpAny_Try_except ?_⟩
  have ok := I.ok
  have fr : X.A.frames = some (X.env :: X.outer) := ok.frames.trans (congrArg some hs)
  refine wpAny_mono ((hb (wt D) (X.pn ++ pins) (fun e s1 => wpAny (model X.prog X.w) X.A (noteFrame e X.env) (fun _ s2 => wpAny (model X.prog X.w) X.A (setFlight e none)
    (fun _ s3 => wpAny (model X.prog X.w) X.A (handleBy e X.env (h0 :: hds)) (SP X pins D) X.xe s3) X.xe s2) X.xe s1) (fun u t x => ?_) PassesOwn.looking).run [] s σ H D (I.toTry _) h) (fun f s1 r => ?_) (fun _ _ z => z)
  · obtain ⟨a, B, sI, p2, σ2, H2, cls, d, rfl, J, nb, up, sky, na, os, bare, w⟩ := x
    refine Sky.land Zc.steady fr hf (by rw [← hs]; exact sky) fun h3 f3 u3 => ?_
    exact hh ⟨J.ofTry ok, nb, up.trans u3, by rw [hs]; exact f3, na, os, bare⟩ w
  · cases f with
    | ret v =>
      obtain ⟨v1, σ1, H1, J, rv, r⟩ := r
      exact ⟨v1, σ1, H1, J.ofTry ok, rv, r⟩
    | next =>
      obtain ⟨σ1, H1, J, r⟩ := r
      exact wpAny_execs_nil ⟨σ1, H1, J.ofTry ok, r⟩
    | brk =>
      obtain ⟨σ1, H1, J, r⟩ := r
      exact ⟨σ1, H1, J.ofTry ok, r⟩
    | cont =>
      obtain ⟨σ1, H1, J, r⟩ := r
      exact ⟨σ1, H1, J.ofTry ok, r⟩
end
end KX
end
section
set_option Elab.async false
set_option linter.all false
set_option maxRecDepth 100000
set_option maxHeartbeats 8000000
/-! Rn13: _law_tried(lambda: ..), _law_fails. -/
namespace KX
open PySem PySem.Spec PyProof.Rows L2 Evl ClX

/-- what the three errors are: CB that of words, CN of numbers, CT of what is not done -/
structure TrdC (K : PySem.W.Frag) (mg : Str → Option Value) (CB CN CT : Addr) : Prop where
  gB : mg "BadWord" = some (.ref CB)
  gN : mg "BadNumber" = some (.ref CN)
  gT : mg "NothingDone" = some (.ref CT)
  bb : PySem.W.exmOne K (.ref CB) (.ref CB) = some true
  tb : PySem.W.exmOne K (.ref CT) (.ref CB) = some false
  nb : PySem.W.exmOne K (.ref CN) (.ref CB) = some false
  tt : PySem.W.exmOne K (.ref CT) (.ref CT) = some true
  nt : PySem.W.exmOne K (.ref CN) (.ref CT) = some false
  nn : PySem.W.exmOne K (.ref CN) (.ref CN) = some true
  xf : XfC K CB
  no : PySem.W.findIn K (.ref CB) "place" = some none
/-- what is made of an error -/
def TrdE (CB CN CT : Addr) (Q : VK) : XK := fun cls d H =>
  (cls = .ref CB ∧ ∃ dd fs v, d = some dd ∧ H dd = some (.xd fs) ∧ fs.lookup ("place" : Str) = some v ∧ ∀ p H2, H p = none → Ex H H2 → H2 p = some (.tup [.str "word", v]) → Q (.ref p) H2) ∨
  (cls = .ref CT ∧ ∀ H2, Ex H H2 → Q (.str "nothing") H2) ∨ (cls = .ref CN ∧ ∀ H2, Ex H H2 → Q (.str "number") H2)
/-- what is asked where _law_tried(lambda: body) stands -/
def tTrd (CB CN CT : Addr) (G : Hp → Prop) (G' : Hp → Addr → Prop) (q : Str) (tb : XK → Addr → TE) : TE := fun σ H Q => G H ∧ ∀ H1 c' P', LmK.TEx H H1 → G H1 → G' H1 c' → H1 c' = some (LmK.Cd c' P' q) → tb (TrdE CB CN CT Q) c' σ H1 Q
theorem tried_body {P : Program} {w : World} {K : PySem.W.Frag} {mg : Str → Option Value} {base : Heap} {CB CN CT g0 fl c' P' : Addr} {q : Str} {cdv : Value} {A : Around} {outer : List Env} {s : Shared} {H : Hp} {E : XK} {Q : VK} {tl : XK → Hp → VK → Prop} (T : TrdC K mg CB CN CT)
    (act : ∀ (W : WX) (pn : List (Addr × Obj)) (xe : Value → Shared → Prop) (Ech : XK) (p1 p2 : Pos), L2.Takes ((cxOf (L2.CX P w) P w K mg base n_law_tried "_law_tried" (defScope s_law_tried) g0 cdv A outer s H E).tr pn xe) W → (∀ cls d σ' H', Ech cls d H' → W cls d σ' H') →
      PE ((cxOf (L2.CX P w) P w K mg base n_law_tried "_law_tried" (defScope s_law_tried) g0 cdv A outer s H E).tr pn xe) (.Call (.Name "work" p1) [] [] p2) (fun σZ HZ Q => σZ[0]? = some (some (.ref fl)) ∧ HZ c' = some (LmK.Cd c' P' q) ∧ tl Ech HZ Q))
    (hc : H c' = some (LmK.Cd c' P' q)) (h : tl (TrdE CB CN CT Q) H Q) :
    ∃ tt, PSs (cxOf (L2.CX P w) P w K mg base n_law_tried "_law_tried" (defScope s_law_tried) g0 cdv A outer s H E) (defBody s_law_tried) tt ∧ tt { nx := fun _ H' => Q .non H', rt := Q } (L2.start n_law_tried [.ref fl]) H := by
  refine ⟨_, pss_one (ps_try_mix (X := cxOf (L2.CX P w) P w K mg base n_law_tried "_law_tried" (defScope s_law_tried) g0 cdv A outer s H E)
    (wt := fun D => wCl K 2 (.ref CB) (some 1) (fun a cls d => tRet (tTup (tCons (tC (.str "word")) (tCons (tXf a cls d CB "place" (tVar 1)) tNil)))) (wCl K 2 (.ref CT) none (fun _ _ _ => tRet (tC (.str "nothing"))) (wCl K 2 (.ref CN) none (fun _ _ _ => tRet (tC (.str "number"))) (fun cls d _ H => E cls d H) D) D) D)
    (tb := fun W D σ H => ∃ Ech : XK, (∀ cls d σ' H', Ech cls d H' → W cls d σ' H') ∧ σ[0]? = some (some (.ref fl)) ∧ H c' = some (LmK.Cd c' P' q) ∧ tl Ech H D.rt) rfl rfl (fun W pn xe tk _ => ?_) (fun {pins σ H a B sI s cls d D} u w => ?_)), ?_⟩
  · refine ⟨fun pins s' σ H' D I h' => ?_⟩
    obtain ⟨Ech, hW, h1, h2, h3⟩ := h'
    exact (pss_one (ps_ret (act W pn xe Ech _ _ tk hW))).run pins s' σ H' D I ⟨h1, h2, h3⟩
  · refine u.clause rfl rfl sc_law_tried.nd rfl rfl ⟨rfl, by decide, .inl T.gB⟩ (fun a oe cls d pn z f => ?_) w fun w => ?_
    · exact pss_one (ps_ret (pe_tup (pa_cons pe_str (pa_cons (pe_xf T.xf T.no z f (pv 1)) pa_nil))))
    refine u.clause0 rfl rfl ⟨rfl, by decide, .inl T.gT⟩ (fun a oe cls d pn z f => ?_) w fun w => ?_
    · exact pss_one (ps_ret pe_str)
    refine u.clause0 rfl rfl ⟨rfl, by decide, .inl T.gN⟩ (fun a oe cls d pn z f => ?_) w fun w => ?_
    · exact pss_one (ps_ret pe_str)
    exact u.pass rfl rfl (takes_of rfl rfl rfl rfl) w
  · have sub : ∀ cls d σ' H', TrdE CB CN CT Q cls d H' → wCl K 2 (.ref CB) (some 1) (fun a cls d => tRet (tTup (tCons (tC (.str "word")) (tCons (tXf a cls d CB "place" (tVar 1)) tNil)))) (wCl K 2 (.ref CT) none (fun _ _ _ => tRet (tC (.str "nothing"))) (wCl K 2 (.ref CN) none (fun _ _ _ => tRet (tC (.str "number"))) (fun cls d _ H => E cls d H) { nx := fun _ H' => Q .non H', rt := Q }) { nx := fun _ H' => Q .non H', rt := Q }) { nx := fun _ H' => Q .non H', rt := Q } cls d σ' H' := by
      intro cls d σ' H' h
      rcases h with ⟨rfl, dd, fs, v, rfl, hd, hl, k⟩ | ⟨rfl, k⟩ | ⟨rfl, k⟩
      · refine ⟨true, T.bb, fun _ hm a ha => ?_, fun z => by cases z⟩
        match σ', hm with
        | [x0, x1], _ =>
          show tRet _ _ [x0, some (.ref a)] H'
          exact s_retU (eu_tup (ea_cons ev_c (ea_cons (fun H1 e Q q => (ev_var (i := 1) rfl) H1 e _ fun H2 e2 => ⟨rfl, rfl, dd, fs, v, rfl, (e.trans e2) _ _ hd, hl, q H2 e2⟩) ea_nil)) (by show 2 ≤ 100000; decide)) fun p H1 hp e h1 => k p H1 hp e h1
      · exact ⟨false, T.tb, (fun z => by cases z), fun _ => ⟨true, T.tt, (fun _ _ a ha => k H' (Ex.refl H')), fun z => by cases z⟩⟩
      · exact ⟨false, T.nb, (fun z => by cases z), fun _ => ⟨false, T.nt, (fun z => by cases z), fun _ => ⟨true, T.nn, (fun _ _ a ha => k H' (Ex.refl H')), fun z => by cases z⟩⟩⟩
    exact ⟨TrdE CB CN CT Q, sub, rfl, hc, h⟩
end KX
end
section
set_option Elab.async false
set_option linter.all false
set_option maxRecDepth 100000
set_option maxHeartbeats 8000000
/-! Rn14: _law_tried(lambda: ..) where it stands; _law_fails. -/
namespace KX
open PySem PySem.Spec PyProof.Rows L2 Evl ClX

section
variable {X : Cx} {scope : Scope} {g0 : Addr} {fd : FuncData} {q : Str} {params : Arguments} {body : Expr} {k : Nat} {E : XK} {W : WX} {tb : XK → Addr → TE} {CB CN CT : Addr} {G : Hp → Prop} {G' : Hp → Addr → Prop} {p pos lpos : Pos}
theorem pe_tried (T : TrdC X.K X.mg CB CN CT) (F : FunD X.K "_law_tried" "_law_tried" s_law_tried g0 fd) (gm : X.mg "_law_tried" = some (.ref g0)) (hb : Binds X.K fd ["work"] []) (LA : LamW X G q G') (L : LmK.LamP X.env.scope scope []) (hq : X.env.qual ++ "<lambda>" = q) (hdef : defaultsOf params X.env = ([], []))
    (hbind : ∀ (q : Str) (cl : List (Str × Addr)) (pm cv ctv : Value), bindArgs (PySem.W.kla_fn "<lambda>" q params body scope cl pm cv ctv) ⟨[], []⟩ = pure []) (hr : Room (k + 2) X.A)
    (hbody : ∀ (Ech : XK) (A : Around) (outer : List Env) (s : Shared) (H : Hp) (f c' L : Addr), Room k (A.deeper (LamX.lamEnv X scope L f c')) → L = s.heap.objs.size → PE (LmK.lmCx X A outer s H Ech scope f c' []) body (tb Ech c'))
    (hg : Gl X "_law_tried") :
    PE X (.Call (.Name "_law_tried" p) [.Lambda params body scope lpos] [] pos) (tTrd CB CN CT G G' q tb) := by
  refine ⟨fun pins s σ H Q I h => ?_⟩
  obtain ⟨hG, go⟩ := h
  refine wpAny_Call_Name_kw (ld_glob I hg gm ?_)
  refine PySem.W.callWith_K (h₀ := X.base) I.ok.mod.kin F.kp ?_ (by rfl) (by rfl)
  show wpAny _ _ (spliced ((false, eval (.Lambda params body scope lpos) X.env) :: backTo pos (starEach [] X.env))) _ _ s
  refine Calls.spliced_cons (LA.h I hG hdef (L.has I.ok) fun f c' P' H2 s2 I2 te g2 g2' hc Fn => ?_)
  refine Calls.spliced_nil ⟨I2.kIn, ?_⟩
  obtain ⟨oc, od, dV, kV, doc, pm, an, cdv, ct, osl, efd, lk, hcd⟩ := F.ex
  subst efd
  have rc : codeAny (model X.prog X.w) X.A (.call (.ref g0) ⟨[.ref f], []⟩) (L2.CR (L2.CX X.prog X.w) X.stack X.prog X.w H2 s2 Q E0) s2 := by
    refine LamX.run_ofS (N := n_law_tried) (ps := ["work"]) (us := [.ref f]) (vs := [.ref f]) lk hcd sc_law_tried hr I2.env0 (hb s2 [.ref f] I2.kIn rfl) (.cons rfl .nil) rfl fun hr' => ?_
    refine tried_body (CB := CB) (CN := CN) (CT := CT) (q := q) (P' := P') (tl := fun Ech HZ Q' => tb Ech c' σ HZ Q') T (fun W' pn xe Ech p1 p2 tk' hW' => ?_) hc (go H2 c' P' te g2 g2' hc)
    exact pe_act0 (P' := P') (tb := tb Ech c') (E := Ech) (i := 0) (k := k) I2 L hq Fn ⟨rfl, rfl, rfl, rfl, rfl⟩ (fun _ _ _ _ IZ => IZ.base) hr'.hd hr' hbind (L2.passes_call tk' hW') (fun A outer s H hr2 => hbody Ech A outer s H f c' _ hr2 rfl) (pv 0)
  refine wpAny_call (codeAny_mono rc fun r s3 hq => ?_)
  cases r with
  | error e =>
    obtain ⟨_, _, _, _, _, _, _, _, _, _, _, _, z⟩ := (show L2.CX X.prog X.w X.stack H2 s2 E0 e s3 from hq)
    exact (show False from z).elim
  | ok fl =>
    cases fl with
    | ret u => exact I2.after hq
    | next => exact False.elim hq
    | brk => exact False.elim hq
    | cont => exact False.elim hq
end
def sp_law_fails (CR C CB : Addr) : Sp := fun vs H Q E => ∃ (x : Addr) (g : Pg) (t u : Str), vs = [.ref x, .str u] ∧ RnAt CR C H x g t ∧ GoOk g ∧ (∀ c ∈ cds t, c ∈ cds g.L) ∧ (∀ c ∈ cds u, c ∈ cds g.L) ∧ t.length + u.length ≤ 1000 ∧ 63 ∉ cds g.L ∧
  ∀ d H', ExB x H H' → RnAt CR C H' x g (t ++ u) → H' d = some (.xd [("place", .int 0)]) → E (.ref CB) (some d) H'
theorem ok_law_fails {P : Program} {w : World} {K : PySem.W.Frag} {mg : Str → Option Value} {base : Heap} {C CR CB : Addr} {f fr : Addr} {fd fdr : FuncData} (F : Fun K "_law_fails" "_law_fails" s_law_fails f fd) (R : HasMX P w K mg base CR "read" 4 fr fdr ["self", "text"] (sp_Run_read CR C CB)) :
    FnOk P w K mg base (L2.CX P w) 5 f fd ["run", "text"] (sp_law_fails CR C CB) := by
  refine F.okX sc_law_fails (fun vs H Q E h => ?_) (fun cdv A outer s H vs Q E hr h => ?_)
  · obtain ⟨x, g, t, u, rfl, _⟩ := h
    rfl
  · obtain ⟨x, g, t, u, rfl, hA, G, ht, hu, hz, h63, k⟩ := h
    obtain ⟨dx, fs, p, l, hx, RF, hP, hL⟩ := id hA
    refine ⟨_, (pss_cons (ps_expr (pe_meth (pv 0) R.cl R.me R.ok hr R.b .nil (L2.passes_call (E := E) (takes_of rfl rfl rfl rfl) fun _ _ _ _ h => h) (pa_cons (pv 1) pa_nil))) 
    (pss_one (ps_ret (pe_meth (pv 0) R.cl R.me R.ok hr R.b .nil (L2.passes_call (E := E) (takes_of rfl rfl rfl rfl) fun _ _ _ _ h => h) (pa_cons pe_str pa_nil))))), ?_⟩
    refine q_meth (ev_var rfl) hx (RF.o.no (by decide +kernel)) (ea_cons (ev_var rfl) ea_nil) fun H1 e1 => ?_
    refine ⟨x, g, t, .str u, rfl, hA.ex e1, G, ht, .inr (.inl ⟨u, rfl, hu, hz, fun H2 b2 R2 => ?_⟩)⟩
    obtain ⟨dx2, fs2, p2, l2, hx2, RF2, hP2, hL2⟩ := id R2
    refine ⟨.ref x, rfl, x, dx2, fs2, rfl, hx2, RF2.o.no (by decide +kernel), ?_⟩
    have b4 : ExB x H H2 := (ExB.of e1).trans b2
    refine ⟨x, g, t ++ u, .str "?", rfl, R2, G, ?_, .inr (.inr ⟨"?", 0, rfl, by decide +kernel, ⟨⟨63, by decide +kernel, h63⟩, fun j c hj => absurd hj (Nat.not_lt_zero _)⟩, fun d H' e n h => k d H' (b4.trans (ExB.of e)) (R2.ex e) h⟩)⟩
    intro c hc
    rw [cds_app] at hc
    exact (List.mem_append.mp hc).elim (ht c) (hu c)
end KX
end
section
set_option Elab.async false
set_option linter.all false
set_option maxRecDepth 100000
set_option maxHeartbeats 8000000
/-! Rn15: the law's own run. -/
namespace KX
open PySem PySem.Spec PyProof.Rows L2 Evl ClX

theorem goOkD {g : Pg} (D : DrOk sg4 g) : GoOk g := by
  obtain ⟨hN, h2, hW⟩ := regs_ok D
  have hn := D.n
  refine ⟨by omega, hN, by omega, D.go, fun s c h n hn => ?_, fun s row h => ?_⟩
  · have hro := D.ro s c h n hn
    have h3 := hro.1
    exact ⟨by omega, fun m hm => hro.2 _ hm⟩
  · have hfi := (D.fi s row h).2.2
    have h3 := hfi.1
    exact ⟨by omega, fun m hm => hfi.2 _ hm⟩
theorem q_unpack6 {K : PySem.W.Frag} {σ : L2.St} {H : Hp} {te : TE} {D : Ends} {tz : TS} {b : Addr} {v1 v2 v3 v4 v5 v6 : V} {i1 i2 i3 i4 i5 i6 : Nat} (h : Ev te σ H (.ref b)) (hb : H b = some (.tup [v1, v2, v3, v4, v5, v6]))
    (k : ∀ H1, Ex H H1 → tz D ((((((σ.set i1 (some v1)).set i2 (some v2)).set i3 (some v3)).set i4 (some v4)).set i5 (some v5)).set i6 (some v6)) H1) : tSeq (tAsg te (gTup K 6 (gCons (gName i1) (gCons (gName i2) (gCons (gName i3) (gCons (gName i4) (gCons (gName i5) (gCons (gName i6) gNil)))))))) tz D σ H :=
  h H (Ex.refl H) _ fun H1 e => ⟨b, _, rfl, st_of (e _ _ hb), rfl, ⟨_, _, rfl, ⟨_, _, rfl, ⟨_, _, rfl, ⟨_, _, rfl, ⟨_, _, rfl, ⟨_, _, rfl, ⟨rfl, k H1 e⟩⟩⟩⟩⟩⟩⟩⟩
def sp_law_run : Sp := spE (fun (x : Addr × Str × Pg) vs H => vs = [.ref x.1, .str x.2.1] ∧ Told H x.2.2 x.1 ∧ GoOk x.2.2 ∧ (∀ c ∈ cds x.2.1, c ∈ cds x.2.2.L) ∧ Fit x.2.2 (cds x.2.1) ∧ ∀ s, wrG x.2.2 (cds x.2.1) = some s → s.length ≤ big)
  (fun x v _ => v = vO (wrG x.2.2 (cds x.2.1)))
section
variable {P : Program} {w : World} {K : PySem.W.Frag} {mg : Str → Option Value} {base : Heap} {C : Addr} {f : Addr} {fd : FuncData}
theorem ok_law_write (F : Fun K "_law_write" "_law_write" s_law_write f fd) (Z : Zs mg C) : FnOk P w K mg base CX0 1 f fd ["row", "held"] sp_text_of := by
  refine F.ok sc_law_write (fun vs H Q E h => ?_) (fun cdv A outer s H vs Q E hr h => ?_)
  · obtain ⟨i, ⟨rfl, _⟩, _⟩ := h
    rfl
  · obtain ⟨⟨a, d, row, regs, h⟩, ⟨rfl, ⟨xs, hx, hl, hi⟩, hz, hn, hd, hw⟩, k⟩ := h
    have hz : row.length ≤ 1000 := hz
    have hl : xs.length = row.length := hl
    have hu := hu_of hr
    refine ⟨_, (pss_one (ps_ret (pe_join pe_str (pe_lc (own := [(("item" : Str), 2)]) (g := gName 2) rfl sc_law_write.nd (pi_tup (pv 0)) (blkOk_by (own := [(("item" : Str), 2)]) (N := n_law_write) (sc := defScope s_law_write) (by decide +kernel)) (fun _ _ _ _ _ => (pg_name (i := 2) sc_law_write.nd rfl (Or.inl rfl))) (fun _ _ _ _ _ => pts_nil) (fun _ _ _ _ _ => (pe_ifExp (pt_val (pe_callB (cIsi (K := K)) (by rfl) Z.z_isinstance (by decide +kernel) (pa_cons (pv 2) (pa_cons (pe_bltn (by rfl) Z.z_str (by decide +kernel) (show RelV (.ty "str") _ from rfl)) pa_nil)))) (pv 2) (pe_dget hu (pv 1) (pe_ix (ixT (K := K)) (pv 2) pe_int (fun _ _ => rfl)) (fun _ _ => rfl)))))))), ?_⟩
    refine s_ret (v := .str (wr row h)) (ev_join (K := K) (ys := row.map (itT h)) (el_lcW (src_tup (K := K) (ev_var rfl) (st_of hx)) (by omega) (fun x => rfl) ((row.map (itT h)).map V.str) (by simp [hl]) ?_) rfl hw) fun H3 e3 => k _ H3 e3 rfl
    intro i x y H' e hy hxi
    rw [List.map_map, List.getElem?_map] at hy
    cases ht : row[i]? with
    | none => rw [ht] at hy; cases hy
    | some t =>
      rw [ht] at hy
      obtain rfl := Option.some.inj hy
      have h1 := hi i x t hxi ht
      cases t with
      | t s =>
        obtain rfl : x = .str s := h1
        exact ev_if (b := true) (et_B (ev_isS (ev_var rfl) rfl)) (fun _ => ev_var rfl) (fun z => by cases z)
      | r n =>
        obtain ⟨b, rfl, hb⟩ := h1
        have hb' := e _ _ hb
        exact ev_if (b := false) (et_B (ev_isU (ev_var rfl) hb' rfl)) (fun z => by cases z) fun _ => ev_get (ev_var rfl) (ev_ixU (i := 0) (ev_var rfl) ev_c hb' rfl) (k := .inr n) rfl (ex_rd e hd) (hk_at (hn n (List.mem_of_getElem? ht)))
theorem ok_law_run (F : Fun K "_law_run" "_law_run" s_law_run f fd) (Z : Zs mg C) (G_law_write : Has P w K mg base "_law_write" 1 ["row", "held"] sp_text_of) : FnOk P w K mg base CX0 2 f fd ["program", "text"] sp_law_run := by
  refine F.ok sc_law_run (fun vs H Q E h => ?_) (fun cdv A outer s H vs Q E hr h => ?_)
  · obtain ⟨i, ⟨rfl, _⟩, _⟩ := h
    rfl
  · obtain ⟨⟨tp, z, g⟩, ⟨rfl, hT, G, hw, hF, hW⟩, k⟩ := h
    dsimp only at hT G hw hF hW
    have k : ∀ v H', Ex H H' → v = vO (wrG g (cds z)) → Q v H' := k
    have hu := hu_of hr
    obtain ⟨ra, fa, sa, ea, ht, PD⟩ := hT
    refine ⟨_, (pss_cons (ps_asg (pv 0) (pg_tup rfl (pgs_cons (pg_name (i := 2) sc_law_run.nd rfl (Or.inl rfl)) (pgs_cons (pg_name (i := 3) sc_law_run.nd rfl (Or.inl rfl)) (pgs_cons (pg_name (i := 4) sc_law_run.nd rfl (Or.inl rfl)) (pgs_cons (pg_name (i := 5) sc_law_run.nd rfl (Or.inl rfl)) (pgs_cons (pg_name (i := 6) sc_law_run.nd rfl (Or.inl rfl)) (pgs_cons (pg_name (i := 7) sc_law_run.nd rfl (Or.inl rfl)) pgs_nil)))))))) 
    (pss_cons (ps_asg (pe_tup (pa_cons pe_int (pa_cons (pe_callTy call_dictD (by rfl) Z.z_dict (by decide +kernel) (pa_cons (pv 5) pa_nil)) pa_nil))) (pg_tup rfl (pgs_cons (pg_name (i := 8) sc_law_run.nd rfl (Or.inl rfl)) (pgs_cons (pg_name (i := 9) sc_law_run.nd rfl (Or.inr rfl)) pgs_nil)))) 
    (pss_cons (ps_for PassesOwn.never rfl (pi_str (pv 1)) (pg_name (i := 10) sc_law_run.nd rfl (Or.inl rfl)) 
     (pss_cons (ps_asg (pe_dget hu (pv 6) (pe_tup (pa_cons (pv 8) (pa_cons (pv 10) pa_nil))) (fun _ _ => rfl)) (pg_tup rfl (pgs_cons (pg_name (i := 8) sc_law_run.nd rfl (Or.inl rfl)) (pgs_cons (pg_name (i := 11) sc_law_run.nd rfl (Or.inr rfl)) pgs_nil)))) 
     (pss_one (ps_set (i := 9) sc_law_run.nd rfl (Or.inr rfl) (pe_callTy (call_dictP rfl) (by rfl) Z.z_dict (by decide +kernel) (pa_cons (pe_lc (own := [(("name" : Str), 12)]) (g := gName 12) rfl sc_law_run.nd (pi_list (pv 4)) (blkOk_by (own := [(("name" : Str), 12)]) (N := n_law_run) (sc := defScope s_law_run) (by decide +kernel)) (fun _ _ _ _ _ => (pg_name (i := 12) sc_law_run.nd rfl (Or.inl rfl))) (fun _ _ _ _ _ => pts_nil) (fun _ _ _ _ _ => (pe_tup (pa_cons (pv 12) (pa_cons (pe_ifExp (pt_cmp (pc_din hu (pv 12) (pv 11))) (pe_use G_law_write (hr.mono (by decide)) (pa_cons (pe_dget hu (pv 11) (pv 12) (fun _ _ => rfl)) (pa_cons (pv 9) pa_nil))) (pe_dget hu (pv 9) (pv 12) (fun _ _ => rfl))) pa_nil))))) pa_nil)))))) 
    (pss_one (ps_ret (pe_ifExp (pt_cmp (pc_din hu (pv 8) (pv 7))) (pe_use G_law_write (hr.mono (by decide)) (pa_cons (pe_dget hu (pv 7) (pv 8) (fun _ _ => rfl)) (pa_cons (pv 9) pa_nil))) pe_non)))))), ?_⟩
    refine q_unpack6 (ev_var rfl) ht fun H1 e1 => ?_
    have eD : EvP (tCB (fun xs H Q => ∃ (a : Addr) (kvs : List (Key × V)), xs = [.ref a] ∧ Rd H a (.dK kvs) ∧ ∀ p, H p = none → Q (.ref p) (upd H p (.dK kvs))) (tCons (tVar 5) tNil)) [some (.ref tp), some (.str z), some (.str g.L), some (.int g.n), some (.ref ra), some (.ref fa), some (.ref sa), some (.ref ea), none, none, none, none, none] H1 (fun v H2 => ∃ d, v = .ref d ∧ H2 d = some (.dK (hk g.regs g.fst))) :=
      (new_dict (ev_var rfl) (.inl (e1 _ _ PD.f))).evP.imp fun v H2 _ ⟨p, o, a, b, c⟩ => ⟨p, a, by rw [b, c]⟩
    refine q_unpackP (Pz := fun y z' H => y = .int 0 ∧ ∃ d, z' = .ref d ∧ H d = some (.dK (hk g.regs g.fst))) (((new_tup (pa1 (P := fun v _ => v = .int 0) (fun _ _ _ _ h => h) (EvP.of ev_c) (pa1 (Pr := fun vs _ => vs = []) (fun v H H' e ⟨d, h1, h2⟩ => ⟨d, h1, e _ _ h2⟩) eD pa0)) (fun vs H2 ⟨v, r, h1, h2, v', r', h3, h4, h5⟩ => by rw [h1, h3, h5]; show 2 ≤ 1000; decide)
      (fun vs H H' e ⟨v, r, h1, h2, v', r', h3, ⟨d, h4, h6⟩, h5⟩ => ⟨v, r, h1, h2, v', r', h3, ⟨d, h4, e _ _ h6⟩, h5⟩)).evP).imp fun v H2 _ ⟨b, o, h1, h2, vs, h3, v1, r1, h4, h5, v2, r2, h6, ⟨d, h7, h8⟩, h10⟩ => ⟨b, .int 0, .ref d, h1, by rw [h2, h3, h4, h5, h6, h7, h10], rfl, d, rfl, h8⟩) ?_
    rintro _ _ H2 e2 ⟨rfl, d, rfl, hd⟩
    have e12 := e1.trans e2
    refine s_forS (ev_var rfl) (fun i σ' H' => ∃ d v4 v5, σ' = [some (.ref tp), some (.str z), some (.str g.L), some (.int g.n), some (.ref ra), some (.ref fa), some (.ref sa), some (.ref ea), some (.int (runG g ((cds z).take i)).1), some (.ref d), v4, v5, none] ∧ Ex H H' ∧ H' d = some (.dK (hk g.regs (runG g ((cds z).take i)).2))) ?_ ?_ ?_
    · intro H4 e4
      refine ⟨d, none, none, ?_, e12.trans e4, ?_⟩
      · rw [List.take_zero]
        rfl
      · rw [List.take_zero]
        exact e4 _ _ hd
    · rintro i c σ' H' hi ⟨d, v4, v5, rfl, ex, hd⟩
      have hi' : (cds z)[i]? = some c := by rw [Array.getElem?_toList]; exact hi
      have hil : i < (cds z).length := (List.getElem?_eq_some_iff.mp hi').1
      have hin := runG_in G ((cds z).take i) (fun c hc => hw c (List.mem_of_mem_take hc))
      have hsl : SL g.L g.n (runG g ((cds z).take i)).1 c := ⟨hin.1, hin.2, hw c (List.mem_of_getElem? hi')⟩
      have htk : (cds z).take (i + 1) = (cds z).take i ++ [c] := by rw [List.take_succ, hi']; rfl
      have hF1 := hF (i + 1) hil
      rw [htk, runG_snoc] at hF1
      show (tSeq _ _) _ _ _
      generalize hx : runG g ((cds z).take i) = x at hd hsl hF1 ⊢
      obtain ⟨ks, hks, _, _, hkv, hkc⟩ := PD.s
      obtain ⟨v, hv, hm⟩ := valV_key (kvs := ks) (hkc x.1 c hsl)
      obtain ⟨s', c', b, r, hk1, _, rfl, hb, hR⟩ := hkv _ v hm
      obtain ⟨rfl, rfl⟩ := pl_inj hk1
      refine q_unpack2 (b := b) (ev_getU (k := [.inl x.1, .inr ⟨#[c]⟩]) (ev_var rfl) (eu_tup (ea_cons (ev_var rfl) (ea_cons (ev_var rfl) ea_nil)) (by show 2 ≤ 100000; decide)) (.inl (ex _ _ hks)) hv) (ex _ _ hb) fun H4 e4 => ?_
      have ex4 := ex.trans e4
      obtain ⟨kvs, hr4, hkk, hrow⟩ := hR.ex ex4
      have hd4 := e4 _ _ hd
      have hra := ex4 _ _ PD.rS
      have hNk : (g.regs.map (Sum.inr : Str → Key)).Nodup := List.Pairwise.map Sum.inr (fun a b h q => h (Sum.inr.inj q)) G.rN
      have hz6 := G.r6
      refine s_new (new_dictP (K := K) hNk (Q := fun i v _ => ∀ n, g.regs[i]? = some n → v = .str ((stp g x c).2 n)) (fun _ _ _ _ _ h => h) ((new_lc (src_list (K := K) (ev_var rfl) (sq_of hra)) (by rw [List.length_map]; omega) (fun x => rfl)
        (fun i y H => ∃ n b, g.regs[i]? = some n ∧ y = .ref b ∧ H b = some (.tup [.str n, .str ((stp g x c).2 n)])) (fun i y => stab_ex fun n => stab_ex fun b => stab_and stab_pure (stab_and stab_pure (stab_at rfl rfl))) ?_).imp fun o H3 _ ⟨xs, h1, h2, h3⟩ => ⟨xs, h1, by rw [h2, List.length_map, List.length_map], fun i y hy kk hkk => ?_⟩)) fun d2 o H5 hd2 e5 h5 ⟨kv, n5, hk5, hv5⟩ => ?_
      · intro j y H' e hj hy
        obtain ⟨n, hn, rfl, hnr⟩ : ∃ n, g.regs[j]? = some n ∧ y = .str n ∧ n ∈ g.regs := by
          have hy : (g.regs.map V.str)[j]? = some y := hy
          rw [List.getElem?_map] at hy
          cases hr : g.regs[j]? with
          | none =>
            rw [hr] at hy
            cases hy
          | some n =>
            rw [hr] at hy
            exact ⟨n, rfl, (Option.some.inj hy).symm, List.mem_of_getElem? hr⟩
        obtain ⟨v0, hv0, hm0⟩ := valV_key (kvs := kvs) (k := .inr n) (by rw [hkk]; exact List.mem_map_of_mem hnr)
        obtain ⟨a, rfl, hA⟩ := hrow n v0 hm0
        have hrw := G.rw x.1 c hsl n hnr
        exact (New.ofU (eu_tup (ea_cons (ev_var rfl) (ea_cons (ev_if (b := true) (et_test (ev_is (ev_in (k := .inr n) (ev_var rfl) rfl (ev_var rfl) (.inl (e _ _ hr4))) (by rw [hv0]; rfl))) (fun _ => ev_use (ea_cons (ev_get (ev_var rfl) (ev_var rfl) (k := .inr n) rfl (.inl (e _ _ hr4)) hv0) (ea_cons (ev_var rfl) ea_nil))
          (spE_V (a, d, g.row x.1 c n, g.regs, x.2) (fun _ e1 => ⟨rfl, hA.le (Le.ex (e.trans e1)), hrw.1, hrw.2, .inl ((e.trans e1) _ _ hd4), hF1 n hnr⟩) fun v _ p => p)) (fun z => by cases z)) ea_nil)) (by show 2 ≤ 100000; decide))).evP.imp fun v H2 _ ⟨b, o, h1, h2, h3⟩ => ⟨n, b, hn, h1, by rw [h2, h3]; rfl⟩
      · obtain ⟨n, b, g1, g2, g3⟩ := h3 i y hy
        rw [List.getElem?_map, g1] at hkk
        cases hkk
        exact ⟨b, _, g2, g3, fun m hm => by
          rw [g1] at hm
          cases hm
          rfl⟩
      · subst n5
        refine ⟨d2, some (.str ⟨#[c]⟩), some (.ref r), ?_, ex4.trans e5, ?_⟩
        · rw [htk, runG_snoc, hx]
          rfl
        · rw [htk, runG_snoc, hx, ← hk_of hk5 hv5]
          exact h5
    · rintro σ' H' ⟨d, v4, v5, rfl, ex, hd⟩
      have htt : (cds z).take z.cps.size = cds z := List.take_of_length_le (by rw [Array.length_toList]; exact Nat.le_refl _)
      rw [htt] at hd ⊢
      have hin := runG_in G (cds z) hw
      unfold wrG at hW k
      generalize hx : runG g (cds z) = x at hd hin hW k ⊢
      obtain ⟨kvs, hks, _, _, hkv, hkc⟩ := PD.e
      have hsome : (valV kvs (.inl x.1)).isSome = (g.fin x.1).isSome := by
        cases hf : g.fin x.1 with
        | some row =>
          obtain ⟨v, hv, _⟩ := valV_key (kvs := kvs) (hkc x.1 (by rw [hf]; rfl))
          rw [hv]
          rfl
        | none =>
          cases hv : valV kvs (.inl x.1) with
          | none => rfl
          | some v =>
            obtain ⟨s', a, row, h1, h2, _⟩ := hkv _ v (valV_mem hv)
            cases h1
            rw [hf] at h2
            cases h2
      refine s_ret (v := vO ((g.fin x.1).map fun row => wr row x.2)) (ev_if (b := (g.fin x.1).isSome) (et_test (ev_is (ev_in (k := .inl x.1) (ev_var rfl) rfl (ev_var rfl) (.inl (ex _ _ hks))) (by rw [hsome]))) (fun hb => ?_) (fun hb => ?_)) fun H3 e3 => k _ H3 (ex.trans e3) rfl
      · cases hf : g.fin x.1 with
        | none =>
          rw [hf] at hb
          cases hb
        | some row =>
          obtain ⟨v, hv, hm⟩ := valV_key (kvs := kvs) (hkc x.1 (by rw [hf]; rfl))
          obtain ⟨s', a, row', h1, h2, rfl, hA⟩ := hkv _ v hm
          cases h1
          rw [hf] at h2
          cases h2
          rw [hf] at hW
          have hfn := G.fn x.1 row hf
          exact ev_use (ea_cons (ev_get (ev_var rfl) (ev_var rfl) (k := .inl x.1) rfl (.inl (ex _ _ hks)) hv) (ea_cons (ev_var rfl) ea_nil)) (spE_V (a, d, row, g.regs, x.2) (fun _ e3 => ⟨rfl, hA.le (Le.ex (ex.trans e3)), hfn.1, hfn.2, .inl (e3 _ _ hd), hW _ rfl⟩) fun v _ p => p)
      · have hn : g.fin x.1 = none := by simpa using hb
        rw [hn]
        exact ev_c
end
end KX
end
section
set_option Elab.async false
set_option linter.all false
set_option maxRecDepth 100000
set_option maxHeartbeats 8000000
/-! Rn16: the law's program is made. -/
namespace KX
open PySem PySem.Spec PyProof.Rows L2 Evl ClX

def sp_law_made (C : Addr) : Sp := spE (fun (x : Addr × Pg) vs H => vs = [.ref x.1] ∧ Told H x.2 x.1 ∧ DrOk sg4 x.2) (fun x v H => ∃ p, v = .ref p ∧ PgAt C H p x.2.td.pg)
theorem ok_law_made {P : Program} {w : World} {K : PySem.W.Frag} {mg : Str → Option Value} {base : Heap} {C : Addr} {f : Addr} {fd : FuncData} (F : Fun K "_law_made" "_law_made" s_law_made f fd) (G_Program__init : HasC P w K mg base "Program" C 8 psPut (sp_Program_init C)) : FnOk P w K mg base CX0 10 f fd ["program"] (sp_law_made C) := by
  refine F.ok sc_law_made (fun vs H Q E h => ?_) (fun cdv A outer s H vs Q E hr h => ?_)
  · obtain ⟨i, ⟨rfl, _⟩, _⟩ := h
    rfl
  · obtain ⟨⟨tp, g⟩, ⟨rfl, ⟨ra, fa, sa, ea, ht, PD⟩, D⟩, k⟩ := h
    dsimp only at PD D ht
    have k : ∀ v H', Ex H H' → (∃ p, v = .ref p ∧ PgAt C H' p g.td.pg) → Q v H' := k
    refine ⟨_, (pss_cons (ps_asg (pv 0) (pg_tup rfl (pgs_cons (pg_name (i := 1) sc_law_made.nd rfl (Or.inl rfl)) (pgs_cons (pg_name (i := 2) sc_law_made.nd rfl (Or.inl rfl)) (pgs_cons (pg_name (i := 3) sc_law_made.nd rfl (Or.inl rfl)) (pgs_cons (pg_name (i := 4) sc_law_made.nd rfl (Or.inl rfl)) (pgs_cons (pg_name (i := 5) sc_law_made.nd rfl (Or.inl rfl)) (pgs_cons (pg_name (i := 6) sc_law_made.nd rfl (Or.inl rfl)) pgs_nil)))))))) 
    (pss_one (ps_ret (pe_mk G_Program__init (hr.mono (by decide)) (pa_cons (pv 1) (pa_cons (pv 2) (pa_cons (pv 3) (pa_cons (pv 4) (pa_cons (pv 5) (pa_cons (pv 6) pa_nil)))))))))), ?_⟩
    refine q_unpack6 (ev_var rfl) ht fun H1 e1 => ?_
    refine s_retP (Pv := fun v H' => ∃ p, v = .ref p ∧ PgAt C H' p g.td.pg) (make_P (C := C) (sp := sp_Program_init C) (E := E0) (Po := fun p H' => PgAt C H' p g.td.pg) (Pa := fun vs _ => vs = [.str g.L, .int g.n, .ref ra, .ref fa, .ref sa, .ref ea])
      (fun H2 e Q q => (ea_cons (ev_var rfl) (ea_cons (ev_var rfl) (ea_cons (ev_var rfl) (ea_cons (ev_var rfl) (ea_cons (ev_var rfl) (ea_cons (ev_var rfl) ea_nil)))))) H2 e _ fun H3 e3 => q _ H3 e3 rfl) ?_) fun v H2 e ⟨p, ev, hp⟩ => ?_
    · intro vs H2 x dx e ev hx hdx ne Q q
      subst ev
      have xx : Ex H2 (upd (upd H2 dx (.own x)) x (.ins C dx [])) := fun a o h => by rw [upd_ne (ne_of_none h hx), upd_ne (ne_of_none h hdx)]; exact h
      obtain ⟨A1, A2⟩ := told_ok D (PD.ex (e1.trans e))
      exact ⟨g.td, x, ra, fa, sa, ea, dx, H2, rfl, hx, xx, upd_same, A1, A2, fun H' e' A' _ => q H' e' A'⟩
    · exact k v H2 (e1.trans e) ⟨p, ev, hp⟩
end KX
end
section
set_option Elab.async false
set_option linter.all false
set_option maxRecDepth 100000
set_option maxHeartbeats 4000000
/-! Rn17: what a drawn program's registers hold stays short. -/
namespace KX
open PySem PySem.Spec PyProof.Rows L2 Evl ClX

def sumF (f : Str → Nat) (l : List Str) : Nat := (l.map f).sum
theorem sumF_perm {f : Str → Nat} {a b : List Str} (h : a.Perm b) : sumF f a = sumF f b := by
  unfold sumF
  induction h with
  | nil => rfl
  | cons x _ ih => simp only [List.map_cons, List.sum_cons, ih]
  | swap x y l =>
    simp only [List.map_cons, List.sum_cons]
    omega
  | trans _ _ i1 i2 => rw [i1, i2]
theorem sumF_sub {f : Str → Nat} : ∀ {l regs : List Str}, l.Nodup → (∀ m ∈ l, m ∈ regs) → sumF f l ≤ sumF f regs
  | [], _, _, _ => Nat.zero_le _
  | a :: l, regs, hn, hs => by
    have ha := hs a List.mem_cons_self
    have hn := List.nodup_cons.mp hn
    rw [sumF_perm (List.perm_cons_erase ha)]
    show f a + sumF f l ≤ f a + sumF f (regs.erase a)
    have := sumF_sub (f := f) (l := l) (regs := regs.erase a) hn.2 fun m hm => (List.mem_erase_of_ne (fun z => by
      subst z
      exact hn.1 hm)).mpr (hs m (List.mem_cons_of_mem _ hm))
    omega
theorem sumF_app {f : Str → Nat} (a b : List Str) : sumF f (a ++ b) = sumF f a + sumF f b := by
  unfold sumF
  rw [List.map_append, List.sum_append]
theorem flat_nodup {R : Str → List Itm} {tg : Str → Str} : ∀ {l : List Str}, l.Nodup → (∀ n ∈ l, (rgs (R n)).Nodup ∧ ∀ m ∈ rgs (R n), tg m = n) → (l.flatMap fun n => rgs (R n)).Nodup
  | [], _, _ => List.nodup_nil
  | a :: l, hn, h => by
    have hn := List.nodup_cons.mp hn
    rw [List.flatMap_cons]
    refine List.nodup_append.mpr ⟨(h a List.mem_cons_self).1, flat_nodup hn.2 fun n hm => h n (List.mem_cons_of_mem _ hm), fun x hx y hy z => ?_⟩
    subst z
    obtain ⟨n, hnl, hxn⟩ := List.mem_flatMap.mp hy
    have e1 := (h a List.mem_cons_self).2 x hx
    have e2 := (h n (List.mem_cons_of_mem _ hnl)).2 x hxn
    exact hn.1 (by rw [← e1, e2]; exact hnl)
theorem rgs_cons_r (m : Str) (row : List Itm) : rgs (.r m :: row) = m :: rgs row := rfl
theorem rgs_cons_t (s : Str) (row : List Itm) : rgs (.t s :: row) = rgs row := rfl
theorem wr_len {h : Str → Str} : ∀ {row : List Itm}, (∀ t ∈ row, match t with | .t s => s ∈ sg4 | .r _ => True) → (wr row h).length ≤ row.length + sumF (fun m => (h m).length) (rgs row)
  | [], _ => by
    rw [len_cds, cds_wr]
    exact Nat.zero_le _
  | t :: row, ok => by
    have ih := wr_len (h := h) (row := row) fun u hu => ok u (List.mem_cons_of_mem _ hu)
    rw [len_cds, cds_wr, List.map_cons, List.flatten_cons, List.length_append, ← cds_wr]
    rw [len_cds] at ih
    have o := ok t List.mem_cons_self
    cases t with
    | t s =>
      have hs := len_sg o
      rw [rgs_cons_t]
      rw [len_cds] at hs
      show (cds s).length + _ ≤ row.length + 1 + _
      omega
    | r m =>
      rw [rgs_cons_r]
      show (cds (h m)).length + _ ≤ row.length + 1 + ((h m).length + sumF (fun m => (h m).length) (rgs row))
      have e := len_cds (h m)
      omega
theorem okd_texts {regs : List Str} {k : Nat} {row : List Itm} (h : RowOkD regs sg4 k row) : ∀ t ∈ row, match t with | .t s => s ∈ sg4 | .r _ => True := fun t ht => by
  have := h.2 t ht
  cases t with
  | t s => exact this
  | r m => trivial
theorem okd_rgs {regs : List Str} {k : Nat} {row : List Itm} (h : RowOkD regs sg4 k row) : ∀ m ∈ rgs row, m ∈ regs := fun m hm => by
  obtain ⟨t, ht, e⟩ := List.mem_filterMap.mp hm
  have := h.2 t ht
  cases t with
  | t s => cases e
  | r n =>
    cases e
    exact this
def tot (regs : List Str) (h : Str → Str) : Nat := sumF (fun m => (h m).length) regs
theorem le_tot {regs : List Str} {h : Str → Str} {n : Str} (hn : n ∈ regs) : (h n).length ≤ tot regs h := by
  have := sumF_sub (f := fun m => (h m).length) (l := [n]) (regs := regs) (by simp) fun m hm => by
    rw [List.mem_singleton.mp hm]
    exact hn
  have e : sumF (fun m => (h m).length) [n] = (h n).length := by
    unfold sumF
    simp
  rw [e] at this
  exact this
theorem lin_tot {regs : List Str} {R : Str → List Itm} {h : Str → Str} (hN : regs.Nodup) (L : Lin regs R) (hR : ∀ n ∈ regs, RowOkD regs sg4 (regs.length + 1) (R n)) : tot regs (fun n => wr (R n) h) ≤ tot regs h + regs.length * (regs.length + 1) := by
  obtain ⟨tg, hL⟩ := L
  have step : ∀ l : List Str, (∀ n ∈ l, n ∈ regs) → sumF (fun n => (wr (R n) h).length) l ≤ sumF (fun m => (h m).length) (l.flatMap fun n => rgs (R n)) + l.length * (regs.length + 1) := by
    intro l
    induction l with
    | nil =>
      intro _
      exact Nat.zero_le _
    | cons a l ih =>
      intro hs
      have i := ih fun n hn => hs n (List.mem_cons_of_mem _ hn)
      have ha := hR a (hs a List.mem_cons_self)
      have w := wr_len (h := h) (okd_texts ha)
      have k := ha.1
      rw [List.flatMap_cons, sumF_app, List.length_cons, Nat.succ_mul]
      show (wr (R a) h).length + sumF (fun n => (wr (R n) h).length) l ≤ _
      omega
  have s1 := step regs fun n hn => hn
  have s2 := sumF_sub (f := fun m => (h m).length) (flat_nodup hN hL) (regs := regs) fun m hm => by
    obtain ⟨n, hn, hmn⟩ := List.mem_flatMap.mp hm
    exact okd_rgs (hR n hn) m hmn
  show sumF (fun n => (wr (R n) h).length) regs ≤ sumF (fun m => (h m).length) regs + _
  omega
theorem tot_run {g : Pg} (D : DrOk sg4 g) (w : List Nat) (hw : ∀ c ∈ w, c ∈ cds g.L) : tot g.regs (runG g w).2 ≤ 2 + 6 * w.length := by
  obtain ⟨hN, h2, hW⟩ := regs_ok D
  have go : ∀ (w : List Nat) (x : Int × (Str → Str)), 0 ≤ x.1 → x.1 < g.n → (∀ c ∈ w, c ∈ cds g.L) → tot g.regs (w.foldl (stp g) x).2 ≤ tot g.regs x.2 + 6 * w.length := by
    intro w
    induction w with
    | nil => intro x _ _ _; exact Nat.le_refl _
    | cons c w ih =>
      intro x h0 h1 h
      have hsl : SL g.L g.n x.1 c := ⟨h0, h1, h c List.mem_cons_self⟩
      have hg := D.go x.1 c hsl
      have i := ih (stp g x c) hg.1 hg.2 fun d hd => h d (List.mem_cons_of_mem _ hd)
      have l := lin_tot (h := x.2) hN (D.li x.1 c hsl) (D.ro x.1 c hsl)
      have e : tot g.regs (stp g x c).2 = tot g.regs (fun n => wr (g.row x.1 c n) x.2) := rfl
      have m : g.regs.length * (g.regs.length + 1) ≤ 6 := by
        have : g.regs.length = 0 ∨ g.regs.length = 1 ∨ g.regs.length = 2 := by omega
        rcases this with z | z | z <;> rw [z] <;> decide
      rw [List.length_cons]
      show tot g.regs (w.foldl (stp g) (stp g x c)).2 ≤ _
      omega
  have s := go w (0, g.fst) (Int.le_refl _) (by have := D.n; show (0 : Int) < g.n; omega) hw
  have f0 : tot g.regs g.fst ≤ 2 := by
    have : ∀ l : List Str, (∀ n ∈ l, n ∈ g.regs) → sumF (fun m => (g.fst m).length) l ≤ l.length := by
      intro l
      induction l with
      | nil => intro _; exact Nat.le_refl _
      | cons a l ih =>
        intro hs
        have i := ih fun n hn => hs n (List.mem_cons_of_mem _ hn)
        have fa : (g.fst a).length ≤ 1 := by
          rcases D.f a (hs a List.mem_cons_self) with z | z <;> rw [z] <;> decide +kernel
        show (g.fst a).length + sumF (fun m => (g.fst m).length) l ≤ l.length + 1
        omega
    exact Nat.le_trans (this g.regs fun n hn => hn) h2
  show tot g.regs (w.foldl (stp g) (0, g.fst)).2 ≤ _
  have : tot g.regs ((0 : Int), g.fst).2 = tot g.regs g.fst := rfl
  omega
theorem fit_run {g : Pg} (D : DrOk sg4 g) {w : List Nat} (hw : ∀ c ∈ w, c ∈ cds g.L) (hz : w.length ≤ 1000) : Fit g w := fun i hi n hn => by
  have t := tot_run D (w.take i) fun c hc => hw c (List.mem_of_mem_take hc)
  have l := le_tot (h := (runG g (w.take i)).2) hn
  have k : (w.take i).length ≤ 1000 := by
    rw [List.length_take]
    omega
  show _ ≤ 16000000
  omega
theorem wrG_len {g : Pg} (D : DrOk sg4 g) {w : List Nat} (hw : ∀ c ∈ w, c ∈ cds g.L) (hz : w.length ≤ 1000) : ∀ s, wrG g w = some s → s.length ≤ big := fun s h => by
  obtain ⟨row, hr, rfl⟩ := Option.map_eq_some_iff.mp h
  obtain ⟨hN, h2, hW⟩ := regs_ok D
  have hf := (D.fi _ row hr).2.2
  have t := tot_run D w hw
  have w1 := wr_len (h := (runG g w).2) (okd_texts hf)
  have k := hf.1
  have : ∀ l : List Str, (∀ m ∈ l, m ∈ g.regs) → sumF (fun m => ((runG g w).2 m).length) l ≤ l.length * 6002 := by
    intro l
    induction l with
    | nil => intro _; exact Nat.le_refl _
    | cons a l ih =>
      intro hs
      have i := ih fun n hn => hs n (List.mem_cons_of_mem _ hn)
      have la := le_tot (h := (runG g w).2) (hs a List.mem_cons_self)
      rw [List.length_cons, Nat.succ_mul]
      show ((runG g w).2 a).length + sumF (fun m => ((runG g w).2 m).length) l ≤ _
      omega
  have r := this (rgs row) (okd_rgs hf)
  have rl : (rgs row).length ≤ row.length := List.length_filterMap_le _ _
  show _ ≤ 16000000
  have : (rgs row).length * 6002 ≤ 3 * 6002 := Nat.mul_le_mul_right _ (by omega)
  omega
/-- the same, of the program as kept -/
theorem fit_td {g : Pg} {w : List Nat} (F : Fit g w) : Fit g.td.pg w := fun i hi n hn => by
  rw [runG_td]
  exact F i hi n ((srtS_perm g.regs).1.mem_iff.mp hn)
/-- what the law's runs need -/
theorem rdOk {g : Pg} (D : DrOk sg4 g) {t : Str} (ht : ∀ c ∈ cds t, c ∈ cds g.L) (hz : t.length ≤ 1000) : RdOk g.td.pg.td.pg t := by
  have S := small_of D
  have G1 := goOk D
  rw [len_cds] at hz
  refine ⟨G1.td S.td (by decide), fun c hc => lts_mem.mpr (lts_mem.mpr (ht c hc)), fit_td (fit_td (fit_run D ht hz)), by rw [len_cds]; exact hz⟩
theorem wr2 {g : Pg} (w : List Nat) : wrG g.td.pg.td.pg w = wrG g w := by rw [wrG_td, wrG_td]
theorem run2 {g : Pg} (w : List Nat) : runG g.td.pg.td.pg w = runG g w := by rw [runG_td, runG_td]
end KX
end
section
set_option Elab.async false
set_option linter.all false
set_option maxRecDepth 100000
set_option maxHeartbeats 8000000
/-! Rn18: an instance is no text. -/
namespace NeS
open PySem PySem.Spec PyProof.Rows PySem.SeqAt
theorem sub_str_ref (C : Addr) : isSubtype (.type "str") (.ref C) = pure false := by
  rw [isSubtype_type]
  rfl
theorem str_eq_ins (b : Str) (u : Tok) (l : Addr) (C dx : Addr) : Meets (Builtin.«str.__eq__» ⟨[.str b u, .ref l], []⟩) (fun _ R s => s.heap.get? l = some (PySem.W.instObj C dx) ∧ R (.ok (.ret .notImplemented)) s) :=
  .of_wp fun prog w A R s h => by obtain ⟨hp, g, d, tk, os⟩ := s; obtain ⟨hl, h⟩ := h; wp_walk using wpAny_loadPart' hl, wpAny_load hl; exact ⟨_, rfl, h⟩
theorem str_ne_ins (b : Str) (u : Tok) (l : Addr) (C dx : Addr) : Meets (Builtin.«str.__ne__» ⟨[.str b u, .ref l], []⟩) (fun _ R s => s.heap.get? l = some (PySem.W.instObj C dx) ∧ R (.ok (.ret .notImplemented)) s) :=
  .of_wp fun prog w A R s h => by obtain ⟨hp, g, d, tk, os⟩ := s; obtain ⟨hl, h⟩ := h; wp_walk using wpAny_loadPart' hl, wpAny_load hl; exact ⟨_, rfl, h⟩
theorem obj_eq_str {M : Model} {A : Around} {E : Value → Shared → Prop} {s : Shared} {x : Addr} {b : Str} {u : Tok} {Q : Fin → Shared → Prop} (hq : Q (.done (.ret .notImplemented)) s) : wpAny M A (Builtin.«object.__eq__» ⟨[.ref x, .str b u], []⟩) Q E s := by
  unfold Builtin.«object.__eq__»
  have e : isSame (.ref x) (.str b u) = pure false := rfl
  repeat (first | with_reducible refine wpAny_of_eq e ?_ | wp_step)
  exact hq
section
variable {M : Model} {prog : Program} {w : World} {A : Around} {E : Value → Shared → Prop} {s : Shared} {K : PySem.W.Frag} {x C dx : Addr} {od : Option Obj} {b : Str} {u : Tok}
theorem eq_special {Q : Option Value → Shared → Prop} (X : K.In s.heap) (I : PySem.W.InstAt s.heap x (PySem.W.instObj C dx) C od) (hm : PySem.W.mroIn K C (.type "object") = some true) (he : PySem.W.findIn K (.ref C) "__eq__" = some (some (.builtin "object.__eq__")))
    (h : Q (some .notImplemented) s) : wpAny (model prog w) A (callSpecialIfBound? (.ref x) "__eq__" [.str b u]) Q E s :=
  HN.ifBound_objEq X I he (wpAny_call (codeAny_call_builtin F.cmp_object.eq.plain F.cmpEntry_eq (PySem.W.check_slot F.cmpKind_eq F.cmpSplit_eq (I.type.andThen (PySem.W.looks_mroIn X hm)) (F.cmpArgs_eq _ _) (obj_eq_str h))))
theorem ne_entry_str {Q : Fin → Shared → Prop} (hu : A.units < cLine) (X : K.In s.heap) (I : PySem.W.InstAt s.heap x (PySem.W.instObj C dx) C od) (hm : PySem.W.mroIn K C (.type "object") = some true) (he : PySem.W.findIn K (.ref C) "__eq__" = some (some (.builtin "object.__eq__")))
    (hq : Q (.done (.ret .notImplemented)) s) : wpAny (model prog w) A (Builtin.«object.__ne__» ⟨[.ref x, .str b u], []⟩) Q E s := by
  unfold Builtin.«object.__ne__»
  repeat (first | with_reducible refine wpAny_cRoomFor hu ?_ | with_reducible refine eq_special X I hm he ?_ | wp_step)
  exact hq
theorem rc_start {op : CmpOp} {Q : Value → Shared → Prop} (hu : A.units + 1 < cLine) (I : PySem.W.InstAt s.heap x (PySem.W.instObj C dx) C od)
    (h1 : ∀ R : Option Value → Shared → Prop, R none s → wpAny (model prog w) A (tryCompare (.ref x) (cmpInfo op).2.1 (.str b u)) R E s) (h2 : ∀ R : Option Value → Shared → Prop, R none s → wpAny (model prog w) A (tryCompare (.str b u) (cmpInfo op).2.2 (.ref x)) R E s)
    (h : (op = .Eq ∧ Q (.bool false) s) ∨ (op = .NotEq ∧ Q (.bool true) s)) : wpAny (model prog w) A (richCompare op (.ref x) (.str b u)) Q E s := by
  have e : isSame (.ref x) (.str b u) = pure false := rfl
  rcases h with ⟨rfl, h⟩ | ⟨rfl, h⟩
  · simp only [richCompare, cmpInfo_Eq, oneThing_ref]
    refine wpAny_holding (wpAny_bind (wpAny_cRoomFor (Nat.lt_of_succ_lt hu) ?_))
    refine wpAny_bind (I.type.here ?_)
    refine wpAny_bind (wpAny_typeOf (typeIs_str s b u) ?_)
    rw [if_pos (show (Value.ref C != Value.type "str") = true from rfl)]
    refine wpAny_bind (wpAny_of_eq (sub_str_ref C) ?_)
    simp only [Bool.false_eq_true, if_false, Bool.not_false, if_true]
    refine wpAny_bind (m := tryCompare (.ref x) _ (.str b u)) (h1 _ ?_)
    refine wpAny_bind (m := tryCompare (.str b u) _ (.ref x)) (h2 _ ?_)
    exact wpAny_bind (wpAny_rule (wpAny_bind (wpAny_of_eq e (wpAny_pure h))))
  · simp only [richCompare, cmpInfo_NotEq, oneThing_ref]
    refine wpAny_holding (wpAny_bind (wpAny_cRoomFor (Nat.lt_of_succ_lt hu) ?_))
    refine wpAny_bind (I.type.here ?_)
    refine wpAny_bind (wpAny_typeOf (typeIs_str s b u) ?_)
    rw [if_pos (show (Value.ref C != Value.type "str") = true from rfl)]
    refine wpAny_bind (wpAny_of_eq (sub_str_ref C) ?_)
    simp only [Bool.false_eq_true, if_false, Bool.not_false, if_true]
    refine wpAny_bind (m := tryCompare (.ref x) _ (.str b u)) (h1 _ ?_)
    refine wpAny_bind (m := tryCompare (.str b u) _ (.ref x)) (h2 _ ?_)
    exact wpAny_bind (wpAny_rule (wpAny_bind (wpAny_of_eq e (wpAny_pure h))))
theorem rc_eq_str {Q : Value → Shared → Prop} (hu : A.units + 1 < cLine) (X : K.In s.heap) (I : PySem.W.InstAt s.heap x (PySem.W.instObj C dx) C od) (hm : PySem.W.mroIn K C (.type "object") = some true) (he : PySem.W.findIn K (.ref C) "__eq__" = some (some (.builtin "object.__eq__")))
    (h : Q (.bool false) s) : wpAny (model prog w) A (richCompare .Eq (.ref x) (.str b u)) Q E s := by
  refine rc_start hu I (fun R r => ?_) (fun R r => ?_) (.inl ⟨rfl, h⟩)
  · show wpAny _ _ (tryCompare (.ref x) "__eq__" (.str b u)) _ _ _
    unfold tryCompare
    exact wpAny_bind (eq_special X I hm he (wpAny_pure r))
  · exact wpAny_tryCompare_declines (typeIs_str s b u) F.slot_str_eq_refl (call_meets F.slot_str_eq_refl (typeIs_str s b u) F.entry_str_eq (F.args_str_eq_2 _ _) (str_eq_ins b u x C dx) ⟨I.at_, rfl, r⟩)
theorem rc_ne_str {Q : Value → Shared → Prop} (hu : A.units + 1 < cLine) (X : K.In s.heap) (I : PySem.W.InstAt s.heap x (PySem.W.instObj C dx) C od) (hm : PySem.W.mroIn K C (.type "object") = some true) (he : PySem.W.findIn K (.ref C) "__eq__" = some (some (.builtin "object.__eq__")))
    (hn : PySem.W.findIn K (.ref C) "__ne__" = some (some (.builtin "object.__ne__"))) (h : Q (.bool true) s) : wpAny (model prog w) A (richCompare .NotEq (.ref x) (.str b u)) Q E s := by
  refine rc_start hu I (fun R r => ?_) (fun R r => ?_) (.inr ⟨rfl, h⟩)
  · show wpAny _ _ (tryCompare (.ref x) "__ne__" (.str b u)) _ _ _
    unfold tryCompare
    exact wpAny_bind (ifBound_objNe X I hn (wpAny_call (codeAny_call_builtin F.cmp_object.ne.plain F.cmpEntry_ne (PySem.W.check_slot F.cmpKind_ne F.cmpSplit_ne (I.type.andThen (PySem.W.looks_mroIn X hm)) (F.cmpArgs_ne _ _) (ne_entry_str (A := A.in1) hu X I hm he (wpAny_pure r))))))
  · exact wpAny_tryCompare_declines (typeIs_str s b u) F.slot_str_ne_refl (call_meets F.slot_str_ne_refl (typeIs_str s b u) F.entry_str_ne (F.args_str_ne_2 _ _) (str_ne_ins b u x C dx) ⟨I.at_, rfl, r⟩)
end
end NeS
namespace KX
open PySem PySem.Spec PyProof.Rows L2 Evl
/-- x == a text: a text, or an instance -/
def rEqT (K : PySem.W.Frag) (k : Bool) : R2 := fun x y H Q => ∃ t, y = .str t ∧ ((∃ z, x = .str z ∧ Q (.bl (k != decide (z = t))) H) ∨ (∃ a C dx fs, x = .ref a ∧ H a = some (.ins C dx fs) ∧ IdC K C ∧ Q (.bl k) H))
theorem op_eqT {X : Cx} {K : PySem.W.Frag} (hu : X.A.units + 1 < cLine) (hK : X.K = K := by rfl) : OpR X (compareOp .Eq) (rEqT K false) := by
  subst hK
  intro pins s σ H x y v u Q I rx ry h
  obtain ⟨t, rfl, ⟨z, rfl, q⟩ | ⟨a, C, dx, fs, rfl, ha, D, q⟩⟩ := h
  · exact op_eq pins s σ H _ _ v u Q I rx ry ⟨rfl, by simpa using q⟩
  · cases rx
    obtain ⟨t', rfl⟩ := ry
    obtain ⟨mA, O, _⟩ := ins_get I.hok ha
    obtain ⟨od, J, _⟩ := O.look
    exact NeS.rc_eq_str hu I.kIn J D.m D.e ⟨.bl false, H, I, rfl, q⟩
theorem op_neT {X : Cx} {K : PySem.W.Frag} (hu : X.A.units + 1 < cLine) (hK : X.K = K := by rfl) : OpR X (compareOp .NotEq) (rEqT K true) := by
  subst hK
  intro pins s σ H x y v u Q I rx ry h
  obtain ⟨t, rfl, ⟨z, rfl, q⟩ | ⟨a, C, dx, fs, rfl, ha, D, q⟩⟩ := h
  · exact op_ne pins s σ H _ _ v u Q I rx ry ⟨rfl, by simpa using q⟩
  · cases rx
    obtain ⟨t', rfl⟩ := ry
    obtain ⟨mA, O, _⟩ := ins_get I.hok ha
    obtain ⟨od, J, _⟩ := O.look
    exact NeS.rc_ne_str hu I.kIn J D.m D.e D.n ⟨.bl true, H, I, rfl, q⟩
end KX
end
section
set_option Elab.async false
set_option linter.all false
set_option maxRecDepth 100000
set_option maxHeartbeats 8000000
/-! Rn19: the law, its term. -/
namespace KX
open PySem PySem.Spec PyProof.Rows L2 Evl ClX

/-- all that the law's text needs; CE: NothingDone -/
structure LF (P : Program) (w : World) (K : PySem.W.Frag) (mg : Str → Option Value) (base : Heap) (C CR CT CS CB CN CE : Addr) : Prop where
  Z : Zs mg C
  z_len : True
  next : Has P w K mg base "_law_next" 3 ["draw", "bound"] (sp_law_next K)
  pick : Has P w K mg base "_law_pick" 4 ["draw", "things"] (sp_law_pick K)
  prog : Has P w K mg base "_law_program" 6 ["draw", "signs"] (sp_law_program K)
  made : Has P w K mg base "_law_made" 10 ["program"] (sp_law_made C)
  run : Has P w K mg base "_law_run" 2 ["program", "text"] sp_law_run
  RI : HasC P w K mg base "Run" CR 12 ["self", "program"] (sp_Run_init CR C)
  after : ∃ f fd, HasM P w K mg base C "after" 2 f fd ["self", "text"] (sp_Program_after C)
  read : ∃ f fd, HasMX P w K mg base CR "read" 4 f fd ["self", "text"] (sp_Run_read CR C CB)
  back : ∃ f fd, HasMX P w K mg base CR "back" 2 f fd ["self", "many"] (sp_Run_back CR C CN CE)
  text : ∃ f fd, HasM P w K mg base CR "text" 1 f fd ["self"] (sp_Run_text CR C)
  cont : ∃ f fd, HasM P w K mg base CR "contents" 3 f fd ["self"] (sp_Run_contents CR C)
  writ : ∃ f fd, HasM P w K mg base CR "written" 4 f fd ["self"] (sp_Run_written CR C)
  len : ∃ f fd, PySem.W.findIn K (.ref CR) "__len__" = some (some (.ref f)) ∧ PySem.W.isFn K (.ref f) = true ∧ FnOk P w K mg base CX0 1 f fd ["self"] (sp_Run_len CR C) ∧ Binds K fd ["self"] []
  att : ∃ f fd, AttM K CR f fd
  D : AttD P w K mg base CR CT CS
  T : TrdC K mg CB CN CE
  tried : ∃ f fd, FunD K "_law_tried" "_law_tried" s_law_tried f fd ∧ mg "_law_tried" = some (.ref f) ∧ Binds K fd ["work"] []
  fails : HasX P w K mg base "_law_fails" 5 ["run", "text"] (sp_law_fails CR C CB)
  RC : RnC K CR
  PC : PgC K C
/-- the names of the code objects of the law's lambdas, and of those within these -/
def q1 : Str := (("law" : Str) ++ (".<locals>." : Str)) ++ ("<lambda>" : Str)
def q2 : Str := (q1 ++ (".<locals>." : Str)) ++ ("<lambda>" : Str)
theorem hq2 {X : Cx} {A : Around} {outer : List Env} {s : Shared} {H : Hp} {E : XK} {scope : Scope} {f c' : Addr} {ps : List Str} (h : X.env.qual ++ "<lambda>" = q1) : (LmK.lmCx X A outer s H E scope f c' ps).env.qual ++ "<lambda>" = q2 := by
  show ((X.env.qual ++ ("<lambda>" : Str)) ++ (".<locals>." : Str)) ++ ("<lambda>" : Str) = (q1 ++ (".<locals>." : Str)) ++ ("<lambda>" : Str)
  rw [h]
section
variable {X : Cx}
theorem in_c {c Pt c' f' : Addr} {A2 : Around} {outer2 : List Env} {s2 : Shared} {H2 : Hp} {Ech : XK} {sc1 : Scope} (TB : LamX.TabB X.base X.mg c Pt) (hq : X.env.qual ++ "<lambda>" = q1) :
    LamW (LmK.lmCx X A2 outer2 s2 H2 Ech sc1 f' c' []) (fun H => LmK.T1 H Pt q1 q2 ∧ ∃ P1, H c' = some (LmK.Cd c' P1 q1) ∧ P1 ≠ Pt ∧ LmK.T0 H P1 q2) q2 (fun _ _ => True) := by
  refine ⟨?_⟩
  have h1 : (LmK.lmCx X A2 outer2 s2 H2 Ech sc1 f' c' []).env.qual ++ "<lambda>" = q2 := hq2 hq
  have h2 : (LmK.lmCx X A2 outer2 s2 H2 Ech sc1 f' c' []).env.code = .ref c' := rfl
  have h3 : LamX.TabB (LmK.lmCx X A2 outer2 s2 H2 Ech sc1 f' c' []).base (LmK.lmCx X A2 outer2 s2 H2 Ech sc1 f' c' []).mg c Pt := TB
  generalize LmK.lmCx X A2 outer2 s2 H2 Ech sc1 f' c' [] = Y at h1 h2 h3 ⊢
  exact @LmK.lamAt_inner Y c Pt c' q1 q2 h3 h2 h1
end
section
variable {P : Program} {w : World} {K : PySem.W.Frag} {mg : Str → Option Value} {base : Heap} {C CR CT CS CB CN CE : Addr}
theorem tm_law (L : LF P w K mg base C CR CT CS CB CN CE) {f c Pt : Addr} {cdv : Value} {A : Around} {outer : List Env} {s : Shared} {H : Hp} {E : XK} (hr : Room 13 (A.deeper (envOfC "law" (defScope s_law) s.heap.objs.size f cdv))) (TB : LamX.TabB base mg c Pt) (hc : cdv = .ref c) :
    ∃ t, PSs (cxOf (L2.CX P w) P w K mg base n_law "law" (defScope s_law) f cdv A outer s H E) (defBody s_law) t := by
  have hu := hu_of hr
  have hu64 := hr.units
  have hu50 := hu50_of hr
  have hu1 : (A.deeper (envOfC "law" (defScope s_law) s.heap.objs.size f cdv)).units + 1 < cLine := hu
  obtain ⟨fA, fdA, GA⟩ := L.after
  obtain ⟨fR, fdR, GR⟩ := L.read
  obtain ⟨fB, fdB, GB⟩ := L.back
  obtain ⟨fT, fdT, GT⟩ := L.text
  obtain ⟨fC, fdC, GC⟩ := L.cont
  obtain ⟨fW, fdW, GW⟩ := L.writ
  obtain ⟨fL, fdL, l1, l2, l3, l4⟩ := L.len
  obtain ⟨fM, fdM, GM⟩ := L.att
  obtain ⟨f2, fd2, t1, t2, t3⟩ := L.tried
  have Z := L.Z
  have lamO : LamW (cxOf (L2.CX P w) P w K mg base n_law "law" (defScope s_law) f cdv A outer s H E) (fun H => LmK.T1 H Pt q1 q2) q1 (fun H c' => ∃ P', H c' = some (LmK.Cd c' P' q1) ∧ P' ≠ Pt ∧ LmK.T0 H P' q2) := ⟨@LmK.lamAt_outer (cxOf (L2.CX P w) P w K mg base n_law "law" (defScope s_law) f cdv A outer s H E) c Pt q1 q2 TB hc rfl⟩
  exact ⟨_, (pss_cons (ps_set (i := 1) sc_law.nd rfl (Or.inr rfl) (pe_lst (pa_cons (pe_slice sl_list (pv 0) po_none (po_some pe_int)) (pa_cons pe_int (pa_cons pe_int pa_nil))))) 
    (pss_cons (ps_set (i := 2) sc_law.nd rfl (Or.inr rfl) (pe_use L.prog (hr.mono (by decide)) (pa_cons (pv 1) (pa_cons (pe_lst (pa_cons pe_str (pa_cons pe_str pa_nil))) pa_nil)))) 
    (pss_cons (ps_asg (pe_tup (pa_cons (pe_use L.made (hr.mono (by decide)) (pa_cons (pv 2) pa_nil)) (pa_cons pe_str pa_nil))) (pg_tup rfl (pgs_cons (pg_name (i := 3) sc_law.nd rfl (Or.inl rfl)) (pgs_cons (pg_name (i := 11) sc_law.nd rfl (Or.inr rfl)) pgs_nil)))) 
    (pss_cons (ps_set (i := 12) sc_law.nd rfl (Or.inr rfl) (pe_mk L.RI (hr.mono (by decide)) (pa_cons (pv 3) pa_nil))) 
    (pss_cons (ps_for (passes_of rfl) rfl (pi_range1 rfl Z.z_range (pa_cons pe_int pa_nil)) (pg_name (i := 4) sc_law.nd rfl (Or.inl rfl)) 
     (pss_cons (ps_asg (pe_tup (pa_cons (pe_use L.next (hr.mono (by decide)) (pa_cons (pv 1) (pa_cons pe_int pa_nil))) (pa_cons (pe_join pe_str (pe_lc (own := [(("more" : Str), 14)]) (g := gName 14) rfl sc_law.nd (pi_range1 rfl Z.z_range (pa_cons (pe_use L.next (hr.mono (by decide)) (pa_cons (pv 1) (pa_cons pe_int pa_nil))) pa_nil)) (blkOk_by (own := [(("more" : Str), 14)]) (N := n_law) (sc := defScope s_law) (by decide +kernel)) (fun _ _ _ _ _ => (pg_name (i := 14) sc_law.nd rfl (Or.inl rfl))) (fun _ _ _ _ _ => pts_nil) (fun _ _ _ _ _ => (pe_use L.pick (hr.mono (by decide)) (pa_cons (pv 1) (pa_cons (pe_callTy (cListT rfl) (by rfl) Z.z_list (by decide +kernel) (pa_cons (pe_ix (ixT (K := K)) (pv 2) pe_int (fun _ _ => rfl)) pa_nil)) pa_nil)))))) pa_nil))) (pg_tup rfl (pgs_cons (pg_name (i := 5) sc_law.nd rfl (Or.inl rfl)) (pgs_cons (pg_name (i := 13) sc_law.nd rfl (Or.inr rfl)) pgs_nil)))) 
     (Evl.pss_cut (ps_if (pt_cmpR op_lt (pv 5) pe_int (nomark _)) 
      (pss_cons (ps_set (i := 6) sc_law.nd rfl (Or.inl rfl) (pe_ifExp (pt_cmpR op_eq (pv 5) pe_int (nomark _)) (pe_meth (pv 12) GR.cl GR.me GR.ok (hr.mono (by decide)) GR.b .nil (L2.passes_call (E := E0) (takes_of (E := E) rfl rfl rfl rfl) fun _ _ _ _ h => h.elim) (pa_cons (pv 13) pa_nil)) (pe_att (C := C) (CR := CR) (CT := CT) (CS := CS) (z := "same") (k := 7) (E := E0) L.D GM lamO (LmK.lamP_by (by kernel_rfl)) (show ("same" : Str) ∉ n_law from by decide +kernel) rfl rfl (fun _ _ _ _ _ _ => rfl) (hr.mono (by decide)) (takes_of (E := E) rfl rfl rfl rfl) (fun _ _ _ _ h => h.elim) (fun Ech A2 outer2 s2 H2 f' c' L' hr2 hL => by
        subst hL
        exact (pe_meth (pv 15) GR.cl GR.me GR.ok (hr2.mono (by decide)) GR.b .nil (L2.passes_call (E := Ech) (takes_of (E := Ech) rfl rfl rfl rfl) fun _ _ _ _ h => h) (pa_cons (pv 13) pa_nil))) (pv 12)))) 
      (pss_cons (ps_if (pt_cmpR (op_neI hu1) (pv 6) (pv 12) (nomark _)) 
       (pss_one (ps_ret pe_bl)) pss_nil) 
      (pss_one (ps_set (i := 11) sc_law.nd rfl (Or.inr rfl) (pe_op op_add_str (pv 11) (pv 13)))))) 
      (pss_one (ps_if (pt_cmpR op_eq (pv 5) pe_int (nomark _)) 
       (pss_cons (ps_set (i := 10) sc_law.nd rfl (Or.inr rfl) (pe_use L.next (hr.mono (by decide)) (pa_cons (pv 1) (pa_cons pe_int pa_nil)))) 
       (pss_cons (ps_set (i := 6) sc_law.nd rfl (Or.inl rfl) (pe_tried (k := 8) L.T t1 t2 t3 lamO (LmK.lamP_by (by kernel_rfl)) rfl rfl (fun _ _ _ _ _ => rfl) (hr.mono (by decide)) (fun Ech A2 outer2 s2 H2 f' c' L' hr2 hL => by
        subst hL
        exact (pe_meth (pv 12) GB.cl GB.me GB.ok (hr2.mono (by decide)) GB.b .nil (L2.passes_call (E := Ech) (takes_of (E := Ech) rfl rfl rfl rfl) fun _ _ _ _ h => h) (pa_cons (pv 10) pa_nil))) rfl)) 
       (pss_cons (ps_if (PW.pt (pw_or (pt_cmpR op_ne (pe_cmpR (op_eqT hu1) (pv 6) pe_str (nomark _)) (pe_cmpR op_gt (pv 10) (pe_callB call_len_str (by rfl) Z.z_len PySem.boot_len (pa_cons (pv 11) pa_nil)) (nomark _)) (nomark _)) (pw_or1 (PW.pt (pw_and (pt_cmpR (op_neT hu1) (pv 6) pe_str (nomark _)) (pw_and1 (pt_cmpR (op_neI hu1) (pv 6) (pv 12) (nomark _)))))))) 
        (pss_one (ps_ret pe_bl)) pss_nil) 
       (pss_one (ps_set (i := 11) sc_law.nd rfl (Or.inr rfl) (pe_ifExp (pt_cmpR op_le (pv 10) (pe_callB call_len_str (by rfl) Z.z_len PySem.boot_len (pa_cons (pv 11) pa_nil)) (nomark _)) (pe_slice sl_str (pv 11) po_none (po_some (pe_op op_sub (pe_callB call_len_str (by rfl) Z.z_len PySem.boot_len (pa_cons (pv 11) pa_nil)) (pv 10)))) (pv 11))))))) 
       (pss_one (ps_if (pt_cmpR op_eq (pv 5) pe_int (nomark _)) 
        (pss_one (ps_if (pt_cmpR (op_neD hu64) (pe_tried (k := 8) L.T t1 t2 t3 lamO (LmK.lamP_by (by kernel_rfl)) rfl rfl (fun _ _ _ _ _ => rfl) (hr.mono (by decide)) (fun Ech A2 outer2 s2 H2 f' c' L' hr2 hL => by
        subst hL
        exact (pe_att (C := C) (CR := CR) (CT := CT) (CS := CS) (z := "same") (k := 4) (E := Ech) L.D GM (in_c TB rfl) (LmK.lamP_by (by kernel_rfl)) (show ("same" : Str) ∉ n_law ++ [] from by decide +kernel) (hq2 rfl) rfl (fun _ _ _ _ _ _ => rfl) (hr2.mono (by decide)) (takes_of (E := Ech) rfl rfl rfl rfl) (fun _ _ _ _ h => h) (fun Ech2 A3 outer3 s3 H3 f3 c3 L3 hr3 hL3 => by
          subst hL3
          exact (pe_useX L.fails (hr3.mono (by decide)) (takes_of (E := Ech2) rfl rfl rfl rfl) (fun _ _ _ _ h => h) (pa_cons (pv 15) (pa_cons (pv 13) pa_nil)))) (pv 12))) rfl) (pe_tup (pa_cons pe_str (pa_cons pe_int pa_nil))) (nomark _)) 
         (pss_one (ps_ret pe_bl)) pss_nil)) 
        (pss_one (ps_if (pt_cmpR op_eq (pv 5) pe_int (nomark _)) 
         (pss_one (ps_if (pt_cmpR (op_neD hu64) (pe_tried (k := 8) L.T t1 t2 t3 lamO (LmK.lamP_by (by kernel_rfl)) rfl rfl (fun _ _ _ _ _ => rfl) (hr.mono (by decide)) (fun Ech A2 outer2 s2 H2 f' c' L' hr2 hL => by
        subst hL
        exact (pe_meth (pv 12) GR.cl GR.me GR.ok (hr2.mono (by decide)) GR.b .nil (L2.passes_call (E := Ech) (takes_of (E := Ech) rfl rfl rfl rfl) fun _ _ _ _ h => h) (pa_cons (pe_op op_add_str (pe_op op_add_str (pv 13) pe_str) (pv 13)) pa_nil))) rfl) (pe_tup (pa_cons pe_str (pa_cons (pe_callB call_len_str (by rfl) Z.z_len PySem.boot_len (pa_cons (pv 13) pa_nil)) pa_nil))) (nomark _)) 
          (pss_one (ps_ret pe_bl)) pss_nil)) 
         (pss_one (ps_if (pt_cmpR (op_neI hu1) (pe_att (C := C) (CR := CR) (CT := CT) (CS := CS) (z := "same") (k := 7) (E := E0) L.D GM lamO (LmK.lamP_by (by kernel_rfl)) (show ("same" : Str) ∉ n_law from by decide +kernel) rfl rfl (fun _ _ _ _ _ _ => rfl) (hr.mono (by decide)) (takes_of (E := E) rfl rfl rfl rfl) (fun _ _ _ _ h => h.elim) (fun Ech A2 outer2 s2 H2 f' c' L' hr2 hL => by
        subst hL
        exact (pe_meth (pe_meth (pv 15) GR.cl GR.me GR.ok (hr2.mono (by decide)) GR.b .nil (L2.passes_call (E := Ech) (takes_of (E := Ech) rfl rfl rfl rfl) fun _ _ _ _ h => h) (pa_cons (pv 13) pa_nil)) GB.cl GB.me GB.ok (hr2.mono (by decide)) GB.b .nil (L2.passes_call (E := Ech) (takes_of (E := Ech) rfl rfl rfl rfl) fun _ _ _ _ h => h) (pa_cons (pe_callB call_len_str (by rfl) Z.z_len PySem.boot_len (pa_cons (pv 13) pa_nil)) pa_nil))) (pv 12)) (pv 12) (nomark _)) 
          (pss_one (ps_ret pe_bl)) pss_nil))))))))) 
     (pss_cons (ps_asg (pe_meth (pv 3) GA.cl GA.me GA.ok (hr.mono (by decide)) GA.b .nil pass0 (pa_cons (pv 11) pa_nil)) (pg_tup rfl (pgs_cons (pg_name (i := 7) sc_law.nd rfl (Or.inl rfl)) (pgs_cons (pg_name (i := 8) sc_law.nd rfl (Or.inl rfl)) pgs_nil)))) 
     (pss_cons (ps_if (PW.pt (pw_or (pt_cmpR op_ne (pe_meth0 (pv 12) GT.cl GT.me GT.ok (hr.mono (by decide)) GT.b .nil pass0) (pv 11) (nomark _)) (pw_or (pt_cmpR op_ne (pe_callB (call_lenI l1 l2 l3 l4 (hr.mono (by decide))) (by rfl) Z.z_len PySem.boot_len (pa_cons (pv 12) pa_nil)) (pe_callB call_len_str (by rfl) Z.z_len PySem.boot_len (pa_cons (pv 11) pa_nil)) (nomark _)) (pw_or (pt_cmpR op_ne (pe_fldK (K := K) (pv 12) rfl) (pv 7) (nomark _)) (pw_or1 (pt_cmpR (op_neQ hu50) (pe_meth0 (pv 12) GC.cl GC.me GC.ok (hr.mono (by decide)) GC.b .nil pass0) (pv 8) (nomark _))))))) 
      (pss_one (ps_ret pe_bl)) pss_nil) 
     (pss_one (ps_if (pt_cmpR op_ne (pe_meth0 (pv 12) GW.cl GW.me GW.ok (hr.mono (by decide)) GW.b .nil pass0) (pe_use L.run (hr.mono (by decide)) (pa_cons (pv 2) (pa_cons (pv 11) pa_nil))) (nomark _)) 
      (pss_one (ps_ret pe_bl)) pss_nil))))))) 
    (pss_cons (ps_set (i := 9) sc_law.nd rfl (Or.inl rfl) (pe_meth0 (pv 12) GC.cl GC.me GC.ok (hr.mono (by decide)) GC.b .nil pass0)) 
    (pss_cons (ps_dput hu (pv 9) pe_str pe_str rfl) 
    (pss_cons (ps_if (PW.pt (pw_or (pt_cmpR op_ne (pe_tried (k := 8) L.T t1 t2 t3 lamO (LmK.lamP_by (by kernel_rfl)) rfl rfl (fun _ _ _ _ _ => rfl) (hr.mono (by decide)) (fun Ech A2 outer2 s2 H2 f' c' L' hr2 hL => by
        subst hL
        exact (pe_meth (pv 12) GB.cl GB.me GB.ok (hr2.mono (by decide)) GB.b .nil (L2.passes_call (E := Ech) (takes_of (E := Ech) rfl rfl rfl rfl) fun _ _ _ _ h => h) (pa_cons (pe_op op_add (pe_callB call_len_str (by rfl) Z.z_len PySem.boot_len (pa_cons (pv 11) pa_nil)) pe_int) pa_nil))) rfl) pe_str (nomark _)) (pw_or1 (pt_cmpR (op_neQ hu50) (pe_meth0 (pv 12) GC.cl GC.me GC.ok (hr.mono (by decide)) GC.b .nil pass0) (pe_ix (ixT (K := K)) (pe_meth (pv 3) GA.cl GA.me GA.ok (hr.mono (by decide)) GA.b .nil pass0 (pa_cons (pv 11) pa_nil)) pe_int (fun _ _ => rfl)) (nomark _))))) 
     (pss_one (ps_ret pe_bl)) pss_nil) 
    (pss_cons (ps_if (pt_cmpR op_ne (pe_tried (k := 8) L.T t1 t2 t3 lamO (LmK.lamP_by (by kernel_rfl)) rfl rfl (fun _ _ _ _ _ => rfl) (hr.mono (by decide)) (fun Ech A2 outer2 s2 H2 f' c' L' hr2 hL => by
        subst hL
        exact (pe_meth (pv 12) GB.cl GB.me GB.ok (hr2.mono (by decide)) GB.b .nil (L2.passes_call (E := Ech) (takes_of (E := Ech) rfl rfl rfl rfl) fun _ _ _ _ h => h) (pa_cons (pe_un un_neg pe_int) pa_nil))) rfl) pe_str (nomark _)) 
     (pss_one (ps_ret pe_bl)) pss_nil) 
    (pss_one (ps_ret (pe_cmpR (op_eqQ hu50) (pe_tried (k := 8) L.T t1 t2 t3 lamO (LmK.lamP_by (by kernel_rfl)) rfl rfl (fun _ _ _ _ _ => rfl) (hr.mono (by decide)) (fun Ech A2 outer2 s2 H2 f' c' L' hr2 hL => by
        subst hL
        exact (pe_meth (pv 12) GR.cl GR.me GR.ok (hr2.mono (by decide)) GR.b .nil (L2.passes_call (E := Ech) (takes_of (E := Ech) rfl rfl rfl rfl) fun _ _ _ _ h => h) (pa_cons pe_non pa_nil))) rfl) (pe_tup (pa_cons pe_str (pa_cons pe_non pa_nil))) (nomark _)))))))))))))⟩
end
end KX
end
section
set_option Elab.async false
set_option linter.all false
set_option maxRecDepth 100000
set_option maxHeartbeats 8000000
/-! Rn20: what the law knows of its run, and what its lambdas do. -/
namespace KX
open PySem PySem.Spec PyProof.Rows L2 Evl ClX

theorem T0.kp {H H' : Hp} {P : Addr} {q : Str} (t : LmK.T0 H P q) (e : Kp H H') : LmK.T0 H' P q := by
  obtain ⟨ps, h1, h2, h3⟩ := t
  refine ⟨ps, e _ _ rfl h1, h2, fun pos cv hc => ?_⟩
  obtain ⟨c, P', e1, e2⟩ := h3 pos cv hc
  exact ⟨c, P', e1, e _ _ rfl e2⟩
theorem T1.kp {H H' : Hp} {P : Addr} {q r : Str} (t : LmK.T1 H P q r) (e : Kp H H') : LmK.T1 H' P q r := by
  obtain ⟨ps, h1, h2, h3⟩ := t
  refine ⟨ps, e _ _ rfl h1, h2, fun pos cv hc => ?_⟩
  obtain ⟨c, P', e1, e2, e3, e4⟩ := h3 pos cv hc
  exact ⟨c, P', e1, e2, e _ _ rfl e3, T0.kp e4 e⟩
theorem Told.kt {H H' : Hp} {g : Pg} {b : Addr} (e : KT H H') (h : Told H g b) : Told H' g b := by
  obtain ⟨ra, fa, sa, ea, h1, h2⟩ := h
  exact ⟨ra, fa, sa, ea, e _ _ rfl rfl h1, h2.kt e⟩
theorem DrAt.kt {K : PySem.W.Frag} {H H' : Hp} {d : Addr} (e : KT H H') (h : DrAt K H d) : DrAt K H' d := by
  obtain ⟨a, ns, h1, h2, h3⟩ := h
  exact ⟨a, ns, e _ _ rfl rfl h1, e _ _ rfl rfl h2, h3⟩
/-- what the law knows between its statements -/
structure LwI (K : PySem.W.Frag) (CR C Pt : Addr) (g : Pg) (dr tp p x : Addr) (t : Str) (H : Hp) : Prop where
  d : DrAt K H dr
  o : Told H g tp
  p : PgAt C H p g.td.pg
  r : RnAt CR C H x g.td.pg.td.pg t
  T : LmK.T1 H Pt q1 q2
section
variable {K : PySem.W.Frag} {CR C CT CS CB CN CE Pt : Addr} {g : Pg} {dr tp p x : Addr} {t u : Str} {H H' : Hp}
theorem LwI.kp (I : LwI K CR C Pt g dr tp p x t H) (e : Kp H H') (hp : PgAt C H' p g.td.pg) (hr : RnAt CR C H' x g.td.pg.td.pg u) : LwI K CR C Pt g dr tp p x u H' := ⟨I.d.kt (KT.kp e), I.o.kt (KT.kp e), hp, hr, T1.kp I.T e⟩
theorem LwI.ex (I : LwI K CR C Pt g dr tp p x t H) (e : Ex H H') : LwI K CR C Pt g dr tp p x t H' := I.kp (Kp.ex e) (I.p.ex e) (I.r.ex e)
theorem LwI.tex (I : LwI K CR C Pt g dr tp p x t H) (e : LmK.TEx H H') (T : LmK.T1 H' Pt q1 q2) : LwI K CR C Pt g dr tp p x t H' := ⟨I.d.kt (KT.tex e), I.o.kt (KT.tex e), I.p.tex e, I.r.tex e, T⟩
theorem LwI.exB (I : LwI K CR C Pt g dr tp p x t H) (e : ExB x H H') (hr : RnAt CR C H' x g.td.pg.td.pg u) : LwI K CR C Pt g dr tp p x u H' := by
  obtain ⟨dx, fs, q, l, hx, RF, _, _⟩ := id I.r
  exact I.kp (ExB.kp hx e) (I.p.exB hx RF.o e) hr
theorem LwI.exA {a da : Addr} {fs : List (Str × V)} (I : LwI K CR C Pt g dr tp p x t H) (h : H a = some (.ins CT da fs)) (ho : OnlyF trN fs) (e : ExB a H H') : LwI K CR C Pt g dr tp p x t H' := I.kp (ExB.kp h e) (I.p.exA h ho e) (I.r.exA h ho e)
/-- .. the trial's end put the run back -/
theorem LwI.exAx {a da dy : Addr} {fs fy : List (Str × V)} (I : LwI K CR C Pt g dr tp p x u H) (h : H a = some (.ins CT da fs)) (ho : OnlyF trN fs) (hy : H x = some (.ins CR dy fy)) (hof : OnlyF rnN fy) (e : ExB2 a x H H') (hr : RnAt CR C H' x g.td.pg.td.pg t) : LwI K CR C Pt g dr tp p x t H' := by
  have kp : Kp H H' := fun b o k q => e b o (fun z => by
    subst z
    rw [h] at q
    cases q
    cases k) (fun z => by
    subst z
    rw [hy] at q
    cases q
    cases k) q
  refine I.kp kp ?_ hr
  obtain ⟨dp, fp, ra, fa, sa, ea, h1, h2, h3⟩ := I.p
  refine ⟨dp, fp, ra, fa, sa, ea, e _ _ (fun z => ?_) (fun z => ?_) h1, h2, h3.kp kp⟩
  · subst z
    rw [h] at h1
    cases h1
    have := h2.l
    rw [ho.no (by decide +kernel)] at this
    cases this
  · subst z
    rw [hy] at h1
    cases h1
    have := h2.l
    rw [hof.no (by decide +kernel)] at this
    cases this
/-- pure facts: a drawn program, texts of its letters, not too long -/
structure LwP (g : Pg) (t u : Str) : Prop where
  D : DrOk sg4 g
  ht : ∀ c ∈ cds t, c ∈ cds g.L
  hu : ∀ c ∈ cds u, c ∈ cds g.L
  z : t.length + u.length ≤ 400
theorem LwP.go (h : LwP g t u) : GoOk g.td.pg.td.pg := (goOk h.D).td (small_of h.D).td (by decide)
theorem LwP.t2 (h : LwP g t u) : ∀ c ∈ cds t, c ∈ cds g.td.pg.td.pg.L := fun c hc => lts_mem.mpr (lts_mem.mpr (h.ht c hc))
theorem LwP.u2 (h : LwP g t u) : ∀ c ∈ cds u, c ∈ cds g.td.pg.td.pg.L := fun c hc => lts_mem.mpr (lts_mem.mpr (h.hu c hc))
theorem LwP.no (h : LwP g t u) {c : Nat} (hc : c ≠ 97 ∧ c ≠ 98) : c ∉ cds g.td.pg.td.pg.L := fun z => by
  have z2 : c ∈ cds g.L := lts_mem.mp (lts_mem.mp z)
  rcases h.D.L with e | e
  · rw [e] at z2
    have : cds ("ab" : Str) = [97, 98] := by decide +kernel
    rw [this] at z2
    simp at z2
    omega
  · rw [e] at z2
    have : cds ("b" : Str) = [98] := by decide +kernel
    rw [this] at z2
    simp at z2
    omega
variable {σ : L2.St} {Q : VK} {E : XK}
/-- run.read(text) -/
theorem l_read {i j : Nat} (I : LwI K CR C Pt g dr tp p x t H) (F : LwP g t u) (hi : σ[i]? = some (some (.ref x))) (hj : σ[j]? = some (some (.str u))) (k : ∀ H', ExB x H H' → LwI K CR C Pt g dr tp p x (t ++ u) H' → Q (.ref x) H') :
    tMeth CR "read" (sp_Run_read CR C CB) [] E (tVar i) (tCons (tVar j) tNil) σ H Q := by
  obtain ⟨dx, fs, q, l, hx, RF, _, _⟩ := id I.r
  have hz := F.z
  exact ⟨_, hi, x, dx, fs, rfl, hx, RF.o.no (by decide +kernel), _, hj, x, g.td.pg.td.pg, t, .str u, rfl, I.r, F.go, F.t2, .inr (.inl ⟨u, rfl, F.u2, by omega, fun H' b R => k H' b (I.exB b R)⟩)⟩
/-- run.attempt(lambda same: ..) whose body brings the run to the text t2 -/
theorem l_att {i : Nat} {G' : Hp → Addr → Prop} {G : Hp → Prop} {q : Str} {tb : XK → TE} {t2 : Str} (I : LwI K CR C Pt g dr tp p x t H) (hi : σ[i]? = some (some (.ref x))) (hG : G H)
    (hb : ∀ (Ech : XK) (Q' : VK) (H1 H2 : Hp), LmK.TEx H H1 → G H1 → Ex H1 H2 → LwI K CR C Pt g dr tp p x t H2 → (∀ H3, ExB x H2 H3 → LwI K CR C Pt g dr tp p x t2 H3 → Q' (.ref x) H3) → tb Ech (σ ++ [some (.ref x)]) H2 Q') (hT : ∀ H1, G H1 → LmK.T1 H1 Pt q1 q2)
    (k : ∀ H', LwI K CR C Pt g dr tp p x t2 H' → Q (.ref x) H') : tAtt CR C CT G G' q tb E (tVar i) σ H Q := by
  refine ⟨_, hi, x, g.td.pg.td.pg, t, rfl, hG, I.r, fun H1 c' P' te g1 _ hc => ⟨I.r.tex te, fun H2 e2 Q' hQ => ⟨e2 _ _ hc, ?_⟩⟩⟩
  have I2 := (I.tex te (hT _ g1)).ex e2
  refine hb _ Q' H1 H2 te g1 e2 I2 fun H3 b3 I3 => hQ _ _ ⟨b3, fun a H4 ⟨da, fa, hn, ha, ho⟩ b4 => k H4 (I3.exA ha ho b4)⟩
/-- the body same.read(text) -/
theorem l_attR {i j : Nat} {G' : Hp → Addr → Prop} {G : Hp → Prop} {q : Str} (I : LwI K CR C Pt g dr tp p x t H) (F : LwP g t u) (hl : σ.length = 15) (hi : σ[i]? = some (some (.ref x))) (hj : σ[j]? = some (some (.str u))) (hG : G H) (hT : ∀ H1, G H1 → LmK.T1 H1 Pt q1 q2)
    (k : ∀ H', LwI K CR C Pt g dr tp p x (t ++ u) H' → Q (.ref x) H') : tAtt CR C CT G G' q (fun Ech => tMeth CR "read" (sp_Run_read CR C CB) [] Ech (tVar 15) (tCons (tVar j) tNil)) E (tVar i) σ H Q := by
  refine l_att I hi hG (fun Ech Q' H1 H2 te g1 e2 I2 k2 => ?_) hT k
  have hjl : j < 15 := by
    have := (List.getElem?_eq_some_iff.mp hj).1
    omega
  exact l_read I2 F (by rw [List.getElem?_append_right (by omega), hl]; rfl) (by rw [List.getElem?_append_left (by omega)]; exact hj) k2
/-- .. same.read(text).back(len(text)) -/
theorem l_attB {i j : Nat} {G' : Hp → Addr → Prop} {G : Hp → Prop} {q : Str} (I : LwI K CR C Pt g dr tp p x t H) (F : LwP g t u) (hl : σ.length = 15) (hi : σ[i]? = some (some (.ref x))) (hj : σ[j]? = some (some (.str u))) (hG : G H) (hT : ∀ H1, G H1 → LmK.T1 H1 Pt q1 q2)
    (k : ∀ H', LwI K CR C Pt g dr tp p x t H' → Q (.ref x) H') : tAtt CR C CT G G' q (fun Ech => tMeth CR "back" (sp_Run_back CR C CN CE) [] Ech (tMeth CR "read" (sp_Run_read CR C CB) [] Ech (tVar 15) (tCons (tVar j) tNil)) (tCons (tCB (fun xs H Q => ∃ z, xs = [.str z] ∧ z.length ≤ sizeLine ∧ Q (.int z.length) H) (tCons (tVar j) tNil)) tNil)) E (tVar i) σ H Q := by
  refine l_att I hi hG (fun Ech Q' H1 H2 te g1 e2 I2 k2 => ?_) hT k
  have hjl : j < 15 := by
    have := (List.getElem?_eq_some_iff.mp hj).1
    omega
  have hj2 : (σ ++ [some (V.ref x)])[j]? = some (some (.str u)) := by rw [List.getElem?_append_left (by omega)]; exact hj
  refine l_read I2 F (by rw [List.getElem?_append_right (by omega), hl]; rfl) hj2 fun H3 b3 I3 => ?_
  obtain ⟨dx, fs, q', l, hx, RF, _, _⟩ := id I3.r
  have hz := F.z
  refine ⟨x, dx, fs, rfl, hx, RF.o.no (by decide +kernel), ⟨.str u, hj2, u, rfl, sz_of (by omega), x, g.td.pg.td.pg, t ++ u, (u.length : Int), rfl, I3.r, by rw [len_app]; omega, .inr (.inr ⟨u.length, rfl, by rw [len_app]; omega, fun H4 b4 R4 => ?_⟩)⟩⟩
  have e : tkS (t ++ u) ((t ++ u).length - u.length) = t := by
    rw [len_app, Nat.add_sub_cancel]
    exact tkS_app t u
  rw [e] at R4
  exact k2 H4 (b3.trans b4) (I3.exB b4 R4)
/-- _law_tried(lambda: run.back(m)) -/
theorem l_back {i : Nat} {G' : Hp → Addr → Prop} {G : Hp → Prop} {q : Str} {tm : TE} {m : Int} (I : LwI K CR C Pt g dr tp p x t H) (F : LwP g t u) (hi : σ[i]? = some (some (.ref x))) (hm : ∀ H1 Q1, Q1 (.int m) H1 → tm σ H1 Q1) (hG : G H) (hT : ∀ H1, G H1 → LmK.T1 H1 Pt q1 q2)
    (k : ∀ v t2 H', ((m < 0 ∧ v = .str "number" ∧ t2 = t) ∨ ((t.length : Int) < m ∧ v = .str "nothing" ∧ t2 = t) ∨ (∃ n : Nat, m = (n : Int) ∧ n ≤ t.length ∧ v = .ref x ∧ t2 = tkS t (t.length - n))) → LwI K CR C Pt g dr tp p x t2 H' → Q v H') :
    tTrd CB CN CE G G' q (fun Ech _ => tMeth CR "back" (sp_Run_back CR C CN CE) [] Ech (tVar i) (tCons tm tNil)) σ H Q := by
  refine ⟨hG, fun H1 c' P' te g1 _ hc => ?_⟩
  have I1 := I.tex te (hT _ g1)
  obtain ⟨dx, fs, q', l, hx, RF, _, _⟩ := id I1.r
  have hz := F.z
  refine ⟨_, hi, x, dx, fs, rfl, hx, RF.o.no (by decide +kernel), hm _ _ ⟨x, g.td.pg.td.pg, t, m, rfl, I1.r, by omega, ?_⟩⟩
  by_cases h1 : m < 0
  · exact .inl ⟨h1, fun H2 e2 => .inr (.inr ⟨rfl, fun H3 e3 => k _ t H3 (.inl ⟨h1, rfl, rfl⟩) (I1.ex (e2.trans e3))⟩)⟩
  by_cases h2 : (t.length : Int) < m
  · exact .inr (.inl ⟨h2, fun H2 e2 => .inr (.inl ⟨rfl, fun H3 e3 => k _ t H3 (.inr (.inl ⟨h2, rfl, rfl⟩)) (I1.ex (e2.trans e3))⟩)⟩)
  · exact .inr (.inr ⟨m.toNat, by omega, by omega, fun H2 b2 R2 => k _ _ H2 (.inr (.inr ⟨m.toNat, by omega, by omega, rfl, rfl⟩)) (I1.exB b2 R2)⟩)
/-- _law_tried(lambda: run.read(..)) of what is refused: v2 is the place -/
theorem l_bad {i : Nat} {G' : Hp → Addr → Prop} {G : Hp → Prop} {q : Str} {tm : TE} {v v2 : V} (I : LwI K CR C Pt g dr tp p x t H) (F : LwP g t u) (hi : σ[i]? = some (some (.ref x))) (hm : ∀ H1 Q1, Q1 v H1 → tm σ H1 Q1) (hG : G H) (hT : ∀ H1, G H1 → LmK.T1 H1 Pt q1 q2)
    (hv : (v = .non ∧ v2 = .non) ∨ ∃ (z : Str) (n : Nat), v = .str z ∧ z.length ≤ 100000 ∧ BadAt g.td.pg.td.pg.L (cds z) n ∧ v2 = .int (n : Int))
    (k : ∀ pp H', H' pp = some (.tup [.str "word", v2]) → LwI K CR C Pt g dr tp p x t H' → Q (.ref pp) H') :
    tTrd CB CN CE G G' q (fun Ech _ => tMeth CR "read" (sp_Run_read CR C CB) [] Ech (tVar i) (tCons tm tNil)) σ H Q := by
  refine ⟨hG, fun H1 c' P' te g1 _ hc => ?_⟩
  have I1 := I.tex te (hT _ g1)
  obtain ⟨dx, fs, q', l, hx, RF, _, _⟩ := id I1.r
  have rz : Rz CB "place" H1 (TrdE CB CN CE Q) v2 := fun d H2 e2 _ hd => .inl ⟨rfl, d, _, v2, rfl, hd, by simp [List.lookup], fun pp H3 hp e3 h3 => k pp H3 h3 (I1.ex (e2.trans e3))⟩
  refine ⟨_, hi, x, dx, fs, rfl, hx, RF.o.no (by decide +kernel), hm _ _ ⟨x, g.td.pg.td.pg, t, v, rfl, I1.r, F.go, F.t2, ?_⟩⟩
  rcases hv with ⟨rfl, rfl⟩ | ⟨z, n, rfl, hz, hb, rfl⟩
  · exact .inl ⟨rfl, rz⟩
  · exact .inr (.inr ⟨z, n, rfl, hz, hb, rz⟩)
/-- _law_tried(lambda: run.attempt(lambda same: _law_fails(same, text))) -/
theorem l_fails {i j : Nat} {G' : Hp → Addr → Prop} {q : Str} (I : LwI K CR C Pt g dr tp p x t H) (F : LwP g t u) (hl : σ.length = 15) (hi : σ[i]? = some (some (.ref x))) (hj : σ[j]? = some (some (.str u)))
    (k : ∀ pp H', H' pp = some (.tup [.str "word", .int 0]) → LwI K CR C Pt g dr tp p x t H' → Q (.ref pp) H') :
    tTrd CB CN CE (fun H => LmK.T1 H Pt q1 q2) (fun H c' => ∃ P', H c' = some (LmK.Cd c' P' q1) ∧ P' ≠ Pt ∧ LmK.T0 H P' q2) q (fun Ech c' => tAtt CR C CT (fun H => LmK.T1 H Pt q1 q2 ∧ ∃ P1, H c' = some (LmK.Cd c' P1 q1) ∧ P1 ≠ Pt ∧ LmK.T0 H P1 q2) G' q2 (fun Ech2 => tCall (sp_law_fails CR C CB) [] Ech2 (tCons (tVar 15) (tCons (tVar j) tNil))) Ech (tVar i)) σ H Q := by
  refine ⟨I.T, fun H1 c' P' te g1 g2 hc => ?_⟩
  have I1 := I.tex te g1
  have hz := F.z
  have hjl : j < 15 := by
    have := (List.getElem?_eq_some_iff.mp hj).1
    omega
  refine ⟨_, hi, x, g.td.pg.td.pg, t, rfl, ⟨g1, g2⟩, I1.r, fun H2 c2 P2 te2 g3 _ hc2 => ⟨I1.r.tex te2, fun H3 e3 Q' hQ => ⟨e3 _ _ hc2, ?_⟩⟩⟩
  have I3 := (I1.tex te2 g3.1).ex e3
  refine ⟨.ref x, by rw [List.getElem?_append_right (by omega), hl]; rfl, .str u, by rw [List.getElem?_append_left (by omega)]; exact hj, x, g.td.pg.td.pg, t, u, rfl, I3.r, F.go, F.t2, F.u2, by omega, F.no (by decide), fun d H4 b4 R4 hd => ?_⟩
  have I4 := I3.exB b4 R4
  obtain ⟨dx, fs, q', l, hx, RF, _, _⟩ := id R4
  refine ⟨⟨CB, rfl⟩, b4, dx, fs, hx, RF.full, fun a H5 ⟨da, fa, hn, ha, ho⟩ b5 R5 => .inl ⟨rfl, d, _, .int 0, rfl, b5 _ _ (fun z => ?_) (fun z => ?_) hd, by simp [List.lookup], fun pp H6 hp e6 h6 => k pp H6 h6 ((I4.exAx ha ho hx RF.o b5 R5).ex e6)⟩⟩
  · subst z
    rw [hd] at ha
    cases ha
  · subst z
    rw [hd] at hx
    cases hx
end
end KX
end
section
set_option Elab.async false
set_option linter.all false
set_option maxRecDepth 100000
set_option maxHeartbeats 8000000
/-! Rn21: what the law draws in a turn; draws hidden; a def with its code object told. -/
namespace KX
open PySem PySem.Spec PyProof.Rows L2 Evl ClX

/-- the list of draws is from here on one of some number -/
def tHide (t : TS) : TS := fun D σ H => ∃ d a, ∃ n : Nat, H d = some (.lst [.ref a, .int 0, .int n]) ∧ t D σ (upd H d (drawn d a))
theorem pss_hide {X : Cx} {rest : List Stmt} {t : TS} (h : PSs X rest t) : PSs X rest (tHide t) := by
  constructor
  intro pins s σ H D I q
  obtain ⟨d, a, n, hd, q⟩ := q
  have x := I.hok d _ hd
  obtain ⟨_, its, c, _, g⟩ := id x
  exact h.run pins s σ _ D (I.write (t' := s.toks) (e := d) (by rw [hd]; trivial) (.inl rfl) (fun _ _ _ z => z) ⟨_, g⟩ (drawn_ok (n := n) x)) q
/-- a def whose code object is at c -/
structure FunC (K : PySem.W.Frag) (x qual : Str) (st : Stmt) (f : Addr) (fd : FuncData) (c : Addr) : Prop where
  ex : ∃ (oc : Value) (od : Option Addr) (dV kV doc pm : Value) (an : Option Addr) (ct : Value) (osl : Array (Option Value)), fd = PySem.W.fnOf x qual (defArgs st) (defBody st) (defScope st) dV kV doc pm an (.ref c) ct ∧ K.lookup f = some ⟨oc, od, .func fd, osl⟩ ∧ PySem.W.codeIn K (.ref c) qual = true
theorem FunC.okX {P : Program} {w : World} {K : PySem.W.Frag} {mg : Str → Option Value} {base : Heap} {x qual : Str} {st : Stmt} {f c : Addr} {fd : FuncData} {N ps : List Str} {k : Nat} {sp : Sp} (F : FunC K x qual st f fd c) (S : FnScope N ps (defScope st)) (len : ∀ vs H Q E, sp vs H Q E → vs.length = ps.length)
    (hbody : ∀ (A : Around) (outer : List Env) (s : Shared) (H : Hp) (vs : List V) (Q : VK) (E : XK), Room k (A.deeper (envOfC qual (defScope st) s.heap.objs.size f (.ref c))) → sp vs H Q E →
      ∃ t, PSs (cxOf (L2.CX P w) P w K mg base N qual (defScope st) f (.ref c) A outer s H E) (defBody st) t ∧ t { nx := fun _ H' => Q .non H', rt := Q } (start N vs) H) : FnOk P w K mg base (L2.CX P w) (k + 1) f fd ps sp := by
  obtain ⟨oc, od, dV, kV, doc, pm, an, ct, osl, rfl, lk, hcd⟩ := F.ex
  exact fn_of lk hcd S len fun A outer s H vs Q E hr hsp => hbody A outer s H vs Q E hr hsp
/-- range(n), n known -/
def iCon (n : Nat) : TI := fun _ H R => R (Itr 0 n) H
section
variable {K : PySem.W.Frag} {σ : L2.St} {H : Hp}
theorem src_con (n : Nat) : Src (iCon n) σ H n (fun i x _ => x = .int (i : Int)) := fun H1 e R r =>
  r _ (fun _ => True) H1 (Ex.refl H1) trivial (fun _ _ _ _ => trivial) (fun _ _ _ _ _ _ _ _ => trivial) ⟨fun _ _ hi _ => hi, fun _ _ => Nat.le_refl _, fun i H x H' _ _ y => ⟨y.1, by rw [y.2, Int.zero_add]⟩⟩
theorem new_lcR {ta : TA} {te : TE} {ws : List Nat} {j m : Nat} {N : HO → Hp → Prop} (h : EvPA ta σ H (fun vs _ => ∃ r : Int, vs = [.int r] ∧ 0 ≤ r ∧ r < (m : Int))) (hm : m ≤ 1000) (k : ∀ n : Nat, n < m → New (tLc (iCon n) (gName j) tYes te ws) σ H N) : New (tLc (iRng1 ta) (gName j) tYes te ws) σ H N := fun H1 e Q q => by
  refine h H1 e _ fun vs H2 e2 ⟨r, ev, h0, h1⟩ => ⟨r, ev, by omega, by omega, ?_⟩
  exact k r.toNat (by omega) H2 (e.trans e2) Q fun p o H3 a b c d => q p o H3 (by
    cases z : H1 p with
    | none => rfl
    | some y =>
      rw [e2 _ _ z] at a
      cases a) (e2.trans b) c d
theorem cat_sg {L : Str} : ∀ {xs : List V}, (∀ x ∈ xs, ∃ c, c ∈ cds L ∧ x = .str ⟨#[c]⟩) → ∃ ys : List Str, xs = ys.map V.str ∧ (cat ys).length = xs.length ∧ ∀ c ∈ cds (cat ys), c ∈ cds L
  | [], _ => ⟨[], rfl, by rw [len_cat]; rfl, fun c hc => by
    rw [cds_cat] at hc
    cases hc⟩
  | x :: xs, h => by
    obtain ⟨ys, e1, e2, e3⟩ := cat_sg (L := L) (xs := xs) fun y hy => h y (List.mem_cons_of_mem _ hy)
    obtain ⟨c, hc, rfl⟩ := h x List.mem_cons_self
    refine ⟨⟨#[c]⟩ :: ys, by rw [e1]; rfl, ?_, fun d hd => ?_⟩
    · rw [len_cat] at e2 ⊢
      rw [List.map_cons, List.sum_cons, List.length_cons, e2]
      show 1 + _ = _
      omega
    · rw [cds_cat, List.map_cons, List.flatten_cons] at hd
      rcases List.mem_append.mp hd with z | z
      · rw [List.mem_singleton.mp z]
        exact hc
      · exact e3 d (by rw [cds_cat]; exact z)
theorem ep_joinN {te : TE} {L : Str} {m : Nat} (h : New te σ H (fun o _ => ∃ xs, o = .lst xs ∧ xs.length ≤ m ∧ ∀ x ∈ xs, ∃ c, c ∈ cds L ∧ x = .str ⟨#[c]⟩)) (hm : m ≤ 1000) : EvP (tM1 (rJoin K) (tC (.str "")) te) σ H (fun v _ => ∃ u : Str, v = .str u ∧ u.length ≤ m ∧ ∀ c ∈ cds u, c ∈ cds L) := fun H1 e Q q =>
  ⟨⟨"", rfl⟩, h H1 e _ fun p o H2 _ e2 h2 ⟨xs, eo, hx, hc⟩ => by
    obtain ⟨ys, e1, e3, e4⟩ := cat_sg hc
    refine ⟨"", p, ys, rfl, rfl, .inl (by rw [← e1]; exact sq_of (by rw [h2, eo])), ?_, q _ H2 e2 ⟨cat ys, rfl, by omega, e4⟩⟩
    have l := e3
    rw [len_cat] at l
    show (ys.map (·.length)).sum + ys.length * 0 ≤ 16777216
    omega⟩
end
section
variable {K : PySem.W.Frag} {σ : L2.St} {H : Hp}
/-- way and text of a turn -/
theorem l_draw {dr tp : Addr} {g : Pg} {ws : List Nat} (hd : DrAt K H dr) (ho : Told H g tp) (D : DrOk sg4 g) (h1 : ∀ x : V, ((wipe σ ws).set 14 (some x))[1]? = some (some (.ref dr))) (h2 : ∀ x : V, ((wipe σ ws).set 14 (some x))[2]? = some (some (.ref tp))) (h3 : σ[1]? = some (some (.ref dr)))
    (hw : ∀ x : V, wipe ((wipe σ ws).set 14 (some x)) ws = wipe σ ws) :
    EvP (tTup (tCons (tCall (sp_law_next K) [] E0 (tCons (tVar 1) (tCons (tC (.int 6)) tNil))) (tCons (tM1 (rJoin K) (tC (.str "")) (tLc (iRng1 (tCons (tCall (sp_law_next K) [] E0 (tCons (tVar 1) (tCons (tC (.int 4)) tNil))) tNil)) (gName 14) tYes
      (tCall (sp_law_pick K) [] E0 (tCons (tVar 1) (tCons (tCB rListT (tCons (tOp (rIxT K) (tVar 2) (tC (.int 0))) tNil)) tNil))) ws)) tNil))) σ H
      (fun v H' => ∃ b y z, v = .ref b ∧ H' b = some (.tup [y, z]) ∧ ∃ (r : Int) (u : Str), y = .int r ∧ 0 ≤ r ∧ r < 6 ∧ z = .str u ∧ u.length ≤ 3 ∧ ∀ c ∈ cds u, c ∈ cds g.L) := by
  obtain ⟨ra, fa, sa, ea, ht, PD⟩ := id ho
  have hL : (cds g.L) ≠ [] ∧ g.L.length ≤ 2 := by
    rcases D.L with e | e <;> rw [e] <;> decide +kernel
  have eT : EvP (tM1 (rJoin K) (tC (.str "")) (tLc (iRng1 (tCons (tCall (sp_law_next K) [] E0 (tCons (tVar 1) (tCons (tC (.int 4)) tNil))) tNil)) (gName 14) tYes (tCall (sp_law_pick K) [] E0 (tCons (tVar 1) (tCons (tCB rListT (tCons (tOp (rIxT K) (tVar 2) (tC (.int 0))) tNil)) tNil))) ws)) σ H (fun v _ => ∃ u : Str, v = .str u ∧ u.length ≤ 3 ∧ ∀ c ∈ cds u, c ∈ cds g.L) := by
    refine ep_joinN (new_lcR (m := 4) (fun H1 e Q q => (ep_next (σ := σ) (H := H) (b := 4) (ev_var h3) ev_c hd (by decide)) H1 e _ fun v H2 e2 ⟨r, ev, h0, h4⟩ => q _ H2 e2 ⟨r, by rw [ev], h0, h4⟩) (by decide) fun n hn => ?_) (by decide)
    refine (new_lc (src_con n) (by omega) hw (fun i x _ => ∃ c, c ∈ cds g.L ∧ x = .str ⟨#[c]⟩) (fun _ _ => stab_pure) fun i x H' e hi hx => ?_).imp fun o H2 _ ⟨xs, e1, e2, e3⟩ => ⟨xs, e1, by omega, fun y hy => ?_⟩
    · refine (ep_pick (K := K) (xs := (cds g.L).map fun c => V.str ⟨#[c]⟩) (ev_var (h1 x)) (fun H3 e3 Q q => ?_) (hd.ex e) (fun z => hL.1 (List.map_eq_nil_iff.mp z))).imp fun v H2 _ hv => ?_
      · refine (ev_op (ev_var (h2 x)) ev_c (rv_ixT (st_of ((e.trans e3) _ _ ht)) (atI_nat (j := 0) rfl))) H3 (Ex.refl H3) _ fun H4 e4 => ⟨g.L, rfl, by have := hL.2; exact Nat.le_trans this (by decide), fun p hp => q (.ref p) _ (e4.trans (Ex.new hp)) ⟨p, rfl, sq_of upd_same⟩⟩
      · obtain ⟨c, hc, rfl⟩ := List.mem_map.mp hv
        exact ⟨c, hc, rfl⟩
    · obtain ⟨i, hi⟩ := List.mem_iff_getElem?.mp hy
      exact e3 i y hi
  exact ((new_tup (pa1 (P := fun v _ => ∃ r : Int, v = .int r ∧ 0 ≤ r ∧ r < 6) (fun _ _ _ _ h => h) (ep_next (ev_var h3) ev_c hd (by decide)) (pa1 (Pr := fun vs _ => vs = []) (fun _ _ _ _ h => h) eT pa0)) (fun vs H2 ⟨v, r, a1, a2, v', r', a3, a4, a5⟩ => by rw [a1, a3, a5]; show 2 ≤ 1000; decide)
    (fun vs H H' e h => h)).evP).imp fun v H2 _ ⟨b, o, a1, a2, vs, a3, v1, r1, a4, ⟨r, a5, a6, a7⟩, v2, r2, a8, ⟨u, a9, a10, a11⟩, a12⟩ => ⟨b, .int r, .str u, a1, by rw [a2, a3, a4, a5, a8, a9, a12], r, u, rfl, a6, a7, rfl, a10, a11⟩
end
end KX
end
section
set_option Elab.async false
set_option linter.all false
set_option maxRecDepth 100000
set_option maxHeartbeats 8000000
/-! Rn22: the law's comparisons. -/
namespace KX
open PySem PySem.Spec PyProof.Rows L2 Evl ClX

section
variable {K : PySem.W.Frag} {H : Hp} {σ : L2.St}
theorem hk_hit {regs : List Str} {h : Str → Str} {m : Nat} : ∀ {rs : List Str}, (∀ n ∈ rs, n ∈ regs) → KHit (EqB K H (m + 1)) (hk regs h) (hk rs h) true
  | [], _ => .nil
  | n :: rs, hs => by
    have ih := hk_hit (m := m) (h := h) (rs := rs) fun y hy => hs y (List.mem_cons_of_mem _ hy)
    have e : EqB K H (m + 1) (.str (h n)) (.str (h n)) true := .inl ⟨rfl, rfl, by show true = eqV (.str (h n)) (.str (h n)); simp [eqV]⟩
    exact KHit.hit (e := true) (b := true) (hk_at (hs n List.mem_cons_self)) e ih
theorem rv_neHk {a c : Addr} {r1 r2 : List Str} {h : Str → Str} (ha : H a = some (.dK (hk r1 h))) (hc : H c = some (.dK (hk r2 h))) (hs : ∀ n ∈ r1, n ∈ r2) (hl : r1.length = r2.length) : RV (rNeQ K) (.ref a) (.ref c) H (.bl false) := fun H1 e Q q =>
  ⟨1, true, by decide, .inl ⟨a, c, _, _, true, rfl, rfl, .inl (e _ _ ha), .inl (e _ _ hc), fun _ => hk_hit hs, by unfold hk; rw [List.length_map, List.length_map, hl]; simp⟩, q H1 (Ex.refl H1)⟩
/-- the two things that a place may be -/
inductive PlV : V → PyData → Prop
  | non : PlV .non .none
  | int (i : Int) : PlV (.int i) (.int i)
theorem PlV.dp {v : V} {d : PyData} (h : PlV v d) : Dp K H v d := by
  cases h with
  | non => exact .non
  | int i => exact .int i
theorem PlV.sh {v : V} {d : PyData} (h : PlV v d) : SeqAt.shaped (.tuple [.str "word", d]) = true := by
  have w : PyData.strOk "word" = true := by decide +kernel
  cases h with
  | non => simp [SeqAt.shaped, PyData.canLay0, PyData.canLayAll0, PyData.depth, PyData.depthAll, w]
  | int i => simp [SeqAt.shaped, PyData.canLay0, PyData.canLayAll0, PyData.depth, PyData.depthAll, w]
theorem PlV.eq {v : V} {d : PyData} (h : PlV v d) : PyData.eqv (.tuple [.str "word", d]) (.tuple [.str "word", d]) = true := by
  cases h with
  | non => simp [PyData.eqv, PyData.eqvAll]
  | int i => simp [PyData.eqv, PyData.eqvAll]
/-- _law_tried(..) != ("word", v) -/
theorem s_neW {ta tv : TE} {tu : TS} {D : Ends} {v : V} {d : PyData} {I : Hp → Prop} (hv : PlV v d) (hI : ∀ H H', Ex H H' → I H → I H') (h : ∀ Q1 : VK, (∀ pp H1, H1 pp = some (.tup [.str "word", v]) → I H1 → Q1 (.ref pp) H1) → ta σ H Q1) (hb : ∀ H1, I H1 → Ev tv σ H1 v) (k : ∀ H2, I H2 → D.nx σ H2) :
    tIfS (tTest (tOp (rNeD K) ta (tTup (tCons (tC (.str "word")) (tCons tv tNil))))) tu tNext D σ H := by
  refine h _ fun pp H1 h1 i1 => ?_
  refine (eu_tup (ea_cons ev_c (ea_cons (hb H1 i1) ea_nil)) (by show 2 ≤ 100000; decide)) H1 (Ex.refl H1) _ fun q H2 hq e2 h2 => ?_
  have t : ∀ {a : Addr} (_ : H2 a = some (.tup [.str "word", v])), Dp K H2 (.ref a) (.tuple [.str "word", d]) := fun ha => .tup (st_of ha) (.cons (.str _) (.cons hv.dp .nil))
  refine ⟨_, _, t (e2 _ _ h1), t h2, hv.sh, hv.sh, false, by rw [hv.eq]; rfl, k H2 (hI _ _ e2 i1)⟩
/-- .. == .., at the end -/
theorem ev_eqW {ta tv : TE} {Q : VK} {v : V} {d : PyData} {I : Hp → Prop} (hv : PlV v d) (h : ∀ Q1 : VK, (∀ pp H1, H1 pp = some (.tup [.str "word", v]) → I H1 → Q1 (.ref pp) H1) → ta σ H Q1) (hb : ∀ H1, I H1 → Ev tv σ H1 v) (k : ∀ H2, Q (.bl true) H2) :
    tOp (rEqD K) ta (tTup (tCons (tC (.str "word")) (tCons tv tNil))) σ H Q := by
  refine h _ fun pp H1 h1 i1 => ?_
  refine (eu_tup (ea_cons ev_c (ea_cons (hb H1 i1) ea_nil)) (by show 2 ≤ 100000; decide)) H1 (Ex.refl H1) _ fun q H2 hq e2 h2 => ?_
  have t : ∀ {a : Addr} (_ : H2 a = some (.tup [.str "word", v])), Dp K H2 (.ref a) (.tuple [.str "word", d]) := fun ha => .tup (st_of ha) (.cons (.str _) (.cons hv.dp .nil))
  exact ⟨_, _, t (e2 _ _ h1), t h2, hv.sh, hv.sh, by rw [hv.eq]; exact k H2⟩
/-- attempt(..) != run -/
theorem s_neR {ta : TE} {tu : TS} {D : Ends} {x CR : Addr} {i : Nat} {I : Hp → Prop} (hx : ∀ H1, I H1 → ∃ dx fs, H1 x = some (.ins CR dx fs)) (ID : IdC K CR) (hi : σ[i]? = some (some (.ref x))) (h : ∀ Q1 : VK, (∀ H1, I H1 → Q1 (.ref x) H1) → ta σ H Q1) (k : ∀ H2, I H2 → D.nx σ H2) :
    tIfS (tTest (tOp (rNeI K) ta (tVar i))) tu tNext D σ H := by
  refine h _ fun H1 i1 => ⟨_, hi, ?_⟩
  obtain ⟨dx, fs, e⟩ := hx H1 i1
  exact ⟨x, CR, dx, fs, rfl, rfl, e, ID, false, rfl, k H1 i1⟩
/-- _law_tried(..) != a word -/
theorem t_neS {ta : TE} {Q : Bool → Hp → Prop} {s : Str} {I : Hp → Prop} (h : ∀ Q1 : VK, (∀ H1, I H1 → Q1 (.str s) H1) → ta σ H Q1) (k : ∀ H2, I H2 → Q false H2) : tTest (tOp rNe ta (tC (.str s))) σ H Q := by
  refine h _ fun H1 i1 => ⟨rfl, false, by simp, k H1 i1⟩
end
end KX
end
section
set_option Elab.async false
set_option linter.all false
set_option maxRecDepth 100000
set_option maxHeartbeats 16000000
/-! Rn23: the law. -/
namespace KX
open PySem PySem.Spec PyProof.Rows L2 Evl ClX

def sp_law (K : PySem.W.Frag) (Pt : Addr) : Sp := fun vs H Q _ => ∃ (a : Addr) (ns : List Int), vs = [.ref a] ∧ SqL K H a (ns.map V.int) ∧ H Pt = some (.tbl #[]) ∧ ∀ H', Q (.bl true) H'
section
variable {P : Program} {w : World} {K : PySem.W.Frag} {mg : Str → Option Value} {base : Heap} {C CR CT CS CB CN CE : Addr}
theorem ok_law (L : LF P w K mg base C CR CT CS CB CN CE) {f c Pt : Addr} {fd : FuncData} (F : FunC K "law" "law" s_law f fd c) (TB : LamX.TabB base mg c Pt) : FnOk P w K mg base (L2.CX P w) 14 f fd ["script"] (sp_law K Pt) := by
  refine F.okX sc_law (fun vs H Q E h => ?_) (fun A outer s H vs Q E hr h => ?_)
  · obtain ⟨a, ns, rfl, _⟩ := h
    rfl
  · obtain ⟨a, ns, rfl, hsq, hPt, k⟩ := h
    have hu := hu_of hr
    have hu64 := hr.units
    have hu50 := hu50_of hr
    have hu1 : (A.deeper (envOfC "law" (defScope s_law) s.heap.objs.size f (.ref c))).units + 1 < cLine := hu
    obtain ⟨fA, fdA, GA⟩ := L.after
    obtain ⟨fR, fdR, GR⟩ := L.read
    obtain ⟨fB, fdB, GB⟩ := L.back
    obtain ⟨fT, fdT, GT⟩ := L.text
    obtain ⟨fC, fdC, GC⟩ := L.cont
    obtain ⟨fW, fdW, GW⟩ := L.writ
    obtain ⟨fL, fdL, l1, l2, l3, l4⟩ := L.len
    obtain ⟨fM, fdM, GM⟩ := L.att
    obtain ⟨f2, fd2, t1, t2, t3⟩ := L.tried
    have Z := L.Z
    have lamO : LamW (cxOf (L2.CX P w) P w K mg base n_law "law" (defScope s_law) f (.ref c) A outer s H E) (fun H => LmK.T1 H Pt q1 q2) q1 (fun H c' => ∃ P', H c' = some (LmK.Cd c' P' q1) ∧ P' ≠ Pt ∧ LmK.T0 H P' q2) := ⟨@LmK.lamAt_outer (cxOf (L2.CX P w) P w K mg base n_law "law" (defScope s_law) f (.ref c) A outer s H E) c Pt q1 q2 TB rfl rfl⟩
    refine ⟨_, (pss_cons (ps_set (i := 1) sc_law.nd rfl (Or.inr rfl) (pe_lst (pa_cons (pe_slice sl_list (pv 0) po_none (po_some pe_int)) (pa_cons pe_int (pa_cons pe_int pa_nil))))) 
    (pss_hide (pss_cons (ps_set (i := 2) sc_law.nd rfl (Or.inr rfl) (pe_use L.prog (hr.mono (by decide)) (pa_cons (pv 1) (pa_cons (pe_lst (pa_cons pe_str (pa_cons pe_str pa_nil))) pa_nil)))) 
    (pss_cons (ps_asg (pe_tup (pa_cons (pe_use L.made (hr.mono (by decide)) (pa_cons (pv 2) pa_nil)) (pa_cons pe_str pa_nil))) (pg_tup rfl (pgs_cons (pg_name (i := 3) sc_law.nd rfl (Or.inl rfl)) (pgs_cons (pg_name (i := 11) sc_law.nd rfl (Or.inr rfl)) pgs_nil)))) 
    (pss_cons (ps_set (i := 12) sc_law.nd rfl (Or.inr rfl) (pe_mk L.RI (hr.mono (by decide)) (pa_cons (pv 3) pa_nil))) 
    (pss_cons (ps_for (passes_of rfl) rfl (pi_range1 rfl Z.z_range (pa_cons pe_int pa_nil)) (pg_name (i := 4) sc_law.nd rfl (Or.inl rfl)) 
     (pss_cons (ps_asg (pe_tup (pa_cons (pe_use L.next (hr.mono (by decide)) (pa_cons (pv 1) (pa_cons pe_int pa_nil))) (pa_cons (pe_join pe_str (pe_lc (own := [(("more" : Str), 14)]) (g := gName 14) rfl sc_law.nd (pi_range1 rfl Z.z_range (pa_cons (pe_use L.next (hr.mono (by decide)) (pa_cons (pv 1) (pa_cons pe_int pa_nil))) pa_nil)) (blkOk_by (own := [(("more" : Str), 14)]) (N := n_law) (sc := defScope s_law) (by decide +kernel)) (fun _ _ _ _ _ => (pg_name (i := 14) sc_law.nd rfl (Or.inl rfl))) (fun _ _ _ _ _ => pts_nil) (fun _ _ _ _ _ => (pe_use L.pick (hr.mono (by decide)) (pa_cons (pv 1) (pa_cons (pe_callTy (cListT rfl) (by rfl) Z.z_list (by decide +kernel) (pa_cons (pe_ix (ixT (K := K)) (pv 2) pe_int (fun _ _ => rfl)) pa_nil)) pa_nil)))))) pa_nil))) (pg_tup rfl (pgs_cons (pg_name (i := 5) sc_law.nd rfl (Or.inl rfl)) (pgs_cons (pg_name (i := 13) sc_law.nd rfl (Or.inr rfl)) pgs_nil)))) 
     (Evl.pss_cut (ps_if (pt_cmpR op_lt (pv 5) pe_int (nomark _)) 
      (pss_cons (ps_set (i := 6) sc_law.nd rfl (Or.inl rfl) (pe_ifExp (pt_cmpR op_eq (pv 5) pe_int (nomark _)) (pe_meth (pv 12) GR.cl GR.me GR.ok (hr.mono (by decide)) GR.b .nil (L2.passes_call (E := E0) (takes_of (E := E) rfl rfl rfl rfl) fun _ _ _ _ h => h.elim) (pa_cons (pv 13) pa_nil)) (pe_att (C := C) (CR := CR) (CT := CT) (CS := CS) (z := "same") (k := 7) (E := E0) L.D GM lamO (LmK.lamP_by (by kernel_rfl)) (show ("same" : Str) ∉ n_law from by decide +kernel) rfl rfl (fun _ _ _ _ _ _ => rfl) (hr.mono (by decide)) (takes_of (E := E) rfl rfl rfl rfl) (fun _ _ _ _ h => h.elim) (fun Ech A2 outer2 s2 H2 f' c' L' hr2 hL => by
        subst hL
        exact (pe_meth (pv 15) GR.cl GR.me GR.ok (hr2.mono (by decide)) GR.b .nil (L2.passes_call (E := Ech) (takes_of (E := Ech) rfl rfl rfl rfl) fun _ _ _ _ h => h) (pa_cons (pv 13) pa_nil))) (pv 12)))) 
      (pss_cons (ps_if (pt_cmpR (op_neI hu1) (pv 6) (pv 12) (nomark _)) 
       (pss_one (ps_ret pe_bl)) pss_nil) 
      (pss_one (ps_set (i := 11) sc_law.nd rfl (Or.inr rfl) (pe_op op_add_str (pv 11) (pv 13)))))) 
      (pss_one (ps_if (pt_cmpR op_eq (pv 5) pe_int (nomark _)) 
       (pss_cons (ps_set (i := 10) sc_law.nd rfl (Or.inr rfl) (pe_use L.next (hr.mono (by decide)) (pa_cons (pv 1) (pa_cons pe_int pa_nil)))) 
       (pss_cons (ps_set (i := 6) sc_law.nd rfl (Or.inl rfl) (pe_tried (k := 8) L.T t1 t2 t3 lamO (LmK.lamP_by (by kernel_rfl)) rfl rfl (fun _ _ _ _ _ => rfl) (hr.mono (by decide)) (fun Ech A2 outer2 s2 H2 f' c' L' hr2 hL => by
        subst hL
        exact (pe_meth (pv 12) GB.cl GB.me GB.ok (hr2.mono (by decide)) GB.b .nil (L2.passes_call (E := Ech) (takes_of (E := Ech) rfl rfl rfl rfl) fun _ _ _ _ h => h) (pa_cons (pv 10) pa_nil))) rfl)) 
       (pss_cons (ps_if (PW.pt (pw_or (pt_cmpR op_ne (pe_cmpR (op_eqT hu1) (pv 6) pe_str (nomark _)) (pe_cmpR op_gt (pv 10) (pe_callB call_len_str (by rfl) Z.z_len PySem.boot_len (pa_cons (pv 11) pa_nil)) (nomark _)) (nomark _)) (pw_or1 (PW.pt (pw_and (pt_cmpR (op_neT hu1) (pv 6) pe_str (nomark _)) (pw_and1 (pt_cmpR (op_neI hu1) (pv 6) (pv 12) (nomark _)))))))) 
        (pss_one (ps_ret pe_bl)) pss_nil) 
       (pss_one (ps_set (i := 11) sc_law.nd rfl (Or.inr rfl) (pe_ifExp (pt_cmpR op_le (pv 10) (pe_callB call_len_str (by rfl) Z.z_len PySem.boot_len (pa_cons (pv 11) pa_nil)) (nomark _)) (pe_slice sl_str (pv 11) po_none (po_some (pe_op op_sub (pe_callB call_len_str (by rfl) Z.z_len PySem.boot_len (pa_cons (pv 11) pa_nil)) (pv 10)))) (pv 11))))))) 
       (pss_one (ps_if (pt_cmpR op_eq (pv 5) pe_int (nomark _)) 
        (pss_one (ps_if (pt_cmpR (op_neD hu64) (pe_tried (k := 8) L.T t1 t2 t3 lamO (LmK.lamP_by (by kernel_rfl)) rfl rfl (fun _ _ _ _ _ => rfl) (hr.mono (by decide)) (fun Ech A2 outer2 s2 H2 f' c' L' hr2 hL => by
        subst hL
        exact (pe_att (C := C) (CR := CR) (CT := CT) (CS := CS) (z := "same") (k := 4) (E := Ech) L.D GM (in_c TB rfl) (LmK.lamP_by (by kernel_rfl)) (show ("same" : Str) ∉ n_law ++ [] from by decide +kernel) (hq2 rfl) rfl (fun _ _ _ _ _ _ => rfl) (hr2.mono (by decide)) (takes_of (E := Ech) rfl rfl rfl rfl) (fun _ _ _ _ h => h) (fun Ech2 A3 outer3 s3 H3 f3 c3 L3 hr3 hL3 => by
          subst hL3
          exact (pe_useX L.fails (hr3.mono (by decide)) (takes_of (E := Ech2) rfl rfl rfl rfl) (fun _ _ _ _ h => h) (pa_cons (pv 15) (pa_cons (pv 13) pa_nil)))) (pv 12))) rfl) (pe_tup (pa_cons pe_str (pa_cons pe_int pa_nil))) (nomark _)) 
         (pss_one (ps_ret pe_bl)) pss_nil)) 
        (pss_one (ps_if (pt_cmpR op_eq (pv 5) pe_int (nomark _)) 
         (pss_one (ps_if (pt_cmpR (op_neD hu64) (pe_tried (k := 8) L.T t1 t2 t3 lamO (LmK.lamP_by (by kernel_rfl)) rfl rfl (fun _ _ _ _ _ => rfl) (hr.mono (by decide)) (fun Ech A2 outer2 s2 H2 f' c' L' hr2 hL => by
        subst hL
        exact (pe_meth (pv 12) GR.cl GR.me GR.ok (hr2.mono (by decide)) GR.b .nil (L2.passes_call (E := Ech) (takes_of (E := Ech) rfl rfl rfl rfl) fun _ _ _ _ h => h) (pa_cons (pe_op op_add_str (pe_op op_add_str (pv 13) pe_str) (pv 13)) pa_nil))) rfl) (pe_tup (pa_cons pe_str (pa_cons (pe_callB call_len_str (by rfl) Z.z_len PySem.boot_len (pa_cons (pv 13) pa_nil)) pa_nil))) (nomark _)) 
          (pss_one (ps_ret pe_bl)) pss_nil)) 
         (pss_one (ps_if (pt_cmpR (op_neI hu1) (pe_att (C := C) (CR := CR) (CT := CT) (CS := CS) (z := "same") (k := 7) (E := E0) L.D GM lamO (LmK.lamP_by (by kernel_rfl)) (show ("same" : Str) ∉ n_law from by decide +kernel) rfl rfl (fun _ _ _ _ _ _ => rfl) (hr.mono (by decide)) (takes_of (E := E) rfl rfl rfl rfl) (fun _ _ _ _ h => h.elim) (fun Ech A2 outer2 s2 H2 f' c' L' hr2 hL => by
        subst hL
        exact (pe_meth (pe_meth (pv 15) GR.cl GR.me GR.ok (hr2.mono (by decide)) GR.b .nil (L2.passes_call (E := Ech) (takes_of (E := Ech) rfl rfl rfl rfl) fun _ _ _ _ h => h) (pa_cons (pv 13) pa_nil)) GB.cl GB.me GB.ok (hr2.mono (by decide)) GB.b .nil (L2.passes_call (E := Ech) (takes_of (E := Ech) rfl rfl rfl rfl) fun _ _ _ _ h => h) (pa_cons (pe_callB call_len_str (by rfl) Z.z_len PySem.boot_len (pa_cons (pv 13) pa_nil)) pa_nil))) (pv 12)) (pv 12) (nomark _)) 
          (pss_one (ps_ret pe_bl)) pss_nil))))))))) 
     (pss_cons (ps_asg (pe_meth (pv 3) GA.cl GA.me GA.ok (hr.mono (by decide)) GA.b .nil pass0 (pa_cons (pv 11) pa_nil)) (pg_tup rfl (pgs_cons (pg_name (i := 7) sc_law.nd rfl (Or.inl rfl)) (pgs_cons (pg_name (i := 8) sc_law.nd rfl (Or.inl rfl)) pgs_nil)))) 
     (pss_cons (ps_if (PW.pt (pw_or (pt_cmpR op_ne (pe_meth0 (pv 12) GT.cl GT.me GT.ok (hr.mono (by decide)) GT.b .nil pass0) (pv 11) (nomark _)) (pw_or (pt_cmpR op_ne (pe_callB (call_lenI l1 l2 l3 l4 (hr.mono (by decide))) (by rfl) Z.z_len PySem.boot_len (pa_cons (pv 12) pa_nil)) (pe_callB call_len_str (by rfl) Z.z_len PySem.boot_len (pa_cons (pv 11) pa_nil)) (nomark _)) (pw_or (pt_cmpR op_ne (pe_fldK (K := K) (pv 12) rfl) (pv 7) (nomark _)) (pw_or1 (pt_cmpR (op_neQ hu50) (pe_meth0 (pv 12) GC.cl GC.me GC.ok (hr.mono (by decide)) GC.b .nil pass0) (pv 8) (nomark _))))))) 
      (pss_one (ps_ret pe_bl)) pss_nil) 
     (pss_one (ps_if (pt_cmpR op_ne (pe_meth0 (pv 12) GW.cl GW.me GW.ok (hr.mono (by decide)) GW.b .nil pass0) (pe_use L.run (hr.mono (by decide)) (pa_cons (pv 2) (pa_cons (pv 11) pa_nil))) (nomark _)) 
      (pss_one (ps_ret pe_bl)) pss_nil))))))) 
    (pss_cons (ps_set (i := 9) sc_law.nd rfl (Or.inl rfl) (pe_meth0 (pv 12) GC.cl GC.me GC.ok (hr.mono (by decide)) GC.b .nil pass0)) 
    (pss_cons (ps_dput hu (pv 9) pe_str pe_str rfl) 
    (pss_cons (ps_if (PW.pt (pw_or (pt_cmpR op_ne (pe_tried (k := 8) L.T t1 t2 t3 lamO (LmK.lamP_by (by kernel_rfl)) rfl rfl (fun _ _ _ _ _ => rfl) (hr.mono (by decide)) (fun Ech A2 outer2 s2 H2 f' c' L' hr2 hL => by
        subst hL
        exact (pe_meth (pv 12) GB.cl GB.me GB.ok (hr2.mono (by decide)) GB.b .nil (L2.passes_call (E := Ech) (takes_of (E := Ech) rfl rfl rfl rfl) fun _ _ _ _ h => h) (pa_cons (pe_op op_add (pe_callB call_len_str (by rfl) Z.z_len PySem.boot_len (pa_cons (pv 11) pa_nil)) pe_int) pa_nil))) rfl) pe_str (nomark _)) (pw_or1 (pt_cmpR (op_neQ hu50) (pe_meth0 (pv 12) GC.cl GC.me GC.ok (hr.mono (by decide)) GC.b .nil pass0) (pe_ix (ixT (K := K)) (pe_meth (pv 3) GA.cl GA.me GA.ok (hr.mono (by decide)) GA.b .nil pass0 (pa_cons (pv 11) pa_nil)) pe_int (fun _ _ => rfl)) (nomark _))))) 
     (pss_one (ps_ret pe_bl)) pss_nil) 
    (pss_cons (ps_if (pt_cmpR op_ne (pe_tried (k := 8) L.T t1 t2 t3 lamO (LmK.lamP_by (by kernel_rfl)) rfl rfl (fun _ _ _ _ _ => rfl) (hr.mono (by decide)) (fun Ech A2 outer2 s2 H2 f' c' L' hr2 hL => by
        subst hL
        exact (pe_meth (pv 12) GB.cl GB.me GB.ok (hr2.mono (by decide)) GB.b .nil (L2.passes_call (E := Ech) (takes_of (E := Ech) rfl rfl rfl rfl) fun _ _ _ _ h => h) (pa_cons (pe_un un_neg pe_int) pa_nil))) rfl) pe_str (nomark _)) 
     (pss_one (ps_ret pe_bl)) pss_nil) 
    (pss_one (ps_ret (pe_cmpR (op_eqD hu64) (pe_tried (k := 8) L.T t1 t2 t3 lamO (LmK.lamP_by (by kernel_rfl)) rfl rfl (fun _ _ _ _ _ => rfl) (hr.mono (by decide)) (fun Ech A2 outer2 s2 H2 f' c' L' hr2 hL => by
        subst hL
        exact (pe_meth (pv 12) GR.cl GR.me GR.ok (hr2.mono (by decide)) GR.b .nil (L2.passes_call (E := Ech) (takes_of (E := Ech) rfl rfl rfl rfl) fun _ _ _ _ h => h) (pa_cons pe_non pa_nil))) rfl) (pe_tup (pa_cons pe_str (pa_cons pe_non pa_nil))) (nomark _)))))))))))))), ?_⟩
    have RC := L.RC
    -- draw = [script[:63], 0, 0]
    refine q_new (new_lst (pa1 (P := fun v H2 => ∃ l, v = .ref l ∧ H2 l = some (.lst ((ns.take 63).map V.int))) (Pr := fun vs _ => vs = [.int 0, .int 0]) (fun v H H' e ⟨l, h1, h2⟩ => ⟨l, h1, e _ _ h2⟩) (((New.ofL (el_sl (ev_var rfl) eo_none (eo_some ev_c) hsq)).evP).imp fun v H2 _ ⟨p, o, h1, h2, h3⟩ => ⟨p, h1, by
      rw [h2, h3, show ((63 : Int)) = ((63 : Nat) : Int) from rfl, cutV_to, List.map_take]⟩) (fun H1 e Q q => (ea_cons ev_c (ea_cons ev_c ea_nil)) H1 e _ fun H2 e2 => q _ H2 e2 rfl)) (fun vs H2 ⟨v, r, h1, _, h3⟩ => by rw [h1, h3]; show 3 ≤ 1000; decide) (fun vs H H' e ⟨v, r, h1, ⟨l, h2, h3⟩, h4⟩ => ⟨v, r, h1, ⟨l, h2, e _ _ h3⟩, h4⟩)) fun dr o H1 hdr e1 h1 ⟨vs, eo, v, r, ev, ⟨l, hl1, hl2⟩, er⟩ => ?_
    subst eo ev hl1 er
    refine ⟨dr, l, 0, h1, ?_⟩
    have x1 : Ex H (upd H1 dr (drawn dr l)) := Ex.mut e1 hdr
    have hld : dr ≠ l := fun z => by
      subst z
      rw [h1] at hl2
      injection hl2 with q
      injection q with q
      cases hh : ns.take 63 with
      | nil =>
        rw [hh] at q
        cases q
      | cons y ys =>
        rw [hh] at q
        injection q with q _
        cases q
    have hD : DrAt K (upd H1 dr (drawn dr l)) dr := ⟨l, ns.take 63, upd_same, by rw [upd_ne hld.symm]; exact hl2, hld⟩
    have hT1 := (LmK.T1.nil (q := q1) (q2 := q2) hPt).ex x1
    generalize upd H1 dr (drawn dr l) = H2 at x1 hD hT1 ⊢
    clear h1 hl2 hld
    -- told
    refine q_asgP (Pv := fun v H' => ∃ b g, v = .ref b ∧ Told H' g b ∧ DrOk sg4 g) (call_P (pa1 (P := fun v _ => v = .ref dr) (Pr := fun vs H => ∃ v r, vs = v :: r ∧ (∃ b, v = .ref b ∧ H b = some (.lst [.str "a", .str "b"])) ∧ r = []) (fun _ _ _ _ h => h) (EvP.of (ev_var rfl)) (pa1 (Pr := fun vs _ => vs = []) (fun v H H' e ⟨b, h1, h2⟩ => ⟨b, h1, e _ _ h2⟩) (((New.ofL (el_lst (ea_cons ev_c (ea_cons ev_c ea_nil)) (by show 2 ≤ 100000; decide))).evP).imp fun v H2 _ ⟨p, o, h1, h2, h3⟩ => ⟨p, h1, by rw [h2, h3]⟩) pa0))
      fun vs H3 e3 ⟨v, r, ev, e2, v', r', e4, ⟨b, e5, e6⟩, e7⟩ => by
        subst ev e2 e4 e5 e7
        exact spE_P (dr, b, ["a", "b"]) (fun H4 e8 => ⟨rfl, hD.ex (e3.trans e8), e8 _ _ e6, by show 2 ≤ 10; decide⟩) fun v H' _ p => p) fun v H3 e3 ⟨tp, g, ev, hTo, D⟩ => ?_
    subst ev
    -- program, read
    refine q_unpackP (Pz := fun y z H => ∃ p, y = .ref p ∧ z = .str "" ∧ PgAt C H p g.td.pg) (((new_tup (pa1 (P := fun v H => ∃ p, v = .ref p ∧ PgAt C H p g.td.pg) (Pr := fun vs _ => vs = [.str ""]) (fun v H H' e ⟨p, h1, h2⟩ => ⟨p, h1, h2.ex e⟩) (ep_use (ea_cons (ev_var rfl) ea_nil) (spE_P (tp, g) (fun H4 e4 => ⟨rfl, hTo.kt (KT.kp (Kp.ex e4)), D⟩) fun v H' _ p => p)) (fun H1 e Q q => (ea_cons ev_c ea_nil) H1 e _ fun H2 e2 => q _ H2 e2 rfl)) (fun vs H2 ⟨v, r, h1, _, h3⟩ => by rw [h1, h3]; show 2 ≤ 1000; decide)
      (fun vs H H' e ⟨v, r, h1, ⟨p, h2, h3⟩, h4⟩ => ⟨v, r, h1, ⟨p, h2, h3.ex e⟩, h4⟩)).evP).imp fun v H2 _ ⟨b, o, h1, h2, vs, h3, v1, r1, h4, ⟨p, h5, h6⟩, h7⟩ => ⟨b, .ref p, .str "", h1, by rw [h2, h3, h4, h5, h7], p, rfl, rfl, h6⟩) ?_
    rintro _ _ H4 e4 ⟨p, rfl, rfl, hp⟩
    -- run
    refine q_asgP (Pv := fun v H' => ∃ x, v = .ref x ∧ RnAt CR C H' x g.td.pg.td.pg "") (make_P (C := CR) (sp := sp_Run_init CR C) (E := E0) (Po := fun x H' => RnAt CR C H' x g.td.pg.td.pg "") (Pa := fun vs _ => vs = [.ref p]) (fun H1 e Q q => (ea_cons (ev_var rfl) ea_nil) H1 e _ fun H2 e2 => q _ H2 e2 rfl) ?_) fun v H5 e5 ⟨x, ev, hR⟩ => ?_
    · intro vs H5 x dx e ev hx hdx ne Q q
      subst ev
      have xx : Ex H5 (upd (upd H5 dx (.own x)) x (.ins CR dx [])) := fun a o h => by rw [upd_ne (ne_of_none h hx), upd_ne (ne_of_none h hdx)]; exact h
      refine ⟨x, p, dx, g.td.pg, H5, rfl, upd_same, hx, xx, hp.ex e, ⟨goOk D, ⟨_, by decide, (small_of D).td⟩, ?_⟩, fun H' e' R => q H' e' R⟩
      show (lts g.L).length ≤ 100000
      rw [lts_len]
      rcases D.L with e | e <;> rw [e] <;> decide +kernel
    subst ev
    have e35 := e4.trans e5
    have I0 : LwI K CR C Pt g dr tp p x "" H5 := ⟨(hD.ex e3).ex e35, hTo.kt (KT.kp (Kp.ex e35)), hp.ex e5, hR, (hT1.ex e3).ex e35⟩
    clear hR hp hTo hD hT1
    refine q_forR1 (ea_cons ev_c ea_nil) (n := 8) (by decide) (fun i σ' H' => ∃ (t : Str) (v4 v5 v6 v7 v8 v10 v13 : Option V), σ' = [some (.ref a), some (.ref dr), some (.ref tp), some (.ref p), v4, v5, v6, v7, v8, none, v10, some (.str t), some (.ref x), v13, none] ∧ LwI K CR C Pt g dr tp p x t H' ∧ (∀ c ∈ cds t, c ∈ cds g.L) ∧ t.length ≤ 3 * i) (fun H6 e6 => ⟨"", _, _, _, _, _, _, _, rfl, I0.ex e6, (fun c hc => by cases hc), by decide⟩) ?_ ?_
    · rintro i σ' H6 hi ⟨t, v4, v5, v6, v7, v8, v10, v13, rfl, I, ht, hz⟩
      have hi : i < 8 := by omega
      show (tSeq _ _) _ _ _
      refine q_unpackP (Pz := fun y z _ => ∃ (r : Int) (u : Str), y = .int r ∧ 0 ≤ r ∧ r < 6 ∧ z = .str u ∧ u.length ≤ 3 ∧ ∀ c ∈ cds u, c ∈ cds g.L) (l_draw I.d I.o D (fun _ => rfl) (fun _ => rfl) rfl (fun _ => rfl)) ?_
      rintro _ _ H7 e7 ⟨r, u, rfl, r0, r6, rfl, hu3, huL⟩
      have I7 := I.ex e7
      have P7 : LwP g t u := ⟨D, ht, huL, by omega⟩
      refine Evl.q_cut (M := fun σ' H' => ∃ (t' : Str) (v6 v10 : Option V), σ' = [some (.ref a), some (.ref dr), some (.ref tp), some (.ref p), some (.int (i : Int)), some (.int r), v6, v7, v8, none, v10, some (.str t'), some (.ref x), some (.str u), none] ∧ LwI K CR C Pt g dr tp p x t' H' ∧ (∀ c ∈ cds t', c ∈ cds g.L) ∧ t'.length ≤ 3 * (i + 1)) ?_ ?_
      · skip
        have hap : ∀ c ∈ cds (t ++ u), c ∈ cds g.L := fun c hc => by
          rw [cds_app] at hc
          exact (List.mem_append.mp hc).elim (ht c) (huL c)
        by_cases h2 : r < 2
        · refine s_if (b := true) (et_test (ev_is (ev_op (ev_var rfl) ev_c rv_I0) (by simp; omega))) (fun _ H8 e8 => ?_) (fun z => by cases z)
          have I8 := I7.ex e8
          by_cases h0 : r = 0
          · subst h0
            refine (show EvT _ _ _ true from et_test (ev_is (ev_op (ev_var rfl) ev_c (rv_eq rfl)) (by simp))) H8 (Ex.refl H8) _ fun H9 e9 => ?_
            rw [if_pos rfl]
            refine l_read (I8.ex e9) P7 rfl rfl fun H9 b9 I9 => ?_
            · skip
              obtain ⟨dx, fs, _, _, hx, _⟩ := id I9.r
              refine q_when (b := false) (et_test (ev_op (ev_var rfl) (ev_var rfl) (rv_neI hx RC.id))) (fun z => by cases z) fun _ H10 e10 => ?_
              refine s_asg (v := .str (t ++ u)) (ev_op (ev_var rfl) (ev_var rfl) (fun H3 _ Q q => ⟨t, u, rfl, rfl, sz_of (by omega), q H3 (Ex.refl H3)⟩)) fun H11 e11 => ⟨t ++ u, _, _, rfl, I9.ex (e10.trans e11), hap, by rw [len_app]; omega⟩
          · refine (show EvT _ _ _ false from et_test (ev_is (ev_op (ev_var rfl) ev_c (rv_eq rfl)) (by simp [h0]))) H8 (Ex.refl H8) _ fun H9 e9 => ?_
            have I9' := I8.ex e9
            refine l_attR I9' P7 rfl rfl rfl I9'.T (fun _ h => h) fun H9 I9 => ?_
            · skip
              obtain ⟨dx, fs, _, _, hx, _⟩ := id I9.r
              refine q_when (b := false) (et_test (ev_op (ev_var rfl) (ev_var rfl) (rv_neI hx RC.id))) (fun z => by cases z) fun _ H10 e10 => ?_
              refine s_asg (v := .str (t ++ u)) (ev_op (ev_var rfl) (ev_var rfl) (fun H3 _ Q q => ⟨t, u, rfl, rfl, sz_of (by omega), q H3 (Ex.refl H3)⟩)) fun H11 e11 => ⟨t ++ u, _, _, rfl, I9.ex (e10.trans e11), hap, by rw [len_app]; omega⟩
        refine s_if (b := false) (et_test (ev_is (ev_op (ev_var rfl) ev_c rv_I0) (by simp; omega))) (fun z => by cases z) (fun _ H8 e8 => ?_)
        have I8 := I7.ex e8
        by_cases h2 : r = 2
        · subst h2
          refine s_if (b := true) (et_test (ev_is (ev_op (ev_var rfl) ev_c (rv_eq rfl)) (by simp))) (fun _ H9 e9 => ?_) (fun z => by cases z)
          have I9 := I8.ex e9
          refine q_asgP (ep_next (ev_var rfl) ev_c I9.d (by decide)) fun v H10 e10 ⟨m, ev, m0, m4⟩ => ?_
          subst ev
          have I10 := I9.ex e10
          refine l_back (m := m) I10 P7 rfl (fun H1 Q1 q => ⟨_, rfl, q⟩) I10.T (fun _ h => h) fun v t2 H11 hc I11 => ?_
          obtain ⟨dx, fs, _, _, hx, _⟩ := id I11.r
          rcases hc with ⟨z, _⟩ | ⟨hlt, rfl, rfl⟩ | ⟨n, hmn, hn, rfl, rfl⟩
          · omega
          · refine q_when (b := false) (et_or (a := false) (b := false) (et_test (ev_is (ev_op (x := .bl true) (y := .bl true) (ev_op (ev_var rfl) ev_c (fun H1 e Q q => ⟨"nothing", rfl, .inl ⟨"nothing", rfl, by simpa using q H1 (Ex.refl H1)⟩⟩)) (ev_is (ev_op (ev_var rfl) (ev_lenS (ev_var rfl) (by omega)) rv_I0) (by simp; omega)) (rv_ne rfl)) (by simp))) fun _ => et_and (a := false) (b := false) (et_test (ev_op (ev_var rfl) ev_c (fun H1 e Q q => ⟨"nothing", rfl, .inl ⟨"nothing", rfl, by simpa using q H1 (Ex.refl H1)⟩⟩))) (fun z => by cases z)) (fun z => by cases z) fun _ H12 e12 => ?_
            refine s_asg (v := .str t2) (ev_if (b := false) (et_test (ev_is (ev_op (ev_var rfl) (ev_lenS (ev_var rfl) (by omega)) rv_I0) (by simp; omega))) (fun z => by cases z) fun _ => ev_var rfl) fun H13 e13 => ⟨t2, _, _, rfl, I11.ex (e12.trans e13), ht, by omega⟩
          · subst hmn
            refine q_when (b := false) (et_or (a := false) (b := false) (et_test (ev_is (ev_op (x := .bl false) (y := .bl false) (ev_op (ev_var rfl) ev_c (fun H1 e Q q => ⟨"nothing", rfl, .inr ⟨x, CR, dx, fs, rfl, e _ _ hx, RC.id, q H1 (Ex.refl H1)⟩⟩)) (ev_is (ev_op (ev_var rfl) (ev_lenS (ev_var rfl) (by omega)) rv_I0) (by simp; omega)) (rv_ne rfl)) (by simp))) fun _ => et_and (a := true) (b := false) (et_test (ev_op (ev_var rfl) ev_c (fun H1 e Q q => ⟨"nothing", rfl, .inr ⟨x, CR, dx, fs, rfl, e _ _ hx, RC.id, q H1 (Ex.refl H1)⟩⟩))) fun _ => et_test (ev_op (ev_var rfl) (ev_var rfl) (rv_neI hx RC.id))) (fun z => by cases z) fun _ H12 e12 => ?_
            have hidx : (t.length : Int) - (n : Int) = ((t.length - n : Nat) : Int) := by omega
            refine s_asg (v := .str (tkS t (t.length - n))) (ev_if (b := true) (et_test (ev_is (ev_op (ev_var rfl) (ev_lenS (ev_var rfl) (by omega)) rv_I0) (by simp; omega))) (fun _ H4 e4 Q q => (ev_var rfl) H4 e4 _ fun H5 e5 => eo_none H5 (Ex.refl H5) _ fun H6 e6 => (eo_some (ev_is (ev_op (ev_lenS (ev_var rfl) (by omega)) (ev_var rfl) rv_I0) (congrArg V.int hidx))) H6 (Ex.refl H6) _ fun H7 e7 => ⟨t, rfl, sz_of (by omega), by rw [slc_tkS]; exact q H7 ((e5.trans e6).trans e7)⟩) (fun z => by cases z)) fun H13 e13 => ⟨tkS t (t.length - n), _, _, rfl, I11.ex (e12.trans e13), fun c hc => ht c (by
              rw [cds_tkS] at hc
              exact List.mem_of_mem_take hc), by have := len_tkS t (t.length - n); omega⟩
        refine s_if (b := false) (et_test (ev_is (ev_op (ev_var rfl) ev_c (rv_eq rfl)) (by simp [h2]))) (fun z => by cases z) (fun _ H9 e9 => ?_)
        have I9 := I8.ex e9
        by_cases h3 : r = 3
        · subst h3
          refine s_if (b := true) (et_test (ev_is (ev_op (ev_var rfl) ev_c (rv_eq rfl)) (by simp))) (fun _ H10 e10 => ?_) (fun z => by cases z)
          have I10 := I9.ex e10
          refine s_neW (I := fun H => LwI K CR C Pt g dr tp p x t H) (.int 0) (fun _ _ e i => i.ex e) (fun Q1 q => l_fails I10 P7 rfl rfl rfl q) (fun H1 _ => ev_c) fun H11 I11 => ⟨t, _, _, rfl, I11, ht, by omega⟩
        refine s_if (b := false) (et_test (ev_is (ev_op (ev_var rfl) ev_c (rv_eq rfl)) (by simp [h3]))) (fun z => by cases z) (fun _ H10 e10 => ?_)
        have I10 := I9.ex e10
        by_cases h4 : r = 4
        · subst h4
          refine s_if (b := true) (et_test (ev_is (ev_op (ev_var rfl) ev_c (rv_eq rfl)) (by simp))) (fun _ H11 e11 => ?_) (fun z => by cases z)
          have I11 := I10.ex e11
          have hZ : ("Z" : Str).length = 1 := by decide +kernel
          have hZ2 : cds ("Z" : Str) = [90] := by decide +kernel
          refine s_neW (v := .int (u.length : Int)) (I := fun H => LwI K CR C Pt g dr tp p x t H) (.int _) (fun _ _ e i => i.ex e) (fun Q1 q => ?_) (fun H1 _ => ev_lenS (ev_var rfl) (by omega)) fun H12 I12 => ⟨t, _, _, rfl, I12, ht, by omega⟩
          refine l_bad (v := .str (u ++ "Z" ++ u)) (v2 := .int (u.length : Int)) I11 P7 rfl (fun H1 Q1 q => ⟨.str u, rfl, u, "Z", rfl, rfl, sz_of (by omega), .str u, rfl, u ++ "Z", u, rfl, rfl, sz_of (by rw [len_app]; omega), q⟩) I11.T (fun _ h => h) (.inr ⟨u ++ "Z" ++ u, u.length, rfl, by rw [len_app, len_app]; omega, ?_, rfl⟩) q
          have e : cds (u ++ "Z" ++ u) = cds u ++ ([90] ++ cds u) := by rw [cds_app, cds_app, List.append_assoc, hZ2]
          rw [e]
          refine ⟨⟨90, ?_, P7.no (by decide)⟩, fun j c hj hc => ?_⟩
          · rw [List.getElem?_append_right (by rw [← len_cds]; exact Nat.le_refl _), ← len_cds, Nat.sub_self]
            rfl
          · rw [List.getElem?_append_left (by rw [← len_cds]; exact hj)] at hc
            exact P7.u2 c (List.mem_of_getElem? hc)
        refine s_if (b := false) (et_test (ev_is (ev_op (ev_var rfl) ev_c (rv_eq rfl)) (by simp [h4]))) (fun z => by cases z) (fun _ H11 e11 => ?_)
        have I11 := I10.ex e11
        exact s_neR (I := fun H => LwI K CR C Pt g dr tp p x t H) (fun H1 i1 => by
          obtain ⟨dx, fs, _, _, hx, _⟩ := i1.r
          exact ⟨dx, fs, hx⟩) RC.id rfl (fun Q1 q => l_attB I11 P7 rfl rfl rfl I11.T (fun _ h => h) fun H' I' => q H' I') fun H12 I12 => ⟨t, _, _, rfl, I12, ht, by omega⟩
      · skip
        rintro σ' H8 ⟨t', v6', v10', rfl, I8, ht', hz'⟩
        obtain ⟨dp, fp, pra, pfa, psa, pea, hpi, PF, PD⟩ := id I8.p
        have hz8 : t'.length ≤ 400 := by omega
        have hcz : (cds t').length ≤ 1000 := by rw [← len_cds]; omega
        refine q_unpackP (Pz := fun y z H => y = .int (runG g.td.pg (cds t')).1 ∧ ∃ d, z = .ref d ∧ H d = some (.dK (hk g.td.pg.regs (runG g.td.pg (cds t')).2))) (ep_meth (ev_var rfl) hpi (PF.o.no (by decide +kernel)) (ea_cons (ev_var rfl) ea_nil) (spE_P (p, t', g.td.pg, H8) (fun _ e => ⟨rfl, I8.p.ex e, goOk D, fun c hc => lts_mem.mpr (ht' c hc), fit_td (fit_run D ht' hcz), e⟩) fun v H' _ ⟨b, y, z', h1, h2, h3, d, h4, h5, _⟩ => ⟨b, y, z', h1, h2, h3, d, h4, h5⟩)) ?_
        rintro _ _ H9 e9 ⟨rfl, dh, rfl, hdh⟩
        have I9 := I8.ex e9
        have RO := rdOk D ht' (by omega)
        obtain ⟨dx, fs, pp, ll, hx, RF, _, _⟩ := id I9.r
        refine q_when (b := false) (et_or (a := false) (b := false) (et_test (ev_is (ev_op (x := .str t') (y := .str t') (Ev.of (ep_meth (ev_var rfl) hx (RF.o.no (by decide +kernel)) ea_nil (spE_P (x, g.td.pg.td.pg, t') (fun _ e => ⟨rfl, I9.r.ex e⟩) fun v H' _ h => h))) (ev_var rfl) (rv_ne rfl)) (by simp))) fun _ => et_or (a := false) (b := false) (et_test (ev_is (ev_op (x := .int (t'.length : Int)) (y := .int (t'.length : Int)) (fun H1 e Q q => ⟨.ref x, rfl, x, dx, fs, rfl, e _ _ hx, (x, g.td.pg.td.pg, t'), ⟨rfl, I9.r.ex e, by show t'.length ≤ 100000; omega⟩, fun v H' e' hv => ⟨t'.length, hv, by omega, q H' e'⟩⟩) (ev_lenS (ev_var rfl) (by omega)) (rv_ne rfl)) (by simp))) fun _ => et_or (a := false) (b := false) (et_test (ev_is (ev_op (ev_fld (K := K) (ta := tVar 12) (ev_var rfl) hx RC.cl RC.s RF.s) (ev_var rfl) (rv_ne rfl)) (by rw [runG_td]; simp))) fun _ => (fun H1 e Q q => (ep_meth (Pv := fun v H' => ∃ d, v = .ref d ∧ H' d = some (.dK (hk g.td.pg.td.pg.regs (runG g.td.pg.td.pg (cds t')).2))) (ev_var rfl) hx (RF.o.no (by decide +kernel)) ea_nil (spE_P (x, g.td.pg.td.pg, t', H9) (fun _ e => ⟨rfl, I9.r.ex e, RO, e⟩) fun v H' _ ⟨d, h1, h2, _⟩ => ⟨d, h1, h2⟩)) H1 e _ fun v H2 e2 ⟨d2, ev, hd2⟩ => by
          subst ev
          rw [runG_td] at hd2
          exact ⟨.ref dh, rfl, (rv_neHk hd2 ((e.trans e2) _ _ hdh) (fun n hn => (srtS_perm g.td.pg.regs).1.mem_iff.mp hn) (srtS_perm g.td.pg.regs).1.length_eq) H2 (Ex.refl H2) _ fun H3 e3 => ⟨false, rfl, q H3 (e2.trans e3)⟩⟩)) (fun z => by cases z) fun _ H10 e10 => ?_
        have I10 := I9.ex e10
        have hx10 := e10 _ _ hx
        refine s_when (b := false) (et_test (ev_is (ev_op (x := vO (wrG g (cds t'))) (y := vO (wrG g (cds t'))) (Ev.of (ep_meth (ev_var rfl) hx10 (RF.o.no (by decide +kernel)) ea_nil (spE_P (x, g.td.pg.td.pg, t') (fun _ e => ⟨rfl, I10.r.ex e, RO, fun s h => wrG_len D ht' hcz s (by rw [← wr2]; exact h)⟩) fun v H' _ h => by
          have h : v = vO (wrG g.td.pg.td.pg (cds t')) := h
          rw [wr2] at h
          exact h))) (ev_use (ea_cons (ev_var rfl) (ea_cons (ev_var rfl) ea_nil)) (spE_V (tp, t', g) (fun _ e => ⟨rfl, (I10.ex e).o, goOkD D, ht', fit_run D ht' hcz, wrG_len D ht' hcz⟩) fun v _ p => p)) (rv_ne (by cases wrG g (cds t') <;> rfl))) (by simp))) (fun z => by cases z) fun _ H11 e11 => ⟨t', _, _, _, _, _, _, _, rfl, I10.ex e11, ht', hz'⟩
    · rintro σ' H6 ⟨t', v4, v5, v6, v7, v8, v10, v13, rfl, I, ht', hz⟩
      have hz8 : t'.length ≤ 24 := hz
      have hcz : (cds t').length ≤ 1000 := by rw [← len_cds]; omega
      have RO := rdOk D ht' (by omega)
      have P8 : LwP g t' "" := ⟨D, ht', fun c hc => (by cases hc), by show t'.length + 0 ≤ 400; omega⟩
      obtain ⟨dx, fs, pp, ll, hx, RF, _, _⟩ := id I.r
      refine q_asgP (Pv := fun v H => ∃ d, v = .ref d ∧ H d = some (.dK (hk g.td.pg.td.pg.regs (runG g.td.pg.td.pg (cds t')).2)) ∧ H6 d = none) (ep_meth (ev_var rfl) hx (RF.o.no (by decide +kernel)) ea_nil (spE_P (x, g.td.pg.td.pg, t', H6) (fun _ e => ⟨rfl, I.r.ex e, RO, e⟩) fun v H' _ h => h)) fun v H7 e7 ⟨d9, ev, hd9, hn9⟩ => ?_
      subst ev
      refine s_dput (k := .inr "x") (Pv := fun v _ => v = .str "changed") hd9 (EvP.of ev_c) (ev_var rfl) ev_c rfl (by
        unfold hk
        rw [List.length_map]
        have := RO.go.r6
        omega) (fun v H8 e8 hv _ => ?_) (fun _ _ _ _ h => h)
      have x8 := Ex.mut (o := .dK (putK (hk g.td.pg.td.pg.regs (runG g.td.pg.td.pg (cds t')).2) (.inr "x") v)) (e7.trans e8) hn9
      have I8 := I.ex x8
      generalize upd H8 d9 (.dK (putK (hk g.td.pg.td.pg.regs (runG g.td.pg.td.pg (cds t')).2) (.inr "x") v)) = H9 at x8 I8 ⊢
      refine t_neS (I := fun H => LwI K CR C Pt g dr tp p x t' H) (fun Q1 q => l_back (m := (t'.length : Int) + 1) I8 P8 rfl (fun H1 Q1 q => ⟨.str t', rfl, t', rfl, sz_of (by omega), (t'.length : Int), 1, rfl, rfl, q⟩) I8.T (fun _ h => h) (fun v t2 H' hc I' => ?_)) fun H10 I10 => ?_
      · rcases hc with ⟨z, _⟩ | ⟨_, rfl, rfl⟩ | ⟨n, h1, h2, _⟩
        · omega
        · exact q H' I'
        · omega
      simp only [Bool.false_eq_true, if_false]
      obtain ⟨dx, fs, pp, ll, hx, RF, _, _⟩ := id I10.r
      obtain ⟨dp, fp, pra, pfa, psa, pea, hpi, PF, PD⟩ := id I10.p
      refine (ep_meth (σ := _) (Pv := fun v H' => ∃ d, v = .ref d ∧ H' d = some (.dK (hk g.td.pg.td.pg.regs (runG g.td.pg.td.pg (cds t')).2))) (ev_var rfl) hx (RF.o.no (by decide +kernel)) ea_nil (spE_P (x, g.td.pg.td.pg, t', H10) (fun _ e => ⟨rfl, I10.r.ex e, RO, e⟩) fun v H' _ ⟨d, h1, h2, _⟩ => ⟨d, h1, h2⟩)) H10 (Ex.refl H10) _ fun v H11 e11 ⟨d2, ev, hd2⟩ => ?_
      subst ev
      rw [runG_td] at hd2
      refine (ep_meth (C := C) (m := "after") (σ := _) (Pv := fun v H => ∃ b y z, v = .ref b ∧ H b = some (.tup [y, z]) ∧ ∃ d, z = .ref d ∧ H d = some (.dK (hk g.td.pg.regs (runG g.td.pg (cds t')).2))) (ev_var rfl) hpi (PF.o.no (by decide +kernel)) (ea_cons (ev_var rfl) ea_nil) (spE_P (p, t', g.td.pg, H10) (fun _ e => ⟨rfl, I10.p.ex e, goOk D, fun c hc => lts_mem.mpr (ht' c hc), fit_td (fit_run D ht' hcz), e⟩) fun v H' _ ⟨b, y, z', h1, h2, h3, d, h4, h5, _⟩ => ⟨b, y, z', h1, h2, d, h4, h5⟩)) H11 e11 _ fun v H12 e12 ⟨b, y, z, ev, hb, dh, ez, hdh⟩ => ?_
      subst ev ez
      refine (ev_c (v := .int ((1 : Nat) : Int))) H12 (Ex.refl H12) _ fun H13 e13 => rv_ixT (st_of (e13 _ _ hb)) (atI_nat (j := 1) rfl) H13 (Ex.refl H13) _ fun H14 e14 => ?_
      refine (rv_neHk (((e12.trans e13).trans e14) _ _ hd2) ((e13.trans e14) _ _ hdh) (fun n hn => (srtS_perm g.td.pg.regs).1.mem_iff.mp hn) (srtS_perm g.td.pg.regs).1.length_eq) H14 (Ex.refl H14) _ fun H15 e15 => ⟨false, rfl, ?_⟩
      simp only [Bool.false_eq_true, if_false]
      have I15 := I10.ex ((((e11.trans e12).trans e13).trans e14).trans e15)
      refine t_neS (I := fun H => LwI K CR C Pt g dr tp p x t' H) (fun Q1 q => l_back (m := -1) I15 P8 rfl (fun H1 Q1 q => ⟨1, rfl, q⟩) I15.T (fun _ h => h) (fun v t2 H' hc I' => ?_)) fun H16 I16 => ?_
      · rcases hc with ⟨_, rfl, rfl⟩ | ⟨z, _⟩ | ⟨n, h1, h2, _⟩
        · exact q H' I'
        · omega
        · omega
      simp only [Bool.false_eq_true, if_false]
      exact ev_eqW (I := fun H => LwI K CR C Pt g dr tp p x t' H) .non (fun Q1 q => l_bad (v := .non) (v2 := .non) I16 P8 rfl (fun H1 Q1 q => q) I16.T (fun _ h => h) (.inl ⟨rfl, rfl⟩) q) (fun H1 _ => ev_c) fun H2 => k H2
end
end KX
end
section
set_option Elab.async false
set_option linter.all false
set_option maxRecDepth 100000
set_option maxHeartbeats 8000000
/-! Rn24: what the text's heap must hold behind its top, def by def, and that this is all that the law needs. -/
namespace KX
open PySem PySem.Spec PyProof.Rows L2 Evl ClX

/-- a method, by its text -/
def Mdf (K : PySem.W.Frag) (C : Addr) (m qual : Str) (st : Stmt) (ps : List Str) : Prop := ∃ (f : Addr) (fd : FuncData), Fun K m qual st f fd ∧ Meth K C m f ∧ Binds K fd ps []
/-- a class with its __init__, by its text -/
def Cdf (K : PySem.W.Frag) (mg : Str → Option Value) (x : Str) (C : Addr) (qual : Str) (st : Stmt) (ps : List Str) : Prop := mg x = some (.ref C) ∧ ∃ (f : Addr) (fd : FuncData), Fun K "__init__" qual st f fd ∧ Mk K C f ∧ Binds K fd ps []
structure Raw (P : Program) (w : World) (K : PySem.W.Frag) (mg : Str → Option Value) (base : Heap) (C CR CT CS CB CN CE : Addr) : Prop where
  Z : Zs mg C
  d_is_number : Df K mg "is_number" s_is_number ["thing"]
  d_is_made_of : Df K mg "is_made_of" s_is_made_of ["thing", "signs"]
  d_is_text : Df K mg "is_text" s_is_text ["thing"]
  d_is_word : Df K mg "is_word" s_is_word ["thing"]
  d_is_state : Df K mg "is_state" s_is_state ["state", "states"]
  d_is_held : Df K mg "is_held" s_is_held ["item", "known"]
  d_is_row : Df K mg "is_row" s_is_row ["row", "known"]
  d_are_rows : Df K mg "are_rows" s_are_rows ["rows", "known"]
  d_is_place : Df K mg "is_place" s_is_place ["key", "letters", "states"]
  d_is_step : Df K mg "is_step" s_is_step ["step", "states", "known"]
  d_are_steps : Df K mg "are_steps" s_are_steps ["steps", "letters", "states", "known"]
  d_are_firsts : Df K mg "are_firsts" s_are_firsts ["firsts", "known"]
  d_are_ends : Df K mg "are_ends" s_are_ends ["ends", "states", "known"]
  d_are_letters : Df K mg "are_letters" s_are_letters ["letters"]
  d_are_registers : Df K mg "are_registers" s_are_registers ["registers"]
  d_first_wrong : Df K mg "first_wrong" s_first_wrong ["letters", "states", "registers", "firsts", "steps", "ends"]
  d_text_of : Df K mg "text_of" s_text_of ["row", "held"]
  d_put_text : Df K mg "put_text" s_put_text ["row", "texts"]
  d_row_of : Df K mg "row_of" s_row_of ["items"]
  d_all_rows : Df K mg "all_rows" s_all_rows ["rows", "registers"]
  d_check_word : Df K mg "check_word" s_check_word ["letters", "text"]
  d_made : Df K mg "made" s_made ["letters", "states", "registers", "firsts", "steps", "ends"]
  d_copied : Df K mg "copied" s_copied ["program"]
  d_check_program : Df K mg "check_program" s_check_program ["thing"]
  d_law_cell_at : Df K mg "_law_cell_at" s_law_cell_at ["script", "k"]
  d_law_draw : Df K mg "_law_draw" s_law_draw ["cell", "k", "bound"]
  d_law_number : Df K mg "_law_number" s_law_number ["cell", "k", "bound"]
  d_law_next : Df K mg "_law_next" s_law_next ["draw", "bound"]
  d_law_pick : Df K mg "_law_pick" s_law_pick ["draw", "things"]
  d_law_rows : Df K mg "_law_rows" s_law_rows ["draw", "registers", "signs"]
  d_law_end : Df K mg "_law_end" s_law_end ["draw", "registers", "signs"]
  d_law_program : Df K mg "_law_program" s_law_program ["draw", "signs"]
  d_law_write : Df K mg "_law_write" s_law_write ["row", "held"]
  d_law_run : Df K mg "_law_run" s_law_run ["program", "text"]
  d_law_made : Df K mg "_law_made" s_law_made ["program"]
  d_law_fails : Df K mg "_law_fails" s_law_fails ["run", "text"]
  PC : PgC K C
  IC : IsP K C
  RC : RnC K CR
  MC : MostC K CR
  TC : TrC K CT
  SC : SvC K CS
  pi : Cdf K mg "Program" C "Program.__init__" s_Program__init psPut
  pp : Mdf K C "_put" "Program._put" s_Program_put psPut
  pa : Mdf K C "after" "Program.after" s_Program_after ["self", "text"]
  pc : ∃ (f : Addr) (fd : FuncData), Fun K "__call__" "Program.__call__" s_Program__call f fd ∧ StX.CallO K C f ∧ Binds K fd ["self", "text"] []
  ri : Cdf K mg "Run" CR "Run.__init__" s_Run__init ["self", "program"]
  rr : Mdf K CR "read" "Run.read" s_Run_read ["self", "text"]
  rb : ∃ (f : Addr) (fd : FuncData), FunD K "back" "Run.back" s_Run_back f fd ∧ Meth K CR "back" f ∧ Binds K fd ["self", "many"] []
  rt : Mdf K CR "text" "Run.text" s_Run_text ["self"]
  rc : Mdf K CR "contents" "Run.contents" s_Run_contents ["self"]
  rw : Mdf K CR "written" "Run.written" s_Run_written ["self"]
  rl : Mdf K CR "trial" "Run.trial" s_Run_trial ["self"]
  rn : ∃ (f : Addr) (fd : FuncData), Fun K "__len__" "Run.__len__" s_Run__len f fd ∧ PySem.W.findIn K (.ref CR) "__len__" = some (some (.ref f)) ∧ PySem.W.isFn K (.ref f) = true ∧ Binds K fd ["self"] []
  ra : ∃ f fd, AttM K CR f fd
  ti : Cdf K mg "Trial" CT "Trial.__init__" s_Trial__init ["self", "run"]
  te : Mdf K CT "__enter__" "Trial.__enter__" s_Trial__enter ["self"]
  tx : Mdf K CT "__exit__" "Trial.__exit__" s_Trial__exit ["self", "kind", "value", "trace"]
  si : Cdf K mg "Saved" CS "Saved.__init__" s_Saved__init ["self", "run", "outer"]
  EB : ErC P w K mg base "BadWord" CB "place"
  EN : PlE K mg "BadNumber" CN
  EE : PlE K mg "NothingDone" CE
  T : TrdC K mg CB CN CE
  lt : ∃ f fd, KX.FunD K "_law_tried" "_law_tried" s_law_tried f fd ∧ mg "_law_tried" = some (.ref f) ∧ Binds K fd ["work"] []
theorem Raw.lf {P : Program} {w : World} {K : PySem.W.Frag} {mg : Str → Option Value} {base : Heap} {C CR CT CS CB CN CE : Addr} (R : Raw P w K mg base C CR CT CS CB CN CE) : LF P w K mg base C CR CT CS CB CN CE := by
  have Z := R.Z
  have G_is_number := Has.mk' (P := P) (w := w) (base := base) R.d_is_number fun f fd F => ok_is_number F Z
  have G_is_made_of := Has.mk' (P := P) (w := w) (base := base) R.d_is_made_of fun f fd F => ok_is_made_of F Z
  have G_is_text := Has.mk' (P := P) (w := w) (base := base) R.d_is_text fun f fd F => ok_is_text F Z G_is_made_of
  have G_is_word := Has.mk' (P := P) (w := w) (base := base) R.d_is_word fun f fd F => ok_is_word F Z G_is_made_of
  have G_is_state := Has.mk' (P := P) (w := w) (base := base) R.d_is_state fun f fd F => ok_is_state F Z G_is_number
  have G_is_held := Has.mk' (P := P) (w := w) (base := base) R.d_is_held fun f fd F => ok_is_held F Z
  have G_is_row := Has.mk' (P := P) (w := w) (base := base) R.d_is_row fun f fd F => ok_is_row F Z G_is_text G_is_held
  have G_are_rows := Has.mk' (P := P) (w := w) (base := base) R.d_are_rows fun f fd F => ok_are_rows F Z G_is_row
  have G_is_place := Has.mk' (P := P) (w := w) (base := base) R.d_is_place fun f fd F => ok_is_place F Z G_is_state
  have G_is_step := Has.mk' (P := P) (w := w) (base := base) R.d_is_step fun f fd F => ok_is_step F Z G_is_state G_are_rows
  have G_are_steps := Has.mk' (P := P) (w := w) (base := base) R.d_are_steps fun f fd F => ok_are_steps F Z G_is_place G_is_step
  have G_are_firsts := Has.mk' (P := P) (w := w) (base := base) R.d_are_firsts fun f fd F => ok_are_firsts F Z G_is_text
  have G_are_ends := Has.mk' (P := P) (w := w) (base := base) R.d_are_ends fun f fd F => ok_are_ends F Z G_is_state G_is_row
  have G_are_letters := Has.mk' (P := P) (w := w) (base := base) R.d_are_letters fun f fd F => ok_are_letters F Z G_is_text
  have G_are_registers := Has.mk' (P := P) (w := w) (base := base) R.d_are_registers fun f fd F => ok_are_registers F Z G_is_word
  have G_first_wrong := Has.mk' (P := P) (w := w) (base := base) R.d_first_wrong fun f fd F => ok_first_wrong F Z G_are_ends G_are_firsts G_are_letters G_are_registers G_are_steps G_is_number
  have G_text_of := Has.mk' (P := P) (w := w) (base := base) R.d_text_of fun f fd F => ok_text_of F Z
  have G_put_text := Has.mk' (P := P) (w := w) (base := base) R.d_put_text fun f fd F => ok_put_text F Z
  have G_row_of := Has.mk' (P := P) (w := w) (base := base) R.d_row_of fun f fd F => ok_row_of F Z G_put_text
  have G_all_rows := Has.mk' (P := P) (w := w) (base := base) R.d_all_rows fun f fd F => ok_all_rows F Z G_row_of
  have G_check_word := Has.mk' (P := P) (w := w) (base := base) R.d_check_word fun f fd F => ok_check_word F Z
  obtain ⟨fp, fdp, Fp, Mp, bp⟩ := R.pp
  have G_put : HasM P w K mg base C "_put" 4 fp fdp psPut (sp_Program_put C) := ⟨R.PC.cl, Mp, ok_Program_put Fp Z R.PC G_all_rows G_row_of, bp⟩
  obtain ⟨gi, fi, fdi, Fi, Mi, bi⟩ := R.pi
  have G_pinit : HasC P w K mg base "Program" C 8 psPut (sp_Program_init C) := ⟨gi, fi, fdi, ok_Program_init Fi Z G_put G_first_wrong, Mi, bi⟩
  obtain ⟨fa, fda, Fa, Ma, ba⟩ := R.pa
  have G_after : HasM P w K mg base C "after" 2 fa fda ["self", "text"] (sp_Program_after C) := ⟨R.PC.cl, Ma, ok_Program_after Fa Z R.PC G_check_word G_text_of, ba⟩
  obtain ⟨fc, fdc, Fc, Mc, bc⟩ := R.pc
  have G_call := ok_Program_call (P := P) (w := w) (base := base) Fc Z R.PC G_after G_text_of
  have G_made := Has.mk' (P := P) (w := w) (base := base) R.d_made fun f fd F => ok_made F Z G_pinit G_put
  have G_copied := Has.mk' (P := P) (w := w) (base := base) R.d_copied fun f fd F => ok_copied F R.PC G_made
  have G_check_program := Has.mk' (P := P) (w := w) (base := base) R.d_check_program fun f fd F => ok_check_program F Z R.PC R.IC
  obtain ⟨gr, fr, fdr, Fr, Mr, br⟩ := R.ri
  have G_rinit : HasC P w K mg base "Run" CR 12 ["self", "program"] (sp_Run_init CR C) := ⟨gr, fr, fdr, ok_Run_init Fr Z R.RC G_check_program G_copied, Mr, br⟩
  obtain ⟨fw, fdw, Fw, gw, bw⟩ := R.d_check_word
  have GX : HasX P w K mg base "check_word" 3 ["letters", "text"] (sp_check_wordX CB) := ⟨fw, fdw, ok_check_wordX Fw Z R.EB, gw, Fw.kp, bw⟩
  obtain ⟨f1, fd1, F1, M1, b1⟩ := R.rr
  have G_read : HasMX P w K mg base CR "read" 4 f1 fd1 ["self", "text"] (sp_Run_read CR C CB) := ⟨R.RC.cl, M1, ok_Run_read F1 Z R.PC R.RC R.MC gr GX, b1⟩
  obtain ⟨f2, fd2, F2, M2, b2⟩ := R.rb
  have G_back : HasMX P w K mg base CR "back" 2 f2 fd2 ["self", "many"] (sp_Run_back CR C CN CE) := ⟨R.RC.cl, M2, ok_Run_back F2 Z R.RC R.EN R.EE G_is_number, b2⟩
  obtain ⟨f3, fd3, F3, M3, b3⟩ := R.rt
  obtain ⟨f4, fd4, F4, M4, b4⟩ := R.rc
  obtain ⟨f5, fd5, F5, M5, b5⟩ := R.rw
  obtain ⟨f6, fd6, F6, M6, b6⟩ := R.rl
  obtain ⟨f7, fd7, F7, l1, l2, b7⟩ := R.rn
  obtain ⟨gt, f8, fd8, F8, M8, b8⟩ := R.ti
  have G_tinit : HasC P w K mg base "Trial" CT 1 ["self", "run"] (sp_Trial_init CT) := ⟨gt, f8, fd8, ok_Trial_init F8 R.TC, M8, b8⟩
  obtain ⟨gs, f9, fd9, F9, M9, b9⟩ := R.si
  have G_sinit : HasC P w K mg base "Saved" CS 1 ["self", "run", "outer"] (sp_Saved_init CR CS) := ⟨gs, f9, fd9, ok_Saved_init F9 R.RC R.SC, M9, b9⟩
  obtain ⟨fe, fde, Fe, Me, be⟩ := R.te
  obtain ⟨fx, fdx, Fx, Mx, bx⟩ := R.tx
  have hM := okM_Trial_exit (P := P) (w := w) (mg := mg) (base := base) Fx R.RC R.TC R.SC
  have G_law_cell_at := Has.mk' (P := P) (w := w) (base := base) R.d_law_cell_at fun f fd F => ok_law_cell_at F Z
  have G_law_draw := Has.mk' (P := P) (w := w) (base := base) R.d_law_draw fun f fd F => ok_law_draw F Z
  have G_law_number := Has.mk' (P := P) (w := w) (base := base) R.d_law_number fun f fd F => ok_law_number F Z G_law_draw
  have G_law_next := Has.mk' (P := P) (w := w) (base := base) R.d_law_next fun f fd F => ok_law_next F Z G_law_cell_at G_law_number
  have G_law_pick := Has.mk' (P := P) (w := w) (base := base) R.d_law_pick fun f fd F => ok_law_pick F Z G_law_next
  have G_law_rows := Has.mk' (P := P) (w := w) (base := base) R.d_law_rows fun f fd F => ok_law_rows F Z G_law_next G_law_pick
  have G_law_end := Has.mk' (P := P) (w := w) (base := base) R.d_law_end fun f fd F => ok_law_end F Z G_law_next G_law_pick
  have G_law_program := Has.mk' (P := P) (w := w) (base := base) R.d_law_program fun f fd F => ok_law_program F Z G_law_next G_law_pick G_law_rows G_law_end
  have G_law_write := Has.mk' (P := P) (w := w) (base := base) R.d_law_write fun f fd F => ok_law_write F Z
  have G_law_run := Has.mk' (P := P) (w := w) (base := base) R.d_law_run fun f fd F => ok_law_run F Z G_law_write
  have G_law_made := Has.mk' (P := P) (w := w) (base := base) R.d_law_made fun f fd F => ok_law_made F G_pinit
  obtain ⟨ff, fdf, Ff, gf, bf⟩ := R.d_law_fails
  exact {
    Z := Z
    z_len := trivial
    next := G_law_next
    pick := G_law_pick
    prog := G_law_program
    made := G_law_made
    run := G_law_run
    RI := G_rinit
    after := ⟨_, _, G_after⟩
    read := ⟨_, _, G_read⟩
    back := ⟨_, _, G_back⟩
    text := ⟨_, _, R.RC.cl, M3, ok_Run_text F3 R.RC, b3⟩
    cont := ⟨_, _, R.RC.cl, M4, ok_Run_contents F4 Z R.RC G_after, b4⟩
    writ := ⟨_, _, R.RC.cl, M5, ok_Run_written F5 Z R.RC Mc G_call bc, b5⟩
    len := ⟨_, _, l1, l2, ok_Run_len F7 Z R.RC, b7⟩
    att := R.ra
    D := ⟨⟨_, _, R.RC.cl, M6, ok_Run_trial F6 G_tinit, b6⟩, ⟨_, _, Me, ok_Trial_enter Fe R.RC R.TC G_sinit, be⟩, ⟨_, _, Mx, (ok_Trial_exit Fx R.RC R.TC R.SC).mono (by decide), ⟨hM.len, fun A outer s H args us vs Q E hr => hM.run A outer s H args us vs Q E (hr.mono (by decide))⟩, bx⟩⟩
    T := R.T
    tried := R.lt
    fails := ⟨_, _, ok_law_fails Ff G_read, gf, Ff.kp, bf⟩
    RC := R.RC
    PC := R.PC }
end KX
end
section
set_option Elab.async false
set_option linter.all false
set_option maxRecDepth 100000
set_option maxHeartbeats 8000000
/-! Rn25: BadWord is made: its f-string. -/
namespace KX
open PySem PySem.Spec PyProof.Rows L2 Evl ClX

/-- {x}: None or an int -/
def tFmtN (te : TE) : TE := fun σ H Q => te σ H fun x H1 => (x = .non ∧ Q (.str "None") H1) ∨ ∃ i : Int, x = .int i ∧ i.natAbs.log2 < 1920 ∧ Q (.str (toString i)) H1
theorem pe_fmtN {X : Cx} {e : Expr} {te : TE} {pos : Pos} (he : PE X e te) : PE X (.FormattedValue e (-1) none pos) (tFmtN te) := by
  refine ⟨fun pins s σ H Q I h => wpAny_FormattedValue_plain (thn (he.run pins s σ H _ I h) fun v s1 ⟨x, H1, I1, r1, q⟩ => ?_)⟩
  rcases q with ⟨rfl, q⟩ | ⟨i, rfl, hz, q⟩
  · cases r1
    exact wpAny_formatField_none ⟨.str "None", H1, I1.tok _, ⟨_, rfl⟩, q⟩
  · obtain ⟨t, rfl⟩ := r1
    exact wpAny_formatField_int hz ⟨.str (toString i), H1, I1.tok _, ⟨_, rfl⟩, q⟩
abbrev s_BadWord__init : Stmt := inClass (top 4) 0
theorem sup_BadWord : LmK.SupS (defScope s_BadWord__init) "self" "place" := ⟨rfl, rfl, rfl, by decide +kernel, by decide +kernel, rfl, rfl, rfl, rfl, by decide +kernel⟩
theorem erc_BadWord {P : Program} {w : World} {K : PySem.W.Frag} {mg : Str → Option Value} {base : Heap} {CB f cc cda : Addr} {od an : Option Addr} {osl : Array (Option Value)} {oc kV doc pm ct : Value} (F : LmK.SupF P K mg CB f cc cda "place") (gm : mg "BadWord" = some (.ref CB))
    (lk : K.lookup f = some ⟨oc, od, .func (PySem.W.ksFn "__init__" "BadWord.__init__" (defArgs s_BadWord__init) (defBody s_BadWord__init) (defScope s_BadWord__init) .none kV doc pm an (.ref cda) ct cc), osl⟩) (hcd : PySem.W.codeIn K (.ref cda) "BadWord.__init__" = true)
    (iC : PySem.W.findIn K (.ref CB) "__init__" = some (some (.ref f))) (tI : PySem.W.typeIn K (.ref f) = some (.type "function")) : ErC P w K mg base "BadWord" CB "place" := by
  refine ⟨F.T, gm, f, _, ["self", "place"], iC, tI, LmK.fn_exc1 (n0 := "self") (n1 := "place") F sup_BadWord lk hcd rfl rfl (fun A outer s H hr => pe_joined (.cons pe_str (.cons (pe_fmtN (pv 1)) .nil))) ?_, .all fun us hl => match us, hl with | [_, _], _ => rfl⟩
  intro a v hv H Q q
  have l0 : ("cannot be read: " : Str).length = 16 := by decide +kernel
  refine ⟨"cannot be read: ", rfl, by rw [len_app, l0]; decide, v, rfl, ?_⟩
  rcases hv with rfl | ⟨i, rfl, hi⟩
  · exact .inl ⟨rfl, "None", rfl, by decide +kernel, q _⟩
  · refine .inr ⟨i, rfl, hi, (toString i : String), rfl, ?_, q _⟩
    have e := int_text_length_le (k := 1920) (by decide) hi
    rw [len_app, len_app, l0, PySem.ofString_length]
    show 0 + 16 + _ ≤ sizeLine
    have s : sizeLine = 16777216 := by decide
    omega
end KX
end
section
set_option Elab.async false
set_option linter.all false
set_option maxRecDepth 100000
set_option maxHeartbeats 0
/-! H1: the top's run, looked at by nothing: a probe. -/
namespace KX
open PySem PySem.W PySem.Calls PyProof.Rows
abbrev R7 : OpenRow := OpenLaw.row PySem.Challenge.rw_passtexts_k07_whole_runs
abbrev qv : Program := view R7.prog [59]
def nm0 : List PySem.Str := (["_wall", "__name__", "PassError", "BadProgram", "BadWord", "BadNumber", "NothingDone", "SMALL", "SIGNS", "is_number", "is_made_of", "is_text"] : List PySem.Str)
def nm1 : List PySem.Str := (["is_word", "check_word", "MOST_LETTERS", "MOST_STATES", "MOST_REGISTERS", "first_wrong", "are_letters", "are_registers", "are_firsts", "are_steps", "is_place", "is_state"] : List PySem.Str)
def nm2 : List PySem.Str := (["is_step", "are_rows", "is_row", "is_held", "are_ends", "row_of", "put_text", "text_of", "Program", "all_rows", "made", "copied"] : List PySem.Str)
def nm3 : List PySem.Str := (["check_program", "Run", "Trial", "Saved", "_law_cell_at", "_law_draw", "_law_number", "_law_next", "_law_pick", "_law_rows", "_law_end", "_law_program"] : List PySem.Str)
def nm4 : List PySem.Str := (["_law_write", "_law_run", "_law_made", "_law_tried", "_law_fails"] : List PySem.Str)
end KX
end
section
set_option Elab.async false
set_option linter.all false
set_option maxRecDepth 100000
set_option maxHeartbeats 8000000
/-! Rn26: what is looked at behind the top. -/
namespace KX
open PySem PySem.Spec PyProof.Rows L2 Evl ClX

def dOf (x : Str) (st : Stmt) : He.DefD := ⟨(x, none), x, x, defArgs st, defBody st, defScope st, [], []⟩
def mOf (c m q : Str) (st : Stmt) : He.DefD := ⟨(c, some m), m, q, defArgs st, defBody st, defScope st, [], []⟩
def fn0 : List He.DefD := [dOf "is_number" s_is_number, dOf "is_made_of" s_is_made_of, dOf "is_text" s_is_text, dOf "is_word" s_is_word, dOf "is_state" s_is_state, dOf "is_held" s_is_held, dOf "is_row" s_is_row, dOf "are_rows" s_are_rows, dOf "is_place" s_is_place, dOf "is_step" s_is_step, dOf "are_steps" s_are_steps, dOf "are_firsts" s_are_firsts, dOf "are_ends" s_are_ends, dOf "are_letters" s_are_letters]
def fn1 : List He.DefD := [dOf "are_registers" s_are_registers, dOf "first_wrong" s_first_wrong, dOf "text_of" s_text_of, dOf "put_text" s_put_text, dOf "row_of" s_row_of, dOf "all_rows" s_all_rows, dOf "check_word" s_check_word, dOf "made" s_made, dOf "copied" s_copied, dOf "check_program" s_check_program, dOf "_law_cell_at" s_law_cell_at, dOf "_law_draw" s_law_draw, dOf "_law_number" s_law_number, dOf "_law_next" s_law_next]
def fn2 : List He.DefD := [dOf "_law_pick" s_law_pick, dOf "_law_rows" s_law_rows, dOf "_law_end" s_law_end, dOf "_law_program" s_law_program, dOf "_law_write" s_law_write, dOf "_law_run" s_law_run, dOf "_law_made" s_law_made, dOf "_law_fails" s_law_fails, dOf "_law_tried" s_law_tried, dOf "law" s_law, mOf "Program" "__init__" "Program.__init__" s_Program__init, mOf "Program" "_put" "Program._put" s_Program_put, mOf "Program" "after" "Program.after" s_Program_after, mOf "Program" "__call__" "Program.__call__" s_Program__call]
def fn3 : List He.DefD := [mOf "Run" "__init__" "Run.__init__" s_Run__init, mOf "Run" "read" "Run.read" s_Run_read, ⟨("Run", some "back"), "back", "Run.back", defArgs s_Run_back, defBody s_Run_back, defScope s_Run_back, [.int 1], []⟩, mOf "Run" "text" "Run.text" s_Run_text, mOf "Run" "contents" "Run.contents" s_Run_contents, mOf "Run" "written" "Run.written" s_Run_written, mOf "Run" "trial" "Run.trial" s_Run_trial, mOf "Run" "attempt" "Run.attempt" s_Run_attempt, mOf "Run" "__len__" "Run.__len__" s_Run__len, mOf "Trial" "__init__" "Trial.__init__" s_Trial__init, mOf "Trial" "__enter__" "Trial.__enter__" s_Trial__enter, mOf "Trial" "__exit__" "Trial.__exit__" s_Trial__exit, mOf "Saved" "__init__" "Saved.__init__" s_Saved__init]
def fnA : List He.DefD := fn0 ++ fn1 ++ fn2 ++ fn3
def fa0 : List He.Fa := [.glo "is_number", .glo "is_made_of", .glo "is_text", .glo "is_word", .glo "is_state", .glo "is_held", .glo "is_row", .glo "are_rows", .glo "is_place", .glo "is_step", .glo "are_steps", .glo "are_firsts", .glo "are_ends", .glo "are_letters"]
def fa1 : List He.Fa := [.glo "are_registers", .glo "first_wrong", .glo "text_of", .glo "put_text", .glo "row_of", .glo "all_rows", .glo "check_word", .glo "made", .glo "copied", .glo "check_program", .glo "_law_cell_at", .glo "_law_draw", .glo "_law_number", .glo "_law_next"]
def fa2 : List He.Fa := [.glo "_law_pick", .glo "_law_rows", .glo "_law_end", .glo "_law_program", .glo "_law_write", .glo "_law_run", .glo "_law_made", .glo "_law_fails", .glo "_law_tried", .glo "law", .glo "Program", .glo "Run", .glo "Trial", .glo "Saved"]
def fa3 : List He.Fa := [.glo "BadWord", .glo "BadNumber", .glo "NothingDone", .free "all", .free "bool", .free "dict", .free "enumerate", .free "int", .free "isinstance", .free "len", .free "list", .free "range", .free "set", .free "sorted"]
def fa4 : List He.Fa := [.free "str", .free "tuple", .free "super", .str "SMALL" "abcdefghijklmnopqrstuvwxyz", .str "SIGNS" "0123456789abcdefghijklmnopqrstuvwxyz", .int "MOST_LETTERS" 4, .int "MOST_STATES" 300, .int "MOST_REGISTERS" 60, .cls "Program", .mkr "Program", .cls "Run", .mkr "Run", .cls "Trial", .mkr "Trial"]
def fa5 : List He.Fa := [.cls "Saved", .mkr "Saved", .noat "Program" "letters", .noat "Program" "states", .noat "Program" "registers", .noat "Program" "firsts", .noat "Program" "steps", .noat "Program" "ends", .noat "Run" "program", .noat "Run" "state", .noat "Run" "letters_read", .noat "Run" "states_passed", .noat "Trial" "run", .noat "Trial" "saved"]
def fa6 : List He.Fa := [.noat "Saved" "program", .noat "Saved" "state", .noat "Saved" "letters_read", .noat "Saved" "states_passed", .noat "Saved" "outer", .noat "BadWord" "place", .meth "Program" "_put", .meth "Program" "after", .meth "Program" "__call__", .meth "Run" "read", .meth "Run" "back", .meth "Run" "text", .meth "Run" "contents", .meth "Run" "written"]
def fa7 : List He.Fa := [.meth "Run" "trial", .meth "Run" "attempt", .meth "Run" "__len__", .meth "Trial" "__enter__", .meth "Trial" "__exit__", .exc "BadNumber", .exc "NothingDone", .exm "BadWord" "BadWord" true, .exm "NothingDone" "BadWord" false, .exm "BadNumber" "BadWord" false, .exm "NothingDone" "NothingDone" true, .exm "BadNumber" "NothingDone" false, .exm "BadNumber" "BadNumber" true, .meth "BadWord" "__init__"]
def faA : List He.Fa := fa0 ++ fa1 ++ fa2 ++ fa3 ++ fa4 ++ fa5 ++ fa6 ++ fa7
/-- an own error with an __init__ of its own -/
def oexB (K : PySem.W.Frag) (C : Addr) : Bool := match K.lookup C with
  | some ⟨.type "type", _, .cls cd, sl⟩ => (match cd.mro, sl.toList with
    | .ref D :: bm, [_, _, _, _, some (.builtin n), _] => D == C && (n == "ValueError.__new__" && (!cd.hasDel && (cd.hasDict && PySem.HandSPX.refsVE bm)))
    | _, _ => false)
  | _ => false
/-- what else is asked, in the order of its use -/
def xtB (K : PySem.W.Frag) : List Bool :=
  [PySem.W.readsIn K (He.ga K "Run") (.type "type"),
   decide (PySem.W.specialIn K (.ref (He.ga K "Run")) "__getattribute__" = some (some (.builtin "type.__getattribute__"))),
   (match PySem.W.findCls K (.ref (He.ga K "Run")) (.type "type") "MOST" with
    | some (.val (.int 1000 _)) => true
    | _ => false),
   decide (PySem.W.findIn K (.ref (He.ga K "Program")) "__class__" = some (some (.builtin "object.__class__"))),
   decide (PySem.W.specialIn K (.builtin "object.__class__") "__get__" = some (some (.builtin "getset_descriptor.__get__"))),
   decide (PySem.W.takesIn K (.builtin "object.__class__") = some true),
   decide (PySem.W.mroIn K (He.ga K "Program") (.type "object") = some true),
   decide (PySem.W.mroIn K (He.ga K "Run") (.type "object") = some true),
   decide (PySem.W.findIn K (.ref (He.ga K "Run")) "__eq__" = some (some (.builtin "object.__eq__"))),
   decide (PySem.W.findIn K (.ref (He.ga K "Run")) "__ne__" = some (some (.builtin "object.__ne__"))),
   PySem.W.fnIn K (He.ma K (He.ga K "Program") "__call__"),
   xfB K (He.ga K "BadWord"),
   oexB K (He.ga K "BadWord"),
   decide (PySem.W.findIn K (.ref (He.ga K "BadWord")) "__setattr__" = some (some (.builtin "object.__setattr__"))),
   decide (PySem.W.subIn K (.ref (He.ga K "BadWord")) (.type "BaseException") = some true),
   decide (PySem.W.typeIn K (.ref (He.ga K "BadWord")) = some (.type "type")),
   PySem.W.keepIn K (.ref (He.ga K "BadWord")),
   decide (PySem.W.mroIn K (He.ga K "BadWord") (.ref (He.ga K "BadWord")) = some true),
   decide (PySem.W.subIn K (.ref (He.ga K "BadWord")) (.type "ValueError") = some true),
   decide (PySem.W.ks_superIn K (He.ga K "BadWord") (He.ga K "BadWord") "__init__" = some (some (.builtin "ValueError.__init__"))),
   decide (PySem.W.nsIn K cStatics "thirdparty.any" = some none),
   decide (PySem.W.typeIn K (.ref (He.ma K (He.ga K "BadWord") "__init__")) = some (.type "function"))]
theorem fnA_len : fnA.length = 55 := rfl
end KX
end
section
set_option Elab.async false
set_option linter.all false
set_option maxRecDepth 100000
set_option maxHeartbeats 0
/-! H2: the top's run, looked at by the own Hook. -/
namespace KX
open PySem PySem.W PySem.Calls PyProof.Rows L2
abbrev IniW : Type := Option (PySem.Str × PySem.Str × Arguments × FuncBody × Scope × Addr × List PySem.Str × Addr)
def iniW (K : PySem.W.Frag) : IniW := match K.lookup (He.fAd K ("BadWord", some "__init__")) with
  | some ⟨_, _, .func fd, _⟩ => some (fd.name, fd.qualname, fd.params, fd.body, fd.scope, fd.globals, fd.closure.map (·.1), fd.builtins)
  | _ => none
abbrev AlK : Type := He.AlD × Bool × IniW
def iniV : IniW := some ("__init__", "BadWord.__init__", defArgs s_BadWord__init, .stmts (defBody s_BadWord__init), defScope s_BadWord__init, mainGlobals, ["__class__"], builtinsNs)
/-- BadWord.__init__: its code object, its cell -/
def supB (K : PySem.W.Frag) : Bool := match K.lookup (He.fAd K ("BadWord", some "__init__")) with
  | some ⟨_, _, .func fd, _⟩ => PySem.W.codeIn K fd.code "BadWord.__init__" && ((match fd.defaults with
    | .none => true
    | _ => false) && ((match fd.closure with
    | [(_, cc)] => (match K.lookup cc with
      | some ⟨_, _, .cell (some (.ref C)), _⟩ => C == He.ga K "BadWord"
      | _ => false)
    | _ => false) && (match fd.code with
    | .ref c => (match K.lookup c with
      | some ⟨_, _, .fields vs, _⟩ => (match (vs[2]? : Option Value) with
        | some (.str file _) => (R7.prog.main.file : PySem.Str) == file
        | _ => false)
      | _ => false)
    | _ => false)))
  | _ => false
def KL (g : Addr → Option Obj) : PySem.W.Frag := He.frT g (cStatics :: He.asD g 6)
abbrev lawD : He.Defn := ("law", none)
def obsK (g : Addr → Option Obj) (K : PySem.W.Frag) : AlK := (He.obsD faA fnA K, (xtB K).all id && (supB K && He.tabsB g [lawD] K), iniW K)
def valK : AlK := (He.valD fnA, true, iniV)
def obsKG (g : Addr → Option Obj) : AlK := obsK g (KL g)
structure SaysK (h : Heap) (K : PySem.W.Frag) : Prop where
  d : He.SaysD faA fnA K
  x : (xtB K).all id = true
  sup : supB K = true
  ini : iniW K = iniV
  hd : PySem.W.codeHdIn K (He.cT K lawD).1 (He.cT K lawD).2 = true
  out : K.lookup (He.cT K lawD).2 = none
  empty : h.get? (He.cT K lawD).2 = some { cls := .none, data := .fields #[] }
theorem saysK_of {h : Heap} (e : obsKG h.get? = valK) : SaysK h (KL h.get?) := by
  have e1 : He.obsD faA fnA (KL h.get?) = He.valD fnA := congrArg (fun z : AlK => z.1) e
  have e2 : ((xtB (KL h.get?)).all id && (supB (KL h.get?) && He.tabsB h.get? [lawD] (KL h.get?))) = true := congrArg (fun z : AlK => z.2.1) e
  have e3 : iniW (KL h.get?) = iniV := congrArg (fun z : AlK => z.2.2) e
  obtain ⟨h1, h2⟩ := He.ba e2
  obtain ⟨h3, h4⟩ := He.ba h2
  obtain ⟨h5, h6⟩ := He.ba (List.all_eq_true.mp h4 lawD (List.mem_cons_self ..))
  cases q : h.get? (He.cT (KL h.get?) lawD).2 with
  | none =>
    rw [q] at h6
    cases h6
  | some o =>
    rw [q] at h6
    exact ⟨e1, h1, h3, e3, h5, He.frT_none q h6, by rw [q, He.emptyTab_eq h6]⟩
def hookK : PySem.W.Hook where
  α := AlK
  obs := fun s => obsKG s.heap.get?
  val := fun _ => valK
  says := fun _ h => ∃ K : PySem.W.Frag, K.In h ∧ SaysK h K
  of := fun _ _ e => ⟨_, He.frT_in, saysK_of e⟩
  keeps := fun _ _ _ ⟨K, hK, c⟩ k => ⟨K, PySem.W.Frag.In.keeps hK k, ⟨c.d, c.x, c.sup, c.ini, c.hd, c.out, k _ _ c.empty⟩⟩
theorem obsKG_eq {g : Addr → Option Obj} {s : Shared} (h : ∀ a, g a = s.heap.get? a) : obsKG g = hookK.obs s := by
  have e : g = s.heap.get? := funext h
  rw [e]
  rfl
end KX
end
section
set_option Elab.async false
set_option linter.all false
set_option maxRecDepth 100000
set_option maxHeartbeats 0
/-! H3: the run of the top, looked at by the own hook. -/
namespace KX
open PySem PySem.W PySem.Calls PyProof.Rows L2
theorem run_k (w : World) : HandSHeadRun.RunEq R7 qv hookK (fun s => obsKG (HandSHeadRun.getT s)) 6000 (nm0 ++ nm1 ++ nm2 ++ nm3 ++ nm4) w := by
  intro os
  kernel_rfl
end KX
end
section
set_option Elab.async false
set_option linter.all false
set_option maxRecDepth 100000
set_option maxHeartbeats 8000000
/-! Rn27: what the hook says, read def by def. -/
namespace KX
open PySem PySem.Spec PyProof.Rows L2 Evl ClX
theorem fun_of {K : PySem.W.Frag} {x qual : Str} {st : Stmt} {f : Addr} {fd : FuncData} {kws : List (Str × V)} (F : L2.FunD K x qual (defArgs st) (defBody st) (defScope st) [] kws f fd) : Fun K x qual st f fd := by
  obtain ⟨oc, od, dV, kV, doc, pm, an, cdv, ct, osl, e, lk, hcd, hD, hK⟩ := F.ex
  rcases hD with ⟨_, rfl⟩ | ⟨z, _⟩
  · exact ⟨⟨oc, od, kV, doc, pm, an, cdv, ct, osl, e, lk, hcd⟩, F.kp⟩
  · exact absurd rfl z
theorem fund_of {K : PySem.W.Frag} {x qual : Str} {st : Stmt} {f : Addr} {fd : FuncData} {dvs : List V} {kws : List (Str × V)} (F : L2.FunD K x qual (defArgs st) (defBody st) (defScope st) dvs kws f fd) : KX.FunD K x qual st f fd := by
  obtain ⟨oc, od, dV, kV, doc, pm, an, cdv, ct, osl, e, lk, hcd, hD, hK⟩ := F.ex
  exact ⟨⟨oc, od, dV, kV, doc, pm, an, cdv, ct, osl, e, lk, hcd⟩, F.kp⟩
abbrev BndsN (x qual : Str) (st : Stmt) (ps : List Str) : Prop := ∀ (kV doc pm : Value) (an : Option Addr) (cdv ct : Value) (us : List Value), us.length = ps.length → bindArgs (PySem.W.fnOf x qual (defArgs st) (defBody st) (defScope st) .none kV doc pm an cdv ct) ⟨us, []⟩ = pure (ps.zip us)
theorem df_of {K : PySem.W.Frag} {mg : Str → Option Value} {x : Str} {st : Stmt} {ps : List Str} (c : He.SaysD faA fnA K) (i : Nat) (hi : fnA[i]? = some (dOf x st)) (g : mg x = some (.ref (He.ga K x))) (b : BndsN x x st ps) : Df K mg x st ps := by
  obtain ⟨fd, F⟩ := He.SaysD.def_ c i hi
  exact ⟨_, fd, fun_of F, g, F.bindsN b⟩
theorem mdf_of {K : PySem.W.Frag} {cn m qual : Str} {st : Stmt} {ps : List Str} (c : He.SaysD faA fnA K) (i : Nat) (hi : fnA[i]? = some (mOf cn m qual st)) (M : Meth K (He.ga K cn) m (He.ma K (He.ga K cn) m)) (b : BndsN m qual st ps) : Mdf K (He.ga K cn) m qual st ps := by
  obtain ⟨fd, F⟩ := He.SaysD.def_ c i hi
  exact ⟨_, fd, fun_of F, M, F.bindsN b⟩
theorem cdf_of {K : PySem.W.Frag} {mg : Str → Option Value} {cn qual : Str} {st : Stmt} {ps : List Str} (c : He.SaysD faA fnA K) (i : Nat) (hi : fnA[i]? = some (mOf cn "__init__" qual st)) (g : mg cn = some (.ref (He.ga K cn))) (M : Mk K (He.ga K cn) (He.ma K (He.ga K cn) "__init__")) (b : BndsN "__init__" qual st ps) : Cdf K mg cn (He.ga K cn) qual st ps := by
  obtain ⟨fd, F⟩ := He.SaysD.def_ c i hi
  exact ⟨g, _, fd, fun_of F, M, F.bindsN b⟩
section
variable {K : PySem.W.Frag} {h : Heap} {mg : Str → Option Value} (c : He.SaysD faA fnA K) (X : K.In h) (G : h.Ns mainGlobals mg)
include c X G
theorem hd_is_number : Df K mg "is_number" s_is_number ["thing"] := df_of c 0 rfl (He.glo_ok X G (c.fact 0)) fun _ _ _ _ _ _ us hl => match us, hl with
  | [_], _ => rfl
end
end KX
end
section
set_option Elab.async false
set_option linter.all false
set_option maxRecDepth 100000
set_option maxHeartbeats 8000000
/-! Rn28: each def, read off the hook. -/
namespace KX
open PySem PySem.Spec PyProof.Rows L2 Evl ClX
section
variable {K : PySem.W.Frag} {h : Heap} {mg : Str → Option Value} (c : He.SaysD faA fnA K) (X : K.In h) (G : h.Ns mainGlobals mg)
include c X G
theorem r_d_is_number : Df K mg "is_number" s_is_number ["thing"] := df_of c 0 rfl (He.glo_ok X G (c.fact 0)) fun _ _ _ _ _ _ us hl => match us, hl with
  | [_], _ => rfl
theorem r_d_is_made_of : Df K mg "is_made_of" s_is_made_of ["thing", "signs"] := df_of c 1 rfl (He.glo_ok X G (c.fact 1)) fun _ _ _ _ _ _ us hl => match us, hl with
  | [_, _], _ => rfl
theorem r_d_is_text : Df K mg "is_text" s_is_text ["thing"] := df_of c 2 rfl (He.glo_ok X G (c.fact 2)) fun _ _ _ _ _ _ us hl => match us, hl with
  | [_], _ => rfl
theorem r_d_is_word : Df K mg "is_word" s_is_word ["thing"] := df_of c 3 rfl (He.glo_ok X G (c.fact 3)) fun _ _ _ _ _ _ us hl => match us, hl with
  | [_], _ => rfl
theorem r_d_is_state : Df K mg "is_state" s_is_state ["state", "states"] := df_of c 4 rfl (He.glo_ok X G (c.fact 4)) fun _ _ _ _ _ _ us hl => match us, hl with
  | [_, _], _ => rfl
theorem r_d_is_held : Df K mg "is_held" s_is_held ["item", "known"] := df_of c 5 rfl (He.glo_ok X G (c.fact 5)) fun _ _ _ _ _ _ us hl => match us, hl with
  | [_, _], _ => rfl
theorem r_d_is_row : Df K mg "is_row" s_is_row ["row", "known"] := df_of c 6 rfl (He.glo_ok X G (c.fact 6)) fun _ _ _ _ _ _ us hl => match us, hl with
  | [_, _], _ => rfl
theorem r_d_are_rows : Df K mg "are_rows" s_are_rows ["rows", "known"] := df_of c 7 rfl (He.glo_ok X G (c.fact 7)) fun _ _ _ _ _ _ us hl => match us, hl with
  | [_, _], _ => rfl
theorem r_d_is_place : Df K mg "is_place" s_is_place ["key", "letters", "states"] := df_of c 8 rfl (He.glo_ok X G (c.fact 8)) fun _ _ _ _ _ _ us hl => match us, hl with
  | [_, _, _], _ => rfl
theorem r_d_is_step : Df K mg "is_step" s_is_step ["step", "states", "known"] := df_of c 9 rfl (He.glo_ok X G (c.fact 9)) fun _ _ _ _ _ _ us hl => match us, hl with
  | [_, _, _], _ => rfl
theorem r_d_are_steps : Df K mg "are_steps" s_are_steps ["steps", "letters", "states", "known"] := df_of c 10 rfl (He.glo_ok X G (c.fact 10)) fun _ _ _ _ _ _ us hl => match us, hl with
  | [_, _, _, _], _ => rfl
theorem r_d_are_firsts : Df K mg "are_firsts" s_are_firsts ["firsts", "known"] := df_of c 11 rfl (He.glo_ok X G (c.fact 11)) fun _ _ _ _ _ _ us hl => match us, hl with
  | [_, _], _ => rfl
theorem r_d_are_ends : Df K mg "are_ends" s_are_ends ["ends", "states", "known"] := df_of c 12 rfl (He.glo_ok X G (c.fact 12)) fun _ _ _ _ _ _ us hl => match us, hl with
  | [_, _, _], _ => rfl
theorem r_d_are_letters : Df K mg "are_letters" s_are_letters ["letters"] := df_of c 13 rfl (He.glo_ok X G (c.fact 13)) fun _ _ _ _ _ _ us hl => match us, hl with
  | [_], _ => rfl
theorem r_d_are_registers : Df K mg "are_registers" s_are_registers ["registers"] := df_of c 14 rfl (He.glo_ok X G (c.fact 14)) fun _ _ _ _ _ _ us hl => match us, hl with
  | [_], _ => rfl
theorem r_d_first_wrong : Df K mg "first_wrong" s_first_wrong ["letters", "states", "registers", "firsts", "steps", "ends"] := df_of c 15 rfl (He.glo_ok X G (c.fact 15)) fun _ _ _ _ _ _ us hl => match us, hl with
  | [_, _, _, _, _, _], _ => rfl
theorem r_d_text_of : Df K mg "text_of" s_text_of ["row", "held"] := df_of c 16 rfl (He.glo_ok X G (c.fact 16)) fun _ _ _ _ _ _ us hl => match us, hl with
  | [_, _], _ => rfl
theorem r_d_put_text : Df K mg "put_text" s_put_text ["row", "texts"] := df_of c 17 rfl (He.glo_ok X G (c.fact 17)) fun _ _ _ _ _ _ us hl => match us, hl with
  | [_, _], _ => rfl
theorem r_d_row_of : Df K mg "row_of" s_row_of ["items"] := df_of c 18 rfl (He.glo_ok X G (c.fact 18)) fun _ _ _ _ _ _ us hl => match us, hl with
  | [_], _ => rfl
theorem r_d_all_rows : Df K mg "all_rows" s_all_rows ["rows", "registers"] := df_of c 19 rfl (He.glo_ok X G (c.fact 19)) fun _ _ _ _ _ _ us hl => match us, hl with
  | [_, _], _ => rfl
theorem r_d_check_word : Df K mg "check_word" s_check_word ["letters", "text"] := df_of c 20 rfl (He.glo_ok X G (c.fact 20)) fun _ _ _ _ _ _ us hl => match us, hl with
  | [_, _], _ => rfl
theorem r_d_made : Df K mg "made" s_made ["letters", "states", "registers", "firsts", "steps", "ends"] := df_of c 21 rfl (He.glo_ok X G (c.fact 21)) fun _ _ _ _ _ _ us hl => match us, hl with
  | [_, _, _, _, _, _], _ => rfl
theorem r_d_copied : Df K mg "copied" s_copied ["program"] := df_of c 22 rfl (He.glo_ok X G (c.fact 22)) fun _ _ _ _ _ _ us hl => match us, hl with
  | [_], _ => rfl
theorem r_d_check_program : Df K mg "check_program" s_check_program ["thing"] := df_of c 23 rfl (He.glo_ok X G (c.fact 23)) fun _ _ _ _ _ _ us hl => match us, hl with
  | [_], _ => rfl
theorem r_d_law_cell_at : Df K mg "_law_cell_at" s_law_cell_at ["script", "k"] := df_of c 24 rfl (He.glo_ok X G (c.fact 24)) fun _ _ _ _ _ _ us hl => match us, hl with
  | [_, _], _ => rfl
theorem r_d_law_draw : Df K mg "_law_draw" s_law_draw ["cell", "k", "bound"] := df_of c 25 rfl (He.glo_ok X G (c.fact 25)) fun _ _ _ _ _ _ us hl => match us, hl with
  | [_, _, _], _ => rfl
theorem r_d_law_number : Df K mg "_law_number" s_law_number ["cell", "k", "bound"] := df_of c 26 rfl (He.glo_ok X G (c.fact 26)) fun _ _ _ _ _ _ us hl => match us, hl with
  | [_, _, _], _ => rfl
theorem r_d_law_next : Df K mg "_law_next" s_law_next ["draw", "bound"] := df_of c 27 rfl (He.glo_ok X G (c.fact 27)) fun _ _ _ _ _ _ us hl => match us, hl with
  | [_, _], _ => rfl
theorem r_d_law_pick : Df K mg "_law_pick" s_law_pick ["draw", "things"] := df_of c 28 rfl (He.glo_ok X G (c.fact 28)) fun _ _ _ _ _ _ us hl => match us, hl with
  | [_, _], _ => rfl
theorem r_d_law_rows : Df K mg "_law_rows" s_law_rows ["draw", "registers", "signs"] := df_of c 29 rfl (He.glo_ok X G (c.fact 29)) fun _ _ _ _ _ _ us hl => match us, hl with
  | [_, _, _], _ => rfl
theorem r_d_law_end : Df K mg "_law_end" s_law_end ["draw", "registers", "signs"] := df_of c 30 rfl (He.glo_ok X G (c.fact 30)) fun _ _ _ _ _ _ us hl => match us, hl with
  | [_, _, _], _ => rfl
theorem r_d_law_program : Df K mg "_law_program" s_law_program ["draw", "signs"] := df_of c 31 rfl (He.glo_ok X G (c.fact 31)) fun _ _ _ _ _ _ us hl => match us, hl with
  | [_, _], _ => rfl
theorem r_d_law_write : Df K mg "_law_write" s_law_write ["row", "held"] := df_of c 32 rfl (He.glo_ok X G (c.fact 32)) fun _ _ _ _ _ _ us hl => match us, hl with
  | [_, _], _ => rfl
theorem r_d_law_run : Df K mg "_law_run" s_law_run ["program", "text"] := df_of c 33 rfl (He.glo_ok X G (c.fact 33)) fun _ _ _ _ _ _ us hl => match us, hl with
  | [_, _], _ => rfl
theorem r_d_law_made : Df K mg "_law_made" s_law_made ["program"] := df_of c 34 rfl (He.glo_ok X G (c.fact 34)) fun _ _ _ _ _ _ us hl => match us, hl with
  | [_], _ => rfl
theorem r_d_law_fails : Df K mg "_law_fails" s_law_fails ["run", "text"] := df_of c 35 rfl (He.glo_ok X G (c.fact 35)) fun _ _ _ _ _ _ us hl => match us, hl with
  | [_, _], _ => rfl
theorem r_pi : Cdf K mg "Program" (He.ga K "Program") "Program.__init__" s_Program__init psPut := cdf_of c 38 rfl (He.glo_ok X G (c.fact 38)) (He.mkr_ok (c.fact 65)) fun _ _ _ _ _ _ us hl => match us, hl with
  | [_, _, _, _, _, _, _], _ => rfl
theorem r_pp : Mdf K (He.ga K "Program") "_put" "Program._put" s_Program_put psPut := mdf_of (cn := "Program") c 39 rfl (He.meth_ok (c.fact 90)) fun _ _ _ _ _ _ us hl => match us, hl with
  | [_, _, _, _, _, _, _], _ => rfl
theorem r_pa : Mdf K (He.ga K "Program") "after" "Program.after" s_Program_after ["self", "text"] := mdf_of (cn := "Program") c 40 rfl (He.meth_ok (c.fact 91)) fun _ _ _ _ _ _ us hl => match us, hl with
  | [_, _], _ => rfl
theorem r_ri : Cdf K mg "Run" (He.ga K "Run") "Run.__init__" s_Run__init ["self", "program"] := cdf_of c 42 rfl (He.glo_ok X G (c.fact 39)) (He.mkr_ok (c.fact 67)) fun _ _ _ _ _ _ us hl => match us, hl with
  | [_, _], _ => rfl
theorem r_rr : Mdf K (He.ga K "Run") "read" "Run.read" s_Run_read ["self", "text"] := mdf_of (cn := "Run") c 43 rfl (He.meth_ok (c.fact 93)) fun _ _ _ _ _ _ us hl => match us, hl with
  | [_, _], _ => rfl
theorem r_rt : Mdf K (He.ga K "Run") "text" "Run.text" s_Run_text ["self"] := mdf_of (cn := "Run") c 45 rfl (He.meth_ok (c.fact 95)) fun _ _ _ _ _ _ us hl => match us, hl with
  | [_], _ => rfl
theorem r_rc : Mdf K (He.ga K "Run") "contents" "Run.contents" s_Run_contents ["self"] := mdf_of (cn := "Run") c 46 rfl (He.meth_ok (c.fact 96)) fun _ _ _ _ _ _ us hl => match us, hl with
  | [_], _ => rfl
theorem r_rw : Mdf K (He.ga K "Run") "written" "Run.written" s_Run_written ["self"] := mdf_of (cn := "Run") c 47 rfl (He.meth_ok (c.fact 97)) fun _ _ _ _ _ _ us hl => match us, hl with
  | [_], _ => rfl
theorem r_rl : Mdf K (He.ga K "Run") "trial" "Run.trial" s_Run_trial ["self"] := mdf_of (cn := "Run") c 48 rfl (He.meth_ok (c.fact 98)) fun _ _ _ _ _ _ us hl => match us, hl with
  | [_], _ => rfl
theorem r_ti : Cdf K mg "Trial" (He.ga K "Trial") "Trial.__init__" s_Trial__init ["self", "run"] := cdf_of c 51 rfl (He.glo_ok X G (c.fact 40)) (He.mkr_ok (c.fact 69)) fun _ _ _ _ _ _ us hl => match us, hl with
  | [_, _], _ => rfl
theorem r_te : Mdf K (He.ga K "Trial") "__enter__" "Trial.__enter__" s_Trial__enter ["self"] := mdf_of (cn := "Trial") c 52 rfl (He.meth_ok (c.fact 101)) fun _ _ _ _ _ _ us hl => match us, hl with
  | [_], _ => rfl
theorem r_tx : Mdf K (He.ga K "Trial") "__exit__" "Trial.__exit__" s_Trial__exit ["self", "kind", "value", "trace"] := mdf_of (cn := "Trial") c 53 rfl (He.meth_ok (c.fact 102)) fun _ _ _ _ _ _ us hl => match us, hl with
  | [_, _, _, _], _ => rfl
theorem r_si : Cdf K mg "Saved" (He.ga K "Saved") "Saved.__init__" s_Saved__init ["self", "run", "outer"] := cdf_of c 54 rfl (He.glo_ok X G (c.fact 41)) (He.mkr_ok (c.fact 71)) fun _ _ _ _ _ _ us hl => match us, hl with
  | [_, _, _], _ => rfl
end
end KX
end
section
set_option Elab.async false
set_option linter.all false
set_option maxRecDepth 100000
set_option maxHeartbeats 8000000
/-! Rn29: classes, read off the hook. -/
namespace KX
open PySem PySem.Spec PyProof.Rows L2 Evl ClX
theorem xt {K : PySem.W.Frag} (x : (xtB K).all id = true) (i : Nat) {b : Bool} (h : (xtB K)[i]? = some b := by rfl) : b = true := List.all_eq_true.mp x b (List.mem_of_getElem? h)
section
variable {K : PySem.W.Frag} {h : Heap} {mg : Str → Option Value} (c : He.SaysD faA fnA K) (x : (xtB K).all id = true) (X : K.In h) (G : h.Ns mainGlobals mg)
include c
theorem r_PC : PgC K (He.ga K "Program") := ⟨He.cls_ok (c.fact 64), He.noat_ok (c.fact 72), He.noat_ok (c.fact 73), He.noat_ok (c.fact 74), He.noat_ok (c.fact 75), He.noat_ok (c.fact 76), He.noat_ok (c.fact 77)⟩
theorem r_TC : TrC K (He.ga K "Trial") := ⟨He.cls_ok (c.fact 68), He.noat_ok (c.fact 82), He.noat_ok (c.fact 83)⟩
theorem r_SC : SvC K (He.ga K "Saved") := ⟨He.cls_ok (c.fact 70), He.noat_ok (c.fact 84), He.noat_ok (c.fact 85), He.noat_ok (c.fact 86), He.noat_ok (c.fact 87), He.noat_ok (c.fact 88)⟩
include x
theorem r_IC : IsP K (He.ga K "Program") := ⟨of_decide_eq_true (xt x 3), of_decide_eq_true (xt x 4), of_decide_eq_true (xt x 5), of_decide_eq_true (xt x 6)⟩
theorem r_RC : RnC K (He.ga K "Run") := ⟨He.cls_ok (c.fact 66), He.noat_ok (c.fact 78), He.noat_ok (c.fact 79), He.noat_ok (c.fact 80), He.noat_ok (c.fact 81), ⟨of_decide_eq_true (xt x 7), of_decide_eq_true (xt x 8), of_decide_eq_true (xt x 9)⟩⟩
omit x
include X G
theorem r_EN : PlE K mg "BadNumber" (He.ga K "BadNumber") := ⟨He.glo_ok X G (c.fact 43), (He.exc_ok (c.fact 103)).1, (He.exc_ok (c.fact 103)).2.1, (He.exc_ok (c.fact 103)).2.2.1, (He.exc_ok (c.fact 103)).2.2.2⟩
theorem r_EE : PlE K mg "NothingDone" (He.ga K "NothingDone") := ⟨He.glo_ok X G (c.fact 44), (He.exc_ok (c.fact 104)).1, (He.exc_ok (c.fact 104)).2.1, (He.exc_ok (c.fact 104)).2.2.1, (He.exc_ok (c.fact 104)).2.2.2⟩
theorem r_Z : Zs mg (He.ga K "Program") := ⟨He.glo_ok X G (c.fact 38), He.free_ok X G (c.fact 45), He.free_ok X G (c.fact 46), He.free_ok X G (c.fact 47), He.free_ok X G (c.fact 48), He.free_ok X G (c.fact 49), He.free_ok X G (c.fact 50), He.free_ok X G (c.fact 51), He.free_ok X G (c.fact 52), He.free_ok X G (c.fact 53), He.free_ok X G (c.fact 54), He.free_ok X G (c.fact 55), He.free_ok X G (c.fact 56), He.free_ok X G (c.fact 57), He.str_ok X G (c.fact 59), He.str_ok X G (c.fact 60), He.int_ok X G (c.fact 61), He.int_ok X G (c.fact 62), He.int_ok X G (c.fact 63)⟩
end
end KX
end
section
set_option Elab.async false
set_option linter.all false
set_option maxRecDepth 100000
set_option maxHeartbeats 8000000
/-! Rn30: what is left to be read off the hook, but for BadWord's own making. -/
namespace KX
open PySem PySem.Spec PyProof.Rows L2 Evl ClX
section
variable {K : PySem.W.Frag} {h : Heap} {mg : Str → Option Value} (c : He.SaysD faA fnA K) (x : (xtB K).all id = true) (X : K.In h) (G : h.Ns mainGlobals mg)
include c x
theorem r_MC : MostC K (He.ga K "Run") := by
  have a : (match PySem.W.findCls K (.ref (He.ga K "Run")) (.type "type") "MOST" with
    | some (.val (.int 1000 _)) => true
    | _ => false) = true := xt x 2
  split at a
  · rename_i t e
    exact ⟨.type "type", _, ⟨xt x 0, of_decide_eq_true (xt x 1)⟩, ⟨e, ⟨t, rfl⟩⟩⟩
  · cases a
theorem r_pc : ∃ (f : Addr) (fd : FuncData), Fun K "__call__" "Program.__call__" s_Program__call f fd ∧ StX.CallO K (He.ga K "Program") f ∧ Binds K fd ["self", "text"] [] := by
  obtain ⟨fd, F⟩ := He.SaysD.def_ c 41 (d := mOf "Program" "__call__" "Program.__call__" s_Program__call) rfl
  have M := He.meth_ok (c.fact 92)
  exact ⟨_, fd, fun_of F, ⟨M.1, M.2, xt x 10⟩, F.bindsN fun _ _ _ _ _ _ us hl => match us, hl with
    | [_, _], _ => rfl⟩
omit x
theorem r_rn : ∃ (f : Addr) (fd : FuncData), Fun K "__len__" "Run.__len__" s_Run__len f fd ∧ PySem.W.findIn K (.ref (He.ga K "Run")) "__len__" = some (some (.ref f)) ∧ PySem.W.isFn K (.ref f) = true ∧ Binds K fd ["self"] [] := by
  obtain ⟨fd, F⟩ := He.SaysD.def_ c 50 (d := mOf "Run" "__len__" "Run.__len__" s_Run__len) rfl
  have M := He.meth_ok (c.fact 100)
  exact ⟨_, fd, fun_of F, M.1, M.2, F.bindsN fun _ _ _ _ _ _ us hl => match us, hl with
    | [_], _ => rfl⟩
theorem r_ra : ∃ f fd, AttM K (He.ga K "Run") f fd := by
  obtain ⟨fd, F⟩ := He.SaysD.def_ c 49 (d := mOf "Run" "attempt" "Run.attempt" s_Run_attempt) rfl
  exact ⟨_, fd, He.cls_ok (c.fact 66), He.meth_ok (c.fact 99), fund_of F, F.bindsN fun _ _ _ _ _ _ us hl => match us, hl with
    | [_, _], _ => rfl⟩
include X G
theorem r_lt : ∃ f fd, KX.FunD K "_law_tried" "_law_tried" s_law_tried f fd ∧ mg "_law_tried" = some (.ref f) ∧ Binds K fd ["work"] [] := by
  obtain ⟨fd, F⟩ := He.SaysD.def_ c 36 (d := dOf "_law_tried" s_law_tried) rfl
  exact ⟨_, fd, fund_of F, He.glo_ok X G (c.fact 36), F.bindsN fun _ _ _ _ _ _ us hl => match us, hl with
    | [_], _ => rfl⟩
include x
theorem r_T : TrdC K mg (He.ga K "BadWord") (He.ga K "BadNumber") (He.ga K "NothingDone") := ⟨He.glo_ok X G (c.fact 42), He.glo_ok X G (c.fact 43), He.glo_ok X G (c.fact 44), He.exm_ok (c.fact 105), He.exm_ok (c.fact 106), He.exm_ok (c.fact 107), He.exm_ok (c.fact 108), He.exm_ok (c.fact 109), He.exm_ok (c.fact 110), xfB_ok (xt x 11), He.noat_ok (c.fact 89)⟩
end
theorem r_law {K : PySem.W.Frag} (c : He.SaysD faA fnA K) : ∃ fd, FunC K "law" "law" s_law (He.ga K "law") fd (He.cT K lawD).1 ∧ ∀ (s : Shared) (u : Value), BindsTo s fd ⟨[u], []⟩ [("script", u)] := by
  obtain ⟨fd, F⟩ := He.SaysD.def_ c 37 (d := dOf "law" s_law) rfl
  have hb := F.bindsA (ps := ["script"]) fun _ _ _ _ _ _ us hl => match us, hl with
    | [_], _ => rfl
  obtain ⟨oc, od, dV, kV, doc, pm, an, cdv, ct, osl, rfl, lk, hcd, hD, hK⟩ := F.ex
  obtain ⟨a, rfl⟩ := He.codeIn_ref hcd
  have e := He.codeOf_eq (p := lawD) lk rfl
  refine ⟨_, ⟨oc, od, dV, kV, doc, pm, an, ct, osl, ?_, lk, ?_⟩, fun s u => hb s [u] rfl⟩
  · show _ = PySem.W.fnOf "law" "law" (defArgs s_law) (defBody s_law) (defScope s_law) dV kV doc pm an (.ref (He.codeOf K lawD)) ct
    rw [e]
    rfl
  · show PySem.W.codeIn K (.ref (He.codeOf K lawD)) "law" = true
    rw [e]
    exact hcd
end KX
end
section
set_option Elab.async false
set_option linter.all false
set_option maxRecDepth 100000
set_option maxHeartbeats 8000000
/-! Rn31: Run.back, read off the hook. -/
namespace KX
open PySem PySem.Spec PyProof.Rows L2 Evl ClX
theorem r_rb {K : PySem.W.Frag} (c : He.SaysD faA fnA K) : ∃ (f : Addr) (fd : FuncData), KX.FunD K "back" "Run.back" s_Run_back f fd ∧ Meth K (He.ga K "Run") "back" f ∧ Binds K fd ["self", "many"] [] := by
  obtain ⟨fd, F⟩ := He.SaysD.def_ c 44 (d := ⟨("Run", some "back"), "back", "Run.back", defArgs s_Run_back, defBody s_Run_back, defScope s_Run_back, [.int 1], []⟩) rfl
  refine ⟨_, fd, fund_of F, He.meth_ok (c.fact 94), ?_⟩
  obtain ⟨ds, hv, hb⟩ := F.binds1 (ps := ["self", "many"]) 2 1 (by intro e; cases e) rfl fun T kV doc pm an cdv ct us its h1 h2 => match us, its, h1, h2 with
    | [_, _], [_], _, _ => ⟨_, rfl, rfl⟩
  have e : ds = [] := by
    cases hv
    rfl
  rw [e] at hb
  exact hb
end KX
end
section
set_option Elab.async false
set_option linter.all false
set_option maxRecDepth 100000
set_option maxHeartbeats 8000000
/-! Rn32: BadWord's own making, read off the hook. -/
namespace KX
open PySem PySem.Spec PyProof.Rows L2 Evl ClX
theorem oex_ok {K : PySem.W.Frag} {C : Addr} (q : oexB K C = true) : ∃ nm qn N bs bm sn sub ab col dd k0 k1 k2 k3 k5, K.lookup C = some (excClassObj nm qn C N bs bm true sn sub ab col dd k0 k1 k2 k3 k5 "ValueError.__new__") ∧ PySem.HandSPX.refsVE bm = true := by
  unfold oexB at q
  split at q
  · rename_i dd cd sl ho
    split at q
    · rename_i D bm k0 k1 k2 k3 n k5 hm hs
      obtain ⟨h1, q⟩ := He.ba q
      obtain ⟨h2, q⟩ := He.ba q
      obtain ⟨h3, q⟩ := He.ba q
      obtain ⟨h4, h5⟩ := He.ba q
      have e1 : D = C := beq_iff_eq.mp h1
      have e2 : n = "ValueError.__new__" := beq_iff_eq.mp h2
      subst e1 e2
      obtain ⟨nm, bs, mro, ns, qn, hd, sn, sub, ab, col, del⟩ := cd
      dsimp only at hm h3 h4
      have h3' : del = false := by
        cases del
        · rfl
        · cases h3
      subst hm h3' h4
      have hsl : sl = #[k0, k1, k2, k3, some (.builtin "ValueError.__new__"), k5] := by
        obtain ⟨l⟩ := sl
        simp only at hs
        rw [hs]
      subst hsl
      exact ⟨nm, qn, ns, bs, bm, sn, sub, ab, col, dd, k0, k1, k2, k3, k5, ho, h5⟩
    · cases q
  · cases q
abbrev CBa (K : PySem.W.Frag) : Addr := He.ga K "BadWord"
abbrev fBa (K : PySem.W.Frag) : Addr := He.ma K (CBa K) "__init__"
theorem r_ini {K : PySem.W.Frag} (sup : supB K = true) (ini : iniW K = iniV) : ∃ oc od kV doc pm an cda ct cc osl, K.lookup (fBa K) = some ⟨oc, od, .func (PySem.W.ksFn "__init__" "BadWord.__init__" (defArgs s_BadWord__init) (defBody s_BadWord__init) (defScope s_BadWord__init) .none kV doc pm an (.ref cda) ct cc), osl⟩ ∧ PySem.W.codeIn K (.ref cda) "BadWord.__init__" = true ∧
    (∃ (ccl : Value) (cdd : Option Addr) (vs : Array Value) (ccs : Array (Option Value)) (file : Str) (tf : Tok), K.lookup cda = some ⟨ccl, cdd, .fields vs, ccs⟩ ∧ vs[2]? = some (.str file tf) ∧ ((R7.prog.main.file : Str) == file) = true) ∧
    (∃ (cl : Value) (cld : Option Addr) (csl : Array (Option Value)), K.lookup cc = some ⟨cl, cld, .cell (some (.ref (CBa K))), csl⟩) := by
  unfold iniW iniV at ini
  unfold supB at sup
  have ea : He.fAd K ("BadWord", some "__init__") = fBa K := rfl
  rw [ea] at ini sup
  cases q : K.lookup (fBa K) with
  | none =>
    rw [q] at sup
    cases sup
  | some o =>
    obtain ⟨oc, od, dt, osl⟩ := o
    rw [q] at sup ini
    cases dt with
    | func fd =>
      obtain ⟨n1, n2, n3, n4, n5, n6, n7, n8, n9, n10, n11, n12, n13, n14, n15⟩ := fd
      have e2 : (some (n1, n2, n3, n4, n5, n6, n7.map (·.1), n15) : IniW) = iniV := ini
      unfold iniV at e2
      simp only [Option.some.injEq, Prod.mk.injEq] at e2
      obtain ⟨h1, h2, h3, h4, h5, h6, h7, h8⟩ := e2
      obtain ⟨k1, k⟩ := He.ba sup
      obtain ⟨k2, k⟩ := He.ba k
      obtain ⟨k3, k4⟩ := He.ba k
      dsimp only at k1 k2 k3 k4
      obtain ⟨cda, e13⟩ := He.codeIn_ref k1
      have e8 : n8 = .none := by
        cases n8 with
        | none => rfl
        | _ => cases k2
      split at k3
      · rename_i y cc _e
        have ey : y = "__class__" := by
          have h9 : [y] = (["__class__"] : List Str) := h7
          exact (List.cons.inj h9).1
        split at k3
        · rename_i cl cld C csl hc
          have eC : C = He.ga K "BadWord" := beq_iff_eq.mp k3
          subst e13 e8 ey eC h1 h2 h3 h4 h5 h6 h8
          dsimp only at k4
          split at k4
          · rename_i ccl cdd vs ccs hk
            split at k4
            · rename_i file tf hv
              exact ⟨oc, od, n9, n10, n11, n12, cda, n14, cc, osl, rfl, k1, ⟨ccl, cdd, vs, ccs, file, tf, hk, hv, k4⟩, ⟨cl, cld, csl, hc⟩⟩
            · cases k4
          · cases k4
        · cases k3
      · cases k3
    | _ => cases sup
end KX
end
section
set_option Elab.async false
set_option linter.all false
set_option maxRecDepth 100000
set_option maxHeartbeats 8000000
/-! Rn33: all that the law needs, read off the hook. -/
namespace KX
open PySem PySem.Spec PyProof.Rows L2 Evl ClX
section
variable {P : Program} {w : World} {K : PySem.W.Frag} {h h0 : Heap} {mg : Str → Option Value} {base : Heap}
theorem r_EB (S : SaysK h0 K) (X : K.In h) (G : h.Ns mainGlobals mg) (hf : P.main.file = R7.prog.main.file) (ht : (P.main.scope.names.lookup ("super" : Str)).isSome = false) : ErC P w K mg base "BadWord" (He.ga K "BadWord") "place" := by
  have c := S.d
  have x := S.x
  obtain ⟨oc, od, kV, doc, pm, an, cda, ct, cc, osl, lk, hcd, hcode, hcell⟩ := r_ini S.sup S.ini
  have M := He.meth_ok (c.fact 111)
  have fld := He.noat_ok (c.fact 89)
  have T : OexC K (He.ga K "BadWord") := ⟨oex_ok (xt x 12), of_decide_eq_true (xt x 13), of_decide_eq_true (xt x 14), of_decide_eq_true (xt x 15), xt x 16⟩
  refine erc_BadWord (cc := cc) (cda := cda) ⟨T, ?_, hcell, of_decide_eq_true (xt x 17), of_decide_eq_true (xt x 18), He.free_ok X G (c.fact 58), of_decide_eq_true (xt x 19), of_decide_eq_true (xt x 20), fld, ht⟩ (He.glo_ok X G (c.fact 42)) lk hcd M.1 (of_decide_eq_true (xt x 21))
  rw [hf]
  exact hcode
theorem r_raw (S : SaysK h0 K) (X : K.In h) (G : h.Ns mainGlobals mg) (hf : P.main.file = R7.prog.main.file) (ht : (P.main.scope.names.lookup ("super" : Str)).isSome = false) : Raw P w K mg base (He.ga K "Program") (He.ga K "Run") (He.ga K "Trial") (He.ga K "Saved") (He.ga K "BadWord") (He.ga K "BadNumber") (He.ga K "NothingDone") := by
  have c := S.d
  have EB := r_EB (P := P) (w := w) (base := base) S X G hf ht
  exact {
    Z := r_Z c X G
    d_is_number := r_d_is_number c X G
    d_is_made_of := r_d_is_made_of c X G
    d_is_text := r_d_is_text c X G
    d_is_word := r_d_is_word c X G
    d_is_state := r_d_is_state c X G
    d_is_held := r_d_is_held c X G
    d_is_row := r_d_is_row c X G
    d_are_rows := r_d_are_rows c X G
    d_is_place := r_d_is_place c X G
    d_is_step := r_d_is_step c X G
    d_are_steps := r_d_are_steps c X G
    d_are_firsts := r_d_are_firsts c X G
    d_are_ends := r_d_are_ends c X G
    d_are_letters := r_d_are_letters c X G
    d_are_registers := r_d_are_registers c X G
    d_first_wrong := r_d_first_wrong c X G
    d_text_of := r_d_text_of c X G
    d_put_text := r_d_put_text c X G
    d_row_of := r_d_row_of c X G
    d_all_rows := r_d_all_rows c X G
    d_check_word := r_d_check_word c X G
    d_made := r_d_made c X G
    d_copied := r_d_copied c X G
    d_check_program := r_d_check_program c X G
    d_law_cell_at := r_d_law_cell_at c X G
    d_law_draw := r_d_law_draw c X G
    d_law_number := r_d_law_number c X G
    d_law_next := r_d_law_next c X G
    d_law_pick := r_d_law_pick c X G
    d_law_rows := r_d_law_rows c X G
    d_law_end := r_d_law_end c X G
    d_law_program := r_d_law_program c X G
    d_law_write := r_d_law_write c X G
    d_law_run := r_d_law_run c X G
    d_law_made := r_d_law_made c X G
    d_law_fails := r_d_law_fails c X G
    PC := r_PC c
    IC := r_IC c S.x
    RC := r_RC c S.x
    MC := r_MC c S.x
    TC := r_TC c
    SC := r_SC c
    pi := r_pi c X G
    pp := r_pp c X G
    pa := r_pa c X G
    pc := r_pc c S.x
    ri := r_ri c X G
    rr := r_rr c X G
    rb := r_rb c
    rt := r_rt c X G
    rc := r_rc c X G
    rw := r_rw c X G
    rl := r_rl c X G
    rn := r_rn c
    ra := r_ra c
    ti := r_ti c X G
    te := r_te c X G
    tx := r_tx c X G
    si := r_si c X G
    EB := EB
    EN := r_EN c X G
    EE := r_EE c X G
    T := r_T c S.x X G
    lt := r_lt c X G }
end
end KX
end
section
set_option Elab.async false
set_option linter.all false
set_option maxRecDepth 100000
set_option maxHeartbeats 8000000
/-! Rn34: the law holds. -/
namespace KX
open PySem PySem.Spec PyProof.Rows L2 Evl ClX
theorem law_at (w : World) (mg : Str → Option Value) (fa : Addr) (h : Heap) (Y : hookK.says w h) (G : h.Ns mainGlobals mg) (hmg : mg ("law" : Str) = some (.ref fa)) :
    ∃ K : PySem.W.Frag, K.In h ∧ LamX.LawAtS PySem.Challenge.rw_passtexts_k07_whole_runs w K (L2.CX (PySem.Challenge.rw_passtexts_k07_whole_runs).prog w) 14 63 "script" mg fa h := by
  obtain ⟨K, X, S⟩ := Y
  refine ⟨K, X, ?_⟩
  obtain ⟨fd, F, hb⟩ := r_law S.d
  have e := hmg.symm.trans (He.glo_ok X G (S.d.fact 37 (f := .glo "law") rfl))
  have e2 : fa = He.ga K "law" := by
    injection e with e3
    injection e3
  subst e2
  refine ⟨fd, [He.cT K lawD], sp_law K (He.cT K lawD).2, ?_, ?_, ?_, hb, ?_, ?_⟩
  · intro p hp
    rw [List.mem_singleton.mp hp]
    exact S.empty
  · intro p hp
    rw [List.mem_singleton.mp hp]
    exact S.out
  · intro p hp
    rw [List.mem_singleton.mp hp]
    exact PySem.W.codeHd_of_K X S.hd
  · intro H a ns hl hbits hH hS
    exact ⟨a, ns, rfl, hS, hH _ (List.mem_singleton.mpr rfl), fun _ => rfl⟩
  · intro base KB GB TB
    have R := r_raw (P := (PySem.Challenge.rw_passtexts_k07_whole_runs).prog) (w := w) (base := base) S X G rfl (by decide +kernel)
    exact ok_law R.lf F (TB _ (List.mem_singleton.mpr rfl))
theorem ob_eq (s : PySem.W.SharedT) : obsKG (HandSHeadRun.getT s) = hookK.obs s.abs := obsKG_eq (HandSHeadRun.getT_eq s)
end KX
end
section
set_option Elab.async false
set_option linter.all false
set_option maxRecDepth 100000
set_option maxHeartbeats 0
/-! Rn35: the end. -/
open PySem PySem.W PySem.Calls PyProof.Rows
theorem PySem.Challenge.cw_passtexts_k07_whole_runs_holds : PySem.Challenge.rw_passtexts_k07_whole_runs.Holds := by
  w_on; o_law
  refine HandSHeadRun.head_any (r := OpenLaw.row PySem.Challenge.rw_passtexts_k07_whole_runs) (q := view (OpenLaw.row PySem.Challenge.rw_passtexts_k07_whole_runs).prog [59]) (H := KX.hookK) (ob := fun s => KX.obsKG (HandSHeadRun.getT s)) (M := 6000) (loose := KX.nm0 ++ KX.nm1 ++ KX.nm2 ++ KX.nm3 ++ KX.nm4) (d := HandSHeadRun.topDef (OpenLaw.row PySem.Challenge.rw_passtexts_k07_whole_runs).prog 59) (kwd := []) KX.ob_eq
    (by kernel_rfl) (fun s => by kernel_rfl) KX.run_k (by kernel_rfl) (by kernel_rfl) (by kernel_rfl) (by rfl) (by first | assumption | decide +kernel) (by decide +kernel) ⟨rfl, rfl, rfl, rfl, rfl, by decide +kernel⟩ ?hw ?hc
  case hw => w_witness2
  case hc =>
    refine LamX.walk_ofTsE (l := PySem.Challenge.rw_passtexts_k07_whole_runs) (n := 63) (k := 14) (x := "script") (CX := fun w => L2.CX (PySem.Challenge.rw_passtexts_k07_whole_runs).prog w) rfl (by decide) (by kernel_rfl) ⟨rfl, by decide, by decide⟩ ?F (fun w H s e s' z => by
      obtain ⟨_, _, _, _, _, _, _, _, _, _, _, _, z⟩ := z
      exact z)
    intro w mg fa h Y G hmg0
    have hmg : mg ("law" : PySem.Str) = some (.ref fa) := by
      have e : (HandSHeadRun.topDef (OpenLaw.row PySem.Challenge.rw_passtexts_k07_whole_runs).prog 59).name = ("law" : PySem.Str) := by kernel_rfl
      rw [← e]
      exact hmg0
    exact KX.law_at w mg fa h Y G hmg
end
