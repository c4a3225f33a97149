import PyProof.Rows.All
import Wide.All
import OpenK.AllK
import Wide.FinOn
import HandS.ForMost
import HandS.IsInst
import HandS.StrMore
import HandS.Wide
import HandS.More
import HandS.Style
import HandS.Conv
import HandS.Star
import HandS.DictComp
import HandS.Evl
import HandS.DeepEq
import HandS.OwnEq
import HandS.Strs
import KE.SortData
import PyProof.CollectStr
import PyProof.TupleOfSeq
import HandS.TupLen
import HandS.DictEq
import HandS.ListEq
import PyProof.ListStr
import PyProof.EnumMake
import PyProof.SetRoads
import PyProof.DictCompW
import KE.GoesEnum
import HandS.Walk
import HandS.SetKeys
import HandS.RevRange
import HandS.WideBits
import PyProof.StrOps2
import HandS.Head0
import HandS.Head1
import HandS.Head2
import HandS.HeadEnd
import HandS.HeadHook1
import HandS.HeadHook2
import PySem.Challenge.RW_passtexts_k17_whole_powers_written
section
set_option Elab.async false
set_option linter.all false
set_option maxRecDepth 100000
set_option maxHeartbeats 4000000
/-! KX1: a def with its place, its promise and its binding in one word; calls by such words. -/
namespace KX
open PySem L2

/-- the def x stands in the module, at some address, with the parameters ps -/
def Df (K : PySem.W.Frag) (mg : Str → Option Value) (x : Str) (st : Stmt) (ps : List Str) : Prop :=
  ∃ (f : Addr) (fd : FuncData), Fun K x x st f fd ∧ mg x = some (.ref f) ∧ Binds K fd ps []
/-- .. and keeps the promise sp, k calls deep -/
def Has (P : Program) (w : World) (K : PySem.W.Frag) (mg : Str → Option Value) (base : Heap) (x : Str) (k : Nat) (ps : List Str) (sp : Sp) : Prop :=
  ∃ (f : Addr) (fd : FuncData), FnOk P w K mg base CX0 k f fd ps sp ∧ mg x = some (.ref f) ∧ PySem.W.keepIn K (.ref f) = true ∧ Binds K fd ps []
/-- the method m of the class at C, the def at f, with its promise -/
structure HasM (P : Program) (w : World) (K : PySem.W.Frag) (mg : Str → Option Value) (base : Heap) (C : Addr) (m : Str) (k : Nat) (f : Addr) (fd : FuncData) (ps : List Str) (sp : Sp) : Prop where
  cl : Cls K C
  me : Meth K C m f
  ok : FnOk P w K mg base CX0 k f fd ps sp
  b : Binds K fd ps []
/-- the class x with its __init__ -/
def HasC (P : Program) (w : World) (K : PySem.W.Frag) (mg : Str → Option Value) (base : Heap) (x : Str) (C : Addr) (k : Nat) (ps : List Str) (sp : Sp) : Prop :=
  mg x = some (.ref C) ∧ ∃ (f : Addr) (fd : FuncData), FnOk P w K mg base CX0 k f fd ps sp ∧ Mk K C f ∧ Binds K fd ps []
section
variable {P : Program} {w : World} {K : PySem.W.Frag} {mg : Str → Option Value} {base : Heap}
theorem Has.mk' {x : Str} {st : Stmt} {ps : List Str} {k : Nat} {sp : Sp} (D : Df K mg x st ps)
    (h : ∀ (f : Addr) (fd : FuncData), Fun K x x st f fd → FnOk P w K mg base CX0 k f fd ps sp) : Has P w K mg base x k ps sp := by
  obtain ⟨f, fd, F, hm, hb⟩ := D
  exact ⟨f, fd, h f fd F, hm, F.kp, hb⟩
end
section
variable {X : Cx} {x m : Str} {k : Nat} {ps : List Str} {sp : Sp} {p pos apos : Pos} {e o : Expr} {es : List Expr} {t : TA} {ta : TE} {C : Addr}
theorem pe_use (h : Has X.prog X.w X.K X.mg X.base x k ps sp) (hr : Room k X.A) (ha : PA X (e :: es) t) (hg : Gl X x := by rfl) (hdb : (x == ("__debug__" : Str)) = false := by decide)
    (he : starEach (e :: es) X.env = (false, eval e X.env) :: starEach es X.env := by rfl) (hpl : (backTo pos (starEach es X.env)).any (·.1) = false := by rfl) :
    PE X (.Call (.Name x p) (e :: es) [] pos) (tCall sp [] E0 t) := by
  obtain ⟨f, fd, F, hm, hk, hb⟩ := h
  exact pe_call F hr hg hm hk hb .nil pass0 ha hdb he hpl
theorem pe_mk (h : HasC X.prog X.w X.K X.mg X.base x C k ps sp) (hr : Room (k + 1) X.A) (ha : PA X (e :: es) t) (hg : Gl X x := by rfl) (hdb : (x == ("__debug__" : Str)) = false := by decide)
    (he : starEach (e :: es) X.env = (false, eval e X.env) :: starEach es X.env := by rfl) (hpl : (backTo pos (starEach es X.env)).any (·.1) = false := by rfl) :
    PE X (.Call (.Name x p) (e :: es) [] pos) (tMake C sp [] E0 t) := by
  obtain ⟨hm, f, fd, F, M, hb⟩ := h
  exact pe_make M F hr hg hm hb .nil pass0 ha hdb he hpl
/-- a constant of the module: a text, an int -/
theorem pe_gcS {z : Str} (hg : Gl X x) (h : ∃ t, X.mg x = some (.str z t)) (hd : (x == ("__debug__" : Str)) = false := by decide) : PE X (.Name x p) (tC (.str z)) := by
  obtain ⟨t, h⟩ := h
  exact pe_glob hg h ⟨t, rfl⟩ hd
theorem pe_gcI {i : Int} (hg : Gl X x) (h : ∃ t, X.mg x = some (.int i t)) (hd : (x == ("__debug__" : Str)) = false := by decide) : PE X (.Name x p) (tC (.int i)) := by
  obtain ⟨t, h⟩ := h
  exact pe_glob hg h ⟨t, rfl⟩ hd
end
end KX
end
section
set_option Elab.async false
set_option linter.all false
set_option maxRecDepth 100000
set_option maxHeartbeats 4000000
/-! KX2: sorted(..) of whatever can be collected: lists, tuples, texts, dicts; items are ints, texts, or tuples of these. -/
namespace KX
open PySem PySem.Spec PyProof.Rows L2

def kD : Key → PyData
  | .inl i => .int i
  | .inr x => .str x
/-- an item that is sorted: its value and what it reads as -/
inductive Fl (H : Hp) : V → PyData → Prop
  | int (i : Int) : Fl H (.int i) (.int i)
  | str (x : Str) : Fl H (.str x) (.str x)
  | tup {a : Addr} {ks : List Key} : H a = some (.tup (ks.map kV)) → Fl H (.ref a) (.tuple (ks.map kD))

theorem keys_read {h : Heap} : ∀ {ks : List Key} {us : List Value}, Vals (ks.map kV) us → ReadsAll h us (ks.map kD) []
  | [], _, v => by
    cases v
    exact ReadsAll.nil
  | k :: ks, _, v => by
    cases v with
    | cons r t =>
      have q := keys_read (h := h) t
      cases k with
      | inl i =>
        obtain ⟨w, e⟩ := r
        rw [e]
        exact ReadsAll.cons (as := []) (Reads.int i w) q
      | inr x =>
        obtain ⟨w, e⟩ := r
        rw [e]
        exact ReadsAll.cons (as := []) (Reads.str x w) q
theorem Fl.reads {P : Program} {w : World} {H : Hp} {h : Heap} (ok : HOk P w H h) {v : V} {d : PyData} {u : Value} (f : Fl H v d) (r : RelV v u) : Reads h u d [] := by
  cases f with
  | int i =>
    obtain ⟨t, e⟩ := r
    rw [e]
    exact Reads.int i t
  | str x =>
    obtain ⟨t, e⟩ := r
    rw [e]
    exact Reads.str x t
  | tup q =>
    cases r
    obtain ⟨_, its, rv, o, e, c, n, dd⟩ := ok _ _ q
    exact Reads.tuple e c dd (keys_read rv)

section
variable {P : Program} {w : World} {A : Around} {E : Value → Shared → Prop} {s : Shared} {β : Type} {enc : β → PyData} {R : Value → β → Prop} {bs : List β}
/-- sorted, from what collecting gives -/
theorem sorted_by {u : Value} {Q : Value → Shared → Prop}
    (hc : ∀ Q' : List Value → Shared → Prop, (∀ h1 t1 acc, (∀ b o, s.heap.get? b = some o → h1.get? b = some o) → PySem.W.EachIs R acc bs → PySem.W.EachIs (fun v b => Reads h1 v (enc b) []) acc bs → Q' acc { s with heap := h1, toks := t1 }) →
      wpAny (model P w) A.in1 (collect u) Q' E s)
    (hal : PySem.W.AllAlike (bs.map enc)) (hk : PySem.W.Sortable (bs.map enc)) (hL : bs.length ≤ sizeLine) (hu : ∀ b, b ∈ bs → A.in1.units + 1 + (enc b).depth < cLine)
    (h : ∀ (h1 h2 : Heap) (t1 : Nat) (out : List Value) (c : Nat), (∀ b o, s.heap.get? b = some o → h1.get? b = some o) → (∀ b o, h1.get? b = some o → h2.get? b = some o) → h2.get? h1.objs.size = some (seqObj "list" (List.toArray out) c) →
      PySem.W.EachIs R out (bs.mergeSort (PySem.W.dataLe false enc)) → Q (.ref h1.objs.size) { s with heap := h2, toks := t1 }) :
    wpAny (model P w) A (call (.builtin "sorted") [u]) Q E s := by
  refine Calls.call_function_entry kind_sorted plain_sorted entry_sorted (args_sorted1 _) ?_
  unfold Builtin.«sorted»
  refine wpAny_bind (m := checkCount "sorted" 1 1 _) (wpAny_pure (wpAny_bind (hc _ fun h1 t1 acc k1 e1 e2 => ?_)))
  have hlen : acc.length = bs.length := e1.length
  refine wpAny_bind (wpAny_newList ?_ (by rw [hlen]; exact hL))
  have hob : (h1.push (seqObj "list" acc.toArray 0)).get? h1.objs.size = some (seqObj "list" acc.toArray 0) := Heap.get?_push_size _ rfl
  show wpAny _ _ _ _ _ { s with heap := h1.push (seqObj "list" acc.toArray 0), toks := t1 }
  refine wpAny_bind (wpAny_holding ?_)
  refine PySem.W.list_sort_data (s := { s with heap := h1.push (seqObj "list" acc.toArray 0), toks := t1 }) (R := R) (enc := enc) (bs := bs) hob e1 (e2.mono fun v b q => ⟨[], PyProof.Rows.Reads.keeps (fun _ _ z => Heap.get?_push_of_some _ z) q, by simp⟩) hal hk hL hu fun out hl eo => ?_
  obtain ⟨c, hat⟩ := sortedHeap_at (vs := acc) (out := out.toArray) hob
  refine wpAny_pure ⟨_, rfl, h h1 _ t1 out c k1 (fun b o e => ?_) hat eo⟩
  have hb : b < h1.objs.size := Heap.lt_size e
  rw [sortedHeap_old (Nat.ne_of_lt hb) (by rw [Heap.size_push]; exact Nat.lt_succ_of_lt hb)]
  exact Heap.get?_push_of_some _ e
end

/-! ### the readings -/
/-- items with what they read as, in their order when sorted -/
def srt (ps : List (V × PyData)) : List V := (ps.mergeSort (PySem.W.dataLe false fun p => p.2)).map (·.1)
structure SrtOk (H : Hp) (ps : List (V × PyData)) : Prop where
  fl : ∀ p ∈ ps, Fl H p.1 p.2
  al : PySem.W.AllAlike (ps.map (·.2))
  so : PySem.W.Sortable (ps.map (·.2))
  sz : ps.length ≤ sizeLine
theorem depthAll_keys : ∀ ks : List Key, PyData.depthAll (ks.map kD) = 0
  | [] => by simp [PyData.depthAll]
  | .inl i :: r => by
    show PyData.depthAll (.int i :: r.map kD) = 0
    rw [PyData.depthAll, depthAll_keys r]
    simp [PyData.depth]
  | .inr i :: r => by
    show PyData.depthAll (.str i :: r.map kD) = 0
    rw [PyData.depthAll, depthAll_keys r]
    simp [PyData.depth]
theorem Fl.depth {H : Hp} {v : V} {d : PyData} (f : Fl H v d) : d.depth ≤ 1 := by
  cases f with
  | int i => simp [PyData.depth]
  | str x => simp [PyData.depth]
  | tup q => simp [PyData.depth, depthAll_keys]
theorem vals_pairs {h : Heap} {H : Hp} {P : Program} {w : World} (ok : HOk P w H h) : ∀ {ps : List (V × PyData)} {us : List Value}, (∀ p ∈ ps, Fl H p.1 p.2) → Vals (ps.map (·.1)) us →
    PySem.W.EachIs (fun v (b : V × PyData) => RelV b.1 v) us ps ∧ PySem.W.EachIs (fun v (b : V × PyData) => Reads h v b.2 []) us ps
  | [], _, _, r => by
    cases r
    exact ⟨.nil, .nil⟩
  | p :: ps, _, f, r => by
    cases r with
    | cons r1 r2 =>
      obtain ⟨q1, q2⟩ := vals_pairs ok (fun x hx => f x (List.mem_cons_of_mem _ hx)) r2
      exact ⟨.cons r1 q1, .cons ((f p List.mem_cons_self).reads ok r1) q2⟩
theorem vals_out : ∀ {ps : List (V × PyData)} {us : List Value}, PySem.W.EachIs (fun v (b : V × PyData) => RelV b.1 v) us ps → Vals (ps.map (·.1)) us
  | _, _, .nil => .nil
  | _, _, .cons r t => .cons r (vals_out t)
section
variable {X : Cx}
/-- sorted, whatever the argument, once it is told how it is collected -/
theorem sorted_in {pins : List (Addr × Obj)} {σ : L2.St} {H : Hp} {s : Shared} {u : Value} {ps : List (V × PyData)} {Q : VK} (hu : X.A.units + 8 < cLine) (I : Inv X pins σ H s) (ok : SrtOk H ps)
    (hc : ∀ Q' : List Value → Shared → Prop, (∀ h1 t1 acc, (∀ b o, s.heap.get? b = some o → h1.get? b = some o) → Vals (ps.map (·.1)) acc → Q' acc { s with heap := h1, toks := t1 }) → wpAny (model X.prog X.w) X.A.in1 (collect u) Q' X.xe s)
    (q : ∀ p, H p = none → Q (.ref p) (upd H p (.lst (srt ps)))) : wpAny (model X.prog X.w) X.A (call (.builtin "sorted") [u]) (EP X pins σ Q) X.xe s := by
  refine sorted_by (R := fun v (b : V × PyData) => RelV b.1 v) (enc := fun b : V × PyData => b.2) (bs := ps) (fun Q' hq => hc _ fun h1 t1 acc k rv => ?_) ok.al ok.so ok.sz (fun b hb => ?_) fun h1 h2 t1 out c k1 k2 hat eo => ?_
  · have I1 : Inv X pins σ H { s with heap := h1, toks := t1 } := I.kept k
    obtain ⟨a1, a2⟩ := vals_pairs I1.hok ok.fl rv
    exact hq h1 t1 acc k a1 a2
  · have d1 := (ok.fl b hb).depth
    show X.A.units + 1 + 1 + b.2.depth < cLine
    omega
  · have I1 : Inv X pins σ H { s with heap := h1, toks := t1 } := I.kept k1
    have hn : H h1.objs.size = none := I1.hok.fresh (Nat.le_refl _)
    have hz : (srt ps).length ≤ sizeLine := by
      unfold srt
      rw [List.length_map, List.length_mergeSort]
      exact ok.sz
    exact ⟨.ref h1.objs.size, _, I1.laid (t' := t1) (o := .lst (srt ps)) k2 (Nat.le_refl _) ⟨hz, out, c, vals_out eo, hat⟩, rfl, q _ hn⟩
/-- sorted(list), sorted(tuple) -/
def rSrtL (K : PySem.W.Frag) : List V → Hp → VK → Prop := fun vs H Q => ∃ (a : Addr) (ps : List (V × PyData)), vs = [.ref a] ∧ (SqL K H a (ps.map (·.1)) ∨ SqT K H a (ps.map (·.1))) ∧ SrtOk H ps ∧ ∀ p, H p = none → Q (.ref p) (upd H p (.lst (srt ps)))
theorem cr_srtL {K : PySem.W.Frag} (hu : X.A.units + 8 < cLine) (hK : X.K = K := by rfl) : CallR X (.builtin "sorted") (rSrtL K) := by
  subst hK
  intro pins s σ H vs us Q I r h
  obtain ⟨a, ps, rfl, hs, ok, q⟩ := h
  rw [Vals.ref1 r]
  refine sorted_in hu I ok (fun Q' hq => ?_) q
  rcases hs with hs | hs
  · obtain ⟨its, rv, ⟨o, n, e, hcl, _, hd⟩, z⟩ := I.list hs
    exact wpAny_collect_seq a (.inl rfl) e hcl hd (fun h' k => hq h' s.toks _ k (by simpa using rv)) (by have := rv.length; simp; omega)
  · obtain ⟨its, rv, ⟨o, e, hcl, n, hd⟩, z⟩ := I.tuple hs
    exact wpAny_collect_seq a (.inr rfl) e hcl hd (fun h' k => hq h' s.toks _ k (by simpa using rv)) (by have := rv.length; simp; omega)
/-- sorted(text): its signs -/
def signs (z : Str) : List (V × PyData) := z.cps.toList.map fun c => (V.str ⟨#[c]⟩, PyData.str ⟨#[c]⟩)
def rSrtS : List V → Hp → VK → Prop := fun vs H Q => ∃ z : Str, vs = [.str z] ∧ z.length ≤ sizeLine ∧ ∀ p, H p = none → Q (.ref p) (upd H p (.lst (srt (signs z))))
theorem vals_signs {z : Str} : ∀ {acc : List Value} {cs : List Nat}, acc.length = cs.length → (∀ (j : Nat) (v : Value), acc[j]? = some v → ∃ c t, cs[j]? = some c ∧ v = Value.str ⟨#[c]⟩ t) → Vals ((cs.map fun c => (V.str ⟨#[c]⟩, PyData.str ⟨#[c]⟩)).map (·.1)) acc
  | [], [], _, _ => .nil
  | u :: us, c :: cs, hl, h => by
    obtain ⟨c', t, e1, e2⟩ := h 0 u rfl
    have e3 : c = c' := Option.some.inj e1
    subst e3
    refine .cons ⟨t, e2⟩ (vals_signs (z := z) (by simpa using hl) fun j v e => ?_)
    have := h (j + 1) v (by simpa using e)
    simpa using this
  | [], _ :: _, hl, _ => by simp at hl
  | _ :: _, [], hl, _ => by simp at hl
theorem signs_ok {H : Hp} {z : Str} (hz : z.length ≤ sizeLine) : SrtOk H (signs z) where
  fl := fun p hp => by
    obtain ⟨c, _, e⟩ := List.mem_map.mp hp
    rw [← e]
    exact Fl.str _
  al := fun d hd d' hd' => by
    obtain ⟨p, hp, rfl⟩ := List.mem_map.mp hd
    obtain ⟨p', hp', rfl⟩ := List.mem_map.mp hd'
    obtain ⟨c, _, rfl⟩ := List.mem_map.mp hp
    obtain ⟨c', _, rfl⟩ := List.mem_map.mp hp'
    simp [PySem.W.alike]
  so := .inr fun d hd => by
    obtain ⟨p, hp, rfl⟩ := List.mem_map.mp hd
    obtain ⟨c, _, rfl⟩ := List.mem_map.mp hp
    exact ⟨(fun q => by cases q), fun xs q => by cases q⟩
  sz := by
    unfold signs
    rw [List.length_map, Array.length_toList]
    exact hz
theorem cr_srtS (hc : X.calm = true) (hu : X.A.units + 8 < cLine) : CallR X (.builtin "sorted") rSrtS := by
  intro pins s σ H vs us Q I r h
  obtain ⟨z, rfl, hz, q⟩ := h
  obtain ⟨u, rfl, t, rfl⟩ := r.one
  refine sorted_in hu I (signs_ok hz) (fun Q' hq => ?_) q
  refine wpAny_collect_str (A := X.A.in1) (I.ok.hd hc) z t (fun s' acc k g d o it => ?_) hz
  have e : s' = { s with heap := s'.heap, toks := s'.toks } := by
    cases s'
    cases s
    cases g
    cases d
    cases o
    rfl
  rw [e]
  refine hq _ _ _ k (vals_signs (z := z) (by rw [Array.length_toList, Array.length_toList]; exact it.1) fun j v ej => ?_)
  obtain ⟨c, t', e1, e2⟩ := it.2 j v (by rw [← Array.getElem?_toList]; exact ej)
  exact ⟨c, t', by rw [Array.getElem?_toList]; exact e1, e2⟩
/-- sorted(dict with ints or texts) -/
def keysP (kvs : List (Key × V)) : List (V × PyData) := kvs.map fun p => (kV p.1, kD p.1)
def rSrtK : List V → Hp → VK → Prop := fun vs H Q => ∃ (a : Addr) (kvs : List (Key × V)), vs = [.ref a] ∧ Rd H a (.dK kvs) ∧ SrtOk H (keysP kvs) ∧ ∀ p, H p = none → Q (.ref p) (upd H p (.lst (srt (keysP kvs))))
theorem cr_srtK (hc : X.calm = true) (hu : X.A.units + 8 < cLine) : CallR X (.builtin "sorted") rSrtK := by
  intro pins s σ H vs us Q I r h
  obtain ⟨a, kvs, rfl, hd, ok, q⟩ := h
  rw [Vals.ref1 r]
  refine sorted_in hu I ok (fun Q' hq => ?_) q
  obtain ⟨z, lo, xs, rel, dd⟩ := dk_rd I.hok hd
  obtain ⟨ep, hat⟩ := dd.dictAt
  refine PySem.W.kdu_collect (A := X.A.in1) (PySem.W.kdl_dict (knd := mixKind X.prog X.w) (kvs := xs) (ep := ep) lo) (I.ok.hd hc) hat (by rw [← rel.length]; exact z) fun h' tk acc k it => hq h' tk _ k ?_
  have e1 : (keysP kvs).map (·.1) = xs.map fun p => kV p.1 := by
    unfold keysP
    have e := congrArg (List.map kV) rel.keys
    rw [List.map_map, List.map_map] at e
    rw [List.map_map]
    exact e
  rw [e1]
  exact keys_at (by rw [Array.length_toList]; exact it.1) fun j v e => it.2 j v (by rw [← Array.getElem?_toList]; exact e)
/-- sorted(dict with tuples) -/
def keysT (bs : List Addr) (kvs : List (List Key × V)) : List (V × PyData) := (bs.zip kvs).map fun p => (V.ref p.1, PyData.tuple (p.2.1.map kD))
def rSrtT : List V → Hp → VK → Prop := fun vs H Q => ∃ (a : Addr) (kvs : List (List Key × V)), vs = [.ref a] ∧ Rd H a (.dT kvs) ∧ (∀ bs, IsKeys H kvs bs → SrtOk H (keysT bs kvs) ∧ ∀ p, H p = none → Q (.ref p) (upd H p (.lst (srt (keysT bs kvs)))))
theorem keysT_fst : ∀ {bs : List Addr} {kvs : List (List Key × V)}, bs.length = kvs.length → (keysT bs kvs).map (·.1) = bs.map V.ref
  | [], [], _ => rfl
  | b :: bs, k :: kvs, h => by
    have q := keysT_fst (bs := bs) (kvs := kvs) (by simpa using h)
    unfold keysT at q ⊢
    rw [List.zip_cons_cons, List.map_cons, List.map_cons, q]
    all_goals rfl
  | [], _ :: _, h => by simp at h
  | _ :: _, [], h => by simp at h
theorem cr_srtT (hc : X.calm = true) (hu : X.A.units + 8 < cLine) : CallR X (.builtin "sorted") rSrtT := by
  intro pins s σ H vs us Q I r h
  obtain ⟨d, kvs, rfl, hd, q⟩ := h
  rw [Vals.ref1 r]
  obtain ⟨z, hs, ks, pr, o, es, ep, ho, hx, hdt, he, hn⟩ := (show ObjOk X.prog X.w H s.heap d (.dT kvs) from hd.ok I.hok)
  have hks : IsKeys H kvs (ks.map fun x => x.2.1) := isKeys_of pr
  obtain ⟨ok, q⟩ := q _ hks
  refine sorted_in hu I ok (fun Q' hq => ?_) q
  have l1 : es.size = ks.length := size_of_entries he
  have l2 : kvs.length = ks.length := Paired.length pr
  refine PySem.W.kdu_collect (A := X.A.in1) (kdl_raw hs hx hdt) (I.ok.hd hc) ho (by omega) fun h' tk acc k it => hq h' tk _ k ?_
  rw [keysT_fst (by rw [List.length_map]; exact l2.symm)]
  have ea : acc.toList = (ks.map fun x => x.2.1).map Value.ref := by
    apply List.ext_getElem?
    intro j
    rw [List.map_map, List.getElem?_map]
    cases hj : acc.toList[j]? with
    | none =>
      have h1 := List.getElem?_eq_none_iff.mp hj
      have h2 := it.1
      rw [Array.length_toList] at h1
      rw [List.getElem?_eq_none (by omega)]
      all_goals rfl
    | some v =>
      obtain ⟨en, hen, hv⟩ := it.2 j v (by rw [← Array.getElem?_toList]; exact hj)
      have qe := entry_at he j
      rw [hen] at qe
      cases hb : ks[j]? with
      | none =>
        rw [hb] at qe
        exact nomatch (show some en = none from qe)
      | some b =>
        rw [hb] at qe
        have e2 : en = entryOfKey (tupleKind (mixKind X.prog X.w)) b := Option.some.inj qe
        rw [hv, e2]
        all_goals rfl
  rw [ea]
  exact vals_refs _
end
end KX
end
section
set_option Elab.async false
set_option linter.all false
set_option maxRecDepth 100000
set_option maxHeartbeats 4000000
/-! KX3: == and != of tuples, and of dicts whose keys are tuples, with either answer, within one model. -/
namespace KX
open PySem PySem.Spec PyProof.Rows L2

section
variable {P : Program} {w : World} {κ : Type} [DecidableEq κ] {knd : HeapKind P w κ} {A : Around} {E : Value → Shared → Prop} {s : Shared}
/-- what is found for the keys of the first dict in the second one, in order -/
inductive HitsH (P : Program) (w : World) (A : Around) (s : Shared) (kb : List (κ × Addr × Value)) : List (κ × Addr × Value) → Bool → Prop
  | nil : HitsH P w A s kb [] true
  | miss {x : κ × Addr × Value} {r : List (κ × Addr × Value)} : (∀ (j : Nat) (p : Addr × Value), kb[j]? ≠ some (x.1, p)) → HitsH P w A s kb (x :: r) false
  | hit {x : κ × Addr × Value} {p : Addr × Value} {r : List (κ × Addr × Value)} {j : Nat} {e b : Bool} : kb[j]? = some (x.1, p) → SeqAt.EqP P w A s x.2.2 p.2 e → HitsH P w A s kb r b → HitsH P w A s kb (x :: r) (e && b)
theorem HitsH.inv {kb : List (κ × Addr × Value)} {x : κ × Addr × Value} {r : List (κ × Addr × Value)} {b : Bool} (h : HitsH P w A s kb (x :: r) b) :
    ((∀ (j : Nat) (p : Addr × Value), kb[j]? ≠ some (x.1, p)) ∧ b = false) ∨ ∃ (j : Nat) (p : Addr × Value) (e c : Bool), kb[j]? = some (x.1, p) ∧ SeqAt.EqP P w A s x.2.2 p.2 e ∧ HitsH P w A s kb r c ∧ b = (e && c) := by
  cases h with
  | miss g => exact .inl ⟨g, rfl⟩
  | hit g1 g2 g3 => exact .inr ⟨_, _, _, _, g1, g2, g3, rfl⟩
theorem nodup_at {kb : List (κ × Addr × Value)} (hn : (kb.map (·.1)).Nodup) {i j : Nat} {k : κ} {p q : Addr × Value} (h1 : kb[i]? = some (k, p)) (h2 : kb[j]? = some (k, q)) : p = q := by
  have e1 : (kb.map (·.1))[i]? = some k := by rw [List.getElem?_map, h1]; rfl
  have e2 : (kb.map (·.1))[j]? = some k := by rw [List.getElem?_map, h2]; rfl
  obtain ⟨a1, b1⟩ := List.getElem?_eq_some_iff.mp e1
  obtain ⟨a2, b2⟩ := List.getElem?_eq_some_iff.mp e2
  have e3 : i = j := (List.getElem_inj hn).mp (b1.trans b2.symm)
  subst e3
  rw [h1] at h2
  exact congrArg Prod.snd (Option.some.inj h2)
theorem samePairsH {nm : String} {a b : Addr} {ka kb : List (κ × Addr × Value)} {r : Bool} {Q : Bool → Shared → Prop} (hu : knd.room A) (na : (a == sysModules) = false) (nb : (b == sysModules) = false)
    (da : s.heap.DictOfH knd a ka) (db : s.heap.DictOfH knd b kb) (hits : ka.length = kb.length → HitsH P w A s kb ka r) (h : Q (ka.length == kb.length && r) s) :
    wpAny (model P w) A (Builtin.Dict.samePairs nm a b) Q E s := by
  obtain ⟨o1, es1, ep1, ho1, _, hd1, he1, hi1, hn1⟩ := da
  obtain ⟨o2, es2, ep2, ho2, _, hd2, he2, hi2, hn2⟩ := db
  have z1 : es1.size = ka.length := size_of_entries he1
  have z2 : es2.size = kb.length := size_of_entries he2
  unfold Builtin.Dict.samePairs Builtin.Dict.showsAll
  rw [if_neg (show ¬ (a == sysModules) = true by rw [na]; decide), if_neg (show ¬ (b == sysModules) = true by rw [nb]; decide)]
  refine wpAny_bind (wpAny_pure (wpAny_bind (wpAny_pure (wpAny_bind (wpAny_dictEntries ho1 hd1 ?_)))))
  dsimp only
  refine wpAny_bind (wpAny_dictEntries ho2 hd2 ?_)
  by_cases zz : es1.size = es2.size
  · have hq : Q r s := by
      have e : (ka.length == kb.length) = true := by rw [← z1, ← z2, zz]; simp
      rw [e, Bool.true_and] at h
      exact h
    have hits2 := hits (by rw [← z1, ← z2, zz])
    rw [if_neg (by rw [zz]; simp)]
    refine wpAny_bind (wpAny_dictEpoch ho1 hd1 (wpAny_bind ?_))
    rw [Std.Legacy.Range.forIn_eq_forIn_range']
    simp only [Std.Legacy.Range.size, Nat.sub_zero, Nat.add_sub_cancel, Nat.div_one]
    refine wpAny_forIn_list _ (fun rest q t => t = s ∧ q = (none, ()) ∧ ∃ i, rest = List.range' i (es1.size - i) ∧ i ≤ es1.size ∧ HitsH P w A s kb (ka.drop i) r) _ ?_ ?_ _ _ ⟨rfl, rfl, 0, by simp, Nat.zero_le _, hits2⟩
    · rintro x rest q t ⟨rfl, rfl, i, hr, hi, hp⟩
      have hlt : i < es1.size := by
        refine Nat.lt_of_not_le fun g => ?_
        rw [Nat.sub_eq_zero_of_le g] at hr
        simp at hr
      have hxr : x = i ∧ rest = List.range' (i + 1) (es1.size - (i + 1)) := by
        rw [show es1.size - i = (es1.size - (i + 1)) + 1 by omega, List.range'_succ] at hr
        injection hr with g1 g2
        exact ⟨g1, g2⟩
      obtain ⟨rfl, hrest⟩ := hxr
      have hlt2 : x < ka.length := by omega
      have ex : es1[x] = entryOfKey knd ka[x] := by
        have g := entry_at he1 x
        rw [Array.getElem?_eq_getElem hlt, List.getElem?_eq_getElem hlt2] at g
        exact Option.some.inj g
      have edrop : ka.drop x = ka[x] :: ka.drop (x + 1) := List.drop_eq_getElem_cons hlt2
      rw [edrop] at hp
      refine wpAny_bind (wpAny_dictEntries ho1 hd1 ?_)
      rw [Array.getElem?_eq_getElem hlt, ex]
      show wpAny _ _ (holding [.ref ka[x].2.1, ka[x].2.2] _ >>= _) _ _ _
      refine wpAny_bind (wpAny_holding (wpAny_bind (wpAny_dictFind_heap (knd := knd) (xs := kb) (k := ka[x].1) hu (hi1 _ (List.getElem_mem hlt2)) ho2 hd2 he2 hi2 hn2 (fun hnone => ?_) fun j p hj => ?_)))
      · rcases hp.inv with ⟨_, er⟩ | ⟨j, p, _, _, hj, _⟩
        · rw [er] at hq
          refine wpAny_pure ?_
          show wpAny _ _ (if (!false) = true then _ else _) _ _ _
          rw [if_pos (by decide)]
          exact wpAny_pure (wpAny_pure hq)
        · exact absurd hj (hnone j p)
      · rcases hp.inv with ⟨hnone, _⟩ | ⟨j2, p2, e, c, hj2, he, hc, er⟩
        · exact absurd hj (hnone j p)
        · have ep : p2 = p := nodup_at hn2 hj2 hj
          subst ep
          have e2 : es2[j]? = some (entryOfKey knd (ka[x].1, p2)) := by
            rw [entry_at he2 j, hj]
            all_goals rfl
          refine wpAny_bind (wpAny_dictEntries ho2 hd2 ?_)
          rw [e2]
          refine wpAny_holding (he _ _ ?_)
          cases e with
          | false =>
            rw [er, Bool.false_and] at hq
            show wpAny _ _ (if (!false) = true then _ else _) _ _ _
            rw [if_pos (by decide)]
            exact wpAny_pure (wpAny_pure hq)
          | true =>
            rw [Bool.true_and] at er
            show wpAny _ _ (if (!true) = true then _ else _) _ _ _
            rw [if_neg (by decide)]
            refine wpAny_bind (wpAny_dictEpoch ho1 hd1 ?_)
            rw [if_neg (by simp)]
            exact wpAny_pure ⟨rfl, rfl, x + 1, hrest, hlt, er ▸ hc⟩
    · rintro q t ⟨rfl, rfl, i, hr, hi, hp⟩
      have hin : i = ka.length := by
        refine Nat.le_antisymm (by omega) (Nat.le_of_not_lt fun g => ?_)
        rw [show es1.size - i = (es1.size - (i + 1)) + 1 by omega, List.range'_succ] at hr
        exact nomatch hr
      rw [hin, List.drop_length] at hp
      cases hp
      exact wpAny_pure hq
  · rw [if_pos (by simpa using zz)]
    have e : (ka.length == kb.length) = false := by rw [← z1, ← z2]; simpa using zz
    rw [e, Bool.false_and] at h
    exact wpAny_bind (wpAny_rule (wpAny_pure h))
/-- the rich comparison of two dicts, once their pairs are compared: op is Eq or NotEq -/
theorem rc_dictsEq {a b : Addr} {c : Bool} {Q : Value → Shared → Prop} (ta : s.TypeIs (.ref a) "dict") (tb : s.TypeIs (.ref b) "dict") (hu : A.units < cLine)
    (same : ∀ (nm : String) (E' : Value → Shared → Prop) (Q' : Bool → Shared → Prop), Q' c s → wpAny (model P w) A.in1 (Builtin.Dict.samePairs nm a b) Q' E' s) (h : Q (.bool c) s) : wpAny (model P w) A (richCompare .Eq (.ref a) (.ref b)) Q E s := by
  refine wpAny_richCompare_same_room (op := .Eq) ta tb PySem.F.slot_dict_eq (wpAny_call_entry PySem.F.slot_dict_eq ta PySem.F.entry_dict_eq ?_ (PySem.F.args_dict_eq_2 _ _)) hu
  show wpAny _ _ (Builtin.Dict.dictSlotArgs "__eq__" ⟨[.ref a, .ref b], []⟩ >>= _) _ _ s
  unfold Builtin.Dict.dictSlotArgs
  refine wpAny_bind (wpAny_bind (wpAny_notOrdered_dict ta ?_))
  show wpAny _ _ (pure (Value.ref a, Value.ref b)) _ _ s
  refine wpAny_pure (wpAny_bind (wpAny_isInstance (T := "dict") tb PySem.F.sub_dict_dict ?_))
  simp only [Bool.not_true, Bool.false_eq_true, if_false]
  refine wpAny_bind (wpAny_pure (wpAny_bind (wpAny_pure (wpAny_bind (same _ _ _ ?_)))))
  exact wpAny_pure ⟨_, rfl, (fun x => nomatch x), by simpa using h⟩
theorem rc_dictsNe {a b : Addr} {c : Bool} {Q : Value → Shared → Prop} (ta : s.TypeIs (.ref a) "dict") (tb : s.TypeIs (.ref b) "dict") (hu : A.units < cLine)
    (same : ∀ (nm : String) (E' : Value → Shared → Prop) (Q' : Bool → Shared → Prop), Q' c s → wpAny (model P w) A.in1 (Builtin.Dict.samePairs nm a b) Q' E' s) (h : Q (.bool (!c)) s) : wpAny (model P w) A (richCompare .NotEq (.ref a) (.ref b)) Q E s := by
  refine wpAny_richCompare_same_room (op := .NotEq) ta tb PySem.F.slot_dict_ne (wpAny_call_entry PySem.F.slot_dict_ne ta PySem.F.entry_dict_ne ?_ (PySem.F.args_dict_ne_2 _ _)) hu
  show wpAny _ _ (Builtin.Dict.dictSlotArgs "__ne__" ⟨[.ref a, .ref b], []⟩ >>= _) _ _ s
  unfold Builtin.Dict.dictSlotArgs
  refine wpAny_bind (wpAny_bind (wpAny_notOrdered_dict ta ?_))
  show wpAny _ _ (pure (Value.ref a, Value.ref b)) _ _ s
  refine wpAny_pure (wpAny_bind (wpAny_isInstance (T := "dict") tb PySem.F.sub_dict_dict ?_))
  simp only [Bool.not_true, Bool.false_eq_true, if_false]
  refine wpAny_bind (wpAny_pure (wpAny_bind (wpAny_pure (wpAny_bind (same _ _ _ ?_)))))
  exact wpAny_pure ⟨_, rfl, (fun x => nomatch x), by simpa using h⟩
end

/-! ### tuples -/
section
open PySem.SeqAt
open AutoSeq1 (wpAny_loadPart')
open MeetsSeq MeetsSeq2 MeetsSeq3 SeqRoads2
variable {P : Program} {w : World} {A : Around}
theorem tup_eqP {R : Result → Shared → Prop} (l b : Addr) (xs ys : Array Value) (n m : Nat) (dl db : Option Addr) (sl sb : Array (Option Value)) (e : Nat → Bool) {s : Shared}
    (hl : s.heap.get? l = some { cls := .type "tuple", dict := dl, data := .seq xs n, slots := sl }) (hb : s.heap.get? b = some { cls := .type "tuple", dict := db, data := .seq ys m, slots := sb })
    (he : ∀ j (h1 : j < xs.size) (h2 : j < ys.size), EqP P w A.in1 s xs[j] ys[j] (e j)) (hR : R (.ok (.ret (.bool ((List.range (min xs.size ys.size)).all e && xs.size == ys.size)))) s) :
    wpAny (model P w) A.in1 (Builtin.«tuple.__eq__» ⟨[.ref l, .ref b], []⟩) (GQ.FinOf P w A R) (fun x t => R (.error x) t) s := by
  have f2 := AutoSeq1.sub_tuple_tuple
  have hZ : (xs.toList.zip ys.toList).length = min xs.size ys.size := by simp
  obtain ⟨hp, g, d, tk, os⟩ := s
  wp_walk using wpAny_loadPart' hl, wpAny_loadPart' hb, wpAny_forIn_list _ (fun rest q t => q.1 = none ∧ t = ⟨hp, g, d, tk, os⟩ ∧ ∃ i, rest = (xs.toList.zip ys.toList).drop i ∧ i ≤ min xs.size ys.size ∧
    R (.ok (.ret (.bool (((List.range (min xs.size ys.size)).drop i).all e && xs.size == ys.size)))) ⟨hp, g, d, tk, os⟩) _
  case turn =>
    rintro ⟨y, x⟩ rest q t ⟨hq, rfl, i, hz, hi, hI⟩
    have hlt : i < (xs.toList.zip ys.toList).length := by
      refine Nat.lt_of_not_le fun h' => ?_
      rw [List.drop_of_length_le h'] at hz
      cases hz
    have h1 : i < xs.size := by omega
    have h2 : i < ys.size := by omega
    rw [List.drop_eq_getElem_cons hlt] at hz
    injection hz with hyx hrest
    obtain rfl : y = xs[i] := by simpa using congrArg Prod.fst hyx
    obtain rfl : x = ys[i] := by simpa using congrArg Prod.snd hyx
    have hd : (List.range (min xs.size ys.size)).drop i = i :: (List.range (min xs.size ys.size)).drop (i + 1) := by
      rw [List.drop_eq_getElem_cons (by rw [List.length_range]; omega), List.getElem_range]
    rw [hd, List.all_cons] at hI
    refine wpAny_bind (he i h1 h2 _ _ ?_)
    cases hb' : e i with
    | true =>
      rw [hb'] at hI
      wp_walk
      exact ⟨rfl, rfl, i + 1, hrest, by omega, by simpa using hI⟩
    | false =>
      rw [hb'] at hI
      wp_walk
      simpa using hI
  case fin =>
    rintro ⟨b1, b2⟩ t ⟨hq, rfl, i, hz, hi, hI⟩
    simp only at hq
    subst hq
    have hge : min xs.size ys.size ≤ i := by
      refine Nat.le_of_not_lt fun h' => ?_
      rw [List.drop_eq_getElem_cons (by omega)] at hz
      cases hz
    rw [List.drop_of_length_le (by rw [List.length_range]; exact hge), List.all_nil, Bool.true_and] at hI
    wp_walk
    simpa [Builtin.Tuple.tupleCompareSizes] using hI
  case h =>
    exact ⟨rfl, rfl, 0, rfl, Nat.zero_le _, by simpa using hR⟩
theorem rc_tups {E : Value → Shared → Prop} {s : Shared} {l b : Addr} {xs ys : Array Value} {e : Nat → Bool} {Q : Value → Shared → Prop} (hu : A.units < cLine) (hl : s.heap.IsTuple l xs) (hb : s.heap.IsTuple b ys)
    (he : ∀ j (h1 : j < xs.size) (h2 : j < ys.size), EqP P w A.in1 s xs[j] ys[j] (e j)) (h : Q (.bool ((List.range (min xs.size ys.size)).all e && xs.size == ys.size)) s) :
    wpAny (model P w) A (richCompare .Eq (.ref l) (.ref b)) Q E s := by
  obtain ⟨⟨c1, d1, da1, s1⟩, ho, hc, n, hd⟩ := id hl
  obtain ⟨⟨c2, d2, da2, s2⟩, ho2, hc2, m, hd2⟩ := id hb
  simp only at hc hd hc2 hd2
  subst hc hd hc2 hd2
  refine wpAny_richCompare_same_room (op := .Eq) ⟨_, ho, rfl⟩ ⟨_, ho2, rfl⟩ F.slot_tuple_eq (GQ.call_here F.slot_tuple_eq ⟨_, ho, rfl⟩ F.entry_tuple_eq (F.args_tuple_eq_2 _ _) ?_) hu
  exact tup_eqP (R := wants (fun v t => v ≠ .notImplemented ∧ Q v t) E) l b xs ys n m d1 d2 s1 s2 e ho ho2 he ⟨(fun x => nomatch x), h⟩
end
end KX
end
section
set_option Elab.async false
set_option linter.all false
set_option maxRecDepth 100000
set_option maxHeartbeats 4000000
/-! KX4: == and != of data at any depth (scalars, lists, tuples, dicts), with either answer. -/
namespace KX
open PySem PySem.Spec PyProof.Rows L2

/-- x == y gives b -/
abbrev B3 := V → V → Bool → Prop
inductive KHit {κ : Type} [DecidableEq κ] (F : B3) (ls : List (κ × V)) : List (κ × V) → Bool → Prop
  | nil : KHit F ls [] true
  | miss {k : κ} {v : V} {r : List (κ × V)} : valV ls k = none → KHit F ls ((k, v) :: r) false
  | hit {k : κ} {v y : V} {r : List (κ × V)} {e b : Bool} : valV ls k = some y → F v y e → KHit F ls r b → KHit F ls ((k, v) :: r) (e && b)
def Each2 (F : B3) (xs ys : List V) (e : Nat → Bool) : Prop := ∀ (j : Nat) (u v : V), xs[j]? = some u → ys[j]? = some v → F u v (e j)
def EqRB (K : PySem.W.Frag) (H : Hp) (F : B3) (x y : V) (b : Bool) : Prop :=
  (∃ a c xs ys e, x = .ref a ∧ y = .ref c ∧ SqT K H a xs ∧ SqT K H c ys ∧ Each2 F xs ys e ∧ b = ((List.range (min xs.length ys.length)).all e && xs.length == ys.length)) ∨
  (∃ a c xs ys e, x = .ref a ∧ y = .ref c ∧ SqL K H a xs ∧ SqL K H c ys ∧ xs.length = ys.length ∧ Each2 F xs ys e ∧ b = (List.range xs.length).all e) ∨
  (∃ a c xs ys, x = .ref a ∧ y = .ref c ∧ SqL K H a xs ∧ SqL K H c ys ∧ xs.length ≠ ys.length ∧ b = false) ∨
  (∃ a c, ∃ ks ls : List (Key × V), ∃ r, x = .ref a ∧ y = .ref c ∧ Rd H a (.dK ks) ∧ Rd H c (.dK ls) ∧ (ks.length = ls.length → KHit F ls ks r) ∧ b = (ks.length == ls.length && r)) ∨
  (∃ a c, ∃ ks ls : List (List Key × V), ∃ r, x = .ref a ∧ y = .ref c ∧ Rd H a (.dT ks) ∧ Rd H c (.dT ls) ∧ (ks.length = ls.length → KHit F ls ks r) ∧ b = (ks.length == ls.length && r))
/-- .. of nesting below n -/
def EqB (K : PySem.W.Frag) (H : Hp) : Nat → B3
  | 0 => fun _ _ _ => False
  | n + 1 => fun x y b => (flatV x = true ∧ flatV y = true ∧ b = eqV x y) ∨ (∃ a, x = .ref a ∧ y = .ref a ∧ b = true) ∨
      (∃ z a xs, x = .str z ∧ y = .ref a ∧ SqT K H a xs ∧ b = false) ∨ (∃ z a xs, x = .ref a ∧ y = .str z ∧ SqT K H a xs ∧ b = false) ∨ (EqRB K H (EqB K H n) x y b ∧ (x = y → b = true))

section
variable {P : Program} {w : World} {A : Around} {s : Shared}
theorem each_run {F : B3} (ih : ∀ x y v u b, F x y b → RelV x v → RelV y u → SeqAt.EqP P w A s v u b) {xs ys : List V} {us ws : List Value} {e : Nat → Bool} (h : Each2 F xs ys e) (r1 : Vals xs us) (r2 : Vals ys ws) (j : Nat) (h1 : j < us.length) (h2 : j < ws.length) :
    SeqAt.EqP P w A s us[j] ws[j] (e j) := by
  have l1 := r1.length
  have l2 := r2.length
  obtain ⟨u, e1, q1⟩ := r1.get (i := j) (x := xs[j]) (List.getElem?_eq_getElem (by omega))
  obtain ⟨v, e2, q2⟩ := r2.get (i := j) (x := ys[j]) (List.getElem?_eq_getElem (by omega))
  rw [List.getElem?_eq_getElem h1] at e1
  rw [List.getElem?_eq_getElem h2] at e2
  cases e1
  cases e2
  exact ih _ _ _ _ _ (h j _ _ (List.getElem?_eq_getElem (by omega)) (List.getElem?_eq_getElem (by omega))) q1 q2
theorem hitK_run {F : B3} (ih : ∀ x y v u b, F x y b → RelV x v → RelV y u → SeqAt.EqP P w A s v u b) {ls : List (Key × V)} {vb : List (Key × Value)} (rb : KV ls vb) {ks : List (Key × V)} {r : Bool} (h : KHit F ls ks r) :
    ∀ {va : List (Key × Value)}, KV ks va → PySem.W.KeqHitsP P w A s vb va r := by
  induction h with
  | nil =>
    intro va ra
    cases ra
    exact .nil
  | @miss k0 v0 r0 hn =>
    intro va ra
    cases ra with
    | @cons p q ps qs h t =>
      obtain ⟨key, v⟩ := q
      obtain rfl := h.1
      have rr := rb.val k0
      rw [hn] at rr
      exact .miss (by cases g : valueAt vb k0 with | none => rfl | some z => rw [g] at rr; exact rr.elim)
  | @hit k0 v0 y0 r0 e0 b0 hy hf _ k =>
    intro va ra
    cases ra with
    | @cons p q ps qs h t =>
      obtain ⟨key, v⟩ := q
      obtain rfl := h.1
      have rr := rb.val k0
      rw [hy] at rr
      obtain ⟨z, hz, rz⟩ := rr.some_of
      exact .hit hz (ih _ _ _ _ _ hf h.2 rz) (k t)
theorem atKey_some {xs : List (List Key × Addr × Value)} {k : List Key} {p : Addr × Value} (h : atKey xs k = some p) : ∃ j : Nat, xs[j]? = some (k, p) := by
  unfold atKey at h
  obtain ⟨x, hx, e⟩ := Option.map_eq_some_iff.mp h
  have hk : x.1 = k := by simpa using List.find?_some hx
  obtain ⟨j, hj⟩ := List.mem_iff_getElem?.mp (List.mem_of_find?_eq_some hx)
  refine ⟨j, ?_⟩
  rw [hj, ← hk, ← e]
theorem atKey_none {xs : List (List Key × Addr × Value)} {k : List Key} (h : atKey xs k = none) (j : Nat) (p : Addr × Value) : xs[j]? ≠ some (k, p) := fun e => by
  unfold atKey at h
  rw [Option.map_eq_none_iff, List.find?_eq_none] at h
  exact h _ (List.mem_of_getElem? e) (by simp)
theorem hitT_run {F : B3} (ih : ∀ x y v u b, F x y b → RelV x v → RelV y u → SeqAt.EqP P w A s v u b) {H : Hp} {ls : List (List Key × V)} {vb : List (List Key × Addr × Value)} (rb : KT H ls vb) {ks : List (List Key × V)} {r : Bool} (h : KHit F ls ks r) :
    ∀ {va : List (List Key × Addr × Value)}, KT H ks va → HitsH P w A s vb va r := by
  induction h with
  | nil =>
    intro va ra
    cases ra
    exact .nil
  | @miss k0 v0 r0 hn =>
    intro va ra
    cases ra with
    | @cons p q ps qs h t =>
      obtain ⟨key, v⟩ := q
      obtain rfl := h.1
      have rr := rb.val k0
      rw [hn] at rr
      refine .miss (atKey_none ?_)
      cases g : atKey vb k0 with
      | none => rfl
      | some z => rw [g] at rr; exact rr.elim
  | @hit k0 v0 y0 r0 e0 b0 hy hf _ k =>
    intro va ra
    cases ra with
    | @cons p q ps qs h t =>
      obtain ⟨key, v⟩ := q
      obtain rfl := h.1
      have rr := rb.val k0
      rw [hy] at rr
      obtain ⟨z, hz, rz⟩ := rr.some_of
      obtain ⟨pz, hpz, e⟩ := Option.map_eq_some_iff.mp hz
      obtain ⟨j, hj⟩ := atKey_some hpz
      exact .hit (x := (_, v)) hj (ih _ _ _ _ _ hf h.2.2 (by rw [e]; exact rz)) (k t)
end
section
variable {X : Cx} {pins : List (Addr × Obj)} {σ : L2.St} {H : Hp} {s : Shared}
/-- the pairs of two dicts are compared -/
theorem sameK (I : Inv X pins σ H s) {A : Around} {F : B3} (ih : ∀ x y v u b, F x y b → RelV x v → RelV y u → SeqAt.EqP X.prog X.w A s v u b) {a c : Addr} {ks ls : List (Key × V)} {r : Bool} (ha : Rd H a (.dK ks)) (hc : Rd H c (.dK ls)) (hk : ks.length = ls.length → KHit F ls ks r)
    (nm : String) (E' : Value → Shared → Prop) (Q' : Bool → Shared → Prop) (q : Q' (ks.length == ls.length && r) s) : wpAny (model X.prog X.w) A (Builtin.Dict.samePairs nm a c) Q' E' s := by
  obtain ⟨_, ya, va, ra, da⟩ := dk_rd I.hok ha
  obtain ⟨_, yc, vc, rc, dc⟩ := dk_rd I.hok hc
  refine PySem.W.samePairsP ya yc da dc (fun hl => hitK_run ih rc (hk (by rw [ra.length, rc.length]; exact hl)) ra) ?_
  rw [← ra.length, ← rc.length]
  exact q
theorem sameT (I : Inv X pins σ H s) {A : Around} (hu : A.units + 1 < cLine) {F : B3} (ih : ∀ x y v u b, F x y b → RelV x v → RelV y u → SeqAt.EqP X.prog X.w A.in1 s v u b) {a c : Addr} {ks ls : List (List Key × V)} {r : Bool} (ha : Rd H a (.dT ks)) (hc : Rd H c (.dT ls)) (hk : ks.length = ls.length → KHit F ls ks r)
    (nm : String) (E' : Value → Shared → Prop) (Q' : Bool → Shared → Prop) (q : Q' (ks.length == ls.length && r) s) : wpAny (model X.prog X.w) A.in1 (Builtin.Dict.samePairs nm a c) Q' E' s := by
  obtain ⟨_, ya, va, ra, da⟩ := dt_rd I.hok ha
  obtain ⟨_, yc, vc, rc, dc⟩ := dt_rd I.hok hc
  have la : ks.length = va.length := Paired.length ra
  have lc : ls.length = vc.length := Paired.length rc
  refine samePairsH (tupleKind_room_in1 hu) ya yc da dc (fun hl => hitT_run ih rc (hk (by omega)) ra) ?_
  rw [← la, ← lc]
  exact q
theorem typeK (I : Inv X pins σ H s) {a : Addr} {ks : List (Key × V)} (ha : Rd H a (.dK ks)) : s.TypeIs (.ref a) "dict" := by
  obtain ⟨_, _, va, _, da⟩ := dk_rd I.hok ha
  exact da.typeIs
theorem typeT (I : Inv X pins σ H s) {a : Addr} {ks : List (List Key × V)} (ha : Rd H a (.dT ks)) : s.TypeIs (.ref a) "dict" := by
  obtain ⟨_, _, va, _, da⟩ := dt_rd I.hok ha
  exact da.typeIs
theorem eqRB_run (I : Inv X pins σ H s) {A : Around} {F : B3} (hu : A.units + 2 < cLine) (ih : ∀ x y v u b, F x y b → RelV x v → RelV y u → SeqAt.EqP X.prog X.w A.in1 s v u b) {x y : V} {v u : Value} {b : Bool} (h : EqRB X.K H F x y b) (rx : RelV x v) (ry : RelV y u)
    (E Q : Value → Shared → Prop) (q : Q (.bool b) s) : wpAny (model X.prog X.w) A (richCompare .Eq v u) Q E s := by
  rcases h with ⟨a, c, xs, ys, e, rfl, rfl, ha, hc, hp, rfl⟩ | ⟨a, c, xs, ys, e, rfl, rfl, ha, hc, hl, hp, rfl⟩ | ⟨a, c, xs, ys, rfl, rfl, ha, hc, hl, rfl⟩ | ⟨a, c, ks, ls, r, rfl, rfl, ha, hc, hk, rfl⟩ | ⟨a, c, ks, ls, r, rfl, rfl, ha, hc, hk, rfl⟩
  · cases rx
    cases ry
    obtain ⟨us, r1, p1, _⟩ := I.tuple ha
    obtain ⟨ws, r2, p2, _⟩ := I.tuple hc
    refine rc_tups (e := e) (by omega) p1 p2 (fun j h1 h2 => by simpa using each_run ih hp r1 r2 j (by simpa using h1) (by simpa using h2)) ?_
    rw [List.size_toArray, List.size_toArray, ← r1.length, ← r2.length]
    exact q
  · cases rx
    cases ry
    obtain ⟨us, r1, p1, _⟩ := I.list ha
    obtain ⟨ws, r2, p2, _⟩ := I.list hc
    refine SeqAt.rcP_lists (e := e) p1.isList p2.isList (by rw [List.size_toArray, List.size_toArray, ← r1.length, ← r2.length]; exact hl) (by omega) (fun j h1 h2 => by simpa using each_run ih hp r1 r2 j (by simpa using h1) (by simpa using h2)) E Q ?_
    rw [List.size_toArray, ← r1.length]
    exact q
  · cases rx
    cases ry
    obtain ⟨us, r1, p1, _⟩ := I.list ha
    obtain ⟨ws, r2, p2, _⟩ := I.list hc
    exact SeqAt.RcAt.lists_lengths p1.isList p2.isList (by simpa [← r1.length, ← r2.length] using hl) (by omega) _ _ E Q q
  · cases rx
    cases ry
    exact rc_dictsEq (typeK I ha) (typeK I hc) (by omega) (sameK I ih ha hc hk) q
  · cases rx
    cases ry
    exact rc_dictsEq (typeT I ha) (typeT I hc) (by omega) (sameT I (by omega) ih ha hc hk) q
theorem EqRB.refs {K : PySem.W.Frag} {F : B3} {x y : V} {b : Bool} (h : EqRB K H F x y b) : ∃ a c, x = .ref a ∧ y = .ref c := by
  rcases h with ⟨a, c, _, _, _, h1, h2, _⟩ | ⟨a, c, _, _, _, h1, h2, _⟩ | ⟨a, c, _, _, h1, h2, _⟩ | ⟨a, c, _, _, _, h1, h2, _⟩ | ⟨a, c, _, _, _, h1, h2, _⟩ <;> exact ⟨a, c, h1, h2⟩
theorem eqB_run (I : Inv X pins σ H s) : ∀ (n : Nat) (A : Around), A.units + n + 2 < cLine → ∀ (x y : V) (v u : Value) (b : Bool), EqB X.K H n x y b → RelV x v → RelV y u → SeqAt.EqP X.prog X.w A s v u b
  | 0, _, _, _, _, _, _, _, h, _, _ => (show False from h).elim
  | n + 1, A, hu, x, y, v, u, b, h, rx, ry => by
    rcases h with ⟨f, g, rfl⟩ | ⟨a, rfl, rfl, rfl⟩ | ⟨z, a, xs, rfl, rfl, ht, rfl⟩ | ⟨z, a, xs, rfl, rfl, ht, rfl⟩ | ⟨h, own⟩
    · exact (eqAt_V rx ry f g).eqP
    · cases rx
      cases ry
      exact (SeqAt.EqAt.same _).eqP
    · obtain ⟨t, rfl⟩ := rx
      cases ry
      obtain ⟨us, _, p1, _⟩ := I.tuple ht
      exact (SeqAt.EqAt.str_tuple z t p1 (by omega)).eqP
    · obtain ⟨t, rfl⟩ := ry
      cases rx
      obtain ⟨us, _, p1, _⟩ := I.tuple ht
      exact (SeqAt.EqAt.tuple_str z t p1 (by omega)).eqP
    · have step := eqRB_run I (A := A) (by omega) (eqB_run I n A.in1 (by show A.units + 1 + n + 2 < cLine; omega)) h rx ry
      obtain ⟨a, c, rfl, rfl⟩ := h.refs
      cases rx
      cases ry
      by_cases e : a = c
      · subst e
        rw [own rfl]
        exact (SeqAt.EqAt.same _).eqP
      · exact SeqAt.eqP_refs e step
end
section
variable {X : Cx}
/-- a == b, a != b (dicts alone) -/
def rEqQ (K : PySem.W.Frag) : R2 := fun x y H Q => ∃ n b, n ≤ 40 ∧ EqRB K H (EqB K H n) x y b ∧ Q (.bl b) H
theorem op_eqQ {K : PySem.W.Frag} (hu : X.A.units + 50 < cLine) (hK : X.K = K := by rfl) : OpR X (compareOp .Eq) (rEqQ K) := by
  subst hK
  intro pins s σ H x y v u Q I rx ry h
  obtain ⟨n, b, hn, h, q⟩ := h
  exact eqRB_run I (A := X.A) (by omega) (eqB_run I n X.A.in1 (by show X.A.units + 1 + n + 2 < cLine; omega)) h rx ry _ _ ⟨.bl b, H, I, rfl, q⟩
def rNeQ (K : PySem.W.Frag) : R2 := fun x y H Q => ∃ n b, n ≤ 40 ∧ ((∃ a c, ∃ ks ls : List (Key × V), ∃ r, x = .ref a ∧ y = .ref c ∧ Rd H a (.dK ks) ∧ Rd H c (.dK ls) ∧ (ks.length = ls.length → KHit (EqB K H n) ls ks r) ∧ b = (ks.length == ls.length && r)) ∨
  (∃ a c, ∃ ks ls : List (List Key × V), ∃ r, x = .ref a ∧ y = .ref c ∧ Rd H a (.dT ks) ∧ Rd H c (.dT ls) ∧ (ks.length = ls.length → KHit (EqB K H n) ls ks r) ∧ b = (ks.length == ls.length && r))) ∧ Q (.bl (!b)) H
theorem op_neQ {K : PySem.W.Frag} (hu : X.A.units + 50 < cLine) (hK : X.K = K := by rfl) : OpR X (compareOp .NotEq) (rNeQ K) := by
  subst hK
  intro pins s σ H x y v u Q I rx ry h
  obtain ⟨n, b, hn, h, q⟩ := h
  have ih := eqB_run I n X.A.in1 (by show X.A.units + 1 + n + 2 < cLine; omega)
  rcases h with ⟨a, c, ks, ls, r, rfl, rfl, ha, hc, hk, rfl⟩ | ⟨a, c, ks, ls, r, rfl, rfl, ha, hc, hk, rfl⟩
  · cases rx
    cases ry
    exact rc_dictsNe (typeK I ha) (typeK I hc) (by omega) (sameK I ih ha hc hk) ⟨.bl _, H, I, rfl, q⟩
  · cases rx
    cases ry
    exact rc_dictsNe (typeT I ha) (typeT I hc) (by omega) (sameT I (by omega) ih ha hc hk) ⟨.bl _, H, I, rfl, q⟩
end
end KX
end
section
set_option Elab.async false
set_option linter.all false
set_option maxRecDepth 100000
set_option maxHeartbeats 4000000
/-! KX5: set(..) of texts that are all unlike, from a list, a tuple, a text; its len. -/
namespace KX
open PySem PySem.Spec PyProof.Rows L2

section
variable {P : Program} {w : World} {A : Around} {E : Value → Shared → Prop} {s : Shared}
abbrev SetN (w : World) (P : Program) (h : Heap) (S : Addr) (xs : List Str) (i : Nat) : Prop := h.SetOf (PySem.strKind P w) S (fun k => (xs.take i).any (· == k)) i
theorem take_next {xs : List Str} {i : Nat} {x : Str} (h : xs[i]? = some x) (k : Str) : (xs.take (i + 1)).any (· == k) = ((xs.take i).any (· == k) || decide (k = x)) := by
  rw [List.take_succ, h]
  simp only [Option.toList_some, List.any_append, List.any_cons, List.any_nil, Bool.or_false]
  congr 1
  by_cases e : k = x
  · subst e; simp
  · rw [decide_eq_false e]
    exact beq_eq_false_iff_ne.mpr fun q => e q.symm
theorem not_before {xs : List Str} (hn : xs.Nodup) {i : Nat} {x : Str} (h : xs[i]? = some x) : (xs.take i).any (· == x) = false := by
  rw [Bool.eq_false_iff]
  intro q
  obtain ⟨y, hy, e⟩ := List.any_eq_true.mp q
  obtain rfl : y = x := by simpa using e
  obtain ⟨j, hj⟩ := List.mem_iff_getElem?.mp hy
  have hji : j < i := by
    have g := (List.getElem?_eq_some_iff.mp hj).1
    rw [List.length_take] at g
    omega
  rw [List.getElem?_take_of_lt hji] at hj
  have := nodup_ix hn hj h
  omega
theorem setLoop {R : Result → Shared → Prop} {I : Addr} {fp wr : List Addr} {G : Array GenState → Array GenState → Prop} {n : Nat} {Pv : Nat → Value → Prop} {St : Nat → Shared → Prop} (W : WalksS P w A.in1 I fp wr G n Pv St) (S : Addr) (hSf : S ∉ fp)
    (xs : List Str) (hz : xs.length = n) (hb : n + 1 < scanBound) (hnd : xs.Nodup) (hval : ∀ i v, Pv i v → ∃ x t, xs[i]? = some x ∧ v = Value.str x t) :
    ∀ (k i : Nat) (s : Shared), n - i = k → i ≤ n → St i s → SetN w P s.heap S xs i →
      (∀ t, Moved (S :: wr) G s t → SetN w P t.heap S xs n → R (.ok (.ret .none)) t) → codeAny (model P w) A (.builtin "set.update.loop" ⟨[.ref S, .ref I], []⟩) R s := by
  have hSw : S ∉ wr := fun h => hSf (W.sub _ h)
  have hsub : ∀ b ∈ wr, b ∈ S :: wr := fun b h => List.mem_cons_of_mem _ h
  intro k
  induction k with
  | zero =>
    intro i s hk hi hst hS hR
    obtain rfl : i = n := by omega
    refine codeAny_builtin PyProof.Rows.F.entry_set_update_loop ?_
    rw [Around.under_plainId PyProof.Rows.F.plain_set_update_loop _]
    show wpAny _ A.in1 (pyNext (.ref I) >>= _) _ _ s
    refine wpAny_bind (W.done s _ _ hst fun t hm => ?_)
    show wpAny _ A.in1 (ret Value.none) _ _ t
    obtain ⟨o, es, ep, tb, ho, rest⟩ := hS
    exact wpAny_pure (hR t (hm.mono hsub) ⟨o, es, ep, tb, hm.heap S _ hSw ho, rest⟩)
  | succ k ih =>
    intro i s hk hi hst hS hR
    have hlt : i < n := by omega
    refine codeAny_builtin PyProof.Rows.F.entry_set_update_loop ?_
    rw [Around.under_plainId PyProof.Rows.F.plain_set_update_loop _]
    show wpAny _ A.in1 (pyNext (.ref I) >>= _) _ _ s
    refine wpAny_bind (W.item i s _ _ hlt hst fun v t hP hst2 hm => ?_)
    obtain ⟨x, tk, hx, rfl⟩ := hval i v hP
    have hS2 : SetN w P t.heap S xs i := by
      obtain ⟨o, es, ep, tb, ho, rest⟩ := hS
      exact ⟨o, es, ep, tb, hm.heap S _ hSw ho, rest⟩
    show wpAny _ A.in1 (holding [Value.str x tk] (setAdd S (.str x tk)) >>= _) _ _ t
    refine wpAny_bind (wpAny_holding ?_)
    unfold setAdd
    refine wpAny_holding (wpAny_bind ((PySem.strKind P w).pyHash (k := x) (strKind_is _ _ _ _) ?_))
    refine wpAny_setAddHashed_of (knd := PySem.strKind P w) (s := { t with toks := t.toks + 1 }) (strKind_is _ _ _ _) rfl hS2 (by omega) fun h2 hsb hS3 => ?_
    have hSi : SetN w P h2 S xs (i + 1) := by
      refine SetOf_congr hS3 (fun k' => ?_) ?_
      · exact (take_next hx k').symm
      · rw [not_before hnd hx]
        all_goals rfl
    refine wpAny_pure ⟨plainId_quiet PyProof.Rows.F.plain_set_update_loop _, ih (i + 1) _ (by omega) hlt (W.frame _ t _ _ hst2 (Nat.le_succ _) fun b hb o e => ?_) hSi fun t2 hm2 hS4 => ?_⟩
    · rw [hsb.2 b fun h : b = S => hSf (by rw [← h]; exact hb)]
      exact e
    · refine hR t2 (Moved.trans W.gtrans ((hm.mono hsub).then_heap (Nat.le_succ _) fun b o hb e => ?_) hm2) hS4
      rw [hsb.2 b fun h : b = S => hb (by rw [h]; exact List.mem_cons_self)]
      exact e
/-- the new set -/
abbrev freshSet (s : Shared) (led : Bool) : Shared := { s with heap := s.heap.push { cls := .type "set", dict := none, data := .set #[] 0 (.fresh 0 0 led) } }
/-- how the set's __init__ ends -/
abbrev setDone (w : World) (P : Program) (s : Shared) (xs : List Str) (E : Value → Shared → Prop) : Result → Shared → Prop :=
  wants (fun r t => r = .none ∧ ∃ h' tk, t = { s with heap := h', toks := tk } ∧ SetN w P h' s.heap.objs.size xs xs.length ∧ ∀ b o, b < s.heap.objs.size → s.heap.get? b = some o → h'.get? b = some o) E
theorem set_new {u : Value} {xs : List Str} {Q : Value → Shared → Prop}
    (hinit : ∀ (led : Bool) (A' : Around), A'.handled = A.handled → wpAny (model P w) A'.in1 (Builtin.«set.__init__» ⟨[.ref s.heap.objs.size, u], []⟩) (fun f t => match f with | .done fl => setDone w P s xs E (.ok fl) t | .again c => c.quiet = true ∧ codeAny (model P w) A' c (setDone w P s xs E) t) (fun e t => setDone w P s xs E (.error e) t) (freshSet s led))
    (h : ∀ (h' : Heap) (tk : Nat), SetN w P h' s.heap.objs.size xs xs.length → (∀ b o, b < s.heap.objs.size → s.heap.get? b = some o → h'.get? b = some o) → Q (.ref s.heap.objs.size) { s with heap := h', toks := tk }) :
    wpAny (model P w) A (call (.type "set") [u]) Q E s := by
  obtain ⟨c, tl, hmro⟩ := PySem.F.called_set.mro
  have hmade := PySem.F.called_set.made
  have hsub := PySem.F.called_set.sub
  refine wpAny_call (codeAny_of_tree ?_)
  show wpAny _ _ (callAny (.type "set") _) _ _ _
  refine wpAny_pure ⟨Code.quiet_builtin _ (by decide +kernel), codeAny_builtin PySem.F.entry_type_call ?_⟩
  rw [Around.under_plain (weight_type_call_type "set" [u] []) rfl]
  have h1 := PySem.F.called_set.notType
  have h2 := PySem.F.called_set.canCreate
  have hct := PySem.F.typeCall_set_1 u
  repeat (any_goals (first | assumption | wp_step))
  refine codeAny_mono (code_set_new_1 u (E := E) (Q₁ := fun obj t => ∃ led : Bool, obj = .ref s.heap.objs.size ∧ t = freshSet s led) fun led => ⟨led, rfl, rfl⟩) fun r t hr => ?_
  cases r with
  | error e => exact hr
  | ok fl =>
    cases fl with
    | ret obj =>
      obtain ⟨led, rfl, rfl⟩ := hr
      have hS : (freshSet s led).heap.get? s.heap.objs.size = some { cls := .type "set", dict := none, data := .set #[] 0 (.fresh 0 0 led) } := Heap.get?_push_size _ rfl
      have hT : Shared.TypeIs (freshSet s led) (.ref s.heap.objs.size) "set" := ⟨_, hS, rfl⟩
      have hli := PySem.F.called_set.init.lookup
      have hbi := PySem.F.called_set.init.bind (.ref s.heap.objs.size)
      repeat (any_goals (first | assumption | wp_step))
      refine codeAny_mono (codeAny_call_builtin (R := setDone w P s xs E) PySem.F.called_set.init.plain PySem.F.entry_set_init (check_set_init_1 hT ?_)) fun r2 t2 hr2 => ?_
      · exact hinit led A.in1 rfl
      · cases r2 with
        | error e => exact hr2
        | ok fl2 =>
          cases fl2 with
          | ret r =>
            obtain ⟨rfl, h', tk, rfl, g1, g2⟩ := hr2
            repeat (any_goals (first | assumption | wp_step))
            exact h _ _ g1 g2
          | _ => exact hr2.elim
    | _ => exact hr.elim

/-- .. once the iterator stands: the loop -/
theorem set_loop_end {A' : Around} {xs : List Str} {led : Bool} {oI : Obj} {fp : List Addr} {Pv : Nat → Value → Prop} {St : Nat → Heap → Prop}
    (W : Walks P w A'.in1 (freshSet s led).heap.objs.size fp [(freshSet s led).heap.objs.size] xs.length Pv St) (hSf : s.heap.objs.size ∉ fp) (hb : xs.length + 1 < scanBound) (hnd : xs.Nodup) (hval : ∀ i v, Pv i v → ∃ x t, xs[i]? = some x ∧ v = Value.str x t)
    (h0 : St 0 ((freshSet s led).heap.push oI)) {R : Result → Shared → Prop}
    (hR : ∀ h' tk, SetN w P h' s.heap.objs.size xs xs.length → (∀ b o, b < s.heap.objs.size → s.heap.get? b = some o → h'.get? b = some o) → R (.ok (.ret .none)) { s with heap := h', toks := tk }) :
    codeAny (model P w) A' (.builtin "set.update.loop" ⟨[.ref s.heap.objs.size, .ref (freshSet s led).heap.objs.size], []⟩) R { freshSet s led with heap := (freshSet s led).heap.push oI } := by
  have hS : (freshSet s led).heap.get? s.heap.objs.size = some { cls := .type "set", dict := none, data := .set #[] 0 (.fresh 0 0 led) } := Heap.get?_push_size _ rfl
  refine setLoop W.toS s.heap.objs.size hSf xs rfl hb hnd hval xs.length 0 _ (by omega) (Nat.zero_le _) h0 ?_ fun t hm hS2 => ?_
  · exact SetOf_congr ((setObjOf_fresh (knd := PySem.strKind P w) led).setOf (Heap.get?_push_of_some _ hS) (by unfold scanBound; omega)) (fun _ => rfl) rfl
  · obtain ⟨h', g', d', tk', os'⟩ := t
    obtain rfl : g' = s.gens := hm.gens
    obtain rfl : d' = s.drawn := hm.drawn
    obtain rfl : os' = s.os := hm.os
    refine hR h' tk' hS2 fun b o hlt e => hm.heap b o ?_ (Heap.get?_push_of_some _ (Heap.get?_push_of_some _ e))
    have hsz : (freshSet s led).heap.objs.size = s.heap.objs.size + 1 := Heap.size_push _ _
    simp only [List.mem_cons, List.mem_singleton, List.not_mem_nil, or_false, not_or]
    rw [hsz]
    exact ⟨Nat.ne_of_lt hlt, Nat.ne_of_lt (Nat.lt_succ_of_lt hlt)⟩
theorem set_str {z : Str} {t : Tok} {Q : Value → Shared → Prop} (hh : A.handled = none) (hz : z.length + 1 < scanBound) (hnd : z.cps.toList.Nodup)
    (h : ∀ (h' : Heap) (tk : Nat), SetN w P h' s.heap.objs.size (z.cps.toList.map fun c => ⟨#[c]⟩) z.length → (∀ b o, b < s.heap.objs.size → s.heap.get? b = some o → h'.get? b = some o) → Q (.ref s.heap.objs.size) { s with heap := h', toks := tk }) :
    wpAny (model P w) A (call (.type "set") [.str z t]) Q E s := by
  have hl : (z.cps.toList.map fun c => (⟨#[c]⟩ : Str)).length = z.length := by rw [List.length_map, Array.length_toList]; rfl
  refine set_new (xs := z.cps.toList.map fun c => ⟨#[c]⟩) (fun led A' hA => ?_) (by rw [hl]; exact h)
  have hsls := PySem.F.sub_str_set
  have hslf := PySem.F.sub_str_frozenset
  have hne : (Value.type "str" == Value.type "dict") = false := by decide
  have hS : (freshSet s led).heap.get? s.heap.objs.size = some { cls := .type "set", dict := none, data := .set #[] 0 (.fresh 0 0 led) } := Heap.get?_push_size _ rfl
  unfold Builtin.«set.__init__» noKeywords Builtin.Frozenset.updateFrom
  generalize hPI : pyIter = PI
  wp_walk
  subst hPI
  refine wpAny_pyIter_str fun o St W h0 => ?_
  refine wpAny_bind (wpAny_runValue ?_)
  have hA3 : A'.in1.in1.handled = none := by simpa [hA] using hh
  have W' := W A'.in1.in1 hA3
  refine set_loop_end (xs := z.cps.toList.map fun c => ⟨#[c]⟩) (by rw [hl]; exact W') (by simp [Heap.size_push]) (by rw [hl]; exact hz) ?_ (fun i v hv => ?_) h0 fun h' tk g1 g2 => ?_
  · refine hnd.map _ fun a b hab q => hab ?_
    simpa using congrArg (fun y : Str => y.cps) q
  · obtain ⟨c, u, e1, e2⟩ := hv
    exact ⟨⟨#[c]⟩, u, by rw [List.getElem?_map, Array.getElem?_toList, e1]; rfl, e2⟩
  · show wpAny _ _ _ _ _ _
    refine wpAny_pure ?_
    show wpAny _ _ (ret Value.none) _ _ _
    exact wpAny_pure ⟨rfl, h', tk, rfl, g1, g2⟩

theorem strsAt : ∀ {us : List Value} {xs : List Str}, Vals (xs.map V.str) us → ∀ (i : Nat) (v : Value), us[i]? = some v → ∃ x t, xs[i]? = some x ∧ v = Value.str x t
  | [], _, _, i, v, h => by simp at h
  | u :: us, x :: xs, r, 0, v, h => by
    cases r with
    | cons r1 r2 =>
      obtain ⟨t, e⟩ := r1
      exact ⟨x, t, rfl, by rw [← e]; exact (Option.some.inj h).symm⟩
  | u :: us, x :: xs, r, i + 1, v, h => by
    cases r with
    | cons r1 r2 =>
      obtain ⟨y, t, e1, e2⟩ := strsAt r2 i v (by simpa using h)
      exact ⟨y, t, by simpa using e1, e2⟩
theorem set_seq {T : String} (hT : T = "list" ∨ T = "tuple") {l : Addr} {its : List Value} {xs : List Str} {Q : Value → Shared → Prop} (hh : A.handled = none) (hl : (T = "list" ∧ s.heap.IsList l its.toArray) ∨ (T = "tuple" ∧ s.heap.IsTuple l its.toArray)) (rv : Vals (xs.map V.str) its)
    (hz : xs.length + 1 < scanBound) (hnd : xs.Nodup)
    (h : ∀ (h' : Heap) (tk : Nat), SetN w P h' s.heap.objs.size xs xs.length → (∀ b o, b < s.heap.objs.size → s.heap.get? b = some o → h'.get? b = some o) → Q (.ref s.heap.objs.size) { s with heap := h', toks := tk }) :
    wpAny (model P w) A (call (.type "set") [.ref l]) Q E s := by
  have hlen : its.toArray.size = xs.length := by rw [List.size_toArray, ← rv.length, List.length_map]
  refine set_new (xs := xs) (fun led A' hA => ?_) h
  have hA3 : A'.in1.in1.handled = none := by simpa [hA] using hh
  have hS : (freshSet s led).heap.get? s.heap.objs.size = some { cls := .type "set", dict := none, data := .set #[] 0 (.fresh 0 0 led) } := Heap.get?_push_size _ rfl
  have hval : ∀ (i : Nat) (v : Value), its.toArray[i]? = some v → ∃ x t, xs[i]? = some x ∧ v = Value.str x t := fun i v e => strsAt rv i v (by simpa using e)
  have fin : ∀ (h' : Heap) (tk : Nat), SetN w P h' s.heap.objs.size xs xs.length → (∀ b o, b < s.heap.objs.size → s.heap.get? b = some o → h'.get? b = some o) → wants (fun (_ : Value) t => wpAny (model P w) A'.in1 (ret Value.none) (fun f t => match f with | .done fl => setDone w P s xs E (.ok fl) t | .again c => c.quiet = true ∧ codeAny (model P w) A' c (setDone w P s xs E) t) (fun e t => setDone w P s xs E (.error e) t) t) (fun e t => setDone w P s xs E (.error e) t) (.ok (.ret .none)) { s with heap := h', toks := tk } := fun h' tk g1 g2 =>
    wpAny_pure ⟨rfl, h', tk, rfl, g1, g2⟩
  rcases hl with ⟨rfl, hl⟩ | ⟨rfl, hl⟩
  · obtain ⟨⟨ocls, odict, odata, oslots⟩, hol, hcl, nl, hdl⟩ := hl
    simp only at hcl hdl
    subst hcl hdl
    have hlS : l < s.heap.objs.size := Heap.lt_size hol
    have hol2 : (s.heap.push { cls := .type "set", dict := none, data := .set #[] 0 (.fresh 0 0 led) }).get? l = some { cls := .type "list", dict := odict, data := .seq its.toArray nl, slots := oslots } := Heap.get?_push_of_some _ hol
    have hsls := PySem.F.sub_list_set
    have hslf := PySem.F.sub_list_frozenset
    have hne : (Value.type "list" == Value.type "dict") = false := by decide
    have hl1 : (freshSet s led).heap.IsList l its.toArray := ⟨_, hol2, rfl, nl, rfl⟩
    have hneI : l ≠ (freshSet s led).heap.objs.size := by
      rw [Heap.size_push]
      exact Nat.ne_of_lt (Nat.lt_succ_of_lt hlS)
    unfold Builtin.«set.__init__» noKeywords Builtin.Frozenset.updateFrom
    generalize hPI : pyIter = PI
    wp_walk
    subst hPI
    refine wpAny_pyIter_list hl1 (wpAny_bind (wpAny_runValue ?_))
    have W := Walks.list (prog := P) (w := w) hA3 (freshSet s led).heap.objs.size l hneI its.toArray
    rw [hlen] at W
    exact set_loop_end W (by rw [Heap.size_push]; simp [Nat.ne_of_gt hlS]) hz hnd hval ⟨⟨_, Heap.get?_push_size _ rfl, rfl, rfl⟩, hl1.push _⟩ fun h' tk g1 g2 => wpAny_pure (fin h' tk g1 g2)
  · obtain ⟨⟨ocls, odict, odata, oslots⟩, hol, hcl, nl, hdl⟩ := hl
    simp only at hcl hdl
    subst hcl hdl
    have hlS : l < s.heap.objs.size := Heap.lt_size hol
    have hol2 : (s.heap.push { cls := .type "set", dict := none, data := .set #[] 0 (.fresh 0 0 led) }).get? l = some { cls := .type "tuple", dict := odict, data := .seq its.toArray nl, slots := oslots } := Heap.get?_push_of_some _ hol
    have hsls := PySem.F.sub_tuple_set
    have hslf := PySem.F.sub_tuple_frozenset
    have hne : (Value.type "tuple" == Value.type "dict") = false := by decide
    have hl1 : (freshSet s led).heap.IsTuple l its.toArray := ⟨_, hol2, rfl, nl, rfl⟩
    have hneI : l ≠ (freshSet s led).heap.objs.size := by
      rw [Heap.size_push]
      exact Nat.ne_of_lt (Nat.lt_succ_of_lt hlS)
    unfold Builtin.«set.__init__» noKeywords Builtin.Frozenset.updateFrom
    generalize hPI : pyIter = PI
    wp_walk
    subst hPI
    refine wpAny_pyIter_tuple hl1 (wpAny_bind (wpAny_runValue ?_))
    have W := Walks.tuple (prog := P) (w := w) hA3 (freshSet s led).heap.objs.size l hneI its.toArray
    rw [hlen] at W
    exact set_loop_end W (by rw [Heap.size_push]; simp [Nat.ne_of_gt hlS]) hz hnd hval ⟨⟨_, Heap.get?_push_size _ rfl, rfl, rfl⟩, hl1.push _⟩ fun h' tk g1 g2 => wpAny_pure (fin h' tk g1 g2)
end

/-! ### the readings -/
/-- a set of so many texts, all unlike -/
def SetS (P : Program) (w : World) (a : Addr) (xs : List Str) : HO := .ext fun h => SetN w P h a xs xs.length
theorem setS_ok {P : Program} {w : World} {H : Hp} {h : Heap} {a : Addr} {xs : List Str} (g : SetN w P h a xs xs.length) : ObjOk P w H h a (SetS P w a xs) := by
  refine ⟨g, ?_, fun h1 h2 g1 k => ?_⟩
  · obtain ⟨o, _, _, _, e, _⟩ := g
    exact ⟨o, e⟩
  · obtain ⟨o, es, ep, t, e, rest⟩ := g1
    exact ⟨o, es, ep, t, k o e, rest⟩
section
variable {X : Cx}
def rSetA (K : PySem.W.Frag) (P : Program) (w : World) : List V → Hp → VK → Prop := fun vs H Q => ∃ xs : List Str, ((∃ a, vs = [.ref a] ∧ (SqL K H a (xs.map V.str) ∨ SqT K H a (xs.map V.str))) ∨ ∃ z : Str, vs = [.str z] ∧ xs = z.cps.toList.map fun c => ⟨#[c]⟩) ∧
  xs.Nodup ∧ xs.length + 1 < scanBound ∧ ∀ p, H p = none → Q (.ref p) (upd H p (SetS P w p xs))
theorem cr_setA {K : PySem.W.Frag} (hc : X.calm = true) (hK : X.K = K := by rfl) : CallR X (.type "set") (rSetA K X.prog X.w) := by
  subst hK
  intro pins s σ H vs us Q I r h
  obtain ⟨xs, hs, hnd, hz, q⟩ := h
  have hn : H s.heap.objs.size = none := I.hok.fresh (Nat.le_refl _)
  have fin : ∀ (h' : Heap) (tk : Nat), SetN X.w X.prog h' s.heap.objs.size xs xs.length → (∀ b o, b < s.heap.objs.size → s.heap.get? b = some o → h'.get? b = some o) → EP X pins σ Q (.ref s.heap.objs.size) { s with heap := h', toks := tk } := fun h' tk g1 g2 =>
    ⟨.ref s.heap.objs.size, _, I.laid (t' := tk) (o := SetS X.prog X.w s.heap.objs.size xs) (fun b o e => g2 b o (Heap.lt_size e) e) (Nat.le_refl _) (setS_ok g1), rfl, q _ hn⟩
  rcases hs with ⟨a, rfl, hs⟩ | ⟨z, rfl, rfl⟩
  · rw [Vals.ref1 r]
    rcases hs with hs | hs
    · obtain ⟨its, rv, p1, _⟩ := I.list hs
      exact set_seq (.inl rfl) (I.ok.hd hc) (.inl ⟨rfl, p1.isList⟩) rv hz hnd fin
    · obtain ⟨its, rv, p1, _⟩ := I.tuple hs
      exact set_seq (.inr rfl) (I.ok.hd hc) (.inr ⟨rfl, p1⟩) rv hz hnd fin
  · obtain ⟨u, rfl, t, rfl⟩ := r.one
    have hl : (z.cps.toList.map fun c => (⟨#[c]⟩ : Str)).length = z.length := by rw [List.length_map, Array.length_toList]; rfl
    refine set_str (I.ok.hd hc) (by rw [← hl]; exact hz) ((List.pairwise_map.mp hnd).imp fun h q => h (by rw [q])) (by rw [← hl]; exact fin)
/-- len of such a set -/
def rLenA (P : Program) (w : World) : List V → Hp → VK → Prop := fun vs H Q => ∃ a xs, vs = [.ref a] ∧ H a = some (SetS P w a xs) ∧ Q (.int (xs.length : Nat)) H
theorem call_lenA : CallR X (.builtin "len") (rLenA X.prog X.w) := by
  intro pins s σ H vs us Q I r h
  obtain ⟨a, xs, rfl, ha, q⟩ := h
  rw [Vals.ref1 r]
  have g : SetN X.w X.prog s.heap a xs xs.length := (I.hok a _ ha).1
  obtain ⟨o, es, ep, t, ho, hex, hd, _, _, hb, hf, hn⟩ := g
  exact PySem.call_len_set ho hex hd hf (by unfold scanBound at hb; omega) ⟨.int xs.length, H, I.tok _, ⟨_, by rw [hn]⟩, q⟩
end
end KX
end
section
set_option Elab.async false
set_option linter.all false
set_option maxRecDepth 100000
set_option maxHeartbeats 4000000
/-! KX6: dict comprehensions whatever the keys (ints, texts, tuples of these), as a value and given to a local name. -/
namespace KX
open PySem PySem.Spec PyProof.Rows L2

section
variable {X : Cx} {pins : List (Addr × Obj)} {σ : L2.St} {H : Hp} {s : Shared}
/-- D[k] = v by a comprehension, as DPut tells it -/
theorem put_comp {H' : Hp} {E : Value → Shared → Prop} {D : Addr} {y v : V} {u r : Value} {Q : Unit → Shared → Prop} (hu : X.A.units < cLine) (I : Inv X pins σ H s) (g : DPut H D y v H') (ry : RelV y u) (rv : RelV v r)
    (h : ∀ t, Inv X pins σ H' t → Q () t) : wpAny (model X.prog X.w) X.A (dictSet D u r) Q E s := by
  rcases g with ⟨kvs, k, e, ey, l, eH⟩ | ⟨kvs, k, b, e, ey, eb, l, eH⟩
  · subst ey eH
    obtain ⟨z, hd, xs, rel, dd⟩ := dk_of I.hok e
    have hl : (putK kvs k v).length ≤ sizeLine := by have := length_putK kvs k v; omega
    refine wpAny_dictSet_pairs (hsz := by rw [← rel.length]; exact z) (kV_is ry) dd fun h2 d2 hs => h _ ?_
    obtain ⟨q, _, _, hq, _⟩ := id d2
    exact d_write I (by rw [e]; exact True.intro) hs ⟨q, hq⟩ (dk_new hl hd (rel.put k rv) d2)
  · subst ey eH
    cases (show u = Value.ref b from ry)
    obtain ⟨z, hd, xs, rel, dd⟩ := dt_of I.hok e
    have hl : (putK kvs k v).length ≤ sizeLine := by have := length_putK kvs k v; omega
    refine wpAny_dictSet_heap (knd := tupleKind (mixKind X.prog X.w)) (hsz := by rw [← Paired.length rel]; exact z) hu (key_of I.hok eb) dd fun h2 d2 hs => h _ ?_
    obtain ⟨q, es, ep, hq, g2, g3, g4, _, g5⟩ := d2
    refine d_write I (by rw [e]; exact True.intro) hs ⟨q, hq⟩ ⟨hl, hd, _, (rel.put k eb rv).keeps fun c ys ec => ?_, q, es, ep, hq, g2, g3, g4, g5⟩
    rw [upd_ne (ne_of ec e (fun z => nomatch z))]
    exact ec
end
/-- the empty dict of a kind -/
inductive IsNil : HO → Prop
  | k : IsNil (.dK [])
  | t : IsNil (.dT [])
section
variable {X : Cx}
/-- {k: v for target in iter if ..}: D the new dict, of the kind O -/
def tDp (O : HO) (wi : TI) (g : TG) (tt : TT) (tk tv : TE) (vs : List Nat) : TE := fun σ H Q => wi σ H fun J H1 => ∀ D, H1 D = none → ∃ W : Nat → Nat → Hp → Prop, (∃ m, W 0 m (upd H1 D O)) ∧ ∀ i m H, W i m H →
  (J.stop i H ∧ Q (.ref D) H) ∨ (J.go i H ∧ ∃ Nx : Hp → Prop, (∀ H', Nx H' → ∃ m', m' < m ∧ W (i + 1) m' H') ∧ ∀ x H', J.yld i H x H' → g x (wipe σ vs) H' fun σ2 H2 => wipe σ2 vs = wipe σ vs ∧ tt σ2 H2 fun b H3 =>
    if b = true then tk σ2 H3 fun y H4 => tv σ2 H4 fun z H5 => ∃ H6, DPut H5 D y z H6 ∧ Nx H6 else Nx H3)
theorem dp_core {pins : List (Addr × Obj)} {s : Shared} {σ : L2.St} {H : Hp} {Q : VK} {kx vx tg iter : Expr} {ifs : List Expr} {scope : Scope} {own : List (Str × Nat)} {pos pos' : Pos} {O : HO} {wi : TI} {g : TG} {tt : TT} {tk tv : TE} {use : Option (Value → Sem Unit)} {Qf : Value → Shared → Prop}
    (hO : IsNil O) (hu : X.A.units < cLine) (hc : X.calm = true) (hN : X.N.Nodup) (I : Inv X pins σ H s) (hi : PI X tg iter wi) (ok : BlkOk X.N X.env.scope scope own)
    (hg : ∀ (s : Shared) (H : Hp) (C : Addr) (cl : List (Str × Addr)) (fp : List Addr), PG (X.blk s H scope (compEnvC scope cl C X.env) fp) tg g) (ht : ∀ (s : Shared) (H : Hp) (C : Addr) (cl : List (Str × Addr)) (fp : List Addr), PTs (X.blk s H scope (compEnvC scope cl C X.env) fp) ifs tt)
    (hk : ∀ (s : Shared) (H : Hp) (C : Addr) (cl : List (Str × Addr)) (fp : List Addr), PE (X.blk s H scope (compEnvC scope cl C X.env) fp) kx tk)
    (he : ∀ (s : Shared) (H : Hp) (C : Addr) (cl : List (Str × Addr)) (fp : List Addr), PE (X.blk s H scope (compEnvC scope cl C X.env) fp) vx tv) (hs : ∀ x, foldedSetIterable iter X.env x = pure x) (h : tDp O wi g tt tk tv (own.map (·.2)) σ H Q)
    (hRR : ∀ D C t m H', Inv X pins σ H' t → Q (.ref D) H' → t.heap.Ns C m → FpOk X pins H' C → compPost (model X.prog X.w) X.A X.xe use Qf (.ref D) C (.ok .next) t) :
    wpAny (model X.prog X.w) X.A (comprehension (.DictComp kx vx [⟨tg, iter, ifs, 0⟩] scope pos) scope X.env pos' newDict false (eval iter X.env) use) Qf X.xe s := by
  have hfree : ∀ y ∈ scope.names, y.2 = .free → ∃ c, X.env.cells.lookup y.1 = some c := fun y hy e => (ok.free y hy e).elim (fun k => I.ok.has _ (.inl k)) fun k => I.ok.has _ (.inr k)
  refine wpAny_comprehension_free (use := use) rfl hs (closure_ok hfree) ok.kind (fun y hy e => by rw [ok.uniq y hy, e]) (thn (hi.run pins s σ H _ I h) fun xv s1 hx => thn hx fun itv s2 h2 => ?_)
  obtain ⟨it, fp, tn, J, H2, e, I2, T, st2, f2, q⟩ := h2
  subst e
  refine wpAny_newObj_type (newEnv_comp ?_)
  generalize hD : s2.heap.objs.size = D
  have hDn : H2 D = none := I2.hok.fresh (Nat.le_of_eq hD)
  obtain ⟨W, ⟨m0, w0⟩, turn⟩ := q D hDn
  generalize hs3 : ({ s2 with heap := s2.heap.push { cls := .type "dict", data := .dict #[] } } : Shared) = s3
  have h3 : s3.heap = s2.heap.push { cls := .type "dict", data := .dict #[] } := by rw [← hs3]
  have I3 : Inv X pins σ (upd H2 D O) s3 := by
    rw [← hs3]
    refine I2.laid (t' := s2.toks) (fun b o e => Heap.get?_push_of_some _ e) (Nat.le_of_eq hD) ?_
    rw [← hD]
    cases hO with
    | k => exact dk_empty s2.heap I2.big
    | t => exact dt_empty s2.heap I2.big
  have sz : ∀ b ∈ fp, b < s2.heap.objs.size := fun b hb => (T.obj _ _ st2 b hb).elim fun o e => Heap.lt_size e.1
  have f3 : ∀ b ∈ fp, FpOk X pins (upd H2 D O) b ∧ b < s3.heap.objs.size := fun b hb => by
    have hlt := sz b hb
    refine ⟨⟨(upd_ne (by rw [← hD]; exact Nat.ne_of_lt hlt)).trans (f2 b hb).1, (f2 b hb).2⟩, ?_⟩
    rw [h3, Heap.size_push]
    exact Nat.lt_succ_of_lt hlt
  have st3 : tn 0 s3.heap := T.keep _ _ _ st2 fun b _ o e => by rw [h3]; exact Heap.get?_push_of_some _ e
  have I4 := block_start I3 ok hN f3
  have pg := hg s3 (upd H2 D O) s3.heap.objs.size (cellsFrom (s3.heap.objs.size + 1) scope.names (cloFrom X.env.cells scope.names [])) fp
  have pt := ht s3 (upd H2 D O) s3.heap.objs.size (cellsFrom (s3.heap.objs.size + 1) scope.names (cloFrom X.env.cells scope.names [])) fp
  have pk := hk s3 (upd H2 D O) s3.heap.objs.size (cellsFrom (s3.heap.objs.size + 1) scope.names (cloFrom X.env.cells scope.names [])) fp
  have pe := he s3 (upd H2 D O) s3.heap.objs.size (cellsFrom (s3.heap.objs.size + 1) scope.names (cloFrom X.env.cells scope.names [])) fp
  show codeAny _ _ (.compStart (.DictComp kx vx [⟨tg, iter, ifs, 0⟩] scope pos) 0 (.ref it) (.ref D) (compEnvC scope (cellsFrom (s3.heap.objs.size + 1) scope.names (cloFrom X.env.cells scope.names [])) s3.heap.objs.size X.env)) (compPost (model X.prog X.w) X.A X.xe use Qf (.ref D) s3.heap.objs.size) { s3 with heap := pushCells (s3.heap.push { cls := .type "dict", data := .dict #[] }) scope.names }
  have nfp : ∀ b ∈ fp, (upd H2 D O) b = none := fun b hb => (f3 b hb).1.1
  generalize hce : compEnvC scope (cellsFrom (s3.heap.objs.size + 1) scope.names (cloFrom X.env.cells scope.names [])) s3.heap.objs.size X.env = ce at I4 pg pt pk pe ⊢
  have cL : ce.locals = s3.heap.objs.size := by subst hce; rfl
  generalize hH3 : upd H2 D O = H3 at I3 I4 pg pt pk pe w0 nfp f3
  generalize hs4 : ({ s3 with heap := pushCells (s3.heap.push { cls := .type "dict", data := .dict #[] }) scope.names } : Shared) = s4 at I4 ⊢
  have st4 : tn 0 s4.heap := T.keep _ _ _ st3 fun b _ o e => by rw [← hs4]; exact pushCells_keeps _ _ _ _ (Heap.get?_push_of_some _ e)
  have stat : ∀ {σ' : L2.St} {H' : Hp} {t : Shared}, Inv (X.blk s3 H3 scope ce fp) [] σ' H' t → (∀ b ∈ fp, H' b = none) → ∀ b ∈ fp, FpOk (X.blk s3 H3 scope ce fp) [] H' b := fun {σ' H' t} I' hn b hb =>
    ⟨hn b hb, (I'.ok.exf b hb).1, I'.ok.exfs b hb, .inl hb, fun x c e => (I'.ok.exf b hb).2 x c e, fun p hp => absurd (show p ∈ ([] : List (Addr × Obj)) ++ [] from hp) (by simp)⟩
  have loop : codeAny (model X.prog X.w) X.A (.compLoop (.DictComp kx vx [⟨tg, iter, ifs, 0⟩] scope pos) 0 (.ref it) (.ref D) ce) (compPost (model X.prog X.w) X.A X.xe use Qf (.ref D) s3.heap.objs.size) s4 := by
    refine compLoop_anyD (fun n t => ∃ i H', Inv (X.blk s3 H3 scope ce fp) [] (wipe σ (own.map (·.2))) H' t ∧ tn i t.heap ∧ (∀ b ∈ fp, H' b = none) ∧ W i n H') ?_ m0 ⟨0, H3, I4, st4, nfp, w0⟩
    rintro n s5 ⟨i, H5, I5, st5, n5, w5⟩
    rcases turn i n H5 w5 with ⟨stop, qq⟩ | ⟨go, Nx, hNx, step⟩
    · refine thnF (T.done (X.blk s3 H3 scope ce fp) rfl rfl rfl hc i [] s5 _ H5 (fun _ _ => False) I5 (stat I5 n5) st5 stop) fun r s6 ⟨hr, I6⟩ => ?_
      subst hr
      have I7 : Inv X pins σ H5 s6 := I3.call' (ch := fp) I6.os I6.base I6.hok I6.bare fun b hb => ⟨(f3 b hb).1.2.2.2.1, (f3 b hb).1.2.1, (f3 b hb).1.2.2.2.2.1, (f3 b hb).1.2.2.2.2.2⟩
      have nC : H5 s3.heap.objs.size = none := by rw [← cL]; exact I6.free
      obtain ⟨m, hn, _⟩ := I6.loc
      refine hRR D s3.heap.objs.size s6 m H5 I7 qq ?_ (I3.fpOk (Nat.le_refl _) nC)
      rw [← cL]
      exact hn
    · refine thnF (T.item (X.blk s3 H3 scope ce fp) rfl rfl rfl hc i [] s5 _ H5 (fun _ _ => False) I5 (stat I5 n5) st5 go) fun r s6 ⟨u, hr, h6⟩ => ?_
      subst hr
      refine thnF h6 fun _ s7 ⟨x, H7, I7, r7, y7, st7, n7⟩ => ?_
      have I7' := I7.pinned (stat I7 n7) (T.obj _ _ st7)
      refine thnF (pg.run _ s7 _ H7 x u _ I7' r7 (step x H7 y7)) fun _ s8 ⟨σ8, H8, I8, hw8, q8⟩ => ?_
      refine thnF (pt.run _ s8 σ8 H8 _ I8 q8) fun b s9 ⟨H9, I9, q9⟩ => ?_
      have fin : ∀ {t : Shared} {H' : Hp}, Inv (X.blk s3 H3 scope ce fp) ([] ++ pinsAt fp s7.heap) σ8 H' t → Nx H' → ∃ m, m < n ∧ ∃ i H', Inv (X.blk s3 H3 scope ce fp) [] (wipe σ (own.map (·.2))) H' t ∧ tn i t.heap ∧ (∀ b ∈ fp, H' b = none) ∧ W i m H' := fun {t H'} I' nx => by
        obtain ⟨m', hm, w'⟩ := hNx H' nx
        have pin' : ∀ b ∈ fp, ∀ o, s7.heap.get? b = some o → t.heap.get? b = some o ∧ H' b = none := fun b hb o e => (I'.pin (b, o) (List.mem_append_right _ (List.mem_append_right _ (mem_pinsAt hb e)))).imp id And.left
        have hl : (wipe σ (own.map (·.2))).length = σ8.length := by rw [← hw8, wipe_length]
        refine ⟨m', hm, i + 1, H', (I'.unpinned (pins := [])).weak hl (fun j v e => ?_), T.keep _ _ _ st7 fun b hb o e => (pin' b hb o e).1, fun b hb => ?_, w'⟩
        · rw [← hw8] at e
          exact (wipe_some e).1
        · exact (T.obj _ _ st7 b hb).elim fun o e => (pin' b hb o e.1).2
      cases b with
      | false =>
        simp only [Bool.false_eq_true, if_false] at q9 ⊢
        exact fin I9 q9
      | true =>
        simp only [if_true] at q9 ⊢
        refine thnF (pk.run _ s9 σ8 H9 _ I9 q9) fun z s10 ⟨yk, H10, I10, r10, q10⟩ => ?_
        refine thnF (pe.run _ s10 σ8 H10 _ I10 q10) fun z2 s11 ⟨yv, H11, I11, r11, H12, dp, nx⟩ => ?_
        exact put_comp (X := X.blk s3 H3 scope ce fp) hu I11 dp r10 r11 fun s12 I12 => fin I12 nx
  exact codeAny_compStart_dict loop (T.self X.A 0 _ _ _ st4 loop)
theorem pe_dp {kx vx tg iter : Expr} {ifs : List Expr} {scope : Scope} {own : List (Str × Nat)} {pos : Pos} {O : HO} {wi : TI} {g : TG} {tt : TT} {tk tv : TE} (hO : IsNil O) (hu : X.A.units < cLine) (hc : X.calm = true) (hN : X.N.Nodup) (hi : PI X tg iter wi) (ok : BlkOk X.N X.env.scope scope own)
    (hg : ∀ (s : Shared) (H : Hp) (C : Addr) (cl : List (Str × Addr)) (fp : List Addr), PG (X.blk s H scope (compEnvC scope cl C X.env) fp) tg g) (ht : ∀ (s : Shared) (H : Hp) (C : Addr) (cl : List (Str × Addr)) (fp : List Addr), PTs (X.blk s H scope (compEnvC scope cl C X.env) fp) ifs tt)
    (hk : ∀ (s : Shared) (H : Hp) (C : Addr) (cl : List (Str × Addr)) (fp : List Addr), PE (X.blk s H scope (compEnvC scope cl C X.env) fp) kx tk)
    (he : ∀ (s : Shared) (H : Hp) (C : Addr) (cl : List (Str × Addr)) (fp : List Addr), PE (X.blk s H scope (compEnvC scope cl C X.env) fp) vx tv) (hs : ∀ x, foldedSetIterable iter X.env x = pure x := by intro _; rfl) :
    PE X (.DictComp kx vx [⟨tg, iter, ifs, 0⟩] scope pos) (tDp O wi g tt tk tv (own.map (·.2))) := by
  constructor
  intro pins s σ H Q I h
  rw [arm_eval_DictComp]
  refine dp_core hO hu hc hN I hi ok hg ht hk he hs h fun D C t m H' I' q hn f => ⟨m, hn, fun h2 sb => ?_⟩
  exact ⟨.ref D, H', I'.turned (t' := t.toks) (fun b o hb e => (sb.2 b hb).trans e) f.1 f.2.1 f.2.2.2.1 f.2.2.2.2.1 f.2.2.2.2.2, rfl, q⟩
theorem ps_setDp {i : Nat} {y : Str} {py : Pos} {kx vx tg iter : Expr} {ifs : List Expr} {scope : Scope} {own : List (Str × Nat)} {pos spos : Pos} {O : HO} {wi : TI} {g : TG} {tt : TT} {tk tv : TE} (hO : IsNil O) (hu : X.A.units < cLine) (hc : X.calm = true) (hN : X.N.Nodup) (hy : X.N[i]? = some y) (hyl : X.env.scope.names.lookup y = some .local)
    (hsw : swapsWith (.DictComp kx vx [⟨tg, iter, ifs, 0⟩] scope pos) (some (.Name y py)) spos.line X.env = pure true) (hi : PI X tg iter wi) (ok : BlkOk X.N X.env.scope scope own)
    (hg : ∀ (s : Shared) (H : Hp) (C : Addr) (cl : List (Str × Addr)) (fp : List Addr), PG (X.blk s H scope (compEnvC scope cl C X.env) fp) tg g) (ht : ∀ (s : Shared) (H : Hp) (C : Addr) (cl : List (Str × Addr)) (fp : List Addr), PTs (X.blk s H scope (compEnvC scope cl C X.env) fp) ifs tt)
    (hk : ∀ (s : Shared) (H : Hp) (C : Addr) (cl : List (Str × Addr)) (fp : List Addr), PE (X.blk s H scope (compEnvC scope cl C X.env) fp) kx tk)
    (he : ∀ (s : Shared) (H : Hp) (C : Addr) (cl : List (Str × Addr)) (fp : List Addr), PE (X.blk s H scope (compEnvC scope cl C X.env) fp) vx tv) (hs : ∀ x, foldedSetIterable iter X.env x = pure x := by intro _; rfl) :
    PS X (.Assign [.Name y py] (.DictComp kx vx [⟨tg, iter, ifs, 0⟩] scope pos) spos) (tAsg (tDp O wi g tt tk tv (own.map (·.2))) (gName i)) := by
  constructor
  intro pins s σ H D I h
  rw [exec_Assign_Name_used _ _ _ _ hsw]
  refine wpAny_bind (wpAny_standAt (wpAny_bind ?_))
  show wpAny _ X.A (do let _ ← comprehension (.DictComp kx vx [⟨tg, iter, ifs, 0⟩] scope pos) scope X.env (firstIterPos [⟨tg, iter, ifs, 0⟩] pos) newDict false (eval iter X.env) (some (assign (.Name y py) X.env))) _ _ s
  have h : tDp O wi g tt tk tv (own.map (·.2)) σ H (fun x H1 => gName i x σ H1 D.nx) := h
  refine wpAny_bind (thn (dp_core (Qf := fun _ t => SP X pins D .next t) hO hu hc hN I hi ok hg ht hk he hs h fun L C t m H' I' q hn f => ?_) fun _ t hq => wpAny_pure (wpAny_pure hq))
  show wpAny _ _ (assign (.Name y py) X.env (.ref L)) _ _ _
  refine wpAny_assign_Name (store_ok2 (v := V.ref L) I' hN hy (.inl hyl) rfl (fun s2 I2 ⟨a, sb, ha⟩ => ?_) (.inr hyl))
  have haC : C ≠ a := by
    rcases ha with z | z
    · rw [z]
      exact f.2.1
    · exact fun e => f.2.2.2.2.1 y a z e.symm
  refine ⟨m, hn.sameBut sb haC, fun h3 sb3 => ⟨_, H', I2.turned (t' := s2.toks) (fun b o hb e => (sb3.2 b hb).trans e) f.1 f.2.1 f.2.2.2.1 f.2.2.2.2.1 f.2.2.2.2.2, q⟩⟩
theorem sw_trueD {kx vx : Expr} {gs : List Comprehension} {scope : Scope} {pos py : Pos} {y : Str} {l : Nat} {env : Env} (hk : env.scope.kind = .function) (hy : env.scope.names.lookup y = some .local) (hl : (py.line == pos.line) = true)
    (ha : (scope.names.any fun (n, k) => n == y && (k == .local || k == .cell)) = false) : swapsWith (.DictComp kx vx gs scope pos) (some (.Name y py)) l env = pure true := by
  have ky : env.kindOf y = some .local := hy
  have hb : env.blockKind = .function := by
    unfold Env.blockKind
    rw [hk]
    rfl
  unfold swapsWith
  simp only [hb, ky, ha, Expr.pos, hl]
  rfl
end
end KX
end
section
set_option Elab.async false
set_option linter.all false
set_option maxRecDepth 100000
set_option maxHeartbeats 4000000
/-! KX7: rules whose readings name K; enumerate(text); list(text); the list of draws, seen as one thing that stays. -/
namespace KX
open PySem PySem.Spec PyProof.Rows L2

section
variable {X : Cx} {K : PySem.W.Frag}
theorem ixT (hK : X.K = K := by rfl) : IxR X (rIxT K) := hK ▸ ix_tup
theorem ixL (hK : X.K = K := by rfl) : IxR X (rIxL K) := hK ▸ ix_list
def rTupOf (K : PySem.W.Frag) : List V → Hp → VK → Prop := fun xs H Q => ∃ p ys, xs = [.ref p] ∧ ((SqL K H p ys ∧ ∀ l, H l = none → Q (.ref l) (upd H l (.tup ys))) ∨ (SqT K H p ys ∧ Q (.ref p) H))
theorem cTup (hK : X.K = K := by rfl) : CallR X (.type "tuple") (rTupOf K) := hK ▸ call_tuple_of
theorem cList (hK : X.K = K := by rfl) : CallR X (.type "list") (Evl.rListS K) := hK ▸ call_list_of
theorem cLenS (hK : X.K = K := by rfl) : CallR X (.builtin "len") (Evl.rLenS K) := hK ▸ call_len_seq
theorem cIsi (hK : X.K = K := by rfl) : CallR X (.builtin "isinstance") (rIsi K) := hK ▸ call_isi
theorem cIsiT (hK : X.K = K := by rfl) : CallR X (.builtin "isinstance") (rIsiT K) := hK ▸ call_isiT
theorem oInS (hK : X.K = K := by rfl) : OpR X (compareOp .In) (rIn K false) := hK ▸ op_in_seq
theorem oNiS (hK : X.K = K := by rfl) : OpR X (compareOp .NotIn) (rIn K true) := hK ▸ op_notIn_seq

theorem pe_fldK {e : Expr} {ta : TE} {f : Str} {pos : Pos} (he : PE X e ta) (hb : attributeBase e f X.env (eval e X.env) = eval e X.env) (hK : X.K = K := by rfl) : PE X (.Attribute e f pos) (tFld K ta f) := by
  subst hK
  exact pe_fld he hb
theorem m2 {o e f : Expr} {m : Str} {apos cpos : Pos} (h1 : attributeBase o m X.env (eval o X.env) = eval o X.env := by rfl)
    (h2 : ((backTo cpos (starEach [e, f] X.env)).all (fun x => !x.1) && (backToKw cpos (keywordEach [] X.env)).all (fun x => x.1.isSome) && decide (([e, f] : List Expr).length + ([] : List Keyword).length + (if ([] : List Keyword).isEmpty then 0 else 1) < 30)) = true := by rfl)
    (h3 : (apos.endLine == cpos.line) = true := by rfl) (h4 : backTo cpos (starEach [e, f] X.env) = [(false, eval e X.env), (false, eval f X.env)] := by rfl) : M2 X o m apos e f cpos := ⟨h1, h2, h3, h4⟩

/-! ### list(text) -/
def rListT : List V → Hp → VK → Prop := fun vs H Q => ∃ z : Str, vs = [.str z] ∧ z.length ≤ sizeLine ∧ ∀ p, H p = none → Q (.ref p) (upd H p (.lst (z.cps.toList.map fun c => .str ⟨#[c]⟩)))
theorem cListT (hc : X.calm = true) : CallR X (.type "list") rListT := by
  intro pins s σ H vs us Q I r h
  obtain ⟨z, rfl, hz, q⟩ := h
  obtain ⟨u, rfl, t, rfl⟩ := r.one
  refine call_list_str (I.ok.hd hc) z t (fun h' tk acc c k e it => ?_) hz
  have hv : Vals (z.cps.toList.map fun c => V.str ⟨#[c]⟩) acc.toList := by
    have all : ∀ (cs : List Nat) (us : List Value), us.length = cs.length → (∀ (j : Nat) (v : Value), us[j]? = some v → ∃ c t, cs[j]? = some c ∧ v = Value.str ⟨#[c]⟩ t) → Vals (cs.map fun c => V.str ⟨#[c]⟩) us := by
      intro cs
      induction cs with
      | nil =>
        intro us hl _
        cases us with
        | nil => exact .nil
        | cons _ _ => simp at hl
      | cons c cs ih =>
        intro us hl g
        cases us with
        | nil => simp at hl
        | cons u us =>
          obtain ⟨c', t', e1, e2⟩ := g 0 u rfl
          obtain rfl : c = c' := Option.some.inj e1
          refine .cons ⟨t', e2⟩ (ih us (by simpa using hl) fun j v ej => ?_)
          have := g (j + 1) v (by simpa using ej)
          simpa using this
    refine all _ _ (by rw [Array.length_toList, Array.length_toList]; exact it.1) fun j v ej => ?_
    obtain ⟨c', t', e1, e2⟩ := it.2 j v (by rw [← Array.getElem?_toList]; exact ej)
    exact ⟨c', t', by rw [Array.getElem?_toList]; exact e1, e2⟩
  have hlen : (z.cps.toList.map fun c => V.str ⟨#[c]⟩).length ≤ sizeLine := by
    rw [List.length_map, Array.length_toList]
    exact hz
  exact ⟨.ref s.heap.objs.size, _, I.laid (t' := tk) (o := .lst (z.cps.toList.map fun c => V.str ⟨#[c]⟩)) k (Nat.le_refl _) ⟨hlen, acc.toList, c, hv, by rw [Array.toArray_toList]; exact e⟩, rfl, q _ (I.hok.fresh (Nat.le_refl _))⟩
end

/-! ### enumerate(text) -/
/-- the signs of a text in new pairs with their places -/
def Jes (x : Str) : It := ⟨fun i _ => i < x.cps.size, fun i H v H' => ∃ T c, v = .ref T ∧ H T = none ∧ H' = upd H T (.tup [.int (i : Nat), .str ⟨#[c]⟩]) ∧ x.cps[i]? = some c, fun i _ => i = x.cps.size⟩
theorem turn_enumS {P : Program} {w : World} {K : PySem.W.Frag} {elts : List Expr} {kk : Nat} {tpos : Pos} (x : Str) (t : Tok) (e it : Addr) :
    Turn P w K (.Tuple elts kk tpos) (Jes x) [e, it] e (fun i h => (∃ old, IsEnum h e it ((i : Nat) : Int) old) ∧ h.IsStrIter it (strIterType x) x t i ∧ e ≠ it) where
  mem := by simp
  obj := fun i h st b hb => by
    obtain ⟨⟨old, he⟩, ⟨o, ho, hc, hd⟩, _⟩ := st
    rcases (show b = e ∨ b = it by simpa using hb) with z | z
    · rw [z]
      exact ⟨_, he, fun v q => nomatch q⟩
    · rw [z]
      exact ⟨o, ho, fun v q => by rw [hd] at q; cases q⟩
  keep := fun i h h' st k => by
    obtain ⟨⟨old, he⟩, ⟨o, ho, r⟩, hne⟩ := st
    exact ⟨⟨old, k e (by simp) _ he⟩, ⟨o, k it (by simp) o ho, r⟩, hne⟩
  item := by
    intro X hP hw hK hc i pins s σ H E I hf st hg
    subst hP hw hK
    obtain ⟨⟨old, he⟩, hit, hne⟩ := st
    have hel : e < s.heap.objs.size := Heap.lt_size he
    have hil : it < s.heap.objs.size := by
      obtain ⟨_, q, _⟩ := hit
      exact Heap.lt_size q
    refine wpAny_pyNext_enum_itemC (Draws.text (A := X.A.in1) (I.ok.hd hc) it x t) he hit hg hne (by simpa using hne) fun u h' tk hp ho hit' hT hsz hk => ?_
    obtain ⟨c, w', hx, rfl⟩ := hp
    refine ⟨_, rfl, wpAny_letOwnedTupleGo_enum (s := { s with heap := h', toks := tk + 1 }) ho fun h2 he2 sb => ?_⟩
    have hT2 : h2.get? s.heap.objs.size = some { cls := .type "tuple", data := .seq #[.int i tk, .str ⟨#[c]⟩ w'] } := (sb.2 _ (Nat.ne_of_gt hel)).trans hT
    have new : ObjOk X.prog X.w (upd H s.heap.objs.size (.tup [.int (i : Nat), .str ⟨#[c]⟩])) h2 s.heap.objs.size (.tup [.int (i : Nat), .str ⟨#[c]⟩]) :=
      ⟨by show 2 ≤ sizeLine; decide, [.int i tk, .str ⟨#[c]⟩ w'], .cons ⟨_, rfl⟩ (.cons ⟨_, rfl⟩ .nil), ⟨_, hT2, rfl, _, rfl⟩⟩
    have I1 : Inv X pins σ (upd H s.heap.objs.size (.tup [.int (i : Nat), .str ⟨#[c]⟩])) { s with heap := h2, toks := tk + 1 } :=
      I.turnedNew (ch := [e, it]) (fun b ob hb q => (sb.2 b (fun z => hb (by simp [z]))).trans (hk b ob (fun z => hb (by simp [z])) (fun z => hb (by simp [z])) q)) hf (Nat.le_refl _) new
    refine ⟨.ref s.heap.objs.size, _, I1, rfl, ⟨_, c, rfl, I.hok.fresh (Nat.le_refl _), rfl, hx⟩, ⟨⟨.str ⟨#[c]⟩ w', ?_⟩, ?_, hne⟩, fun b hb => ?_⟩
    · rw [show ((i + 1 : Nat) : Int) = (i : Int) + 1 by omega]
      exact he2
    · obtain ⟨o, g, r⟩ := hit'
      exact ⟨o, (sb.2 it (Ne.symm hne)).trans g, r⟩
    · have hb' : b < s.heap.objs.size := by
        rcases (show b = e ∨ b = it by simpa using hb) with z | z
        · rw [z]; exact hel
        · rw [z]; exact hil
      rw [upd_ne (Nat.ne_of_lt hb')]
      exact (hf b hb).1
  done := by
    intro X hP hw hK hc i pins s σ H E I hf st hg
    subst hP hw hK
    obtain ⟨⟨old, he⟩, hit, hne⟩ := st
    obtain ⟨f0, f1, f2, f3, f4, f5⟩ := hf it (by simp)
    obtain rfl : i = x.cps.size := hg
    exact wpAny_pyNext_enum_endD (Draws.text (A := X.A.in1) (I.ok.hd hc) it x t) he hit fun h' eb => ⟨rfl, I.turned (t' := s.toks) (fun b o hb q => eb b o hb q) f0 f1 f3 f4 f5⟩
  self := fun A i s Q E st h => let ⟨⟨_, he⟩, _⟩ := st; wpAny_pyIter_enum he h
def iEnumS (ta : TA) : TI := fun σ H R => ta σ H fun vs H1 => ∃ x, vs = [.str x] ∧ R (Jes x) H1
theorem pi_enumS {X : Cx} {e : Expr} {ta : TA} {p pos tpos : Pos} {elts : List Expr} {kk : Nat} (hg : Gl X "enumerate") (hm : X.mg "enumerate" = none) (ha : PA X [e] ta) (hs : starEach [e] X.env = [(false, eval e X.env)] := by rfl) :
    PI X (.Tuple elts kk tpos) (.Call (.Name "enumerate" p) [e] [] pos) (iEnumS ta) := by
  constructor
  intro pins s σ H R I h
  refine Call_ (ld_blt I hg hm boot_enumerate (PyProof.Rows.callWith_type1 (thn (ha.run pos pins s σ H _ I h) fun us s1 ⟨vs, H1, I1, r1, q1⟩ => ?_) hs rfl))
  obtain ⟨x, ex, q⟩ := q1
  subst ex
  obtain ⟨u, rfl, t, rfl⟩ := r1.one
  refine call_enumerate_str fun h' he hit hsz hk => wpAny_pyIter_enum he ?_
  have I2 : Inv X pins σ H1 { s1 with heap := h' } := I1.kept (t' := s1.toks) hk
  refine ⟨s1.heap.objs.size + 1, [s1.heap.objs.size + 1, s1.heap.objs.size], _, _, H1, rfl, I2, turn_enumS x t (s1.heap.objs.size + 1) s1.heap.objs.size, ⟨⟨.none, he⟩, hit, Nat.succ_ne_self _⟩, fun b hb => ?_, q⟩
  have hle : s1.heap.objs.size ≤ b := by
    rcases (show b = s1.heap.objs.size + 1 ∨ b = s1.heap.objs.size by simpa using hb) with z | z
    · rw [z]
      exact Nat.le_succ _
    · rw [z]
      exact Nat.le_refl _
  exact I1.fpOk hle (I1.hok.fresh hle)
theorem walk_enumS {x : Str} : Walk (Jes x) x.cps.size (fun _ => True) (fun i H v H' => ∃ T c, v = .ref T ∧ H T = none ∧ H' = upd H T (.tup [.int (i : Nat), .str ⟨#[c]⟩]) ∧ x.cps[i]? = some c) :=
  ⟨fun _ _ hi _ => hi, fun _ _ => rfl, fun _ _ _ _ _ _ y => y⟩

/-! ### the list of draws: [script, 0, how many were drawn] -/
/-- at d a list of the object at a, 0 and some number from 0 on -/
def drawn (d a : Addr) : HO := .ext fun h => ∃ (n : Nat) (i j : Tok) (c : Nat), h.get? d = some { cls := .type "list", data := .seq #[.ref a, .int 0 i, .int n j] c }
theorem drawn_ok {P : Program} {w : World} {H : Hp} {h : Heap} {d a : Addr} {n : Nat} (x : ObjOk P w H h d (.lst [.ref a, .int 0, .int n])) : ObjOk P w H h d (drawn d a) := by
  obtain ⟨_, its, c, r, e⟩ := x
  cases r with
  | cons r1 r =>
    cases r with
    | cons r2 r =>
      cases r with
      | cons r3 r =>
        cases r
        cases r1
        obtain ⟨i, rfl⟩ := r2
        obtain ⟨j, rfl⟩ := r3
        exact ⟨⟨n, i, j, c, e⟩, ⟨_, e⟩, fun h1 h2 ⟨n', i', j', c', e'⟩ k => ⟨n', i', j', c', k _ e'⟩⟩
section
variable {X : Cx}
/-- a block that works on the draws as a list, and leaves them as draws -/
def tDraw (t : TS) : TS := fun D σ H => ∃ d a, H d = some (drawn d a) ∧ ∀ n : Nat, t { nx := fun σ' H' => ∃ m : Nat, H' d = some (.lst [.ref a, .int 0, .int m]) ∧ D.nx σ' (upd H' d (drawn d a)), rt := fun v H' => ∃ m : Nat, H' d = some (.lst [.ref a, .int 0, .int m]) ∧ D.rt v (upd H' d (drawn d a)) } σ (upd H d (.lst [.ref a, .int 0, .int n]))
theorem pss_draw {body : List Stmt} {t : TS} (h : PSs X body t) : PSs X body (tDraw t) := by
  constructor
  intro pins s σ H D I q
  obtain ⟨d, a, hd, q⟩ := q
  obtain ⟨⟨n, i, j, c, e⟩, _, _⟩ := (show ObjOk X.prog X.w H s.heap d (drawn d a) from I.hok d _ hd)
  have back : ∀ {σ' : L2.St} {H' : Hp} {t : Shared} {m : Nat}, Inv X pins σ' H' t → H' d = some (.lst [.ref a, .int 0, .int m]) → Inv X pins σ' (upd H' d (drawn d a)) t := fun {σ' H' t m} I' e' => by
    have x := I'.hok d _ e'
    obtain ⟨_, its, c', _, g⟩ := id x
    exact I'.write (t' := t.toks) (e := d) (by rw [e']; trivial) (.inl rfl) (fun _ _ _ z => z) ⟨_, g⟩ (drawn_ok (n := m) x)
  have I2 : Inv X pins σ (upd H d (.lst [.ref a, .int 0, .int n])) s :=
    I.write (t' := s.toks) (e := d) (by rw [hd]; trivial) (.inl rfl) (fun _ _ _ z => z) ⟨_, e⟩ ⟨by show 3 ≤ sizeLine; decide, [.ref a, .int 0 i, .int n j], c, .cons rfl (.cons ⟨_, rfl⟩ (.cons ⟨_, rfl⟩ .nil)), e⟩
  refine thn (h.run pins s σ _ _ I2 (q n)) fun f s1 z => ?_
  cases f with
  | next =>
    obtain ⟨σ', H', I', m, e', g⟩ := z
    exact ⟨σ', _, back I' e', g⟩
  | ret u =>
    obtain ⟨v, σ', H', I', r, m, e', g⟩ := z
    exact ⟨v, σ', _, back I' e', r, g⟩
  | brk =>
    obtain ⟨_, _, _, g⟩ := z
    exact g.elim
  | cont =>
    obtain ⟨_, _, _, g⟩ := z
    exact g.elim
end
end KX
namespace KX
open PySem PySem.Spec PyProof.Rows L2
theorem hu8_of {A : Around} {k : Nat} (hr : Room k A) : A.units + 8 < cLine := Nat.lt_of_le_of_lt (Nat.add_le_add_left (by decide : 8 ≤ 64) _) hr.units
theorem hu50_of {A : Around} {k : Nat} (hr : Room k A) : A.units + 50 < cLine := Nat.lt_of_le_of_lt (Nat.add_le_add_left (by decide : 50 ≤ 64) _) hr.units
end KX
end
section
set_option Elab.async false
set_option linter.all false
set_option maxRecDepth 100000
set_option maxHeartbeats 4000000
/-! KX8: readings that give some value with what holds of it; comprehensions and loops over whatever is walked. -/
namespace KX
open PySem PySem.Spec PyProof.Rows L2 Evl

/-! ### heaps that tell more -/
def isF : HO → Bool
  | .frz _ _ => true
  | _ => false
def isLst : HO → Bool
  | .lst _ => true
  | _ => false
def isDk : HO → Bool
  | .dK _ => true
  | _ => false
def isDt : HO → Bool
  | .dT _ => true
  | _ => false
def keepB : HO → Bool
  | .dK _ => false
  | .dT _ => false
  | .frz _ _ => false
  | _ => true
/-- all that is read stays so, dicts perhaps locked or unlocked -/
structure Le (H H' : Hp) : Prop where
  rd : ∀ a u, isF u = false → Rd H a u → Rd H' a u
  st : ∀ a o, keepB o = true → H a = some o → H' a = some o
theorem Le.refl (H : Hp) : Le H H := ⟨fun _ _ _ h => h, fun _ _ _ h => h⟩
theorem Le.trans {H H1 H2 : Hp} (a : Le H H1) (b : Le H1 H2) : Le H H2 := ⟨fun x u f h => b.rd x u f (a.rd x u f h), fun x o k h => b.st x o k (a.st x o k h)⟩
theorem Le.ex {H H' : Hp} (e : Ex H H') : Le H H' := ⟨fun _ _ _ h => ex_rd e h, fun a o _ h => e a o h⟩
theorem Le.lock {H : Hp} {d : Addr} {u : HO} {od : Obj} (h : H d = some u) (hk : keepB u = false) (hf : isF u = false) : Le H (upd H d (.frz od u)) := by
  refine ⟨fun a v f q => ?_, fun a o k q => ?_⟩
  · by_cases e : a = d
    · subst e
      rcases q with q | ⟨o, q⟩
      · rw [h] at q
        cases q
        exact .inr ⟨od, upd_same⟩
      · rw [h] at q
        cases q
        cases hf
    · rcases q with q | ⟨o, q⟩
      · exact .inl (by rw [upd_ne e]; exact q)
      · exact .inr ⟨o, by rw [upd_ne e]; exact q⟩
  · have e : a ≠ d := fun e => by
      subst e
      rw [h] at q
      cases q
      rw [hk] at k
      cases k
    rw [upd_ne e]
    exact q
theorem Le.unlock {H : Hp} {d : Addr} {u : HO} {od : Obj} (h : H d = some (.frz od u)) : Le H (upd H d u) := by
  refine ⟨fun a v f q => ?_, fun a o k q => ?_⟩
  · by_cases e : a = d
    · subst e
      rcases q with q | ⟨o, q⟩
      · rw [h] at q
        cases q
        cases f
      · rw [h] at q
        cases q
        exact .inl upd_same
    · rcases q with q | ⟨o, q⟩
      · exact .inl (by rw [upd_ne e]; exact q)
      · exact .inr ⟨o, by rw [upd_ne e]; exact q⟩
  · have e : a ≠ d := fun e => by
      subst e
      rw [h] at q
      cases q
      cases k
    rw [upd_ne e]
    exact q
theorem Le.sqL {K : PySem.W.Frag} {H H' : Hp} {a : Addr} {xs : List V} (e : Le H H') (h : SqL K H a xs) : SqL K H' a xs := h.imp (e.rd _ _ rfl) id
theorem Le.sqT {K : PySem.W.Frag} {H H' : Hp} {a : Addr} {xs : List V} (e : Le H H') (h : SqT K H a xs) : SqT K H' a xs := h.imp (e.rd _ _ rfl) id
theorem ex_unlock {H H1 : Hp} {d : Addr} {u : HO} {od : Obj} (h : H d = some u) (e : Ex (upd H d (.frz od u)) H1) : Ex H (upd H1 d u) := fun a o q => by
  by_cases z : a = d
  · subst z
    rw [h] at q
    cases q
    exact upd_same
  · rw [upd_ne z]
    exact e a o (by rw [upd_ne z]; exact q)

/-! ### what is said of a heap, and stays -/
/-- it stays in all that tells more, and where a thing of a kind is changed -/
structure Stab (kind : HO → Bool) (P : Hp → Prop) : Prop where
  le : ∀ H H', Ex H H' → P H → P H'
  up : ∀ H D o o', kind o = true → kind o' = true → H D = some o → P H → P (upd H D o')
theorem stab_pure {kind : HO → Bool} {p : Prop} : Stab kind (fun _ => p) := ⟨fun _ _ _ h => h, fun _ _ _ _ _ _ _ h => h⟩
theorem stab_and {kind : HO → Bool} {P Q : Hp → Prop} (a : Stab kind P) (b : Stab kind Q) : Stab kind (fun H => P H ∧ Q H) := ⟨fun H H' e h => ⟨a.le H H' e h.1, b.le H H' e h.2⟩, fun H D o o' k k' e h => ⟨a.up H D o o' k k' e h.1, b.up H D o o' k k' e h.2⟩⟩
theorem stab_ex {kind : HO → Bool} {α : Type} {P : α → Hp → Prop} (a : ∀ x, Stab kind (P x)) : Stab kind (fun H => ∃ x, P x H) := ⟨fun H H' e ⟨x, h⟩ => ⟨x, (a x).le H H' e h⟩, fun H D o o' k k' e ⟨x, h⟩ => ⟨x, (a x).up H D o o' k k' e h⟩⟩
theorem stab_all {kind : HO → Bool} {α : Type} {P : α → Hp → Prop} (a : ∀ x, Stab kind (P x)) : Stab kind (fun H => ∀ x, P x H) := ⟨fun H H' e h x => (a x).le H H' e (h x), fun H D o o' k k' e h x => (a x).up H D o o' k k' e (h x)⟩
theorem stab_imp {kind : HO → Bool} {p : Prop} {P : Hp → Prop} (a : p → Stab kind P) : Stab kind (fun H => p → P H) := ⟨fun H H' e h x => (a x).le H H' e (h x), fun H D o o' k k' e h x => (a x).up H D o o' k k' e (h x)⟩
theorem stab_at {kind : HO → Bool} {a : Addr} {o : HO} (hk : keepB o = true) (hn : kind o = false) : Stab kind (fun H => H a = some o) := ⟨fun H H' e h => e a o h, fun H D u u' k _ e h => by
  rw [upd_ne (show a ≠ D from fun z => by
    subst z
    rw [h] at e
    cases e
    rw [hn] at k
    cases k)]
  exact h⟩
theorem stab_rd {kind : HO → Bool} {a : Addr} {o : HO} (hf : isF o = false) (hn : kind o = false) (hz : ∀ ob u, kind (.frz ob u) = false) : Stab kind (fun H => Rd H a o) := ⟨fun H H' e h => ex_rd e h, fun H D u u' k _ e h => by
  have ne : a ≠ D := fun z => by
    subst z
    rcases h with h | ⟨ob, h⟩
    · rw [h] at e
      cases e
      rw [hn] at k
      cases k
    · rw [h] at e
      cases e
      rw [hz] at k
      cases k
  rcases h with h | ⟨ob, h⟩
  · exact .inl (by rw [upd_ne ne]; exact h)
  · exact .inr ⟨ob, by rw [upd_ne ne]; exact h⟩⟩

/-! ### readings that give some value -/
def EvP (te : TE) (σ : L2.St) (H : Hp) (P : V → Hp → Prop) : Prop := ∀ H1, Ex H H1 → ∀ Q : VK, (∀ v H2, Ex H1 H2 → P v H2 → Q v H2) → te σ H1 Q
/-- a new thing -/
def New (te : TE) (σ : L2.St) (H : Hp) (P : HO → Hp → Prop) : Prop := ∀ H1, Ex H H1 → ∀ Q : VK, (∀ p o H2, H1 p = none → Ex H1 H2 → H2 p = some o → P o H2 → Q (.ref p) H2) → te σ H1 Q
section
variable {K : PySem.W.Frag} {σ : L2.St} {H H' : Hp} {te ta tb : TE} {v : V} {P P' : V → Hp → Prop} {N N' : HO → Hp → Prop}
theorem EvP.mono (e : Ex H H') (h : EvP te σ H P) : EvP te σ H' P := fun H1 a Q q => h H1 (e.trans a) Q q
theorem New.mono (e : Ex H H') (h : New te σ H N) : New te σ H' N := fun H1 a Q q => h H1 (e.trans a) Q q
theorem EvP.imp (h : EvP te σ H P) (f : ∀ v H2, Ex H H2 → P v H2 → P' v H2) : EvP te σ H P' := fun H1 e Q q => h H1 e Q fun v H2 e2 p => q v H2 e2 (f v H2 (e.trans e2) p)
theorem New.imp (h : New te σ H N) (f : ∀ o H2, Ex H H2 → N o H2 → N' o H2) : New te σ H N' := fun H1 e Q q => h H1 e Q fun p o H2 e1 e2 e3 n => q p o H2 e1 e2 e3 (f o H2 (e.trans e2) n)
theorem EvP.of (h : Ev te σ H v) : EvP te σ H (fun x _ => x = v) := fun H1 e Q q => h H1 e Q fun H2 e2 => q v H2 e2 rfl
theorem Ev.of (h : EvP te σ H (fun x _ => x = v)) : Ev te σ H v := fun H1 e Q q => h H1 e Q fun x H2 e2 p => by
  rw [p]
  exact q H2 e2
theorem New.evP (h : New te σ H N) : EvP te σ H (fun v H2 => ∃ p o, v = .ref p ∧ H2 p = some o ∧ N o H2) := fun H1 e Q q => h H1 e Q fun p o H2 _ e2 e3 n => q _ H2 e2 ⟨p, o, rfl, e3, n⟩
theorem New.ofL {xs : List V} (h : EvL te σ H xs) : New te σ H (fun o _ => o = .lst xs) := fun H1 e Q q => h H1 e Q fun p H2 e1 e2 e3 => q p _ H2 e1 e2 e3 rfl
theorem New.ofU {xs : List V} (h : EvU te σ H xs) : New te σ H (fun o _ => o = .tup xs) := fun H1 e Q q => h H1 e Q fun p H2 e1 e2 e3 => q p _ H2 e1 e2 e3 rfl
theorem New.toL {xs : List V} (h : New te σ H (fun o _ => o = .lst xs)) : EvL te σ H xs := fun H1 e Q q => h H1 e Q fun p o H2 e1 e2 e3 n => q p H2 e1 e2 (by rw [e3, n])
/-- arguments -/
def EvPA (ta : TA) (σ : L2.St) (H : Hp) (P : List V → Hp → Prop) : Prop := ∀ H1, Ex H H1 → ∀ Q : List V → Hp → Prop, (∀ vs H2, Ex H1 H2 → P vs H2 → Q vs H2) → ta σ H1 Q
theorem pa0 : EvPA tNil σ H (fun vs _ => vs = []) := fun H1 _ _ q => q _ H1 (Ex.refl H1) rfl
theorem pa1 {tr : TA} {Pr : List V → Hp → Prop} (hP : ∀ v H H', Ex H H' → P v H → P v H') (h : EvP te σ H P) (hr : EvPA tr σ H Pr) : EvPA (tCons te tr) σ H (fun vs H2 => ∃ v r, vs = v :: r ∧ P v H2 ∧ Pr r H2) := fun H1 e Q q =>
  h H1 e _ fun v H2 e2 p => hr H2 (e.trans e2) _ fun r H3 e3 pr => q _ H3 (e2.trans e3) ⟨v, r, rfl, hP v H2 H3 e3 p, pr⟩
theorem new_tup {ta : TA} {Pa : List V → Hp → Prop} (h : EvPA ta σ H Pa) (hz : ∀ vs H2, Pa vs H2 → vs.length ≤ 1000) (hP : ∀ vs H H', Ex H H' → Pa vs H → Pa vs H') : New (tTup ta) σ H (fun o H2 => ∃ vs, o = .tup vs ∧ Pa vs H2) := fun H1 e Q q =>
  h H1 e _ fun vs H2 e2 p => ⟨sz_of (Nat.le_trans (hz vs H2 p) (by decide)), fun l hl => q l _ _ (fresh_back e2 hl) (e2.trans (Ex.new hl)) upd_same ⟨vs, rfl, hP vs H2 _ (Ex.new hl) p⟩⟩
/-- the call of a def whose promise gives some value -/
def SpP (sp : Sp) (vs : List V) (H : Hp) (P : V → Hp → Prop) : Prop := ∀ H1, Ex H H1 → ∀ Q : VK, (∀ v H2, Ex H1 H2 → P v H2 → Q v H2) → ∀ E : XK, sp vs H1 Q E
theorem call_P {sp : Sp} {E : XK} {ta : TA} {Pa : List V → Hp → Prop} (h : EvPA ta σ H Pa) (hs : ∀ vs H1, Ex H H1 → Pa vs H1 → SpP sp vs H1 P) : EvP (tCall sp [] E ta) σ H P := fun H1 e Q q =>
  h H1 e _ fun vs H2 e2 p => by
    rw [List.append_nil]
    exact hs vs H2 (e.trans e2) p H2 (Ex.refl H2) Q (fun v H3 e3 pv => q v H3 (e2.trans e3) pv) E
end

/-! ### what is walked -/
/-- walking gives n things, the i-th as told by It; the heap stays -/
def Src (wi : TI) (σ : L2.St) (H : Hp) (n : Nat) (It : Nat → V → Hp → Prop) : Prop := ∀ H1, Ex H H1 → ∀ R : L2.It → Hp → Prop,
  (∀ J G H2, Ex H1 H2 → G H2 → (∀ H3 H4, Ex H3 H4 → G H3 → G H4) → (∀ H3 D o o', D = D → H2 D = none → G H3 → H3 D = some o → G (upd H3 D o')) → Walk J n G (fun i H x H' => H' = H ∧ It i x H) → R J H2) → wi σ H1 R
section
variable {K : PySem.W.Frag} {σ : L2.St} {H : Hp}
theorem src_list {tl : TE} {a : Addr} {xs : List V} (h : Ev tl σ H (.ref a)) (hx : SqL K H a xs) : Src (iList K tl) σ H xs.length (fun i x _ => xs[i]? = some x) := fun H1 e R r =>
  h H1 e _ fun H2 e2 => ⟨a, rfl, ⟨xs, ex_l (e.trans e2) hx⟩, r _ (fun H => SqL K H a xs) H2 e2 (ex_l (e.trans e2) hx) (fun _ _ => ex_l) (fun H3 D o o' _ hD g q => by
    have ne : ∀ u, Rd H2 a u → a ≠ D := fun u z w => by
      subst w
      rcases z with z | ⟨_, z⟩ <;> rw [hD] at z <;> cases z
    rcases g with g | g
    · rcases ex_l (e.trans e2) hx with z | z
      · have n := ne _ z
        rcases g with g | ⟨ob, g⟩
        · exact .inl (.inl (by rw [upd_ne n]; exact g))
        · exact .inl (.inr ⟨ob, by rw [upd_ne n]; exact g⟩)
      · exact .inr z
    · exact .inr g) walk_list⟩
theorem src_tup {tl : TE} {a : Addr} {xs : List V} (h : Ev tl σ H (.ref a)) (hx : SqT K H a xs) : Src (iTup K tl) σ H xs.length (fun i x _ => xs[i]? = some x) := fun H1 e R r =>
  h H1 e _ fun H2 e2 => ⟨a, rfl, ⟨xs, ex_t (e.trans e2) hx⟩, r _ (fun H => SqT K H a xs) H2 e2 (ex_t (e.trans e2) hx) (fun _ _ => ex_t) (fun H3 D o o' _ hD g q => by
    have ne : ∀ u, Rd H2 a u → a ≠ D := fun u z w => by
      subst w
      rcases z with z | ⟨_, z⟩ <;> rw [hD] at z <;> cases z
    rcases g with g | g
    · rcases ex_t (e.trans e2) hx with z | z
      · have n := ne _ z
        rcases g with g | ⟨ob, g⟩
        · exact .inl (.inl (by rw [upd_ne n]; exact g))
        · exact .inl (.inr ⟨ob, by rw [upd_ne n]; exact g⟩)
      · exact .inr z
    · exact .inr g) walk_tup⟩
theorem src_newL {tl : TE} {P : List V → Hp → Prop} {n : Nat} (h : New tl σ H (fun o H2 => ∃ xs, o = .lst xs ∧ xs.length = n ∧ P xs H2)) {It : Nat → V → Hp → Prop} (hI : ∀ xs H2 H3 i x, P xs H2 → xs[i]? = some x → It i x H3) : Src (iList K tl) σ H n It := fun H1 e R r =>
  h H1 e _ fun a o H2 e1 e2 e3 ⟨xs, eo, hl, p⟩ => by
    subst eo hl
    refine ⟨a, rfl, ⟨xs, sq_of e3⟩, r _ (fun H => SqL K H a xs) H2 e2 (sq_of e3) (fun _ _ => ex_l) (fun H3 D o o' _ hD g q => ?_) (walk_list.mono (fun _ g => g) fun i H3 x H4 _ _ y => ⟨y.1, hI xs H2 H3 i x p y.2⟩)⟩
    have n : a ≠ D := fun w => by
      subst w
      rw [hD] at e3
      cases e3
    rcases g with (g | ⟨ob, g⟩) | g
    · exact .inl (.inl (by rw [upd_ne n]; exact g))
    · exact .inl (.inr ⟨ob, by rw [upd_ne n]; exact g⟩)
    · exact .inr g
/-- .. whose items are told by tuples that stay -/
theorem src_newT {tl : TE} {P : List V → Hp → Prop} {n : Nat} (h : New tl σ H (fun o H2 => ∃ xs, o = .lst xs ∧ xs.length = n ∧ P xs H2)) {It : Nat → V → Hp → Prop} (hI : ∀ xs H2 H3 i x, (∀ b vs, H2 b = some (.tup vs) → H3 b = some (.tup vs)) → P xs H2 → xs[i]? = some x → It i x H3) : Src (iList K tl) σ H n It := fun H1 e R r =>
  h H1 e _ fun a o H2 e1 e2 e3 ⟨xs, eo, hl, p⟩ => by
    subst eo hl
    refine ⟨a, rfl, ⟨xs, sq_of e3⟩, r _ (fun H => SqL K H a xs ∧ ∀ b vs, H2 b = some (.tup vs) → H b = some (.tup vs)) H2 e2 ⟨sq_of e3, fun _ _ z => z⟩ (fun _ _ e g => ⟨ex_l e g.1, fun b vs z => e _ _ (g.2 b vs z)⟩) (fun H3 D o o' _ hD g q => ?_) ((walk_list.mono (G' := fun H => SqL K H a xs ∧ ∀ b vs, H2 b = some (.tup vs) → H b = some (.tup vs)) (fun _ g => g.1) fun i H3 x H4 _ g y => ⟨y.1, hI xs H2 H3 i x g.2 p y.2⟩))⟩
    have n : a ≠ D := fun w => by
      subst w
      rw [hD] at e3
      cases e3
    refine ⟨?_, fun b vs z => ?_⟩
    · rcases g.1 with (g | ⟨ob, g⟩) | g
      · exact .inl (.inl (by rw [upd_ne n]; exact g))
      · exact .inl (.inr ⟨ob, by rw [upd_ne n]; exact g⟩)
      · exact .inr g
    · rw [upd_ne (show b ≠ D from fun w => by
        subst w
        rw [hD] at z
        cases z)]
      exact g.2 b vs z
theorem src_str {tl : TE} {z : Str} (h : Ev tl σ H (.str z)) : Src (iStr tl) σ H z.cps.size (fun i x _ => ∃ c, z.cps[i]? = some c ∧ x = .str ⟨#[c]⟩) := fun H1 e R r =>
  h H1 e _ fun H2 e2 => ⟨z, rfl, r _ (fun _ => True) H2 e2 trivial (fun _ _ _ _ => trivial) (fun _ _ _ _ _ _ _ _ => trivial) walk_str⟩
/-- the keys of a locked dict -/
theorem src_keysK {td : TE} {d : Addr} {o : Obj} {kvs : List (Key × V)} (h : Ev td σ H (.ref d)) (hd : H d = some (.frz o (.dK kvs))) : Src (iKeys td) σ H kvs.length (fun i x _ => ∃ k v, kvs[i]? = some (k, v) ∧ x = kV k) := fun H1 e R r =>
  h H1 e _ fun H2 e2 => ⟨d, o, rfl, .inl ⟨kvs, (e.trans e2) _ _ hd, r _ (fun H => H d = some (.frz o (.dK kvs))) H2 e2 ((e.trans e2) _ _ hd) (fun _ _ e3 g => e3 _ _ g) (fun H3 D u u' _ hD g q => by
    rw [upd_ne (show d ≠ D from fun w => by
      subst w
      rw [(e.trans e2) _ _ hd] at hD
      cases hD)]
    exact g) walk_keys⟩⟩
theorem src_keysT {td : TE} {d : Addr} {o : Obj} {kvs : List (List Key × V)} (h : Ev td σ H (.ref d)) (hd : H d = some (.frz o (.dT kvs))) : Src (iKeys td) σ H kvs.length (fun i x H => ∃ (k : List Key) (v : V) (q : Addr), kvs[i]? = some (k, v) ∧ x = .ref q ∧ H q = some (.tup (k.map kV))) := fun H1 e R r =>
  h H1 e _ fun H2 e2 => ⟨d, o, rfl, .inr ⟨kvs, (e.trans e2) _ _ hd, r _ (fun H => H d = some (.frz o (.dT kvs))) H2 e2 ((e.trans e2) _ _ hd) (fun _ _ e3 g => e3 _ _ g) (fun H3 D u u' _ hD g q => by
    rw [upd_ne (show d ≠ D from fun w => by
      subst w
      rw [(e.trans e2) _ _ hd] at hD
      cases hD)]
    exact g) walk_keysT⟩⟩
end
end KX

namespace KX
open PySem PySem.Spec PyProof.Rows L2 Evl
theorem nodup_ix' {α : Type} {l : List α} (hN : l.Nodup) {i j : Nat} {x : α} (a : l[i]? = some x) (b : l[j]? = some x) : i = j := by
  obtain ⟨h1, e1⟩ := List.getElem?_eq_some_iff.mp a
  obtain ⟨h2, e2⟩ := List.getElem?_eq_some_iff.mp b
  exact (List.getElem_inj hN).mp (e1.trans e2.symm)
/-- a dict comprehension over a walk -/
theorem dp_it {J : L2.It} {n : Nat} {G : Hp → Prop} {Y : Nat → Hp → V → Hp → Prop} (w : Walk J n G Y) {O : HO} {g : TG} {tt : TT} {tk tv : TE} {vs : List Nat} {σ : L2.St} {H1 : Hp} {D : Addr} {Qd : Hp → Prop} (Pv : Nat → Hp → Prop) (h0 : Pv 0 (upd H1 D O)) (hG : ∀ i H, i ≤ n → Pv i H → G H)
    (hs : ∀ i x H H', i < n → Pv i H → Y i H x H' → g x (wipe σ vs) H' fun σ2 H2 => wipe σ2 vs = wipe σ vs ∧ tt σ2 H2 fun b H3 => if b = true then tk σ2 H3 fun y H4 => tv σ2 H4 fun z H5 => ∃ H6, DPut H5 D y z H6 ∧ Pv (i + 1) H6 else Pv (i + 1) H3) (hd : ∀ H, Pv n H → Qd H) :
    ∃ W : Nat → Nat → Hp → Prop, (∃ m, W 0 m (upd H1 D O)) ∧ ∀ i m H, W i m H → (J.stop i H ∧ Qd H) ∨ (J.go i H ∧ ∃ Nx : Hp → Prop, (∀ H', Nx H' → ∃ m', m' < m ∧ W (i + 1) m' H') ∧ ∀ x H', J.yld i H x H' → g x (wipe σ vs) H' fun σ2 H2 => wipe σ2 vs = wipe σ vs ∧ tt σ2 H2 fun b H3 =>
      if b = true then tk σ2 H3 fun y H4 => tv σ2 H4 fun z H5 => ∃ H6, DPut H5 D y z H6 ∧ Nx H6 else Nx H3) := by
  refine ⟨fun i m H => m = n - i ∧ i ≤ n ∧ Pv i H, ⟨n, by simp, Nat.zero_le _, h0⟩, ?_⟩
  rintro i m H ⟨rfl, hi, p⟩
  have q := hG i H hi p
  by_cases hlt : i < n
  · exact .inr ⟨w.goes i H hlt q, Pv (i + 1), fun H' p' => ⟨n - (i + 1), by omega, rfl, hlt, p'⟩, fun x H' y => hs i x H H' hlt p (w.yields i H x H' hlt q y)⟩
  · obtain rfl : i = n := by omega
    exact .inl ⟨w.stops H q, hd H p⟩
/-! ### comprehensions -/
section
variable {K : PySem.W.Frag} {σ : L2.St} {H : Hp} {wi : TI} {n : Nat} {It : Nat → V → Hp → Prop} {te tk tv : TE} {j : Nat} {ws : List Nat}
/-- [te for j in wi] -/
theorem new_lc (S : Src wi σ H n It) (hz : n ≤ 100000) (hw : ∀ x, wipe ((wipe σ ws).set j (some x)) ws = wipe σ ws) (P : Nat → V → Hp → Prop) (hP : ∀ i x, Stab isLst (P i x))
    (he : ∀ i x H', Ex H H' → i < n → It i x H' → EvP te ((wipe σ ws).set j (some x)) H' (P i)) : New (tLc wi (gName j) tYes te ws) σ H (fun o H2 => ∃ xs, o = .lst xs ∧ xs.length = n ∧ ∀ i x, xs[i]? = some x → P i x H2) := fun H1 e Q q =>
  S H1 e _ fun J G H2 e2 g2 gx gu w D hD => by
    refine lc_it w (fun i H' => Ex H2 H' ∧ G H' ∧ ∃ acc, H' D = some (.lst acc) ∧ acc.length = i ∧ ∀ k x, acc[k]? = some x → P k x H') ⟨Ex.new hD, gx _ _ (Ex.new hD) g2, [], upd_same, rfl, fun k x h => by simp at h⟩ (fun i H' _ p => p.2.1) (fun i x H' H'' hi p y => ?_) fun H' p => ?_
    · obtain ⟨rfl, hI⟩ := y
      obtain ⟨ex, g, acc, ha, hl, hp⟩ := p
      refine ⟨hw x, ?_⟩
      unfold tYes
      refine iteT ?_
      refine he i x H'' ((e.trans e2).trans ex) hi hI H'' (Ex.refl _) _ fun y H4 e4 py => ?_
      have ha4 := e4 _ _ ha
      refine ⟨acc, ha4, sz_lt (by omega), Ex.mut (ex.trans e4) hD, gu H4 D _ _ rfl hD (gx _ _ e4 g) ha4, acc ++ [y], upd_same, by rw [List.length_append, hl]; rfl, fun k x h => ?_⟩
      by_cases hk : k < acc.length
      · rw [List.getElem?_append_left hk] at h
        exact (hP k x).up _ _ _ _ rfl rfl ha4 ((hP k x).le _ _ e4 (hp k x h))
      · rw [List.getElem?_append_right (by omega)] at h
        have e0 : k - acc.length = 0 := by
          cases hh : k - acc.length with
          | zero => rfl
          | succ m => rw [hh] at h; simp at h
        rw [e0] at h
        obtain rfl : y = x := by simpa using h
        obtain rfl : k = i := by omega
        exact (hP k y).up _ _ _ _ rfl rfl ha4 py
    · obtain ⟨ex, g, acc, ha, hl, hp⟩ := p
      exact q D _ H' (fresh_back e2 hD) (e2.trans ex) ha ⟨acc, rfl, hl, hp⟩
/-- .. pure values -/
theorem el_lcW (S : Src wi σ H n It) (hz : n ≤ 100000) (hw : ∀ x, wipe ((wipe σ ws).set j (some x)) ws = wipe σ ws) (xs : List V) (hl : xs.length = n)
    (he : ∀ i x y H', Ex H H' → xs[i]? = some y → It i x H' → Ev te ((wipe σ ws).set j (some x)) H' y) : EvL (tLc wi (gName j) tYes te ws) σ H xs := by
  have h := new_lc (te := te) (It := It) S hz hw (fun i x _ => xs[i]? = some x) (fun _ _ => stab_pure) (fun i x H' e hi hI => by
    have hx : xs[i]? = some xs[i] := List.getElem?_eq_getElem (by omega)
    exact (EvP.of (he i x _ H' e hx hI)).imp fun v _ _ p => by rw [p]; exact hx)
  refine (h.imp fun o H2 _ p => ?_ : New _ σ H (fun o _ => o = .lst xs)).toL
  obtain ⟨ys, rfl, hl2, hp⟩ := p
  congr 1
  apply List.ext_getElem?
  intro i
  cases hy : ys[i]? with
  | some y => exact (hp i y hy).symm
  | none =>
    have := List.getElem?_eq_none_iff.mp hy
    exact (List.getElem?_eq_none (by omega)).symm
/-- {tk: tv for j in wi}, keys that are ints and texts, all unlike -/
theorem new_dpK (S : Src wi σ H n It) (hz : n ≤ 100000) (hw : ∀ x, wipe ((wipe σ ws).set j (some x)) ws = wipe σ ws) (ks : List Key) (hl : ks.length = n) (hnd : ks.Nodup) (P : Nat → V → Hp → Prop) (hP : ∀ i x, Stab isDk (P i x))
    (hk : ∀ i x k H', Ex H H' → ks[i]? = some k → It i x H' → Ev tk ((wipe σ ws).set j (some x)) H' (kV k)) (he : ∀ i x H', Ex H H' → i < n → It i x H' → EvP tv ((wipe σ ws).set j (some x)) H' (P i)) (hI : ∀ i x H' H'', Ex H' H'' → It i x H' → It i x H'') :
    New (tDp (.dK []) wi (gName j) tYes tk tv ws) σ H (fun o H2 => ∃ kvs, o = .dK kvs ∧ kvs.map (·.1) = ks ∧ ∀ i p, kvs[i]? = some p → P i p.2 H2) := fun H1 e Q q =>
  S H1 e _ fun J G H2 e2 g2 gx gu w D hD => by
    refine dp_it w (fun i H' => Ex H2 H' ∧ G H' ∧ ∃ kvs : List (Key × V), H' D = some (.dK kvs) ∧ kvs.map (·.1) = ks.take i ∧ ∀ k p, kvs[k]? = some p → P k p.2 H') ⟨Ex.new hD, gx _ _ (Ex.new hD) g2, [], upd_same, rfl, fun k x h => by simp at h⟩ (fun i H' _ p => p.2.1) (fun i x H' H'' hi p y => ?_) fun H' p => ?_
    · obtain ⟨rfl, hx⟩ := y
      obtain ⟨ex, g, kvs, ha, hm, hp⟩ := p
      refine ⟨hw x, ?_⟩
      unfold tYes
      refine iteT ?_
      have hki : ks[i]? = some ks[i] := List.getElem?_eq_getElem (by omega)
      refine hk i x _ H'' ((e.trans e2).trans ex) hki hx H'' (Ex.refl _) _ fun H3 e3 => ?_
      refine he i x H3 (((e.trans e2).trans ex).trans e3) hi (hI i x _ _ e3 hx) H3 (Ex.refl _) _ fun y H4 e4 py => ?_
      have e34 := e3.trans e4
      have ha4 := e34 _ _ ha
      have hlen : kvs.length = i := by
        have := congrArg List.length hm
        rw [List.length_map, List.length_take] at this
        omega
      have hnew : valV kvs ks[i] = none := by
        cases hv : valV kvs ks[i] with
        | none => rfl
        | some z =>
          obtain ⟨m, hmem⟩ := List.mem_iff_getElem?.mp (valV_in hv)
          have h1 := hmem
          rw [hm] at h1
          have hmi : m < i := by
            have := (List.getElem?_eq_some_iff.mp h1).1
            rw [List.length_take] at this
            omega
          rw [List.getElem?_take_of_lt hmi] at h1
          have := nodup_ix' hnd h1 hki
          omega
      have eput : putK kvs ks[i] y = kvs ++ [(ks[i], y)] := putK_new _ hnew
      refine ⟨_, DPut.k ha4 (sz_lt (by omega)), ?_⟩
      rw [eput]
      refine ⟨Ex.mut (ex.trans e34) hD, gu H4 D _ _ rfl hD (gx _ _ e34 g) ha4, _, upd_same, by rw [List.map_append, hm, List.take_succ, hki]; rfl, fun k p h => ?_⟩
      by_cases hk : k < kvs.length
      · rw [List.getElem?_append_left hk] at h
        exact (hP k _).up _ _ _ _ rfl rfl ha4 ((hP k _).le _ _ e34 (hp k p h))
      · rw [List.getElem?_append_right (by omega)] at h
        have e0 : k - kvs.length = 0 := by
          cases hh : k - kvs.length with
          | zero => rfl
          | succ m => rw [hh] at h; simp at h
        rw [e0] at h
        obtain rfl : (ks[i], y) = p := by simpa using h
        obtain rfl : k = i := by omega
        exact (hP k _).up _ _ _ _ rfl rfl ha4 py
    · obtain ⟨ex, g, kvs, ha, hm, hp⟩ := p
      exact q D _ H' (fresh_back e2 hD) (e2.trans ex) ha ⟨kvs, rfl, by rw [hm, List.take_of_length_le (by omega)], hp⟩
/-- .. keys that are tuples of these -/
theorem new_dpT (S : Src wi σ H n It) (hz : n ≤ 100000) (hw : ∀ x, wipe ((wipe σ ws).set j (some x)) ws = wipe σ ws) (ks : List (List Key)) (hl : ks.length = n) (hnd : ks.Nodup) (P : Nat → V → Hp → Prop) (hP : ∀ i x, Stab isDt (P i x))
    (hk : ∀ i x k H', Ex H H' → ks[i]? = some k → It i x H' → EvP tk ((wipe σ ws).set j (some x)) H' (fun v H2 => ∃ b, v = .ref b ∧ H2 b = some (.tup (k.map kV)))) (he : ∀ i x H', Ex H H' → i < n → It i x H' → EvP tv ((wipe σ ws).set j (some x)) H' (P i)) (hI : ∀ i x H' H'', Ex H' H'' → It i x H' → It i x H'') :
    New (tDp (.dT []) wi (gName j) tYes tk tv ws) σ H (fun o H2 => ∃ kvs, o = .dT kvs ∧ kvs.map (·.1) = ks ∧ ∀ i p, kvs[i]? = some p → P i p.2 H2) := fun H1 e Q q =>
  S H1 e _ fun J G H2 e2 g2 gx gu w D hD => by
    refine dp_it w (fun i H' => Ex H2 H' ∧ G H' ∧ ∃ kvs : List (List Key × V), H' D = some (.dT kvs) ∧ kvs.map (·.1) = ks.take i ∧ ∀ k p, kvs[k]? = some p → P k p.2 H') ⟨Ex.new hD, gx _ _ (Ex.new hD) g2, [], upd_same, rfl, fun k x h => by simp at h⟩ (fun i H' _ p => p.2.1) (fun i x H' H'' hi p y => ?_) fun H' p => ?_
    · obtain ⟨rfl, hx⟩ := y
      obtain ⟨ex, g, kvs, ha, hm, hp⟩ := p
      refine ⟨hw x, ?_⟩
      unfold tYes
      refine iteT ?_
      have hki : ks[i]? = some ks[i] := List.getElem?_eq_getElem (by omega)
      refine hk i x _ H'' ((e.trans e2).trans ex) hki hx H'' (Ex.refl _) _ fun kv H3 e3 ⟨b, ekv, hb⟩ => ?_
      subst ekv
      refine he i x H3 (((e.trans e2).trans ex).trans e3) hi (hI i x _ _ e3 hx) H3 (Ex.refl _) _ fun y H4 e4 py => ?_
      have e34 := e3.trans e4
      have ha4 := e34 _ _ ha
      have hlen : kvs.length = i := by
        have := congrArg List.length hm
        rw [List.length_map, List.length_take] at this
        omega
      have hnew : valV kvs ks[i] = none := by
        cases hv : valV kvs ks[i] with
        | none => rfl
        | some z =>
          obtain ⟨m, h1⟩ := List.mem_iff_getElem?.mp (valV_in hv)
          rw [hm] at h1
          have hmi : m < i := by
            have := (List.getElem?_eq_some_iff.mp h1).1
            rw [List.length_take] at this
            omega
          rw [List.getElem?_take_of_lt hmi] at h1
          have := nodup_ix' hnd h1 hki
          omega
      have eput : putK kvs ks[i] y = kvs ++ [(ks[i], y)] := putK_new _ hnew
      refine ⟨_, DPut.t ha4 (e4 _ _ hb) (sz_lt (by omega)), ?_⟩
      rw [eput]
      refine ⟨Ex.mut (ex.trans e34) hD, gu H4 D _ _ rfl hD (gx _ _ e34 g) ha4, _, upd_same, by rw [List.map_append, hm, List.take_succ, hki]; rfl, fun k p h => ?_⟩
      by_cases hk : k < kvs.length
      · rw [List.getElem?_append_left hk] at h
        exact (hP k _).up _ _ _ _ rfl rfl ha4 ((hP k _).le _ _ e34 (hp k p h))
      · rw [List.getElem?_append_right (by omega)] at h
        have e0 : k - kvs.length = 0 := by
          cases hh : k - kvs.length with
          | zero => rfl
          | succ m => rw [hh] at h; simp at h
        rw [e0] at h
        obtain rfl : (ks[i], y) = p := by simpa using h
        obtain rfl : k = i := by omega
        exact (hP k _).up _ _ _ _ rfl rfl ha4 py
    · obtain ⟨ex, g, kvs, ha, hm, hp⟩ := p
      exact q D _ H' (fresh_back e2 hD) (e2.trans ex) ha ⟨kvs, rfl, by rw [hm, List.take_of_length_le (by omega)], hp⟩
/-- a reading under a lock -/
theorem lock_EvP {td : TE} {d : Addr} {u : HO} {P : V → Hp → Prop} (hd : H d = some u) (mu : Mut (some u)) (hP : ∀ v H H', Le H H' → P v H → P v H') (h : ∀ od, EvP td σ (upd H d (.frz od u)) P) : EvP (tLockE td) σ H P := fun H1 e Q q =>
  ⟨d, u, e _ _ hd, mu, fun od => h od _ (fun a o g => by
    by_cases z : a = d
    · subst z
      rw [upd_same] at g ⊢
      exact g
    · rw [upd_ne z] at g ⊢
      exact e a o g) _ fun v H2 e2 p => by
        have hf : H2 d = some (.frz od u) := e2 _ _ upd_same
        exact ⟨hf, q v _ (ex_unlock (e _ _ hd) e2) (hP v _ _ (Le.unlock hf) p)⟩⟩
theorem lock_New {td : TE} {d : Addr} {u : HO} {N : HO → Hp → Prop} (hd : H d = some u) (mu : Mut (some u)) (hN : ∀ v H H', Le H H' → N v H → N v H') (h : ∀ od, New td σ (upd H d (.frz od u)) N) : New (tLockE td) σ H N := fun H1 e Q q =>
  ⟨d, u, e _ _ hd, mu, fun od => h od _ (fun a o g => by
    by_cases z : a = d
    · subst z
      rw [upd_same] at g ⊢
      exact g
    · rw [upd_ne z] at g ⊢
      exact e a o g) _ fun p o H2 e1 e2 e3 n => by
        have hf : H2 d = some (.frz od u) := e2 _ _ upd_same
        have npd : p ≠ d := fun z => by
          subst z
          rw [upd_same] at e1
          cases e1
        refine ⟨hf, q p o _ (by rw [upd_ne npd] at e1; exact e1) (ex_unlock (e _ _ hd) e2) (by rw [upd_ne npd]; exact e3) (hN o _ _ (Le.unlock hf) n)⟩⟩
theorem lock_EvL {td : TE} {d : Addr} {u : HO} {xs : List V} (hd : H d = some u) (mu : Mut (some u)) (h : ∀ od, EvL td σ (upd H d (.frz od u)) xs) : EvL (tLockE td) σ H xs :=
  New.toL (lock_New hd mu (fun _ _ _ _ n => n) fun od => New.ofL (h od))
/-- for j in a text -/
theorem s_forS {tb : TS} {D : Ends} {tl : TE} {z : Str} (h : Ev tl σ H (.str z)) (Pv : Nat → L2.St → Hp → Prop) (h0 : ∀ H1, Ex H H1 → Pv 0 σ H1)
    (hs : ∀ i c σ' H', z.cps[i]? = some c → Pv i σ' H' → tb { D with nx := Pv (i + 1), ct := Pv (i + 1), bk := D.nx } (σ'.set j (some (.str ⟨#[c]⟩))) H') (hd : ∀ σ' H', Pv z.cps.size σ' H' → D.nx σ' H') : tFor (iStr tl) (gName j) tb D σ H :=
  h H (Ex.refl H) _ fun H1 e => ⟨z, rfl, for_it walk_str Pv (h0 H1 e) (fun _ _ _ _ _ => trivial) (fun i x σ' H' H'' _ p y => by
    obtain ⟨rfl, c, hc, rfl⟩ := y
    exact hs i c σ' H'' hc p) hd⟩
/-- for k, x in enumerate(text) -/
theorem s_forE {tb : TS} {D : Ends} {ta : TA} {z : Str} {g : TG} (h : EvA ta σ H [.str z]) (Pv : Nat → L2.St → Hp → Prop) (h0 : ∀ H1, Ex H H1 → Pv 0 σ H1)
    (hs : ∀ (i : Nat) c T σ' H', z.cps[i]? = some c → Pv i σ' H' → H' T = none → g (.ref T) σ' (upd H' T (.tup [.int (i : Nat), .str ⟨#[c]⟩])) fun σ2 H2 => tb { D with nx := Pv (i + 1), ct := Pv (i + 1), bk := D.nx } σ2 H2) (hd : ∀ σ' H', Pv z.cps.size σ' H' → D.nx σ' H') : tFor (iEnumS ta) g tb D σ H :=
  h H (Ex.refl H) _ fun H1 e => ⟨z, rfl, for_it walk_enumS Pv (h0 H1 e) (fun _ _ _ _ _ => trivial) (fun i x σ' H' H'' _ p y => by
    obtain ⟨T, c, rfl, hT, rfl, hc⟩ := y
    exact hs i c T σ' H' hc p hT) hd⟩
end
end KX
end
section
set_option Elab.async false
set_option linter.all false
set_option maxRecDepth 100000
set_option maxHeartbeats 4000000
namespace KX
open PySem PySem.Spec PyProof.Rows L2
/-- the name under which rows ask whether an item is held -/
abbrev gl_is_held : Str := "is_held_parts"
def top (i : Nat) : Stmt := PySem.Challenge.pw_passtexts_k17_whole_powers_written.main.body.getD i (.Pass ⟨0, 0, 0, 0⟩)
abbrev s_wall : Stmt := top 0
abbrev n_wall : List Str := ["k"]
theorem sc_wall : FnScope n_wall ["k"] (defScope s_wall) := ⟨rfl, rfl, rfl, by decide +kernel, rfl, by decide +kernel, by decide +kernel⟩
abbrev s_Pieces__init : Stmt := inClass (top 8) 0
abbrev n_Pieces__init : List Str := ["self"]
theorem sc_Pieces__init : FnScope n_Pieces__init ["self"] (defScope s_Pieces__init) := ⟨rfl, rfl, rfl, by decide +kernel, rfl, by decide +kernel, by decide +kernel⟩
abbrev s_Pieces_text : Stmt := inClass (top 8) 1
abbrev n_Pieces_text : List Str := ["self", "text"]
theorem sc_Pieces_text : FnScope n_Pieces_text ["self", "text"] (defScope s_Pieces_text) := ⟨rfl, rfl, rfl, by decide +kernel, rfl, by decide +kernel, by decide +kernel⟩
abbrev s_Pieces_joined : Stmt := inClass (top 8) 2
abbrev n_Pieces_joined : List Str := ["self", "numbers", "whole", "number"]
theorem sc_Pieces_joined : FnScope n_Pieces_joined ["self", "numbers"] (defScope s_Pieces_joined) := ⟨rfl, rfl, rfl, by decide +kernel, rfl, by decide +kernel, by decide +kernel⟩
abbrev s_Pieces_row_of : Stmt := inClass (top 8) 3
abbrev n_Pieces_row_of : List Str := ["self", "row", "item"]
theorem sc_Pieces_row_of : FnScope n_Pieces_row_of ["self", "row"] (defScope s_Pieces_row_of) := ⟨rfl, rfl, rfl, by decide +kernel, rfl, by decide +kernel, by decide +kernel⟩
abbrev s_Pieces_held_behind : Stmt := inClass (top 8) 4
abbrev n_Pieces_held_behind : List Str := ["self", "rows", "held", "name", "item"]
theorem sc_Pieces_held_behind : FnScope n_Pieces_held_behind ["self", "rows", "held"] (defScope s_Pieces_held_behind) := ⟨rfl, rfl, rfl, by decide +kernel, rfl, by decide +kernel, by decide +kernel⟩
abbrev s_Pieces_twice : Stmt := inClass (top 8) 5
abbrev n_Pieces_twice : List Str := ["self", "rows", "name"]
theorem sc_Pieces_twice : FnScope n_Pieces_twice ["self", "rows"] (defScope s_Pieces_twice) := ⟨rfl, rfl, rfl, by decide +kernel, rfl, by decide +kernel, by decide +kernel⟩
abbrev s_Pieces_within : Stmt := inClass (top 8) 6
abbrev n_Pieces_within : List Str := ["self", "row", "rows", "found", "numbers", "item", "part"]
theorem sc_Pieces_within : FnScope n_Pieces_within ["self", "row", "rows"] (defScope s_Pieces_within) := ⟨rfl, rfl, rfl, by decide +kernel, rfl, by decide +kernel, by decide +kernel⟩
abbrev s_is_held_pieces : Stmt := top 9
abbrev n_is_held_pieces : List Str := ["item"]
theorem sc_is_held_pieces : FnScope n_is_held_pieces ["item"] (defScope s_is_held_pieces) := ⟨rfl, rfl, rfl, by decide +kernel, rfl, by decide +kernel, by decide +kernel⟩
abbrev s_is_number : Stmt := top 14
abbrev n_is_number : List Str := ["thing"]
theorem sc_is_number : FnScope n_is_number ["thing"] (defScope s_is_number) := ⟨rfl, rfl, rfl, by decide +kernel, rfl, by decide +kernel, by decide +kernel⟩
abbrev s_is_made_of : Stmt := top 15
abbrev n_is_made_of : List Str := ["thing", "signs"]
theorem sc_is_made_of : FnScope n_is_made_of ["thing", "signs"] (defScope s_is_made_of) := ⟨rfl, rfl, rfl, by decide +kernel, rfl, by decide +kernel, by decide +kernel⟩
abbrev s_is_text : Stmt := top 16
abbrev n_is_text : List Str := ["thing"]
theorem sc_is_text : FnScope n_is_text ["thing"] (defScope s_is_text) := ⟨rfl, rfl, rfl, by decide +kernel, rfl, by decide +kernel, by decide +kernel⟩
abbrev s_is_word : Stmt := top 17
abbrev n_is_word : List Str := ["thing"]
theorem sc_is_word : FnScope n_is_word ["thing"] (defScope s_is_word) := ⟨rfl, rfl, rfl, by decide +kernel, rfl, by decide +kernel, by decide +kernel⟩
abbrev s_check_word : Stmt := top 18
abbrev n_check_word : List Str := ["letters", "text", "place", "letter"]
theorem sc_check_word : FnScope n_check_word ["letters", "text"] (defScope s_check_word) := ⟨rfl, rfl, rfl, by decide +kernel, rfl, by decide +kernel, by decide +kernel⟩
abbrev s_first_wrong : Stmt := top 23
abbrev n_first_wrong : List Str := ["letters", "states", "registers", "firsts", "steps", "ends", "known", "name"]
theorem sc_first_wrong : FnScope n_first_wrong ["letters", "states", "registers", "firsts", "steps", "ends"] (defScope s_first_wrong) := ⟨rfl, rfl, rfl, by decide +kernel, rfl, by decide +kernel, by decide +kernel⟩
abbrev s_are_letters : Stmt := top 24
abbrev n_are_letters : List Str := ["letters"]
theorem sc_are_letters : FnScope n_are_letters ["letters"] (defScope s_are_letters) := ⟨rfl, rfl, rfl, by decide +kernel, rfl, by decide +kernel, by decide +kernel⟩
abbrev s_are_registers : Stmt := top 25
abbrev n_are_registers : List Str := ["registers", "name"]
theorem sc_are_registers : FnScope n_are_registers ["registers"] (defScope s_are_registers) := ⟨rfl, rfl, rfl, by decide +kernel, rfl, by decide +kernel, by decide +kernel⟩
abbrev s_are_firsts : Stmt := top 26
abbrev n_are_firsts : List Str := ["firsts", "known", "name"]
theorem sc_are_firsts : FnScope n_are_firsts ["firsts", "known"] (defScope s_are_firsts) := ⟨rfl, rfl, rfl, by decide +kernel, rfl, by decide +kernel, by decide +kernel⟩
abbrev s_are_steps : Stmt := top 27
abbrev n_are_steps : List Str := ["steps", "letters", "states", "known", "key"]
theorem sc_are_steps : FnScope n_are_steps ["steps", "letters", "states", "known"] (defScope s_are_steps) := ⟨rfl, rfl, rfl, by decide +kernel, rfl, by decide +kernel, by decide +kernel⟩
abbrev s_is_place : Stmt := top 28
abbrev n_is_place : List Str := ["key", "letters", "states", "state", "letter"]
theorem sc_is_place : FnScope n_is_place ["key", "letters", "states"] (defScope s_is_place) := ⟨rfl, rfl, rfl, by decide +kernel, rfl, by decide +kernel, by decide +kernel⟩
abbrev s_is_state : Stmt := top 29
abbrev n_is_state : List Str := ["state", "states"]
theorem sc_is_state : FnScope n_is_state ["state", "states"] (defScope s_is_state) := ⟨rfl, rfl, rfl, by decide +kernel, rfl, by decide +kernel, by decide +kernel⟩
abbrev s_is_step : Stmt := top 30
abbrev n_is_step : List Str := ["step", "states", "known"]
theorem sc_is_step : FnScope n_is_step ["step", "states", "known"] (defScope s_is_step) := ⟨rfl, rfl, rfl, by decide +kernel, rfl, by decide +kernel, by decide +kernel⟩
abbrev s_are_rows : Stmt := top 31
abbrev n_are_rows : List Str := ["rows", "known", "name"]
theorem sc_are_rows : FnScope n_are_rows ["rows", "known"] (defScope s_are_rows) := ⟨rfl, rfl, rfl, by decide +kernel, rfl, by decide +kernel, by decide +kernel⟩
abbrev s_is_row : Stmt := top 32
abbrev n_is_row : List Str := ["row", "known", "item"]
theorem sc_is_row : FnScope n_is_row ["row", "known"] (defScope s_is_row) := ⟨rfl, rfl, rfl, by decide +kernel, rfl, by decide +kernel, by decide +kernel⟩
abbrev s_is_held : Stmt := top 33
abbrev n_is_held : List Str := ["item", "known"]
theorem sc_is_held : FnScope n_is_held ["item", "known"] (defScope s_is_held) := ⟨rfl, rfl, rfl, by decide +kernel, rfl, by decide +kernel, by decide +kernel⟩
abbrev s_are_ends : Stmt := top 35
abbrev n_are_ends : List Str := ["ends", "states", "known", "state"]
theorem sc_are_ends : FnScope n_are_ends ["ends", "states", "known"] (defScope s_are_ends) := ⟨rfl, rfl, rfl, by decide +kernel, rfl, by decide +kernel, by decide +kernel⟩
abbrev s_row_of : Stmt := top 37
abbrev n_row_of : List Str := ["items", "row", "texts", "item"]
theorem sc_row_of : FnScope n_row_of ["items"] (defScope s_row_of) := ⟨rfl, rfl, rfl, by decide +kernel, rfl, by decide +kernel, by decide +kernel⟩
abbrev s_put_text : Stmt := top 38
abbrev n_put_text : List Str := ["row", "texts", "text"]
theorem sc_put_text : FnScope n_put_text ["row", "texts"] (defScope s_put_text) := ⟨rfl, rfl, rfl, by decide +kernel, rfl, by decide +kernel, by decide +kernel⟩
abbrev s_text_of : Stmt := top 39
abbrev n_text_of : List Str := ["row", "held", "item"]
theorem sc_text_of : FnScope n_text_of ["row", "held"] (defScope s_text_of) := ⟨rfl, rfl, rfl, by decide +kernel, rfl, by decide +kernel, by decide +kernel⟩
abbrev s_filled : Stmt := top 40
abbrev n_filled : List Str := ["row", "rows", "items", "item"]
theorem sc_filled : FnScope n_filled ["row", "rows"] (defScope s_filled) := ⟨rfl, rfl, rfl, by decide +kernel, rfl, by decide +kernel, by decide +kernel⟩
abbrev s_names_in : Stmt := top 41
abbrev n_names_in : List Str := ["row", "item"]
theorem sc_names_in : FnScope n_names_in ["row"] (defScope s_names_in) := ⟨rfl, rfl, rfl, by decide +kernel, rfl, by decide +kernel, by decide +kernel⟩
abbrev s_names_in_rows : Stmt := top 42
abbrev n_names_in_rows : List Str := ["rows", "names", "told", "name"]
theorem sc_names_in_rows : FnScope n_names_in_rows ["rows", "names"] (defScope s_names_in_rows) := ⟨rfl, rfl, rfl, by decide +kernel, rfl, by decide +kernel, by decide +kernel⟩
abbrev s_first_double : Stmt := top 43
abbrev n_first_double : List Str := ["names", "met", "name"]
theorem sc_first_double : FnScope n_first_double ["names"] (defScope s_first_double) := ⟨rfl, rfl, rfl, by decide +kernel, rfl, by decide +kernel, by decide +kernel⟩
abbrev s_Program__init : Stmt := inClass (top 45) 0
abbrev n_Program__init : List Str := ["self", "letters", "states", "registers", "firsts", "steps", "ends", "part"]
theorem sc_Program__init : FnScope n_Program__init ["self", "letters", "states", "registers", "firsts", "steps", "ends"] (defScope s_Program__init) := ⟨rfl, rfl, rfl, by decide +kernel, rfl, by decide +kernel, by decide +kernel⟩
abbrev s_Program_put : Stmt := inClass (top 45) 1
abbrev n_Program_put : List Str := ["self", "letters", "states", "registers", "firsts", "steps", "ends", "name", "key", "state"]
theorem sc_Program_put : FnScope n_Program_put ["self", "letters", "states", "registers", "firsts", "steps", "ends"] (defScope s_Program_put) := ⟨rfl, rfl, rfl, by decide +kernel, rfl, by decide +kernel, by decide +kernel⟩
abbrev s_Program__eq : Stmt := inClass (top 45) 2
abbrev n_Program__eq : List Str := ["self", "other"]
theorem sc_Program__eq : FnScope n_Program__eq ["self", "other"] (defScope s_Program__eq) := ⟨rfl, rfl, rfl, by decide +kernel, rfl, by decide +kernel, by decide +kernel⟩
abbrev s_Program__call : Stmt := inClass (top 45) 3
abbrev n_Program__call : List Str := ["self", "text", "state", "held"]
theorem sc_Program__call : FnScope n_Program__call ["self", "text"] (defScope s_Program__call) := ⟨rfl, rfl, rfl, by decide +kernel, rfl, by decide +kernel, by decide +kernel⟩
abbrev s_Program_after : Stmt := inClass (top 45) 4
abbrev n_Program_after : List Str := ["self", "text", "state", "held", "letter", "rows", "name"]
theorem sc_Program_after : FnScope n_Program_after ["self", "text"] (defScope s_Program_after) := ⟨rfl, rfl, rfl, by decide +kernel, rfl, by decide +kernel, by decide +kernel⟩
abbrev s_Program_reached : Stmt := inClass (top 45) 5
abbrev n_Program_reached : List Str := ["self"]
theorem sc_Program_reached : FnScope n_Program_reached ["self"] (defScope s_Program_reached) := ⟨rfl, rfl, rfl, by decide +kernel, rfl, by decide +kernel, by decide +kernel⟩
abbrev s_all_rows : Stmt := top 46
abbrev n_all_rows : List Str := ["rows", "registers", "name"]
theorem sc_all_rows : FnScope n_all_rows ["rows", "registers"] (defScope s_all_rows) := ⟨rfl, rfl, rfl, by decide +kernel, rfl, by decide +kernel, by decide +kernel⟩
abbrev s_check_program : Stmt := top 47
abbrev n_check_program : List Str := ["thing"]
theorem sc_check_program : FnScope n_check_program ["thing"] (defScope s_check_program) := ⟨rfl, rfl, rfl, by decide +kernel, rfl, by decide +kernel, by decide +kernel⟩
abbrev s_is_plain : Stmt := top 49
abbrev n_is_plain : List Str := ["program", "key", "state"]
theorem sc_is_plain : FnScope n_is_plain ["program"] (defScope s_is_plain) := ⟨rfl, rfl, rfl, by decide +kernel, rfl, by decide +kernel, by decide +kernel⟩
abbrev s_behind_word : Stmt := top 51
abbrev n_behind_word : List Str := ["program", "state", "word", "names", "moves", "letter", "rows", "needed", "found", "told", "name"]
theorem sc_behind_word : FnScope n_behind_word ["program", "state", "word", "names"] (defScope s_behind_word) := ⟨rfl, rfl, rfl, by decide +kernel, rfl, by decide +kernel, by decide +kernel⟩
abbrev s_once : Stmt := top 52
abbrev n_once : List Str := ["names", "name"]
theorem sc_once : FnScope n_once ["names"] (defScope s_once) := ⟨rfl, rfl, rfl, by decide +kernel, rfl, by decide +kernel, by decide +kernel⟩
abbrev s_Written__init : Stmt := inClass (top 56) 0
abbrev n_Written__init : List Str := ["self", "pieces", "number"]
theorem sc_Written__init : FnScope n_Written__init ["self", "pieces", "number"] (defScope s_Written__init) := ⟨rfl, rfl, rfl, by decide +kernel, rfl, by decide +kernel, by decide +kernel⟩
abbrev s_Written__eq : Stmt := inClass (top 56) 1
abbrev n_Written__eq : List Str := ["self", "other"]
theorem sc_Written__eq : FnScope n_Written__eq ["self", "other"] (defScope s_Written__eq) := ⟨rfl, rfl, rfl, by decide +kernel, rfl, by decide +kernel, by decide +kernel⟩
abbrev s_Written_size : Stmt := inClass (top 56) 2
abbrev n_Written_size : List Str := ["self"]
theorem sc_Written_size : FnScope n_Written_size ["self"] (defScope s_Written_size) := ⟨rfl, rfl, rfl, by decide +kernel, rfl, by decide +kernel, by decide +kernel⟩
abbrev s_Written_sign : Stmt := inClass (top 56) 3
abbrev n_Written_sign : List Str := ["self", "place"]
theorem sc_Written_sign : FnScope n_Written_sign ["self", "place"] (defScope s_Written_sign) := ⟨rfl, rfl, rfl, by decide +kernel, rfl, by decide +kernel, by decide +kernel⟩
abbrev s_Written_part : Stmt := inClass (top 56) 4
abbrev n_Written_part : List Str := ["self", "first", "last", "found", "waiting", "number", "start", "piece"]
theorem sc_Written_part : FnScope n_Written_part ["self", "first", "last"] (defScope s_Written_part) := ⟨rfl, rfl, rfl, by decide +kernel, rfl, by decide +kernel, by decide +kernel⟩
abbrev s_written_for : Stmt := top 57
abbrev n_written_for : List Str := ["program", "ahead", "word", "many", "behind", "text", "state", "held", "rounds", "end", "last", "row", "rows", "name"]
theorem sc_written_for : FnScope n_written_for ["program", "ahead", "word", "many", "behind"] (defScope s_written_for) := ⟨rfl, rfl, rfl, by decide +kernel, rfl, by decide +kernel, by decide +kernel⟩
abbrev s_Rounds__init : Stmt := inClass (top 58) 0
abbrev n_Rounds__init : List Str := ["self", "program", "word", "state", "many", "met", "following", "rows", "ring"]
theorem sc_Rounds__init : FnScope n_Rounds__init ["self", "program", "word", "state", "many"] (defScope s_Rounds__init) := ⟨rfl, rfl, rfl, by decide +kernel, rfl, by decide +kernel, by decide +kernel⟩
abbrev s_Rounds_last_state : Stmt := inClass (top 58) 1
abbrev n_Rounds_last_state : List Str := ["self"]
theorem sc_Rounds_last_state : FnScope n_Rounds_last_state ["self"] (defScope s_Rounds_last_state) := ⟨rfl, rfl, rfl, by decide +kernel, rfl, by decide +kernel, by decide +kernel⟩
abbrev s_Rounds_moves_ahead : Stmt := inClass (top 58) 2
abbrev n_Rounds_moves_ahead : List Str := ["self"]
theorem sc_Rounds_moves_ahead : FnScope n_Rounds_moves_ahead ["self"] (defScope s_Rounds_moves_ahead) := ⟨rfl, rfl, rfl, by decide +kernel, rfl, by decide +kernel, by decide +kernel⟩
abbrev s_Rounds_moves_of_ring : Stmt := inClass (top 58) 3
abbrev n_Rounds_moves_of_ring : List Str := ["self"]
theorem sc_Rounds_moves_of_ring : FnScope n_Rounds_moves_of_ring ["self"] (defScope s_Rounds_moves_of_ring) := ⟨rfl, rfl, rfl, by decide +kernel, rfl, by decide +kernel, by decide +kernel⟩
abbrev s_Rounds_moves_behind : Stmt := inClass (top 58) 4
abbrev n_Rounds_moves_behind : List Str := ["self"]
theorem sc_Rounds_moves_behind : FnScope n_Rounds_moves_behind ["self"] (defScope s_Rounds_moves_behind) := ⟨rfl, rfl, rfl, by decide +kernel, rfl, by decide +kernel, by decide +kernel⟩
abbrev s_through : Stmt := top 59
abbrev n_through : List Str := ["moves", "names", "found", "rows", "name"]
theorem sc_through : FnScope n_through ["moves", "names"] (defScope s_through) := ⟨rfl, rfl, rfl, by decide +kernel, rfl, by decide +kernel, by decide +kernel⟩
abbrev s_put_together : Stmt := top 60
abbrev n_put_together : List Str := ["row", "held", "ring", "turns", "pieces", "numbers", "rows", "parts", "name", "item"]
theorem sc_put_together : FnScope n_put_together ["row", "held", "ring", "turns"] (defScope s_put_together) := ⟨rfl, rfl, rfl, by decide +kernel, rfl, by decide +kernel, by decide +kernel⟩
abbrev s_law_cell_at : Stmt := top 62
abbrev n_law_cell_at : List Str := ["script", "k"]
theorem sc_law_cell_at : FnScope n_law_cell_at ["script", "k"] (defScope s_law_cell_at) := ⟨rfl, rfl, rfl, by decide +kernel, rfl, by decide +kernel, by decide +kernel⟩
abbrev s_law_draw : Stmt := top 63
abbrev n_law_draw : List Str := ["cell", "k", "bound", "primes"]
theorem sc_law_draw : FnScope n_law_draw ["cell", "k", "bound"] (defScope s_law_draw) := ⟨rfl, rfl, rfl, by decide +kernel, rfl, by decide +kernel, by decide +kernel⟩
abbrev s_law_number : Stmt := top 64
abbrev n_law_number : List Str := ["cell", "k", "bound", "power", "lap", "remains", "small"]
theorem sc_law_number : FnScope n_law_number ["cell", "k", "bound"] (defScope s_law_number) := ⟨rfl, rfl, rfl, by decide +kernel, rfl, by decide +kernel, by decide +kernel⟩
abbrev s_law_next : Stmt := top 65
abbrev n_law_next : List Str := ["draw", "bound", "at", "cell"]
theorem sc_law_next : FnScope n_law_next ["draw", "bound"] (defScope s_law_next) := ⟨rfl, rfl, rfl, by decide +kernel, rfl, by decide +kernel, by decide +kernel⟩
abbrev s_law_pick : Stmt := top 66
abbrev n_law_pick : List Str := ["draw", "things"]
theorem sc_law_pick : FnScope n_law_pick ["draw", "things"] (defScope s_law_pick) := ⟨rfl, rfl, rfl, by decide +kernel, rfl, by decide +kernel, by decide +kernel⟩
abbrev s_law_rows : Stmt := top 67
abbrev n_law_rows : List Str := ["draw", "registers", "signs", "name", "rows", "target", "text"]
theorem sc_law_rows : FnScope n_law_rows ["draw", "registers", "signs"] (defScope s_law_rows) := ⟨rfl, rfl, rfl, by decide +kernel, rfl, by decide +kernel, by decide +kernel⟩
abbrev s_law_end : Stmt := top 68
abbrev n_law_end : List Str := ["draw", "registers", "signs", "found", "name"]
theorem sc_law_end : FnScope n_law_end ["draw", "registers", "signs"] (defScope s_law_end) := ⟨rfl, rfl, rfl, by decide +kernel, rfl, by decide +kernel, by decide +kernel⟩
abbrev s_law_program : Stmt := top 69
abbrev n_law_program : List Str := ["draw", "signs", "letters", "states", "registers", "firsts", "steps", "ends", "state", "letter", "name"]
theorem sc_law_program : FnScope n_law_program ["draw", "signs"] (defScope s_law_program) := ⟨rfl, rfl, rfl, by decide +kernel, rfl, by decide +kernel, by decide +kernel⟩
abbrev s_law_write : Stmt := top 70
abbrev n_law_write : List Str := ["row", "held", "item"]
theorem sc_law_write : FnScope n_law_write ["row", "held"] (defScope s_law_write) := ⟨rfl, rfl, rfl, by decide +kernel, rfl, by decide +kernel, by decide +kernel⟩
abbrev s_law_run : Stmt := top 71
abbrev n_law_run : List Str := ["program", "text", "letters", "states", "registers", "firsts", "steps", "ends", "state", "held", "letter", "rows", "name"]
theorem sc_law_run : FnScope n_law_run ["program", "text"] (defScope s_law_run) := ⟨rfl, rfl, rfl, by decide +kernel, rfl, by decide +kernel, by decide +kernel⟩
abbrev s_law_made : Stmt := top 72
abbrev n_law_made : List Str := ["program", "letters", "states", "registers", "firsts", "steps", "ends"]
theorem sc_law_made : FnScope n_law_made ["program"] (defScope s_law_made) := ⟨rfl, rfl, rfl, by decide +kernel, rfl, by decide +kernel, by decide +kernel⟩
abbrev s_law_word : Stmt := top 73
abbrev n_law_word : List Str := ["draw", "letters", "most", "turn"]
theorem sc_law_word : FnScope n_law_word ["draw", "letters", "most"] (defScope s_law_word) := ⟨rfl, rfl, rfl, by decide +kernel, rfl, by decide +kernel, by decide +kernel⟩
abbrev s_law_is_as : Stmt := top 74
abbrev n_law_is_as : List Str := ["found", "text", "place"]
theorem sc_law_is_as : FnScope n_law_is_as ["found", "text"] (defScope s_law_is_as) := ⟨rfl, rfl, rfl, by decide +kernel, rfl, by decide +kernel, by decide +kernel⟩
abbrev s_law : Stmt := top 75
abbrev n_law : List Str := ["script", "draw", "told", "letters", "program", "ahead", "word", "behind", "many", "few", "ring", "far", "turn", "near", "found", "gain", "size", "again", "late", "whole", "other", "place", "last"]
theorem sc_law : FnScope n_law ["script"] (defScope s_law) := ⟨rfl, rfl, rfl, by decide +kernel, rfl, by decide +kernel, by decide +kernel⟩
/-- what the module has under the names that are no defs; C: the class of programs -/
structure Zs (mg : Str → Option Value) (C : Addr) : Prop where
  k_Program : mg "Program" = some (.ref C)
  z_all : mg "all" = none
  z_bool : mg "bool" = none
  z_dict : mg "dict" = none
  z_divmod : mg "divmod" = none
  z_enumerate : mg "enumerate" = none
  z_int : mg "int" = none
  z_isinstance : mg "isinstance" = none
  z_len : mg "len" = none
  z_list : mg "list" = none
  z_max : mg "max" = none
  z_min : mg "min" = none
  z_range : mg "range" = none
  z_set : mg "set" = none
  z_sorted : mg "sorted" = none
  z_str : mg "str" = none
  z_tuple : mg "tuple" = none
  z_zip : mg "zip" = none
  c_SMALL : ∃ t, mg "SMALL" = some (.str "abcdefghijklmnopqrstuvwxyz" t)
  c_SIGNS : ∃ t, mg "SIGNS" = some (.str "0123456789abcdefghijklmnopqrstuvwxyz" t)
  c_MOST_LETTERS : ∃ t, mg "MOST_LETTERS" = some (.int 4 t)
  c_MOST_STATES : ∃ t, mg "MOST_STATES" = some (.int 300 t)
  c_MOST_REGISTERS : ∃ t, mg "MOST_REGISTERS" = some (.int 60 t)
  c_MOST_TIMES : ∃ t, mg "MOST_TIMES" = some (.int 1000000000000 t)
  c_MOST_SIGNS : ∃ t, mg "MOST_SIGNS" = some (.int 1000 t)
end KX
end
section
set_option Elab.async false
set_option linter.all false
set_option maxRecDepth 100000
set_option maxHeartbeats 4000000
/-! Bs1: promises that give a value of a kind; small readings; numbers, texts, words. -/
namespace KX
open PySem PySem.Spec PyProof.Rows L2 Evl

/-- of such arguments such a value, the heap only grows -/
def spE {α : Type} (Pre : α → List V → Hp → Prop) (Post : α → V → Hp → Prop) : Sp := fun vs H Q _ => ∃ x, Pre x vs H ∧ ∀ v H', Ex H H' → Post x v H' → Q v H'
section
variable {α : Type} {Pre : α → List V → Hp → Prop} {Post : α → V → Hp → Prop} {vs : List V} {H : Hp} {z : V} {P : V → Hp → Prop}
theorem spE_V (x : α) (hp : ∀ H1, Ex H H1 → Pre x vs H1) (hq : ∀ v H', Post x v H' → v = z) : SpV (spE Pre Post) vs H z := fun H1 e Q q _ => ⟨x, hp H1 e, fun v H' e' p => by
  rw [hq v H' p]
  exact q H' e'⟩
theorem spE_P (x : α) (hp : ∀ H1, Ex H H1 → Pre x vs H1) (hq : ∀ v H', Ex H H' → Post x v H' → P v H') : SpP (spE Pre Post) vs H P := fun H1 e Q q _ => ⟨x, hp H1 e, fun v H' e' p => q v H' e' (hq v H' (e.trans e') p)⟩
end
section
variable {K : PySem.W.Frag} {σ : L2.St} {H : Hp} {ta tb tc te td : TE}
theorem ev_use {sp : Sp} {vs : List V} {E : XK} {tl : TA} {z : V} (h : EvA tl σ H vs) (hs : SpV sp vs H z) : Ev (tCall sp [] E tl) σ H z := ev_call h (by rw [List.append_nil]; exact hs)
theorem ep_use {sp : Sp} {vs : List V} {E : XK} {tl : TA} {P : V → Hp → Prop} (h : EvA tl σ H vs) (hs : SpP sp vs H P) : EvP (tCall sp [] E tl) σ H P := fun H1 e Q q =>
  h H1 e _ fun H2 e2 => by
    rw [List.append_nil]
    exact hs H2 (e.trans e2) Q (fun v H3 e3 pv => q v H3 (e2.trans e3) pv) E
theorem ev_isi {x c : V} {t u : Value} {b : Bool} (ha : Ev ta σ H x) (k : ClsV c u) (ty : ∀ H1, Ex H H1 → TyX K H1 x t) (e : PySem.W.kitOne K t u = some b) : Ev (tCB (rIsi K) (tCons ta (tCons (tC c) tNil))) σ H (.bl b) :=
  ev_cb (ea_cons ha (ea_cons ev_c ea_nil)) fun H1 e1 Q q => ⟨x, c, t, u, b, rfl, k, ty H1 e1, e, q H1 (Ex.refl H1)⟩
theorem ev_isI {n : String} {b : Bool} {i : Int} (ha : Ev ta σ H (.int i)) (e : kitB "int" n = some b) : Ev (tCB (rIsi K) (tCons ta (tCons (tC (.ty n)) tNil))) σ H (.bl b) := ev_isi ha (.ty n) (fun _ _ => .base (.int i)) (kit_ty e)
theorem ev_isS {n : String} {b : Bool} {s : Str} (ha : Ev ta σ H (.str s)) (e : kitB "str" n = some b) : Ev (tCB (rIsi K) (tCons ta (tCons (tC (.ty n)) tNil))) σ H (.bl b) := ev_isi ha (.ty n) (fun _ _ => .base (.str s)) (kit_ty e)
theorem ev_isU {n : String} {b : Bool} {a : Addr} {xs : List V} (ha : Ev ta σ H (.ref a)) (h : H a = some (.tup xs)) (e : kitB "tuple" n = some b) : Ev (tCB (rIsi K) (tCons ta (tCons (tC (.ty n)) tNil))) σ H (.bl b) :=
  ev_isi ha (.ty n) (fun H1 e1 => .base (.tup (e1 _ _ h))) (kit_ty e)
theorem ev_isD {n : String} {b : Bool} {a : Addr} {kvs : List (Key × V)} (ha : Ev ta σ H (.ref a)) (h : Rd H a (.dK kvs)) (e : kitB "dict" n = some b) : Ev (tCB (rIsi K) (tCons ta (tCons (tC (.ty n)) tNil))) σ H (.bl b) :=
  ev_isi ha (.ty n) (fun H1 e1 => by
    rcases ex_rd e1 h with q | ⟨o, q⟩
    · exact .base (.dK q)
    · exact .fDict q) (kit_ty e)
theorem ev_isDT {n : String} {b : Bool} {a : Addr} {kvs : List (List Key × V)} (ha : Ev ta σ H (.ref a)) (h : H a = some (.dT kvs)) (e : kitB "dict" n = some b) : Ev (tCB (rIsi K) (tCons ta (tCons (tC (.ty n)) tNil))) σ H (.bl b) :=
  ev_isi ha (.ty n) (fun H1 e1 => .base (.dT (e1 _ _ h))) (kit_ty e)
theorem ev_lenS {z : Str} (ha : Ev ta σ H (.str z)) (hz : z.length ≤ 100000) : Ev (tCB (fun xs H Q => ∃ z, xs = [.str z] ∧ z.length ≤ sizeLine ∧ Q (.int z.length) H) (tCons ta tNil)) σ H (.int (z.length : Int)) :=
  ev_cb (ea_cons ha ea_nil) fun H1 _ Q q => ⟨z, rfl, sz_of hz, q H1 (Ex.refl H1)⟩
theorem ev_lenT {a : Addr} {xs : List V} (ha : Ev ta σ H (.ref a)) (h : SqT K H a xs) : Ev (tCB (rLenS K) (tCons ta tNil)) σ H (.int (xs.length : Int)) :=
  ev_cb (ea_cons ha ea_nil) fun H1 e1 Q q => ⟨a, xs, rfl, .inr (ex_t e1 h), q H1 (Ex.refl H1)⟩
theorem ev_strip {a b : Str} (ha : Ev ta σ H (.str a)) (hb : Ev tb σ H (.str b)) (hz : a.length ≤ 100000) :
    Ev (tBM K "str" (fun x xs H Q => ∃ a b, x = .str a ∧ xs = [.str b] ∧ a.length ≤ sizeLine ∧ Q (.str (Txt.stripChars a b)) H) ta (tCons tb tNil)) σ H (.str (Txt.stripChars a b)) := fun H1 e Q q =>
  ha H1 e _ fun H2 e2 => ⟨rfl, hb H2 (e.trans e2) _ fun H3 e3 => ⟨a, b, rfl, rfl, sz_of hz, q H3 (e2.trans e3)⟩⟩
theorem ev_chain {r r' : R2} {x y z : V} {a b : Bool} (ha : Ev ta σ H x) (hb : Ev tb σ H y) (h1 : RV r x y H (.bl a)) (hc : a = true → Ev tc σ H z) (h2 : a = true → RV r' y z H (.bl b)) : Ev (tChain r r' ta tb tc) σ H (.bl (a && b)) := fun H1 e Q q =>
  ha H1 e _ fun H2 e2 => hb H2 (e.trans e2) _ fun H3 e3 => h1 H3 ((e.trans e2).trans e3) _ fun H4 e4 => ⟨a, rfl, by
    have e24 := (e2.trans e3).trans e4
    cases a with
    | true =>
      refine (if_pos rfl).mpr ?_
      exact hc rfl H4 (e.trans e24) _ fun H5 e5 => h2 rfl H5 ((e.trans e24).trans e5) Q fun H6 e6 => q H6 ((e24.trans e5).trans e6)
    | false =>
      refine (if_neg (by decide)).mpr ?_
      exact q H4 e24⟩
/-- lo <= i <= hi for ints -/
theorem ev_between {i j k : Int} {p q : Int → Int → Bool} (ha : Ev ta σ H (.int i)) (hb : Ev tb σ H (.int j)) (hc : Ev tc σ H (.int k)) : Ev (tChain (rI0 fun i j => .bl (p i j)) (rI0 fun i j => .bl (q i j)) ta tb tc) σ H (.bl (p i j && q j k)) :=
  ev_chain ha hb rv_I0 (fun _ => hc) (fun _ => rv_I0)
theorem ev_in {d : Addr} {kvs : List (Key × V)} {y : V} {k : Key} (hy : Ev ta σ H y) (ey : y = kV k) (hd : Ev td σ H (.ref d)) (h : Rd H d (.dK kvs)) : Ev (tDIn ta td) σ H (.bl (valV kvs k).isSome) := fun H1 e Q q =>
  hy H1 e _ fun H2 e2 => hd H2 (e.trans e2) _ fun H3 e3 => ⟨d, _, rfl, .inl ⟨kvs, k, ex_rd ((e.trans e2).trans e3) h, ey, rfl⟩, q H3 (e2.trans e3)⟩
theorem ev_get {d : Addr} {kvs : List (Key × V)} {y v : V} {k : Key} (hd : Ev td σ H (.ref d)) (hy : Ev ta σ H y) (ey : y = kV k) (h : Rd H d (.dK kvs)) (ev : valV kvs k = some v) : Ev (tDGet td ta) σ H v := fun H1 e Q q =>
  hd H1 e _ fun H2 e2 => hy H2 (e.trans e2) _ fun H3 e3 => ⟨d, v, rfl, .inl ⟨kvs, k, ex_rd ((e.trans e2).trans e3) h, ey, ev.symm⟩, q H3 (e2.trans e3)⟩
theorem ev_inTT {d b : Addr} {kvs : List (List Key × V)} {k : List Key} (hy : Ev ta σ H (.ref b)) (hb : H b = some (.tup (k.map kV))) (hd : Ev td σ H (.ref d)) (h : Rd H d (.dT kvs)) : Ev (tDIn ta td) σ H (.bl (valV kvs k).isSome) := fun H1 e Q q =>
  hy H1 e _ fun H2 e2 => hd H2 (e.trans e2) _ fun H3 e3 => ⟨d, _, rfl, .inr ⟨kvs, k, b, ex_rd ((e.trans e2).trans e3) h, rfl, ((e.trans e2).trans e3) _ _ hb, rfl⟩, q H3 (e2.trans e3)⟩
theorem ev_getT {d b : Addr} {kvs : List (List Key × V)} {v : V} {k : List Key} (hd : Ev td σ H (.ref d)) (hy : Ev ta σ H (.ref b)) (hb : H b = some (.tup (k.map kV))) (h : Rd H d (.dT kvs)) (ev : valV kvs k = some v) : Ev (tDGet td ta) σ H v := fun H1 e Q q =>
  hd H1 e _ fun H2 e2 => hy H2 (e.trans e2) _ fun H3 e3 => ⟨d, v, rfl, .inr ⟨kvs, k, b, ex_rd ((e.trans e2).trans e3) h, rfl, ((e.trans e2).trans e3) _ _ hb, ev.symm⟩, q H3 (e2.trans e3)⟩
theorem ev_getU {d : Addr} {kvs : List (List Key × V)} {v : V} {k : List Key} (hd : Ev td σ H (.ref d)) (hy : EvU ta σ H (k.map kV)) (h : Rd H d (.dT kvs)) (ev : valV kvs k = some v) : Ev (tDGet td ta) σ H v := fun H1 e Q q =>
  hd H1 e _ fun H2 e2 => hy H2 (e.trans e2) _ fun b H3 _ e3 hb => ⟨d, v, rfl, .inr ⟨kvs, k, b, ex_rd ((e.trans e2).trans e3) h, rfl, hb, ev.symm⟩, q H3 (e2.trans e3)⟩
theorem ev_allL {bs : List Bool} (h : EvL te σ H (bs.map V.bl)) : Ev (tCB (rAll K) (tCons te tNil)) σ H (.bl (bs.all id)) := fun H1 e Q q =>
  h H1 e _ fun p H2 _ e2 hp => ⟨p, bs, rfl, sq_of hp, q H2 e2⟩
theorem ev_allT {n : Nat} (h : EvL te σ H (List.replicate n (V.bl true))) : Ev (tCB (rAll K) (tCons te tNil)) σ H (.bl true) := by
  have h2 : EvL te σ H ((List.replicate n true).map V.bl) := by rw [List.map_replicate]; exact h
  refine ev_is (ev_allL h2) ?_
  congr 1
  rw [List.all_replicate]
  simp
theorem ev_ixU {a : Addr} {xs : List V} {i : Nat} {v : V} (ha : Ev ta σ H (.ref a)) (hi : Ev tb σ H (.int (i : Int))) (h : H a = some (.tup xs)) (e : xs[i]? = some v) : Ev (tOp (rIxT K) ta tb) σ H v := ev_op ha hi (rv_ixT (st_of h) (atI_nat e))
theorem q_unpack2 {D : Ends} {tz : TS} {b : Addr} {y z : V} {i j : Nat} (h : Ev te σ H (.ref b)) (hb : H b = some (.tup [y, z])) (k : ∀ H1, Ex H H1 → tz D ((σ.set i (some y)).set j (some z)) H1) : tSeq (tAsg te (gTup K 2 (gCons (gName i) (gCons (gName j) gNil)))) tz D σ H :=
  h H (Ex.refl H) _ fun H1 e => ⟨b, _, rfl, st_of (e _ _ hb), rfl, ⟨y, _, rfl, ⟨z, _, rfl, ⟨rfl, k H1 e⟩⟩⟩⟩
end

/-! ### numbers, texts, words -/
abbrev SIG : Str := "0123456789abcdefghijklmnopqrstuvwxyz"
abbrev SML : Str := "abcdefghijklmnopqrstuvwxyz"
def Tx (s : Str) : Prop := Txt.stripChars s SIG = "" ∧ s.length ≤ 100000
def Wd (s : Str) : Prop := Txt.stripChars s SML = "" ∧ 1 ≤ s.length ∧ s.length ≤ 8
instance {s : Str} : Decidable (Wd s) := by
  unfold Wd
  infer_instance
def sp_is_number : Sp := spE (fun (i : Int) vs _ => vs = [.int i]) (fun _ v _ => v = .bl true)
/-- a text, or a tuple -/
def ST (H : Hp) (v : V) : Prop := (∃ s : Str, v = .str s ∧ s.length ≤ 100000) ∨ ∃ a xs, v = .ref a ∧ H a = some (.tup xs)
def txB (v : V) (y : Str) : Bool := match v with
  | .str s => decide (Txt.stripChars s y = "")
  | _ => false
theorem ST.ex {H H' : Hp} {v : V} (e : Ex H H') (h : ST H v) : ST H' v := by
  rcases h with h | ⟨a, xs, e1, h⟩
  · exact .inl h
  · exact .inr ⟨a, xs, e1, e _ _ h⟩
def sp_is_made_of : Sp := spE (fun (x : V × Str) vs H => vs = [x.1, .str x.2] ∧ ST H x.1) (fun x v _ => v = .bl (txB x.1 x.2))
def sp_is_text : Sp := spE (fun (x : V) vs H => vs = [x] ∧ ST H x) (fun x v _ => v = .bl (txB x SIG))
def sp_is_word : Sp := spE (fun (x : Str) vs _ => vs = [.str x] ∧ x.length ≤ 100000) (fun x v _ => v = .bl (decide (Wd x)))
def sp_is_state : Sp := spE (fun (x : Int × Int) vs _ => vs = [.int x.1, .int x.2]) (fun x v _ => v = .bl (decide (0 ≤ x.1 ∧ x.1 < x.2)))
section
variable {P : Program} {w : World} {K : PySem.W.Frag} {mg : Str → Option Value} {base : Heap} {C : Addr} {f : Addr} {fd : FuncData}
theorem ok_is_number (F : Fun K "is_number" "is_number" s_is_number f fd) (Z : Zs mg C) : FnOk P w K mg base CX0 1 f fd ["thing"] sp_is_number := by
  refine F.ok sc_is_number (fun vs H Q E h => ?_) (fun cdv A outer s H vs Q E hr h => ?_)
  · obtain ⟨i, rfl, _⟩ := h
    rfl
  · obtain ⟨i, rfl, k⟩ := h
    refine ⟨_, (pss_one (ps_ret (pe_and (pe_callB (cIsi (K := K)) (by rfl) Z.z_isinstance (by decide +kernel) (pa_cons (pv 0) (pa_cons (pe_bltn (by rfl) Z.z_int (by decide +kernel) (show RelV (.ty "int") _ from rfl)) pa_nil))) (pe_one (pe_not (pe_callB (cIsi (K := K)) (by rfl) Z.z_isinstance (by decide +kernel) (pa_cons (pv 0) (pa_cons (pe_bltn (by rfl) Z.z_bool (by decide +kernel) (show RelV (.ty "bool") _ from rfl)) pa_nil)))))))), ?_⟩
    exact s_ret (ev_andV (a := true) (b := true) (ev_isI (b := true) (ev_var rfl) rfl) fun _ => ev_notV (a := false) (ev_isI (b := false) (ev_var rfl) rfl)) fun H1 e => k _ H1 e rfl
theorem ok_is_made_of (F : Fun K "is_made_of" "is_made_of" s_is_made_of f fd) (Z : Zs mg C) : FnOk P w K mg base CX0 1 f fd ["thing", "signs"] sp_is_made_of := by
  refine F.ok sc_is_made_of (fun vs H Q E h => ?_) (fun cdv A outer s H vs Q E hr h => ?_)
  · obtain ⟨i, ⟨rfl, _⟩, _⟩ := h
    rfl
  · obtain ⟨⟨v, y⟩, ⟨rfl, hv⟩, k⟩ := h
    refine ⟨_, (pss_one (ps_ret (pe_and (pe_callB (cIsi (K := K)) (by rfl) Z.z_isinstance (by decide +kernel) (pa_cons (pv 0) (pa_cons (pe_bltn (by rfl) Z.z_str (by decide +kernel) (show RelV (.ty "str") _ from rfl)) pa_nil))) (pe_one (pe_cmpR op_eq (pe_bm PySem.F.plainAttrs_str PySem.F.slot_str_strip PySem.F.type_str_strip mt_stripChars (pv 0) (pa_cons (pv 1) pa_nil)) pe_str (nomark _)))))), ?_⟩
    rcases hv with ⟨x, rfl, hx⟩ | ⟨a, xs, rfl, ha⟩
    · refine s_ret (v := .bl (decide (Txt.stripChars x y = ""))) (ev_is (ev_andV (a := true) (b := decide (V.str (Txt.stripChars x y) = V.str "")) (ev_isS (ev_var rfl) rfl) fun _ => ev_op (ev_strip (ev_var rfl) (ev_var rfl) hx) ev_c (rv_eq rfl)) ?_) fun H1 e => k _ H1 e rfl
      simp
    · exact s_ret (v := .bl false) (ev_andV (a := false) (b := true) (ev_isU (ev_var rfl) ha rfl) (fun z => by cases z)) fun H1 e => k _ H1 e rfl
theorem ok_is_text (F : Fun K "is_text" "is_text" s_is_text f fd) (Z : Zs mg C) (G_is_made_of : Has P w K mg base "is_made_of" 1 ["thing", "signs"] sp_is_made_of) : FnOk P w K mg base CX0 2 f fd ["thing"] sp_is_text := by
  refine F.ok sc_is_text (fun vs H Q E h => ?_) (fun cdv A outer s H vs Q E hr h => ?_)
  · obtain ⟨i, ⟨rfl, _⟩, _⟩ := h
    rfl
  · obtain ⟨x, ⟨rfl, hx⟩, k⟩ := h
    refine ⟨_, (pss_one (ps_ret (pe_use G_is_made_of (hr.mono (by decide)) (pa_cons (pv 0) (pa_cons (pe_gcS rfl Z.c_SIGNS) pa_nil))))), ?_⟩
    exact s_ret (ev_use (ea_cons (ev_var rfl) (ea_cons ev_c ea_nil)) (spE_V (x, SIG) (fun _ e => ⟨rfl, hx.ex e⟩) fun v _ p => p)) fun H1 e => k _ H1 e rfl
theorem ok_is_word (F : Fun K "is_word" "is_word" s_is_word f fd) (Z : Zs mg C) (G_is_made_of : Has P w K mg base "is_made_of" 1 ["thing", "signs"] sp_is_made_of) : FnOk P w K mg base CX0 2 f fd ["thing"] sp_is_word := by
  refine F.ok sc_is_word (fun vs H Q E h => ?_) (fun cdv A outer s H vs Q E hr h => ?_)
  · obtain ⟨i, ⟨rfl, _⟩, _⟩ := h
    rfl
  · obtain ⟨x, ⟨rfl, hx⟩, k⟩ := h
    refine ⟨_, (pss_one (ps_ret (pe_and (pe_use G_is_made_of (hr.mono (by decide)) (pa_cons (pv 0) (pa_cons (pe_gcS rfl Z.c_SMALL) pa_nil))) (pe_one (pe_chain op_le op_le pe_int (pe_callB call_len_str (by rfl) Z.z_len PySem.boot_len (pa_cons (pv 0) pa_nil)) pe_int))))), ?_⟩
    refine s_ret (v := .bl (decide (Wd x))) (ev_is (ev_andV (ev_use (ea_cons (ev_var rfl) (ea_cons ev_c ea_nil)) (spE_V (.str x, SML) (fun _ _ => ⟨rfl, .inl ⟨x, rfl, hx⟩⟩) fun v _ p => p)) fun _ => ev_between ev_c (ev_lenS (ev_var rfl) hx) ev_c) ?_) fun H1 e => k _ H1 e rfl
    congr 1
    rw [Bool.eq_iff_iff, decide_eq_true_iff]
    unfold Wd
    simp [txB]
    intro _
    exact ⟨fun ⟨b, c⟩ => ⟨by omega, by omega⟩, fun ⟨b, c⟩ => ⟨by omega, by omega⟩⟩
theorem ok_is_state (F : Fun K "is_state" "is_state" s_is_state f fd) (Z : Zs mg C) (G_is_number : Has P w K mg base "is_number" 1 ["thing"] sp_is_number) : FnOk P w K mg base CX0 2 f fd ["state", "states"] sp_is_state := by
  refine F.ok sc_is_state (fun vs H Q E h => ?_) (fun cdv A outer s H vs Q E hr h => ?_)
  · obtain ⟨i, rfl, _⟩ := h
    rfl
  · obtain ⟨⟨x, y⟩, rfl, k⟩ := h
    refine ⟨_, (pss_one (ps_ret (pe_and (pe_use G_is_number (hr.mono (by decide)) (pa_cons (pv 0) pa_nil)) (pe_one (pe_chain op_le op_lt pe_int (pv 0) (pv 1)))))), ?_⟩
    refine s_ret (v := .bl (decide (0 ≤ x ∧ x < y))) (ev_is (ev_andV (ev_use (ea_cons (ev_var rfl) ea_nil) (spE_V x (fun _ _ => rfl) fun v _ p => p)) fun _ => ev_between ev_c (ev_var rfl) (ev_var rfl)) ?_) fun H1 e => k _ H1 e rfl
    congr 1
    rw [Bool.eq_iff_iff]
    simp
end
end KX
end
section
set_option Elab.async false
set_option linter.all false
set_option maxRecDepth 100000
set_option maxHeartbeats 4000000
/-! Bs2: rows, steps, ends on the heap; the checks of a program's parts. -/
namespace KX
open PySem PySem.Spec PyProof.Rows L2 Evl

/-! ### dicts as lists -/
section
variable {κ : Type} [DecidableEq κ]
theorem valV_mem {kvs : List (κ × V)} {k : κ} {v : V} (h : valV kvs k = some v) : (k, v) ∈ kvs := by
  unfold valV at h
  obtain ⟨p, hp, rfl⟩ := Option.map_eq_some_iff.mp h
  have h1 := List.mem_of_find?_eq_some hp
  have h2 := List.find?_some hp
  obtain rfl : p.1 = k := by simpa using h2
  exact h1
theorem valV_of {kvs : List (κ × V)} {k : κ} {v : V} (h : (k, v) ∈ kvs) : ∃ v', valV kvs k = some v' ∧ (k, v') ∈ kvs := by
  cases hv : valV kvs k with
  | some v' => exact ⟨v', rfl, valV_mem hv⟩
  | none =>
    unfold valV at hv
    have h1 := List.find?_eq_none.mp (Option.map_eq_none_iff.mp hv) _ h
    simp at h1
theorem valV_key {kvs : List (κ × V)} {k : κ} (h : k ∈ kvs.map (·.1)) : ∃ v, valV kvs k = some v ∧ (k, v) ∈ kvs := by
  obtain ⟨p, hp, rfl⟩ := List.mem_map.mp h
  exact valV_of (k := p.1) (v := p.2) hp
theorem mem_at {kvs : List (κ × V)} {i : Nat} {k : κ} {v : V} (h : kvs[i]? = some (k, v)) : (k, v) ∈ kvs := List.mem_of_getElem? h
end

/-! ### rows -/
inductive Itm
  | t (s : Str)
  | r (s : Str)
def ItAt (H : Hp) : Itm → V → Prop
  | .t s, v => v = .str s
  | .r s, v => ∃ b, v = .ref b ∧ H b = some (.tup [.str s])
def ItsAt (H : Hp) (xs : List V) (row : List Itm) : Prop := xs.length = row.length ∧ ∀ (i : Nat) x t, xs[i]? = some x → row[i]? = some t → ItAt H t x
def RowAt (H : Hp) (a : Addr) (row : List Itm) : Prop := ∃ xs, H a = some (.tup xs) ∧ ItsAt H xs row
theorem ItAt.le {H H' : Hp} {t : Itm} {x : V} (e : Le H H') (h : ItAt H t x) : ItAt H' t x := by
  cases t with
  | t s => exact h
  | r s => exact h.imp fun b ⟨e1, h1⟩ => ⟨e1, e.st _ _ rfl h1⟩
theorem ItsAt.le {H H' : Hp} {xs : List V} {row : List Itm} (e : Le H H') (h : ItsAt H xs row) : ItsAt H' xs row := ⟨h.1, fun i x t a b => (h.2 i x t a b).le e⟩
theorem RowAt.le {H H' : Hp} {a : Addr} {row : List Itm} (e : Le H H') (h : RowAt H a row) : RowAt H' a row := h.imp fun xs ⟨h1, h2⟩ => ⟨e.st _ _ rfl h1, h2.le e⟩
def ItOk (names : List Str) : Itm → Prop
  | .t s => Tx s
  | .r n => n ∈ names
/-- a row as told, of known registers -/
def RowX (names : List Str) (H : Hp) (a : Addr) : Prop := ∃ row, RowAt H a row ∧ row.length ≤ 1000 ∧ ∀ t ∈ row, ItOk names t
theorem RowX.le {names : List Str} {H H' : Hp} {a : Addr} (e : Le H H') (h : RowX names H a) : RowX names H' a := h.imp fun row ⟨h1, h2⟩ => ⟨h1.le e, h2⟩
/-- the dict of the known -/
def Kn (names : List Str) (H : Hp) (d : Addr) : Prop := ∃ kvs : List (Key × V), Rd H d (.dK kvs) ∧ ∀ n : Str, (valV kvs (.inr n)).isSome = decide (n ∈ names)
theorem Kn.le {names : List Str} {H H' : Hp} {d : Addr} (e : Le H H') (h : Kn names H d) : Kn names H' d := h.imp fun kvs ⟨h1, h2⟩ => ⟨e.rd _ _ rfl h1, h2⟩
/-- dicts of rows, not locked -/
def RowsX (names : List Str) (H : Hp) (r : Addr) : Prop := ∃ kvs : List (Key × V), H r = some (.dK kvs) ∧ kvs.length ≤ 1000 ∧ ∀ k v, (k, v) ∈ kvs → ∃ n a, k = .inr n ∧ v = .ref a ∧ n ∈ names ∧ RowX names H a
theorem RowsX.ex {names : List Str} {H H' : Hp} {r : Addr} (e : Ex H H') (h : RowsX names H r) : RowsX names H' r := h.imp fun kvs ⟨h1, h2, h3⟩ => ⟨e _ _ h1, h2, fun k v m => by
  obtain ⟨n, a, e1, e2, e3, h4⟩ := h3 k v m
  exact ⟨n, a, e1, e2, e3, h4.le (Le.ex e)⟩⟩
theorem RowsX.lockT {names : List Str} {H : Hp} {r d : Addr} {kvs : List (List Key × V)} {od : Obj} (hd : H d = some (.dT kvs)) (h : RowsX names H r) : RowsX names (upd H d (.frz od (.dT kvs))) r := h.imp fun l ⟨h1, h2, h3⟩ => ⟨by
    rw [upd_ne (show r ≠ d from fun z => by
      subst z
      rw [h1] at hd
      cases hd)]
    exact h1, h2, fun k v m => by
  obtain ⟨n, a, e1, e2, e3, h4⟩ := h3 k v m
  exact ⟨n, a, e1, e2, e3, h4.le (Le.lock hd rfl rfl)⟩⟩
def StX (n : Int) (names : List Str) (H : Hp) (b : Addr) : Prop := ∃ g r, H b = some (.tup [.int g, .ref r]) ∧ 0 ≤ g ∧ g < n ∧ RowsX names H r
theorem StX.ex {n : Int} {names : List Str} {H H' : Hp} {b : Addr} (e : Ex H H') (h : StX n names H b) : StX n names H' b := by
  obtain ⟨g, r, h1, h2, h3, h4⟩ := h
  exact ⟨g, r, e _ _ h1, h2, h3, h4.ex e⟩
def PlX (L : Str) (n : Int) (k : List Key) : Prop := ∃ (s : Int) (c : Nat), k = [.inl s, .inr ⟨#[c]⟩] ∧ 0 ≤ s ∧ s < n ∧ c ∈ L.cps.toList
def StepsX (L : Str) (n : Int) (names : List Str) (H : Hp) (d : Addr) : Prop := ∃ kvs : List (List Key × V), H d = some (.dT kvs) ∧ kvs.length ≤ 1000 ∧ (kvs.length : Int) = n * (L.length : Int) ∧
  ∀ k v, (k, v) ∈ kvs → PlX L n k ∧ ∃ b, v = .ref b ∧ StX n names H b
theorem StepsX.ex {L : Str} {n : Int} {names : List Str} {H H' : Hp} {d : Addr} (e : Ex H H') (h : StepsX L n names H d) : StepsX L n names H' d := h.imp fun kvs ⟨h1, h2, h3, h4⟩ => ⟨e _ _ h1, h2, h3, fun k v m => by
  obtain ⟨p, b, e1, h5⟩ := h4 k v m
  exact ⟨p, b, e1, h5.ex e⟩⟩
def EndsX (n : Int) (names : List Str) (H : Hp) (d : Addr) : Prop := ∃ kvs : List (Key × V), H d = some (.dK kvs) ∧ kvs.length ≤ 1000 ∧ ∀ k v, (k, v) ∈ kvs → ∃ s a, k = .inl s ∧ v = .ref a ∧ 0 ≤ s ∧ s < n ∧ RowX names H a
theorem EndsX.ex {n : Int} {names : List Str} {H H' : Hp} {d : Addr} (e : Ex H H') (h : EndsX n names H d) : EndsX n names H' d := h.imp fun kvs ⟨h1, h2, h3⟩ => ⟨e _ _ h1, h2, fun k v m => by
  obtain ⟨s, a, e1, e2, e3, e4, h4⟩ := h3 k v m
  exact ⟨s, a, e1, e2, e3, e4, h4.le (Le.ex e)⟩⟩
def FirstsX (names : List Str) (H : Hp) (d : Addr) : Prop := ∃ kvs : List (Key × V), H d = some (.dK kvs) ∧ kvs.length ≤ 1000 ∧ ∀ k v, (k, v) ∈ kvs → ∃ n s, k = .inr n ∧ v = .str s ∧ n ∈ names ∧ Tx s
theorem FirstsX.ex {names : List Str} {H H' : Hp} {d : Addr} (e : Ex H H') (h : FirstsX names H d) : FirstsX names H' d := h.imp fun kvs ⟨h1, h2⟩ => ⟨e _ _ h1, h2⟩

def sp_is_held : Sp := spE (fun (x : Addr × Addr × Str × List Str) vs H => vs = [.ref x.1, .ref x.2.1] ∧ H x.1 = some (.tup [.str x.2.2.1]) ∧ Kn x.2.2.2 H x.2.1) (fun x v _ => v = .bl (decide (x.2.2.1 ∈ x.2.2.2)))
def sp_is_row : Sp := spE (fun (x : Addr × Addr × List Str) vs H => vs = [.ref x.1, .ref x.2.1] ∧ RowX x.2.2 H x.1 ∧ Kn x.2.2 H x.2.1) (fun _ v _ => v = .bl true)
def sp_are_rows : Sp := spE (fun (x : Addr × Addr × List Str) vs H => vs = [.ref x.1, .ref x.2.1] ∧ RowsX x.2.2 H x.1 ∧ Kn x.2.2 H x.2.1) (fun _ v _ => v = .bl true)
def sp_is_place : Sp := spE (fun (x : Addr × Str × Int × List Key) vs H => vs = [.ref x.1, .str x.2.1, .int x.2.2.1] ∧ H x.1 = some (.tup (x.2.2.2.map kV)) ∧ PlX x.2.1 x.2.2.1 x.2.2.2) (fun _ v _ => v = .bl true)
def sp_is_step : Sp := spE (fun (x : Addr × Int × Addr × List Str) vs H => vs = [.ref x.1, .int x.2.1, .ref x.2.2.1] ∧ StX x.2.1 x.2.2.2 H x.1 ∧ Kn x.2.2.2 H x.2.2.1) (fun _ v _ => v = .bl true)
def sp_are_steps : Sp := spE (fun (x : Addr × Str × Int × Addr × List Str) vs H => vs = [.ref x.1, .str x.2.1, .int x.2.2.1, .ref x.2.2.2.1] ∧ StepsX x.2.1 x.2.2.1 x.2.2.2.2 H x.1 ∧ x.2.1.length ≤ 100 ∧ 0 ≤ x.2.2.1 ∧ x.2.2.1 ≤ 300 ∧ Kn x.2.2.2.2 H x.2.2.2.1) (fun _ v _ => v = .bl true)
def sp_are_firsts : Sp := spE (fun (x : Addr × Addr × List Str) vs H => vs = [.ref x.1, .ref x.2.1] ∧ FirstsX x.2.2 H x.1 ∧ Kn x.2.2 H x.2.1) (fun _ v _ => v = .bl true)
def sp_are_ends : Sp := spE (fun (x : Addr × Int × Addr × List Str) vs H => vs = [.ref x.1, .int x.2.1, .ref x.2.2.1] ∧ EndsX x.2.1 x.2.2.2 H x.1 ∧ Kn x.2.2.2 H x.2.2.1) (fun _ v _ => v = .bl true)

section
variable {P : Program} {w : World} {K : PySem.W.Frag} {mg : Str → Option Value} {base : Heap} {C : Addr} {f : Addr} {fd : FuncData}
theorem ok_is_held (F : Fun K "is_held" "is_held" s_is_held f fd) (Z : Zs mg C) : FnOk P w K mg base CX0 1 f fd ["item", "known"] sp_is_held := by
  refine F.ok sc_is_held (fun vs H Q E h => ?_) (fun cdv A outer s H vs Q E hr h => ?_)
  · obtain ⟨i, ⟨rfl, _⟩, _⟩ := h
    rfl
  · obtain ⟨⟨b, d, n, names⟩, ⟨rfl, hb, kvs, hd, hk⟩, k⟩ := h
    have hu := hu_of hr
    refine ⟨_, (pss_one (ps_ret (pe_and (pe_callB (cIsi (K := K)) (by rfl) Z.z_isinstance (by decide +kernel) (pa_cons (pv 0) (pa_cons (pe_bltn (by rfl) Z.z_tuple (by decide +kernel) (show RelV (.ty "tuple") _ from rfl)) pa_nil))) (pe_and (pe_cmpR op_eq (pe_callB (cLenS (K := K)) (by rfl) Z.z_len PySem.boot_len (pa_cons (pv 0) pa_nil)) pe_int (nomark _)) (pe_and (pe_callB (cIsi (K := K)) (by rfl) Z.z_isinstance (by decide +kernel) (pa_cons (pe_ix (ixT (K := K)) (pv 0) pe_int (fun _ _ => rfl)) (pa_cons (pe_bltn (by rfl) Z.z_str (by decide +kernel) (show RelV (.ty "str") _ from rfl)) pa_nil))) (pe_one (pe_cmp (pc_din hu (pe_ix (ixT (K := K)) (pv 0) pe_int (fun _ _ => rfl)) (pv 1))))))))), ?_⟩
    have e0 : Ev (tOp (rIxT K) (tVar 0) (tC (.int 0))) (start n_is_held [.ref b, .ref d]) H (.str n) := ev_ixU (i := 0) (ev_var rfl) ev_c hb rfl
    refine s_ret (v := .bl (decide (n ∈ names))) (ev_is (ev_andV (a := true) (ev_isU (ev_var rfl) hb rfl) fun _ => ev_andV (a := true) (ev_op (ev_lenT (ev_var rfl) (st_of hb)) ev_c (rv_eq rfl)) fun _ => ev_andV (a := true) (ev_isS e0 rfl) fun _ => ev_in e0 (k := .inr n) rfl (ev_var rfl) hd) ?_) fun H1 e => k _ H1 e rfl
    rw [hk n]
    rfl
theorem ok_is_row (F : Fun K "is_row" "is_row" s_is_row f fd) (Z : Zs mg C) (G_is_text : Has P w K mg base "is_text" 2 ["thing"] sp_is_text) (G_is_held : Has P w K mg base gl_is_held 1 ["item", "known"] sp_is_held) : FnOk P w K mg base CX0 3 f fd ["row", "known"] sp_is_row := by
  refine F.ok sc_is_row (fun vs H Q E h => ?_) (fun cdv A outer s H vs Q E hr h => ?_)
  · obtain ⟨i, ⟨rfl, _⟩, _⟩ := h
    rfl
  · obtain ⟨⟨a, d, names⟩, ⟨rfl, ⟨row, ⟨xs, hx, hl, hi⟩, hz, ho⟩, hd⟩, k⟩ := h
    have hu := hu_of hr
    refine ⟨_, (pss_one (ps_ret (pe_and (pe_callB (cIsi (K := K)) (by rfl) Z.z_isinstance (by decide +kernel) (pa_cons (pv 0) (pa_cons (pe_bltn (by rfl) Z.z_tuple (by decide +kernel) (show RelV (.ty "tuple") _ from rfl)) pa_nil))) (pe_one (pe_callB (cr_all rfl) (by rfl) Z.z_all (by decide +kernel) (pa_cons (pe_lc (own := [(("item" : Str), 2)]) (g := gName 2) rfl sc_is_row.nd (pi_tup (pv 0)) (blkOk_by (own := [(("item" : Str), 2)]) (N := n_is_row) (sc := defScope s_is_row) (by decide +kernel)) (fun _ _ _ _ _ => (pg_name (i := 2) sc_is_row.nd rfl (Or.inl rfl))) (fun _ _ _ _ _ => pts_nil) (fun _ _ _ _ _ => (pe_or (pe_use G_is_text (hr.mono (by decide)) (pa_cons (pv 2) pa_nil)) (pe_one (pe_use G_is_held (hr.mono (by decide)) (pa_cons (pv 2) (pa_cons (pv 1) pa_nil))))))) pa_nil)))))), ?_⟩
    refine s_ret (v := .bl true) (ev_andV (a := true) (ev_isU (ev_var rfl) hx rfl) fun _ => ev_allT (n := xs.length) (el_lcW (src_tup (K := K) (ev_var rfl) (st_of hx)) (by omega) (fun x => rfl) _ (by simp) ?_)) fun H1 e => k _ H1 e rfl
    intro i x y H' e hy hxi
    obtain ⟨hlt, rfl⟩ := List.getElem?_eq_some_iff.mp hy
    rw [List.getElem_replicate]
    have hlt' : i < row.length := by rw [List.length_replicate] at hlt; omega
    have ht : row[i]? = some row[i] := List.getElem?_eq_getElem hlt'
    have h1 := hi i x _ hxi ht
    have h2 := ho _ (List.mem_of_getElem? ht)
    have st : ST H' x := by
      cases hr : row[i] with
      | t s =>
        rw [hr] at h1 h2
        exact .inl ⟨s, h1, h2.2⟩
      | r s =>
        rw [hr] at h1 h2
        obtain ⟨b, rfl, hb⟩ := h1
        exact .inr ⟨b, _, rfl, e _ _ hb⟩
    refine ev_is (ev_orV (a := txB x SIG) (b := true) (ev_use (ea_cons (ev_var rfl) ea_nil) (spE_V x (fun _ e1 => ⟨rfl, st.ex e1⟩) fun v _ p => p)) fun hf => ?_) (by cases txB x SIG <;> rfl)
    cases hr : row[i] with
    | t s =>
      rw [hr] at h1 h2
      obtain rfl : x = .str s := h1
      exact absurd h2.1 (by simpa [txB] using hf)
    | r s =>
      rw [hr] at h1 h2
      obtain ⟨b, rfl, hb⟩ := h1
      refine ev_use (ea_cons (ev_var rfl) (ea_cons (ev_var rfl) ea_nil)) (spE_V (b, d, s, names) (fun _ e1 => ⟨rfl, e1 _ _ (e _ _ hb), hd.le (Le.ex (e.trans e1))⟩) fun v _ p => p.trans ?_)
      have : s ∈ names := h2
      simp [this]
theorem ok_are_rows (F : Fun K "are_rows" "are_rows" s_are_rows f fd) (Z : Zs mg C) (G_is_row : Has P w K mg base "is_row" 3 ["row", "known"] sp_is_row) : FnOk P w K mg base CX0 4 f fd ["rows", "known"] sp_are_rows := by
  refine F.ok sc_are_rows (fun vs H Q E h => ?_) (fun cdv A outer s H vs Q E hr h => ?_)
  · obtain ⟨i, ⟨rfl, _⟩, _⟩ := h
    rfl
  · obtain ⟨⟨r, d, names⟩, ⟨rfl, ⟨kvs, hx, hl, hi⟩, hd⟩, k⟩ := h
    have hu := hu_of hr
    refine ⟨_, (pss_one (ps_ret (pe_and (pe_callB (cIsi (K := K)) (by rfl) Z.z_isinstance (by decide +kernel) (pa_cons (pv 0) (pa_cons (pe_bltn (by rfl) Z.z_dict (by decide +kernel) (show RelV (.ty "dict") _ from rfl)) pa_nil))) (pe_one (pe_callB (cr_all rfl) (by rfl) Z.z_all (by decide +kernel) (pa_cons (pe_lock (pe_lc (own := [(("name" : Str), 2)]) (g := gName 2) rfl sc_are_rows.nd (pi_keys (pv 0)) (blkOk_by (own := [(("name" : Str), 2)]) (N := n_are_rows) (sc := defScope s_are_rows) (by decide +kernel)) (fun _ _ _ _ _ => (pg_name (i := 2) sc_are_rows.nd rfl (Or.inl rfl))) (fun _ _ _ _ _ => pts_nil) (fun _ _ _ _ _ => (pe_and (pe_cmp (pc_din hu (pv 2) (pv 1))) (pe_one (pe_use G_is_row (hr.mono (by decide)) (pa_cons (pe_dget hu (pv 0) (pv 2) (fun _ _ => rfl)) (pa_cons (pv 1) pa_nil)))))))) pa_nil)))))), ?_⟩
    refine s_ret (v := .bl true) (ev_andV (a := true) (ev_isD (ev_var rfl) (.inl hx) rfl) fun _ => ev_allT (n := kvs.length) (lock_EvL hx trivial fun od => ?_)) fun H1 e => k _ H1 e rfl
    have L := Le.lock (od := od) hx rfl rfl
    refine el_lcW (src_keysK (ev_var rfl) upd_same) (by omega) (fun x => rfl) _ (by simp) ?_
    intro i x y H' e hy ⟨kk, v, hkv, hxe⟩
    subst hxe
    obtain ⟨hlt, rfl⟩ := List.getElem?_eq_some_iff.mp hy
    rw [List.getElem_replicate]
    obtain ⟨v', hv', hm⟩ := valV_of (mem_at hkv)
    obtain ⟨n, a, rfl, rfl, hn, hR⟩ := hi _ _ hm
    obtain ⟨kk, hK, hk⟩ := (hd.le L).le (Le.ex e)
    refine ev_is (ev_andV (b := true) (ev_in (k := .inr n) (ev_var rfl) rfl (ev_var rfl) hK) fun _ => ?_) (by rw [hk n]; simp [hn])
    exact ev_use (ea_cons (ev_get (ev_var rfl) (ev_var rfl) (k := .inr n) rfl (ex_rd e (.inr ⟨od, upd_same⟩)) hv') (ea_cons (ev_var rfl) ea_nil)) (spE_V (a, d, names) (fun _ e1 => ⟨rfl, (hR.le L).le (Le.ex (e.trans e1)), (hd.le L).le (Le.ex (e.trans e1))⟩) fun v _ p => p)
end
end KX
end
section
set_option Elab.async false
set_option linter.all false
set_option maxRecDepth 100000
set_option maxHeartbeats 4000000
/-! Bs3: the checks of places, steps, firsts, ends, letters, registers, and of all parts. -/
namespace KX
open PySem PySem.Spec PyProof.Rows L2 Evl
section
variable {P : Program} {w : World} {K : PySem.W.Frag} {mg : Str → Option Value} {base : Heap} {C : Addr} {f : Addr} {fd : FuncData}
theorem ok_is_place (F : Fun K "is_place" "is_place" s_is_place f fd) (Z : Zs mg C) (G_is_state : Has P w K mg base "is_state" 2 ["state", "states"] sp_is_state) : FnOk P w K mg base CX0 3 f fd ["key", "letters", "states"] sp_is_place := by
  refine F.ok sc_is_place (fun vs H Q E h => ?_) (fun cdv A outer s H vs Q E hr h => ?_)
  · obtain ⟨i, ⟨rfl, _⟩, _⟩ := h
    rfl
  · obtain ⟨⟨b, L, n, kk⟩, ⟨rfl, hb, z, c, rfl, h0, h1, hc⟩, k⟩ := h
    refine ⟨_, (pss_cons (ps_if (PW.pt (pw_or (pt_not (pt_val (pe_callB (cIsi (K := K)) (by rfl) Z.z_isinstance (by decide +kernel) (pa_cons (pv 0) (pa_cons (pe_bltn (by rfl) Z.z_tuple (by decide +kernel) (show RelV (.ty "tuple") _ from rfl)) pa_nil))))) (pw_or1 (pt_cmpR op_ne (pe_callB (cLenS (K := K)) (by rfl) Z.z_len PySem.boot_len (pa_cons (pv 0) pa_nil)) pe_int (nomark _))))) 
     (pss_one (ps_ret pe_bl)) pss_nil) 
    (pss_cons (ps_asg (pv 0) (pg_tup rfl (pgs_cons (pg_name (i := 3) sc_is_place.nd rfl (Or.inl rfl)) (pgs_cons (pg_name (i := 4) sc_is_place.nd rfl (Or.inl rfl)) pgs_nil)))) 
    (pss_one (ps_ret (pe_and (pe_use G_is_state (hr.mono (by decide)) (pa_cons (pv 3) (pa_cons (pv 2) pa_nil))) (pe_and (pe_callB (cIsi (K := K)) (by rfl) Z.z_isinstance (by decide +kernel) (pa_cons (pv 4) (pa_cons (pe_bltn (by rfl) Z.z_str (by decide +kernel) (show RelV (.ty "str") _ from rfl)) pa_nil))) (pe_and (pe_cmpR op_eq (pe_callB call_len_str (by rfl) Z.z_len PySem.boot_len (pa_cons (pv 4) pa_nil)) pe_int (nomark _)) (pe_one (pe_cmpR op_in_sign (pv 4) (pv 1) (by rfl)))))))))), ?_⟩
    refine q_when (b := false) (et_or (a := false) (et_not (a := true) (et_B (ev_isU (ev_var rfl) hb rfl))) fun _ => et_test (ev_is (ev_op (ev_lenT (ev_var rfl) (st_of hb)) ev_c (rv_ne rfl)) rfl)) (fun z => by cases z) fun _ H1 e1 => ?_
    have hb1 := e1 _ _ hb
    refine q_unpack2 (ev_var rfl) hb1 fun H2 e2 => ?_
    refine s_ret (v := .bl true) (ev_is (ev_andV (ev_use (ea_cons (ev_var rfl) (ea_cons (ev_var rfl) ea_nil)) (spE_V (z, n) (fun _ _ => rfl) fun v _ p => p)) fun _ => ev_andV (a := true) (ev_isS (ev_var rfl) rfl) fun _ =>
      ev_andV (a := true) (ev_op (ev_lenS (z := ⟨#[c]⟩) (ev_var rfl) (by show 1 ≤ 100000; decide)) ev_c (rv_eq rfl)) fun _ => ev_op (ev_var rfl) (ev_var rfl) fun H3 _ Q q => ⟨c, L, rfl, rfl, q H3 (Ex.refl H3)⟩) ?_) fun H3 e3 => k _ H3 ((e1.trans e2).trans e3) rfl
    simp [h0, h1, hc]
theorem ok_is_step (F : Fun K "is_step" "is_step" s_is_step f fd) (Z : Zs mg C) (G_is_state : Has P w K mg base "is_state" 2 ["state", "states"] sp_is_state) (G_are_rows : Has P w K mg base "are_rows" 4 ["rows", "known"] sp_are_rows) : FnOk P w K mg base CX0 5 f fd ["step", "states", "known"] sp_is_step := by
  refine F.ok sc_is_step (fun vs H Q E h => ?_) (fun cdv A outer s H vs Q E hr h => ?_)
  · obtain ⟨i, ⟨rfl, _⟩, _⟩ := h
    rfl
  · obtain ⟨⟨b, n, d, names⟩, ⟨rfl, ⟨g, r, hb, h0, h1, hR⟩, hd⟩, k⟩ := h
    refine ⟨_, (pss_one (ps_ret (pe_and (pe_callB (cIsi (K := K)) (by rfl) Z.z_isinstance (by decide +kernel) (pa_cons (pv 0) (pa_cons (pe_bltn (by rfl) Z.z_tuple (by decide +kernel) (show RelV (.ty "tuple") _ from rfl)) pa_nil))) (pe_and (pe_cmpR op_eq (pe_callB (cLenS (K := K)) (by rfl) Z.z_len PySem.boot_len (pa_cons (pv 0) pa_nil)) pe_int (nomark _)) (pe_and (pe_use G_is_state (hr.mono (by decide)) (pa_cons (pe_ix (ixT (K := K)) (pv 0) pe_int (fun _ _ => rfl)) (pa_cons (pv 1) pa_nil))) (pe_one (pe_use G_are_rows (hr.mono (by decide)) (pa_cons (pe_ix (ixT (K := K)) (pv 0) pe_int (fun _ _ => rfl)) (pa_cons (pv 2) pa_nil))))))))), ?_⟩
    refine s_ret (v := .bl true) (ev_is (ev_andV (a := true) (ev_isU (ev_var rfl) hb rfl) fun _ => ev_andV (a := true) (ev_op (ev_lenT (ev_var rfl) (st_of hb)) ev_c (rv_eq rfl)) fun _ =>
      ev_andV (b := true) (ev_use (ea_cons (ev_ixU (i := 0) (ev_var rfl) ev_c hb rfl) (ea_cons (ev_var rfl) ea_nil)) (spE_V (g, n) (fun _ _ => rfl) fun v _ p => p)) fun _ =>
        ev_use (ea_cons (ev_ixU (i := 1) (ev_var rfl) ev_c hb rfl) (ea_cons (ev_var rfl) ea_nil)) (spE_V (r, d, names) (fun _ e1 => ⟨rfl, hR.ex e1, hd.le (Le.ex e1)⟩) fun v _ p => p)) ?_) fun H3 e3 => k _ H3 e3 rfl
    simp [h0, h1]
theorem ok_are_steps (F : Fun K "are_steps" "are_steps" s_are_steps f fd) (Z : Zs mg C) (G_is_place : Has P w K mg base "is_place" 3 ["key", "letters", "states"] sp_is_place) (G_is_step : Has P w K mg base "is_step" 5 ["step", "states", "known"] sp_is_step) : FnOk P w K mg base CX0 6 f fd ["steps", "letters", "states", "known"] sp_are_steps := by
  refine F.ok sc_are_steps (fun vs H Q E h => ?_) (fun cdv A outer s H vs Q E hr h => ?_)
  · obtain ⟨i, ⟨rfl, _⟩, _⟩ := h
    rfl
  · obtain ⟨⟨sd, L, n, d, names⟩, ⟨rfl, ⟨kvs, hx, hl, hn, hi⟩, hL, hn0, hn3, hd⟩, k⟩ := h
    have hu := hu_of hr
    refine ⟨_, (pss_cons (ps_if (PW.pt (pw_or (pt_not (pt_val (pe_callB (cIsi (K := K)) (by rfl) Z.z_isinstance (by decide +kernel) (pa_cons (pv 0) (pa_cons (pe_bltn (by rfl) Z.z_dict (by decide +kernel) (show RelV (.ty "dict") _ from rfl)) pa_nil))))) (pw_or1 (pt_cmpR op_ne (pe_callB call_len_dT (by rfl) Z.z_len PySem.boot_len (pa_cons (pv 0) pa_nil)) (pe_op op_mul (pv 2) (pe_callB call_len_str (by rfl) Z.z_len PySem.boot_len (pa_cons (pv 1) pa_nil))) (nomark _))))) 
     (pss_one (ps_ret pe_bl)) pss_nil) 
    (pss_one (ps_ret (pe_callB (cr_all rfl) (by rfl) Z.z_all (by decide +kernel) (pa_cons (pe_lock (pe_lc (own := [(("key" : Str), 4)]) (g := gName 4) rfl sc_are_steps.nd (pi_keys (pv 0)) (blkOk_by (own := [(("key" : Str), 4)]) (N := n_are_steps) (sc := defScope s_are_steps) (by decide +kernel)) (fun _ _ _ _ _ => (pg_name (i := 4) sc_are_steps.nd rfl (Or.inl rfl))) (fun _ _ _ _ _ => pts_nil) (fun _ _ _ _ _ => (pe_and (pe_use G_is_place (hr.mono (by decide)) (pa_cons (pv 4) (pa_cons (pv 1) (pa_cons (pv 2) pa_nil)))) (pe_one (pe_use G_is_step (hr.mono (by decide)) (pa_cons (pe_dget hu (pv 0) (pv 4) (fun _ _ => rfl)) (pa_cons (pv 2) (pa_cons (pv 3) pa_nil))))))))) pa_nil))))), ?_⟩
    refine q_when (b := false) (et_or (a := false) (et_not (a := true) (et_B (ev_isDT (ev_var rfl) hx rfl))) fun _ => et_test (ev_is (ev_op (x := .int (kvs.length : Nat)) (y := .int (n * (L.length : Int))) ?_ (ev_op (ev_var rfl) (ev_lenS (ev_var rfl) (by omega)) (rv_I (.inl ⟨by omega, by omega⟩))) (rv_ne rfl)) (by rw [hn]; simp))) (fun z => by cases z) fun _ H1 e1 => ?_
    · exact ev_cb (ea_cons (ev_var rfl) ea_nil) fun H1 e1 Q q => ⟨sd, kvs, rfl, e1 _ _ hx, q H1 (Ex.refl H1)⟩
    have hx1 := e1 _ _ hx
    refine s_ret (v := .bl true) (ev_allT (n := kvs.length) (lock_EvL hx1 trivial fun od => ?_)) fun H2 e2 => k _ H2 (e1.trans e2) rfl
    have Lk := Le.lock (od := od) hx1 rfl rfl
    refine el_lcW (src_keysT (ev_var rfl) upd_same) (by omega) (fun x => rfl) _ (by simp) ?_
    intro i x y H' e hy ⟨kk, v, q, hkv, hxe, hq⟩
    subst hxe
    obtain ⟨hlt, rfl⟩ := List.getElem?_eq_some_iff.mp hy
    rw [List.getElem_replicate]
    obtain ⟨v', hv', hm⟩ := valV_of (mem_at hkv)
    obtain ⟨hp, b, rfl, hS⟩ := hi _ _ hm
    obtain ⟨g, r, hb, h0, h1, hR⟩ := hS.ex e1
    have hS2 : StX n names (upd H1 sd (.frz od (.dT kvs))) b := ⟨g, r, Lk.st _ _ rfl hb, h0, h1, hR.lockT hx1⟩
    have hd2 := (hd.le (Le.ex e1)).le Lk
    refine ev_is (ev_andV (a := true) (b := true) (ev_use (ea_cons (ev_var rfl) (ea_cons (ev_var rfl) (ea_cons (ev_var rfl) ea_nil))) (spE_V (q, L, n, kk) (fun _ e1 => ⟨rfl, e1 _ _ hq, hp⟩) fun v _ p => p)) fun _ => ?_) rfl
    exact ev_use (ea_cons (ev_getT (ev_var rfl) (ev_var rfl) hq (ex_rd e (.inr ⟨od, upd_same⟩)) hv') (ea_cons (ev_var rfl) (ea_cons (ev_var rfl) ea_nil))) (spE_V (b, n, d, names) (fun _ e3 => ⟨rfl, hS2.ex (e.trans e3), hd2.le (Le.ex (e.trans e3))⟩) fun v _ p => p)
theorem ok_are_firsts (F : Fun K "are_firsts" "are_firsts" s_are_firsts f fd) (Z : Zs mg C) (G_is_text : Has P w K mg base "is_text" 2 ["thing"] sp_is_text) : FnOk P w K mg base CX0 3 f fd ["firsts", "known"] sp_are_firsts := by
  refine F.ok sc_are_firsts (fun vs H Q E h => ?_) (fun cdv A outer s H vs Q E hr h => ?_)
  · obtain ⟨i, ⟨rfl, _⟩, _⟩ := h
    rfl
  · obtain ⟨⟨r, d, names⟩, ⟨rfl, ⟨kvs, hx, hl, hi⟩, hd⟩, k⟩ := h
    have hu := hu_of hr
    refine ⟨_, (pss_one (ps_ret (pe_and (pe_callB (cIsi (K := K)) (by rfl) Z.z_isinstance (by decide +kernel) (pa_cons (pv 0) (pa_cons (pe_bltn (by rfl) Z.z_dict (by decide +kernel) (show RelV (.ty "dict") _ from rfl)) pa_nil))) (pe_one (pe_callB (cr_all rfl) (by rfl) Z.z_all (by decide +kernel) (pa_cons (pe_lock (pe_lc (own := [(("name" : Str), 2)]) (g := gName 2) rfl sc_are_firsts.nd (pi_keys (pv 0)) (blkOk_by (own := [(("name" : Str), 2)]) (N := n_are_firsts) (sc := defScope s_are_firsts) (by decide +kernel)) (fun _ _ _ _ _ => (pg_name (i := 2) sc_are_firsts.nd rfl (Or.inl rfl))) (fun _ _ _ _ _ => pts_nil) (fun _ _ _ _ _ => (pe_and (pe_cmp (pc_din hu (pv 2) (pv 1))) (pe_one (pe_use G_is_text (hr.mono (by decide)) (pa_cons (pe_dget hu (pv 0) (pv 2) (fun _ _ => rfl)) pa_nil))))))) pa_nil)))))), ?_⟩
    refine s_ret (v := .bl true) (ev_andV (a := true) (ev_isD (ev_var rfl) (.inl hx) rfl) fun _ => ev_allT (n := kvs.length) (lock_EvL hx trivial fun od => ?_)) fun H1 e => k _ H1 e rfl
    have L := Le.lock (od := od) hx rfl rfl
    refine el_lcW (src_keysK (ev_var rfl) upd_same) (by omega) (fun x => rfl) _ (by simp) ?_
    intro i x y H' e hy ⟨kk, v, hkv, hxe⟩
    subst hxe
    obtain ⟨hlt, rfl⟩ := List.getElem?_eq_some_iff.mp hy
    rw [List.getElem_replicate]
    obtain ⟨v', hv', hm⟩ := valV_of (mem_at hkv)
    obtain ⟨n, s, rfl, rfl, hn, hT⟩ := hi _ _ hm
    obtain ⟨kk, hK, hk⟩ := (hd.le L).le (Le.ex e)
    refine ev_is (ev_andV (b := true) (ev_in (k := .inr n) (ev_var rfl) rfl (ev_var rfl) hK) fun _ => ?_) (by rw [hk n]; simp [hn])
    refine ev_use (ea_cons (ev_get (ev_var rfl) (ev_var rfl) (k := .inr n) rfl (ex_rd e (.inr ⟨od, upd_same⟩)) hv') ea_nil) (spE_V (.str s) (fun _ e1 => ⟨rfl, .inl ⟨s, rfl, hT.2⟩⟩) fun v _ p => p.trans ?_)
    simp [txB, hT.1]
theorem ok_are_ends (F : Fun K "are_ends" "are_ends" s_are_ends f fd) (Z : Zs mg C) (G_is_state : Has P w K mg base "is_state" 2 ["state", "states"] sp_is_state) (G_is_row : Has P w K mg base "is_row" 3 ["row", "known"] sp_is_row) : FnOk P w K mg base CX0 4 f fd ["ends", "states", "known"] sp_are_ends := by
  refine F.ok sc_are_ends (fun vs H Q E h => ?_) (fun cdv A outer s H vs Q E hr h => ?_)
  · obtain ⟨i, ⟨rfl, _⟩, _⟩ := h
    rfl
  · obtain ⟨⟨r, z, d, names⟩, ⟨rfl, ⟨kvs, hx, hl, hi⟩, hd⟩, k⟩ := h
    have hu := hu_of hr
    refine ⟨_, (pss_one (ps_ret (pe_and (pe_callB (cIsi (K := K)) (by rfl) Z.z_isinstance (by decide +kernel) (pa_cons (pv 0) (pa_cons (pe_bltn (by rfl) Z.z_dict (by decide +kernel) (show RelV (.ty "dict") _ from rfl)) pa_nil))) (pe_one (pe_callB (cr_all rfl) (by rfl) Z.z_all (by decide +kernel) (pa_cons (pe_lock (pe_lc (own := [(("state" : Str), 3)]) (g := gName 3) rfl sc_are_ends.nd (pi_keys (pv 0)) (blkOk_by (own := [(("state" : Str), 3)]) (N := n_are_ends) (sc := defScope s_are_ends) (by decide +kernel)) (fun _ _ _ _ _ => (pg_name (i := 3) sc_are_ends.nd rfl (Or.inl rfl))) (fun _ _ _ _ _ => pts_nil) (fun _ _ _ _ _ => (pe_and (pe_use G_is_state (hr.mono (by decide)) (pa_cons (pv 3) (pa_cons (pv 1) pa_nil))) (pe_one (pe_use G_is_row (hr.mono (by decide)) (pa_cons (pe_dget hu (pv 0) (pv 3) (fun _ _ => rfl)) (pa_cons (pv 2) pa_nil)))))))) pa_nil)))))), ?_⟩
    refine s_ret (v := .bl true) (ev_andV (a := true) (ev_isD (ev_var rfl) (.inl hx) rfl) fun _ => ev_allT (n := kvs.length) (lock_EvL hx trivial fun od => ?_)) fun H1 e => k _ H1 e rfl
    have L := Le.lock (od := od) hx rfl rfl
    refine el_lcW (src_keysK (ev_var rfl) upd_same) (by omega) (fun x => rfl) _ (by simp) ?_
    intro i x y H' e hy ⟨kk, v, hkv, hxe⟩
    subst hxe
    obtain ⟨hlt, rfl⟩ := List.getElem?_eq_some_iff.mp hy
    rw [List.getElem_replicate]
    obtain ⟨v', hv', hm⟩ := valV_of (mem_at hkv)
    obtain ⟨s, a, rfl, rfl, h0, h1, hR⟩ := hi _ _ hm
    refine ev_is (ev_andV (b := true) (ev_use (ea_cons (ev_var rfl) (ea_cons (ev_var rfl) ea_nil)) (spE_V (s, z) (fun _ _ => rfl) fun v _ p => p)) fun _ => ?_) (by simp [h0, h1])
    exact ev_use (ea_cons (ev_get (ev_var rfl) (ev_var rfl) (k := .inl s) rfl (ex_rd e (.inr ⟨od, upd_same⟩)) hv') (ea_cons (ev_var rfl) ea_nil)) (spE_V (a, d, names) (fun _ e1 => ⟨rfl, (hR.le L).le (Le.ex (e.trans e1)), (hd.le L).le (Le.ex (e.trans e1))⟩) fun v _ p => p)
end
end KX
end
section
set_option Elab.async false
set_option linter.all false
set_option maxRecDepth 100000
set_option maxHeartbeats 4000000
/-! Bs4: letters, registers, all parts; texts of rows. -/
namespace KX
open PySem PySem.Spec PyProof.Rows L2 Evl
section
variable {K : PySem.W.Frag} {σ : L2.St} {H : Hp} {ta tb tc te td : TE} {P : Program} {w : World} {D : Ends} {tz : TS}
theorem q_new {N : HO → Hp → Prop} {i : Nat} (h : New te σ H N) (k : ∀ p o H1, H p = none → Ex H H1 → H1 p = some o → N o H1 → tz D (σ.set i (some (.ref p))) H1) : tSeq (tAsg te (gName i)) tz D σ H := h H (Ex.refl H) _ fun p o H1 e1 e2 e3 n => k p o H1 e1 e2 e3 n
theorem s_retN {N : HO → Hp → Prop} (h : New te σ H N) (k : ∀ p o H1, H p = none → Ex H H1 → H1 p = some o → N o H1 → D.rt (.ref p) H1) : tRet te D σ H := h H (Ex.refl H) _ fun p o H1 e1 e2 e3 n => k p o H1 e1 e2 e3 n
theorem s_retP {Pv : V → Hp → Prop} (h : EvP te σ H Pv) (k : ∀ v H1, Ex H H1 → Pv v H1 → D.rt v H1) : tRet te D σ H := h H (Ex.refl H) _ k
theorem q_asgP {Pv : V → Hp → Prop} {i : Nat} (h : EvP te σ H Pv) (k : ∀ v H1, Ex H H1 → Pv v H1 → tz D (σ.set i (some v)) H1) : tSeq (tAsg te (gName i)) tz D σ H := h H (Ex.refl H) _ k
/-- len(set(a text)), its signs unlike -/
theorem ev_lenSetS {z : Str} (ha : Ev ta σ H (.str z)) (hnd : (z.cps.toList.map fun c => (⟨#[c]⟩ : Str)).Nodup) (hz : z.length ≤ 1000) : Ev (tCB (rLenA P w) (tCons (tCB (rSetA K P w) (tCons ta tNil)) tNil)) σ H (.int (z.length : Int)) := fun H1 e Q q =>
  ha H1 e _ fun H2 e2 => ⟨_, .inr ⟨z, rfl, rfl⟩, hnd, by
    rw [List.length_map, Array.length_toList]
    show z.length + 1 < 4096
    omega, fun p hp => ⟨p, _, rfl, upd_same, by
      have hl : (z.cps.toList.map fun c => (⟨#[c]⟩ : Str)).length = z.length := by rw [List.length_map, Array.length_toList]; rfl
      rw [hl]
      exact q _ (e2.trans (Ex.new hp))⟩⟩
theorem ev_lenSetL {a : Addr} {xs : List Str} (ha : Ev ta σ H (.ref a)) (h : SqL K H a (xs.map V.str)) (hnd : xs.Nodup) (hz : xs.length ≤ 1000) : Ev (tCB (rLenA P w) (tCons (tCB (rSetA K P w) (tCons ta tNil)) tNil)) σ H (.int (xs.length : Int)) := fun H1 e Q q =>
  ha H1 e _ fun H2 e2 => ⟨xs, .inl ⟨a, rfl, .inl (ex_l (e.trans e2) h)⟩, hnd, by
    show xs.length + 1 < 4096
    omega, fun p hp => ⟨p, _, rfl, upd_same, q _ (e2.trans (Ex.new hp))⟩⟩
/-- isinstance(a list, (list, tuple)) -/
theorem ev_isLT {a : Addr} {xs : List V} (ha : Ev ta σ H (.ref a)) (h : H a = some (.lst xs)) : Ev (tCB (rIsiT K) (tCons ta (tCons (tTup (tCons (tC (.ty "list")) (tCons (tC (.ty "tuple")) tNil))) tNil))) σ H (.bl true) := fun H1 e Q q =>
  ha H1 e _ fun H2 e2 => ⟨by show 2 ≤ sizeLine; decide, fun p hp => ⟨.ref a, p, _, .type "list", [.type "list", .type "tuple"], true, rfl, upd_same, .cons (.ty "list") (.cons (.ty "tuple") .nil), .base (.lst (by
    have h2 := (e.trans e2) _ _ h
    rw [upd_ne (ne_of_none h2 hp)]
    exact h2)), kitAny_cons (b := true) (kit_ty rfl) (fun z => by cases z) (fun _ => rfl), q _ (e2.trans (Ex.new hp))⟩⟩
end

structure PartsX (H : Hp) (L : Str) (n : Int) (regs : List Str) (ra fa sa ea : Addr) : Prop where
  lT : Tx L
  l1 : 1 ≤ L.length
  l4 : L.length ≤ 4
  lN : (L.cps.toList.map fun c => (⟨#[c]⟩ : Str)).Nodup
  n1 : 1 ≤ n
  n3 : n ≤ 300
  rS : H ra = some (.lst (regs.map V.str))
  rN : regs.Nodup
  r6 : regs.length ≤ 60
  rW : ∀ x ∈ regs, Wd x
  f : FirstsX regs H fa
  s : StepsX L n regs H sa
  e : EndsX n regs H ea
theorem PartsX.ex {H H' : Hp} {L : Str} {n : Int} {regs : List Str} {ra fa sa ea : Addr} (e : Ex H H') (h : PartsX H L n regs ra fa sa ea) : PartsX H' L n regs ra fa sa ea :=
  ⟨h.lT, h.l1, h.l4, h.lN, h.n1, h.n3, e _ _ h.rS, h.rN, h.r6, h.rW, h.f.ex e, h.s.ex e, h.e.ex e⟩
def sp_are_letters : Sp := spE (fun (L : Str) vs _ => vs = [.str L] ∧ Tx L ∧ 1 ≤ L.length ∧ L.length ≤ 4 ∧ (L.cps.toList.map fun c => (⟨#[c]⟩ : Str)).Nodup) (fun _ v _ => v = .bl true)
def sp_are_registers : Sp := spE (fun (x : Addr × List Str) vs H => vs = [.ref x.1] ∧ H x.1 = some (.lst (x.2.map V.str)) ∧ x.2.Nodup ∧ x.2.length ≤ 60 ∧ ∀ s ∈ x.2, Wd s) (fun _ v _ => v = .bl true)
structure FW where
  L : Str
  n : Int
  regs : List Str
  ra : Addr
  fa : Addr
  sa : Addr
  ea : Addr
def sp_first_wrong : Sp := spE (fun (x : FW) vs H => vs = [.str x.L, .int x.n, .ref x.ra, .ref x.fa, .ref x.sa, .ref x.ea] ∧ PartsX H x.L x.n x.regs x.ra x.fa x.sa x.ea) (fun _ v _ => v = .non)
section
variable {P : Program} {w : World} {K : PySem.W.Frag} {mg : Str → Option Value} {base : Heap} {C : Addr} {f : Addr} {fd : FuncData}
theorem ok_are_letters (F : Fun K "are_letters" "are_letters" s_are_letters f fd) (Z : Zs mg C) (G_is_text : Has P w K mg base "is_text" 2 ["thing"] sp_is_text) : FnOk P w K mg base CX0 3 f fd ["letters"] sp_are_letters := by
  refine F.ok sc_are_letters (fun vs H Q E h => ?_) (fun cdv A outer s H vs Q E hr h => ?_)
  · obtain ⟨i, ⟨rfl, _⟩, _⟩ := h
    rfl
  · obtain ⟨L, ⟨rfl, hT, h1, h4, hN⟩, k⟩ := h
    refine ⟨_, (pss_one (ps_ret (pe_and (pe_use G_is_text (hr.mono (by decide)) (pa_cons (pv 0) pa_nil)) (pe_and (pe_chain op_le op_le pe_int (pe_callB call_len_str (by rfl) Z.z_len PySem.boot_len (pa_cons (pv 0) pa_nil)) (pe_gcI rfl Z.c_MOST_LETTERS)) (pe_one (pe_cmpR op_eq (pe_callB call_lenA (by rfl) Z.z_len PySem.boot_len (pa_cons (pe_callTy (cr_setA (K := K) rfl) (by rfl) Z.z_set (by decide +kernel) (pa_cons (pv 0) pa_nil)) pa_nil)) (pe_callB call_len_str (by rfl) Z.z_len PySem.boot_len (pa_cons (pv 0) pa_nil)) (nomark _))))))), ?_⟩
    refine s_ret (v := .bl true) (ev_is (ev_andV (a := txB (.str L) SIG) (ev_use (ea_cons (ev_var rfl) ea_nil) (spE_V (.str L) (fun _ _ => ⟨rfl, .inl ⟨L, rfl, hT.2⟩⟩) fun v _ p => p)) fun _ => ev_andV (ev_between ev_c (ev_lenS (ev_var rfl) hT.2) ev_c) fun _ =>
      ev_op (ev_lenSetS (ev_var rfl) hN (by omega)) (ev_lenS (ev_var rfl) hT.2) (rv_eq rfl)) ?_) fun H3 e3 => k _ H3 e3 rfl
    simp [txB, hT.1]
    omega
theorem ok_are_registers (F : Fun K "are_registers" "are_registers" s_are_registers f fd) (Z : Zs mg C) (G_is_word : Has P w K mg base "is_word" 2 ["thing"] sp_is_word) : FnOk P w K mg base CX0 3 f fd ["registers"] sp_are_registers := by
  refine F.ok sc_are_registers (fun vs H Q E h => ?_) (fun cdv A outer s H vs Q E hr h => ?_)
  · obtain ⟨i, ⟨rfl, _⟩, _⟩ := h
    rfl
  · obtain ⟨⟨ra, xs⟩, ⟨rfl, hx, hN, h6, hW⟩, k⟩ := h
    refine ⟨_, (pss_cons (ps_if (PW.pt (pw_or (pt_not (pt_val (pe_callB (cIsiT (K := K)) (by rfl) Z.z_isinstance (by decide +kernel) (pa_cons (pv 0) (pa_cons (pe_tup (pa_cons (pe_bltn (by rfl) Z.z_list (by decide +kernel) (show RelV (.ty "list") _ from rfl)) (pa_cons (pe_bltn (by rfl) Z.z_tuple (by decide +kernel) (show RelV (.ty "tuple") _ from rfl)) pa_nil))) pa_nil))))) (pw_or1 (pt_cmpR op_gt (pe_callB (cLenS (K := K)) (by rfl) Z.z_len PySem.boot_len (pa_cons (pv 0) pa_nil)) (pe_gcI rfl Z.c_MOST_REGISTERS) (nomark _))))) 
     (pss_one (ps_ret pe_bl)) pss_nil) 
    (pss_one (ps_ret (pe_and (pe_callB (cr_all rfl) (by rfl) Z.z_all (by decide +kernel) (pa_cons (pe_lc (own := [(("name" : Str), 1)]) (g := gName 1) rfl sc_are_registers.nd (pi_list (pv 0)) (blkOk_by (own := [(("name" : Str), 1)]) (N := n_are_registers) (sc := defScope s_are_registers) (by decide +kernel)) (fun _ _ _ _ _ => (pg_name (i := 1) sc_are_registers.nd rfl (Or.inl rfl))) (fun _ _ _ _ _ => pts_nil) (fun _ _ _ _ _ => (pe_use G_is_word (hr.mono (by decide)) (pa_cons (pv 1) pa_nil)))) pa_nil)) (pe_one (pe_cmpR op_eq (pe_callB call_lenA (by rfl) Z.z_len PySem.boot_len (pa_cons (pe_callTy (cr_setA (K := K) rfl) (by rfl) Z.z_set (by decide +kernel) (pa_cons (pv 0) pa_nil)) pa_nil)) (pe_callB (cLenS (K := K)) (by rfl) Z.z_len PySem.boot_len (pa_cons (pv 0) pa_nil)) (nomark _))))))), ?_⟩
    have h6 : xs.length ≤ 60 := h6
    have hl : (xs.map V.str).length = xs.length := List.length_map _
    refine q_when (b := false) (et_is (et_or (a := false) (et_not (a := true) (et_B (ev_isLT (ev_var rfl) hx))) fun _ => et_test (ev_op (ev_len (ev_var rfl) (sq_of hx)) ev_c rv_I0)) (by
      rw [hl]
      simp
      omega)) (fun z => by cases z) fun _ H1 e1 => ?_
    have hx1 := e1 _ _ hx
    refine s_ret (v := .bl true) (ev_is (ev_andV (a := true) (ev_allT (n := (xs.map V.str).length) (el_lcW (src_list (K := K) (ev_var rfl) (sq_of hx1)) (by show (xs.map V.str).length ≤ 100000; omega) (fun x => rfl) _ (by simp) ?_)) fun _ =>
      ev_op (ev_lenSetL (ev_var rfl) (sq_of hx1) hN (by omega)) (ev_len (ev_var rfl) (sq_of hx1)) (rv_eq rfl)) ?_) fun H3 e3 => k _ H3 (e1.trans e3) rfl
    · intro i x y H' e hy hxi
      obtain ⟨hlt, rfl⟩ := List.getElem?_eq_some_iff.mp hy
      rw [List.getElem_replicate]
      obtain ⟨s, hs, rfl⟩ := List.mem_map.mp (List.mem_of_getElem? hxi)
      have hw := hW s hs
      refine ev_use (ea_cons (ev_var rfl) ea_nil) (spE_V s (fun _ _ => ⟨rfl, by have := hw.2.2; omega⟩) fun v _ p => p.trans ?_)
      rw [decide_eq_true hw]
    · rw [hl]
      simp
theorem ok_first_wrong (F : Fun K "first_wrong" "first_wrong" s_first_wrong f fd) (Z : Zs mg C) (G_are_ends : Has P w K mg base "are_ends" 4 ["ends", "states", "known"] sp_are_ends) (G_are_firsts : Has P w K mg base "are_firsts" 3 ["firsts", "known"] sp_are_firsts)
    (G_are_letters : Has P w K mg base "are_letters" 3 ["letters"] sp_are_letters) (G_are_registers : Has P w K mg base "are_registers" 3 ["registers"] sp_are_registers) (G_are_steps : Has P w K mg base "are_steps" 6 ["steps", "letters", "states", "known"] sp_are_steps) (G_is_number : Has P w K mg base "is_number" 1 ["thing"] sp_is_number) :
    FnOk P w K mg base CX0 7 f fd ["letters", "states", "registers", "firsts", "steps", "ends"] sp_first_wrong := by
  refine F.ok sc_first_wrong (fun vs H Q E h => ?_) (fun cdv A outer s H vs Q E hr h => ?_)
  · obtain ⟨i, ⟨rfl, _⟩, _⟩ := h
    rfl
  · obtain ⟨⟨L, n, regs, ra, fa, sa, ea⟩, ⟨rfl, X⟩, k⟩ := h
    have X : PartsX H L n regs ra fa sa ea := X
    have hu := hu_of hr
    have hu64 := hr.units
    have hu0 := Nat.lt_of_succ_lt hu
    refine ⟨_, (pss_cons (ps_if (pt_not (pt_val (pe_use G_are_letters (hr.mono (by decide)) (pa_cons (pv 0) pa_nil)))) 
     (pss_one (ps_ret pe_str)) pss_nil) 
    (pss_cons (ps_if (PW.pt (pw_or (pt_not (pt_val (pe_use G_is_number (hr.mono (by decide)) (pa_cons (pv 1) pa_nil)))) (pw_or1 (pt_not (pt_chain op_le op_le pe_int (pv 1) (pe_gcI rfl Z.c_MOST_STATES)))))) 
     (pss_one (ps_ret pe_str)) pss_nil) 
    (pss_cons (ps_if (pt_not (pt_val (pe_use G_are_registers (hr.mono (by decide)) (pa_cons (pv 2) pa_nil)))) 
     (pss_one (ps_ret pe_str)) pss_nil) 
    (pss_cons (ps_setDp (i := 6) (own := [(("name" : Str), 7)]) (g := gName 7) IsNil.k hu0 rfl sc_first_wrong.nd rfl rfl (sw_trueD rfl rfl rfl (by decide +kernel)) (pi_list (pv 2)) (blkOk_by (own := [(("name" : Str), 7)]) (N := n_first_wrong) (sc := defScope s_first_wrong) (by decide +kernel)) (fun _ _ _ _ _ => (pg_name (i := 7) sc_first_wrong.nd rfl (Or.inl rfl))) (fun _ _ _ _ _ => pts_nil) (fun _ _ _ _ _ => (pv 7)) (fun _ _ _ _ _ => pe_bl)) 
    (pss_cons (ps_if (pt_not (pt_val (pe_use G_are_firsts (hr.mono (by decide)) (pa_cons (pv 3) (pa_cons (pv 6) pa_nil))))) 
     (pss_one (ps_ret pe_str)) pss_nil) 
    (pss_cons (ps_if (pt_not (pt_val (pe_use G_are_steps (hr.mono (by decide)) (pa_cons (pv 4) (pa_cons (pv 0) (pa_cons (pv 1) (pa_cons (pv 6) pa_nil))))))) 
     (pss_one (ps_ret pe_str)) pss_nil) 
    (pss_cons (ps_if (pt_not (pt_val (pe_use G_are_ends (hr.mono (by decide)) (pa_cons (pv 5) (pa_cons (pv 1) (pa_cons (pv 6) pa_nil)))))) 
     (pss_one (ps_ret pe_str)) pss_nil) 
    (pss_one (ps_ret pe_non))))))))), ?_⟩
    refine q_when (b := false) (et_not (a := true) (et_B (ev_use (ea_cons (ev_var rfl) ea_nil) (spE_V L (fun _ _ => ⟨rfl, X.lT, X.l1, X.l4, X.lN⟩) fun v _ p => p)))) (fun z => by cases z) fun _ H1 e1 => ?_
    refine q_when (b := false) (et_is (et_or (a := false) (et_not (a := true) (et_B (ev_use (ea_cons (ev_var rfl) ea_nil) (spE_V n (fun _ _ => rfl) fun v _ p => p)))) fun _ => et_not (et_test (ev_between ev_c (ev_var rfl) ev_c))) (by
      have h1 := X.n1
      have h3 := X.n3
      simp
      omega)) (fun z => by cases z) fun _ H2 e2 => ?_
    have X2 := X.ex (e1.trans e2)
    refine q_when (b := false) (et_not (a := true) (et_B (ev_use (ea_cons (ev_var rfl) ea_nil) (spE_V (ra, regs) (fun _ e => ⟨rfl, e _ _ X2.rS, X.rN, X.r6, X.rW⟩) fun v _ p => p)))) (fun z => by cases z) fun _ H3 e3 => ?_
    have X3 := X2.ex e3
    have hr6 := X.r6
    refine q_new (new_dpK (src_list (K := K) (ev_var rfl) (sq_of X3.rS)) (by rw [List.length_map]; omega) (fun x => rfl) (regs.map Sum.inr) (by simp) (List.Pairwise.map Sum.inr (fun a b h q => h (Sum.inr.inj q)) X.rN) (fun _ v _ => v = .bl true) (fun _ _ => stab_pure) ?_ ?_ ?_) fun d o H4 hd e4 h4 ⟨kvs, eo, hk, hv⟩ => ?_
    · intro i x k H' e hk hx
      rw [List.getElem?_map] at hk hx
      cases hr : regs[i]? with
      | none => rw [hr] at hk; cases hk
      | some s =>
        rw [hr] at hk hx
        cases hk
        cases hx
        exact ev_var rfl
    · intro i x H' e hi hx
      exact EvP.of ev_c
    · intro i x H' H'' _ h
      exact h
    subst eo
    have X4 := X3.ex e4
    have kn : Kn regs H4 d := ⟨kvs, .inl h4, fun s => by
      by_cases hs : s ∈ regs
      · obtain ⟨v, hv, _⟩ := valV_key (kvs := kvs) (k := .inr s) (by rw [hk]; exact List.mem_map_of_mem hs)
        rw [hv]
        simp [hs]
      · cases hv : valV kvs (.inr s) with
        | none => simp [hs]
        | some v =>
          have hm := List.mem_map_of_mem (f := (·.1)) (valV_mem hv)
          rw [hk] at hm
          obtain ⟨s', h1, h2⟩ := List.mem_map.mp hm
          cases h2
          exact absurd h1 hs⟩
    refine q_when (b := false) (et_not (a := true) (et_B (ev_use (ea_cons (ev_var rfl) (ea_cons (ev_var rfl) ea_nil)) (spE_V (fa, d, regs) (fun _ e => ⟨rfl, X4.f.ex e, kn.le (Le.ex e)⟩) fun v _ p => p)))) (fun z => by cases z) fun _ H5 e5 => ?_
    have X5 := X4.ex e5
    have kn5 := kn.le (Le.ex e5)
    refine q_when (b := false) (et_not (a := true) (et_B (ev_use (ea_cons (ev_var rfl) (ea_cons (ev_var rfl) (ea_cons (ev_var rfl) (ea_cons (ev_var rfl) ea_nil)))) (spE_V (sa, L, n, d, regs) (fun _ e => ⟨rfl, X5.s.ex e, by show L.length ≤ 100; have := X.l4; omega, by show 0 ≤ n; have := X.n1; omega, X.n3, kn5.le (Le.ex e)⟩) fun v _ p => p)))) (fun z => by cases z) fun _ H6 e6 => ?_
    have X6 := X5.ex e6
    have kn6 := kn5.le (Le.ex e6)
    refine q_when (b := false) (et_not (a := true) (et_B (ev_use (ea_cons (ev_var rfl) (ea_cons (ev_var rfl) (ea_cons (ev_var rfl) ea_nil))) (spE_V (ea, n, d, regs) (fun _ e => ⟨rfl, X6.e.ex e, kn6.le (Le.ex e)⟩) fun v _ p => p)))) (fun z => by cases z) fun _ H7 e7 => ?_
    exact s_ret (v := .non) ev_c fun H8 e8 => k _ H8 (((((((e1.trans e2).trans e3).trans e4).trans e5).trans e6).trans e7).trans e8) rfl
end
end KX
end
section
set_option Elab.async false
set_option linter.all false
set_option maxRecDepth 100000
set_option maxHeartbeats 4000000
/-! Bs5: texts put together, rows put together. -/
namespace KX
open PySem PySem.Spec PyProof.Rows L2 Evl

/-! ### texts side by side -/
abbrev cds (s : Str) : List Nat := s.cps.toList
def cat (ts : List Str) : Str := Txt.join "" ts
theorem cds_inj {a b : Str} (h : cds a = cds b) : a = b := by
  cases a with | mk x =>
  cases b with | mk y =>
  congr 1
  exact Array.toList_inj.mp h
theorem joinL_nil : ∀ l : List (List Nat), TL.joinL [] l = l.flatten
  | [] => rfl
  | [p] => by simp [TL.joinL]
  | p :: q :: r => by
    show p ++ ([] ++ TL.joinL [] (q :: r)) = _
    rw [joinL_nil (q :: r)]
    simp
theorem cds_cat (ts : List Str) : cds (cat ts) = (ts.map cds).flatten := by
  unfold cat
  rw [TL.join_eq]
  have h := TL.tl_join "" ts
  have h0 : TL.tl ("" : Str) = [] := rfl
  rw [h0, joinL_nil] at h
  exact h
theorem cat_append (a b : List Str) : cat (a ++ b) = cat [cat a, cat b] := by
  apply cds_inj
  simp [cds_cat]
theorem len_cds (s : Str) : s.length = (cds s).length := by
  rw [Array.length_toList]
  rfl
theorem len_cat (ts : List Str) : (cat ts).length = (ts.map (·.length)).sum := by
  rw [len_cds, cds_cat, List.length_flatten, List.map_map]
  congr 1
theorem empty_of {s : Str} (h : s.length = 0) : s = "" := by
  apply cds_inj
  rw [len_cds] at h
  rw [List.eq_nil_of_length_eq_zero h]
  rfl
def itT (h : Str → Str) : Itm → Str
  | .t s => s
  | .r n => h n
/-- the text of a row -/
def wr (row : List Itm) (h : Str → Str) : Str := cat (row.map (itT h))
theorem cds_wr (row : List Itm) (h : Str → Str) : cds (wr row h) = (row.map fun t => cds (itT h t)).flatten := by
  unfold wr
  rw [cds_cat, List.map_map]
  rfl
def oneS (ts : List Str) : List Str := if cat ts = "" then [] else [cat ts]
/-- a row in its one form -/
def nrmGo : List Itm → List Itm → List Str → List Itm
  | [], acc, ts => acc ++ (oneS ts).map .t
  | .t s :: r, acc, ts => nrmGo r acc (ts ++ [s])
  | .r n :: r, acc, ts => nrmGo r (acc ++ (oneS ts).map .t ++ [.r n]) []
def nrm (row : List Itm) : List Itm := nrmGo row [] []
theorem cds_oneS (ts : List Str) (h : Str → Str) : (((oneS ts).map Itm.t).map fun t => cds (itT h t)).flatten = cds (cat ts) := by
  unfold oneS
  by_cases e : cat ts = ""
  · rw [if_pos e, e]
    rfl
  · rw [if_neg e]
    simp [itT]
theorem cds_nrmGo (h : Str → Str) : ∀ (row acc : List Itm) (ts : List Str), cds (wr (nrmGo row acc ts) h) = cds (wr acc h) ++ cds (cat ts) ++ cds (wr row h)
  | [], acc, ts => by
    show cds (wr (acc ++ (oneS ts).map .t) h) = _
    rw [cds_wr, List.map_append, List.flatten_append, cds_oneS, ← cds_wr]
    have : cds (wr [] h) = [] := by rw [cds_wr]; rfl
    rw [this, List.append_nil]
  | .t s :: r, acc, ts => by
    show cds (wr (nrmGo r acc (ts ++ [s])) h) = _
    rw [cds_nrmGo h r, cds_cat, cds_cat, List.map_append, List.flatten_append]
    have : cds (wr (.t s :: r) h) = cds s ++ cds (wr r h) := by rw [cds_wr, cds_wr]; rfl
    rw [this]
    simp
  | .r n :: r, acc, ts => by
    show cds (wr (nrmGo r (acc ++ (oneS ts).map .t ++ [.r n]) []) h) = _
    rw [cds_nrmGo h r]
    have e1 : cds (wr (.r n :: r) h) = cds (h n) ++ cds (wr r h) := by rw [cds_wr, cds_wr]; rfl
    have e2 : cds (wr (acc ++ (oneS ts).map .t ++ [.r n]) h) = cds (wr acc h) ++ cds (cat ts) ++ cds (h n) := by
      rw [cds_wr, List.map_append, List.flatten_append, List.map_append, List.flatten_append, cds_oneS, ← cds_wr]
      simp [itT]
    have e3 : cds (cat []) = [] := by rw [cds_cat]; rfl
    rw [e1, e2, e3]
    simp
theorem wr_nrm (row : List Itm) (h : Str → Str) : wr (nrm row) h = wr row h := by
  apply cds_inj
  unfold nrm
  rw [cds_nrmGo]
  have e1 : cds (wr [] h) = [] := by rw [cds_wr]; rfl
  have e3 : cds (cat []) = [] := by rw [cds_cat]; rfl
  rw [e1, e3]
  rfl
theorem nrmGo_mem {n : Str} : ∀ (row acc : List Itm) (ts : List Str), Itm.r n ∈ nrmGo row acc ts → .r n ∈ acc ∨ .r n ∈ row
  | [], acc, ts, h => by
    have h : Itm.r n ∈ acc ++ (oneS ts).map .t := h
    rcases List.mem_append.mp h with h | h
    · exact .inl h
    · obtain ⟨_, _, e⟩ := List.mem_map.mp h
      cases e
  | .t s :: r, acc, ts, h => by
    rcases nrmGo_mem r acc (ts ++ [s]) h with h | h
    · exact .inl h
    · exact .inr (List.mem_cons_of_mem _ h)
  | .r m :: r, acc, ts, h => by
    rcases nrmGo_mem r _ _ h with h | h
    · rcases List.mem_append.mp h with h | h
      · rcases List.mem_append.mp h with h | h
        · exact .inl h
        · obtain ⟨_, _, e⟩ := List.mem_map.mp h
          cases e
      · exact .inr (by rw [List.mem_singleton.mp h]; exact List.mem_cons_self)
    · exact .inr (List.mem_cons_of_mem _ h)
theorem nrm_mem {n : Str} {row : List Itm} (h : Itm.r n ∈ nrm row) : .r n ∈ row := by
  rcases nrmGo_mem row [] [] h with h | h
  · cases h
  · exact h
def tLen : Itm → Nat
  | .t s => s.length
  | .r _ => 0
def rowLen (row : List Itm) : Nat := (row.map tLen).sum
/-- what registers hold -/
def hk (regs : List Str) (h : Str → Str) : List (Key × V) := regs.map fun n => (Sum.inr n, V.str (h n))
theorem hk_at {regs : List Str} {h : Str → Str} {n : Str} (hn : n ∈ regs) : valV (hk regs h) (.inr n) = some (.str (h n)) := by
  obtain ⟨v, hv, hm⟩ := valV_key (kvs := hk regs h) (k := .inr n) (by
    unfold hk
    rw [List.map_map]
    exact List.mem_map_of_mem (f := fun n => (Sum.inr n : Key)) hn)
  obtain ⟨m, _, e⟩ := List.mem_map.mp hm
  cases e
  exact hv

def sp_text_of : Sp := spE (fun (x : Addr × Addr × List Itm × List Str × (Str → Str)) vs H => vs = [.ref x.1, .ref x.2.1] ∧ RowAt H x.1 x.2.2.1 ∧ x.2.2.1.length ≤ 1000 ∧ (∀ n, Itm.r n ∈ x.2.2.1 → n ∈ x.2.2.2.1) ∧ Rd H x.2.1 (.dK (hk x.2.2.2.1 x.2.2.2.2)) ∧
  (wr x.2.2.1 x.2.2.2.2).length ≤ 16000000) (fun x v _ => v = .str (wr x.2.2.1 x.2.2.2.2))
def sp_row_of : Sp := spE (fun (x : Addr × List Itm) vs H => vs = [.ref x.1] ∧ RowAt H x.1 x.2 ∧ x.2.length ≤ 1000 ∧ rowLen x.2 ≤ 100000) (fun x v H => ∃ b, v = .ref b ∧ RowAt H b (nrm x.2))
section
variable {K : PySem.W.Frag} {σ : L2.St} {H : Hp} {ta tb tc te td : TE} {P : Program} {w : World} {D : Ends} {tz : TS} {tt : TT}
theorem ep_if {b : Bool} {Pv : V → Hp → Prop} (h : EvT tt σ H b) (h1 : b = true → EvP ta σ H Pv) (h2 : b = false → EvP tb σ H Pv) : EvP (tIf tt ta tb) σ H Pv := fun H1 e Q q => h H1 e _ fun H2 e2 => by
  cases b with
  | true =>
    show ta σ H2 Q
    exact h1 rfl H2 (e.trans e2) Q fun v H3 e3 => q v H3 (e2.trans e3)
  | false =>
    show tb σ H2 Q
    exact h2 rfl H2 (e.trans e2) Q fun v H3 e3 => q v H3 (e2.trans e3)
def rJoin (K : PySem.W.Frag) : V → List V → Hp → VK → Prop := fun x xs H Q => ∃ a p, ∃ ys : List Str, x = .str a ∧ xs = [.ref p] ∧ (SqL K H p (ys.map V.str) ∨ SqT K H p (ys.map V.str)) ∧
      (ys.map (·.length)).sum + ys.length * a.length ≤ 16777216 ∧ Q (.str (Txt.join a ys)) H
theorem ev_join {xs : List V} {ys : List Str} (h : EvL te σ H xs) (e : xs = ys.map V.str) (hz : (cat ys).length ≤ 16000000) : Ev (tM1 (rJoin K) (tC (.str "")) te) σ H (.str (cat ys)) := fun H1 e1 Q q =>
  ⟨⟨"", rfl⟩, h H1 e1 _ fun p H2 _ e2 hp => ⟨"", p, ys, rfl, rfl, .inl (by rw [← e]; exact sq_of hp), by
    rw [len_cat] at hz
    show (ys.map (·.length)).sum + ys.length * 0 ≤ 16777216
    omega, q H2 e2⟩⟩
theorem ev_join1 {a : Addr} {ys : List Str} (h : Ev te σ H (.ref a)) (hx : H a = some (.lst (ys.map V.str))) (hz : (cat ys).length ≤ 16000000) : Ev (tM1 (rJoin K) (tC (.str "")) te) σ H (.str (cat ys)) := fun H1 e1 Q q =>
  ⟨⟨"", rfl⟩, h H1 e1 _ fun H2 e2 => ⟨"", a, ys, rfl, rfl, .inl (sq_of (e2 _ _ (e1 _ _ hx))), by
    rw [len_cat] at hz
    show (ys.map (·.length)).sum + ys.length * 0 ≤ 16777216
    omega, q H2 e2⟩⟩
end
section
variable {P : Program} {w : World} {K : PySem.W.Frag} {mg : Str → Option Value} {base : Heap} {C : Addr} {f : Addr} {fd : FuncData}
theorem ok_text_of (F : Fun K "text_of" "text_of" s_text_of f fd) (Z : Zs mg C) : FnOk P w K mg base CX0 1 f fd ["row", "held"] sp_text_of := by
  refine F.ok sc_text_of (fun vs H Q E h => ?_) (fun cdv A outer s H vs Q E hr h => ?_)
  · obtain ⟨i, ⟨rfl, _⟩, _⟩ := h
    rfl
  · obtain ⟨⟨a, d, row, regs, h⟩, ⟨rfl, ⟨xs, hx, hl, hi⟩, hz, hn, hd, hw⟩, k⟩ := h
    have hz : row.length ≤ 1000 := hz
    have hl : xs.length = row.length := hl
    have hu := hu_of hr
    refine ⟨_, (pss_one (ps_ret (pe_join pe_str (pe_lc (own := [(("item" : Str), 2)]) (g := gName 2) rfl sc_text_of.nd (pi_tup (pv 0)) (blkOk_by (own := [(("item" : Str), 2)]) (N := n_text_of) (sc := defScope s_text_of) (by decide +kernel)) (fun _ _ _ _ _ => (pg_name (i := 2) sc_text_of.nd rfl (Or.inl rfl))) (fun _ _ _ _ _ => pts_nil) (fun _ _ _ _ _ => (pe_ifExp (pt_val (pe_callB (cIsi (K := K)) (by rfl) Z.z_isinstance (by decide +kernel) (pa_cons (pv 2) (pa_cons (pe_bltn (by rfl) Z.z_str (by decide +kernel) (show RelV (.ty "str") _ from rfl)) pa_nil)))) (pv 2) (pe_dget hu (pv 1) (pe_ix (ixT (K := K)) (pv 2) pe_int (fun _ _ => rfl)) (fun _ _ => rfl)))))))), ?_⟩
    refine s_ret (v := .str (wr row h)) (ev_join (K := K) (ys := row.map (itT h)) (el_lcW (src_tup (K := K) (ev_var rfl) (st_of hx)) (by omega) (fun x => rfl) ((row.map (itT h)).map V.str) (by simp [hl]) ?_) rfl hw) fun H3 e3 => k _ H3 e3 rfl
    intro i x y H' e hy hxi
    rw [List.map_map, List.getElem?_map] at hy
    cases ht : row[i]? with
    | none => rw [ht] at hy; cases hy
    | some t =>
      rw [ht] at hy
      obtain rfl := Option.some.inj hy
      have h1 := hi i x t hxi ht
      cases t with
      | t s =>
        obtain rfl : x = .str s := h1
        exact ev_if (b := true) (et_B (ev_isS (ev_var rfl) rfl)) (fun _ => ev_var rfl) (fun z => by cases z)
      | r n =>
        obtain ⟨b, rfl, hb⟩ := h1
        have hb' := e _ _ hb
        exact ev_if (b := false) (et_B (ev_isU (ev_var rfl) hb' rfl)) (fun z => by cases z) fun _ => ev_get (ev_var rfl) (ev_ixU (i := 0) (ev_var rfl) ev_c hb' rfl) (k := .inr n) rfl (ex_rd e hd) (hk_at (hn n (List.mem_of_getElem? ht)))
theorem upd_self {H : Hp} {a : Addr} {o : HO} (h : H a = some o) : upd H a o = H := by
  funext b
  by_cases hb : b = a
  · rw [hb, upd_same, h]
  · rw [upd_ne hb]
/-- the truth of a list -/
theorem et_L {K : PySem.W.Frag} {σ : L2.St} {H : Hp} {i : Nat} {t : Addr} {xs : List V} (hv : σ[i]? = some (some (.ref t))) (h : H t = some (.lst xs)) : EvT (fun σ H Q => tVar i σ H fun x H' => ∃ k, TruV K x H' k ∧ Q k H') σ H (!xs.isEmpty) := fun H2 e2 Q q => ⟨_, hv, _, .inl ⟨xs, sq_of (e2 _ _ h), rfl⟩, q H2 (Ex.refl H2)⟩
def sp_put_text : Sp := fun vs H Q _ => ∃ (l t : Addr) (xs : List V) (ts : List Str), vs = [.ref l, .ref t] ∧ H l = some (.lst xs) ∧ H t = some (.lst (ts.map V.str)) ∧ xs.length < 100000 ∧ (ts.map (·.length)).sum ≤ 100000 ∧
  ∀ H1, Ex H H1 → Q .non (upd H1 l (.lst (xs ++ (oneS ts).map V.str)))
theorem ok_put_text (F : Fun K "put_text" "put_text" s_put_text f fd) (Z : Zs mg C) : FnOk P w K mg base CX0 1 f fd ["row", "texts"] sp_put_text := by
  refine F.ok sc_put_text (fun vs H Q E h => ?_) (fun cdv A outer s H vs Q E hr h => ?_)
  · obtain ⟨l, t, xs, ts, rfl, _⟩ := h
    rfl
  · obtain ⟨l, t, xs, ts, rfl, hl, hx, hn, hs, k⟩ := h
    have hc : (cat ts).length ≤ 100000 := by rw [len_cat]; exact hs
    refine ⟨_, (pss_cons (ps_set (i := 2) sc_put_text.nd rfl (Or.inl rfl) (pe_join pe_str (pv 1))) 
    (pss_one (ps_if (pt_truth (pv 2) (by intro _; rfl)) (pss_one (ps_expr (pe_bm PySem.F.plainAttrs_list PySem.F.slot_list_append PySem.F.type_list_append mt_append (pv 0) (pa_cons (pv 2) pa_nil)))) pss_nil))), ?_⟩
    refine q_asg (ev_join1 (K := K) (ev_var rfl) hx (Nat.le_trans hc (by decide))) fun H1 e1 => ?_
    refine s_if (b := ((cat ts).length : Int) != 0) (fun H2 e2 Q q => ⟨_, rfl, _, ⟨sz_of hc, rfl⟩, q H2 (Ex.refl H2)⟩) (fun hb H2 e2 => ?_) (fun hb H2 e2 => ?_)
    · have hne : ¬ cat ts = "" := fun z => by
        rw [z] at hb
        exact absurd hb (by decide)
      refine s_app ((e1.trans e2) _ _ hl) (ev_var rfl) (ev_var rfl) hn fun H3 e3 => ?_
      have h := k H3 ((e1.trans e2).trans e3)
      rw [oneS, if_neg hne] at h
      exact h
    · have he : cat ts = "" := empty_of (by simpa using hb)
      have h := k H2 (e1.trans e2)
      rw [oneS, if_pos he] at h
      rw [show xs ++ ([] : List Str).map V.str = xs from List.append_nil xs, upd_self ((e1.trans e2) _ _ hl)] at h
      exact h
end
end KX
end
section
set_option Elab.async false
set_option linter.all false
set_option maxRecDepth 100000
set_option maxHeartbeats 4000000
/-! Bs6: row_of, all_rows. -/
namespace KX
open PySem PySem.Spec PyProof.Rows L2 Evl
theorem ItAt.up {H : Hp} {D : Addr} {t : Itm} {x : V} {l l' : List V} (h : ItAt H t x) (hD : H D = some (.lst l)) : ItAt (upd H D (.lst l')) t x := by
  cases t with
  | t s => exact h
  | r s =>
    obtain ⟨b, e, hb⟩ := h
    refine ⟨b, e, ?_⟩
    rw [upd_ne (show b ≠ D from fun z => by
      subst z
      rw [hb] at hD
      cases hD)]
    exact hb
theorem ItsAt.up {H : Hp} {D : Addr} {row : List Itm} {xs l l' : List V} (h : ItsAt H xs row) (hD : H D = some (.lst l)) : ItsAt (upd H D (.lst l')) xs row := ⟨h.1, fun i x t a b => (h.2 i x t a b).up hD⟩
theorem ItsAt.append {H : Hp} {row row2 : List Itm} {xs ys : List V} (h : ItsAt H xs row) (h2 : ItsAt H ys row2) : ItsAt H (xs ++ ys) (row ++ row2) := by
  refine ⟨by rw [List.length_append, List.length_append, h.1, h2.1], fun i x t a b => ?_⟩
  by_cases hi : i < xs.length
  · rw [List.getElem?_append_left hi] at a
    rw [List.getElem?_append_left (by rw [← h.1]; exact hi)] at b
    exact h.2 i x t a b
  · rw [List.getElem?_append_right (by omega)] at a
    rw [List.getElem?_append_right (by rw [← h.1]; omega), ← h.1] at b
    exact h2.2 _ x t a b
theorem ItsAt.texts {H : Hp} (ts : List Str) : ItsAt H (ts.map V.str) (ts.map Itm.t) := by
  refine ⟨by simp, fun i x t a b => ?_⟩
  rw [List.getElem?_map] at a b
  cases h : ts[i]? with
  | none => rw [h] at a; cases a
  | some s =>
    rw [h] at a b
    cases a
    cases b
    rfl
theorem ItsAt.one {H : Hp} {x : V} {t : Itm} (h : ItAt H t x) : ItsAt H [x] [t] := by
  refine ⟨rfl, fun i y u a b => ?_⟩
  cases i with
  | zero =>
    cases a
    cases b
    exact h
  | succ i => simp at a
theorem ItsAt.nil {H : Hp} : ItsAt H [] [] := ⟨rfl, fun i y u a b => by simp at a⟩
section
variable {K : PySem.W.Frag} {σ : L2.St} {H : Hp} {ta tb tc te td : TE} {P : Program} {w : World} {D : Ends} {tz : TS} {tt : TT}
/-- xs.extend(a list) -/
theorem q_ext {l : Addr} {xs : List V} {Pv : List V → Prop} (hl : H l = some (.lst xs)) (ha : Ev ta σ H (.ref l)) (h : EvP te σ H (fun v H2 => ∃ b zs, v = .ref b ∧ H2 b = some (.lst zs) ∧ Pv zs)) (hz : ∀ zs, Pv zs → xs.length + zs.length ≤ 100000)
    (k : ∀ zs H1, Ex H H1 → Pv zs → tz D σ (upd H1 l (.lst (xs ++ zs)))) : tSeq (tDrop (tBM K "list" rExtend ta (tCons te tNil))) tz D σ H := ha H (Ex.refl H) _ fun H1 e1 =>
  ⟨Or.inl ⟨rfl, xs, sq_of (e1 l _ hl)⟩, h H1 e1 _ fun v H2 e2 ⟨b, zs, ev, hb, p⟩ => ⟨l, b, xs, zs, rfl, by rw [ev], e2 l _ (e1 l _ hl), hb, sz_of (hz zs p), k zs H2 (e1.trans e2) p⟩⟩
end
theorem oneS_len (ts : List Str) : (oneS ts).length ≤ 1 := by
  unfold oneS
  by_cases e : cat ts = ""
  · rw [if_pos e]; exact Nat.zero_le 1
  · rw [if_neg e]; exact Nat.le_refl 1
theorem rowLen_drop {row : List Itm} {i : Nat} {t : Itm} (h : row[i]? = some t) : rowLen (row.drop i) = tLen t + rowLen (row.drop (i + 1)) := by
  obtain ⟨hi, rfl⟩ := List.getElem?_eq_some_iff.mp h
  unfold rowLen
  rw [List.drop_eq_getElem_cons hi]
  rfl
theorem nrmGo_drop {row acc : List Itm} {ts : List Str} {i : Nat} {t : Itm} (h : row[i]? = some t) : nrmGo (row.drop i) acc ts = nrmGo (t :: row.drop (i + 1)) acc ts := by
  obtain ⟨hi, rfl⟩ := List.getElem?_eq_some_iff.mp h
  rw [List.drop_eq_getElem_cons hi]
section
variable {P : Program} {w : World} {K : PySem.W.Frag} {mg : Str → Option Value} {base : Heap} {C : Addr} {f : Addr} {fd : FuncData}
theorem q_put {σ : L2.St} {H : Hp} {D : Ends} {tz : TS} {E : XK} {i j : Nat} {l t : Addr} {xs : List V} {ts : List Str} (h1 : σ[i]? = some (some (.ref l))) (h2 : σ[j]? = some (some (.ref t))) (hl : H l = some (.lst xs)) (ht : H t = some (.lst (ts.map V.str))) (hn : xs.length < 100000)
    (hs : (ts.map (·.length)).sum ≤ 100000) (k : ∀ H1, Ex H H1 → tz D σ (upd H1 l (.lst (xs ++ (oneS ts).map V.str)))) : tSeq (tDrop (tCall sp_put_text [] E (tCons (tVar i) (tCons (tVar j) tNil)))) tz D σ H := by
  have h : EvA (tCons (tVar i) (tCons (tVar j) tNil)) σ H [.ref l, .ref t] := ea_cons (ev_var h1) (ea_cons (ev_var h2) ea_nil)
  unfold tSeq tDrop tCall
  exact h H (Ex.refl H) _ fun H1 e1 => ⟨l, t, xs, ts, rfl, e1 _ _ hl, e1 _ _ ht, hn, hs, fun H2 e2 => k H2 (e1.trans e2)⟩
theorem oneS_nil : oneS [] = [] := by
  unfold oneS
  exact if_pos (by first | rfl | decide +kernel)
theorem ok_row_of (F : Fun K "row_of" "row_of" s_row_of f fd) (Z : Zs mg C) (G_put_text : Has P w K mg base "put_text" 1 ["row", "texts"] sp_put_text) : FnOk P w K mg base CX0 2 f fd ["items"] sp_row_of := by
  refine F.ok sc_row_of (fun vs H Q E h => ?_) (fun cdv A outer s H vs Q E hr h => ?_)
  · obtain ⟨i, ⟨rfl, _⟩, _⟩ := h
    rfl
  · obtain ⟨⟨a, row⟩, ⟨rfl, ⟨xs, hx, hI⟩, hz, hs⟩, k⟩ := h
    have hz : row.length ≤ 1000 := hz
    have hs : rowLen row ≤ 100000 := hs
    have hI : ItsAt H xs row := hI
    refine ⟨_, (pss_cons (ps_set (i := 1) sc_row_of.nd rfl (Or.inl rfl) (pe_lst pa_nil)) 
    (pss_cons (ps_set (i := 2) sc_row_of.nd rfl (Or.inl rfl) (pe_lst pa_nil)) 
    (pss_cons (ps_for PassesOwn.never rfl (pi_tup (pv 0)) (pg_name (i := 3) sc_row_of.nd rfl (Or.inl rfl)) 
     (pss_one (ps_if (pt_val (pe_callB (cIsi (K := K)) (by rfl) Z.z_isinstance (by decide +kernel) (pa_cons (pv 3) (pa_cons (pe_bltn (by rfl) Z.z_str (by decide +kernel) (show RelV (.ty "str") _ from rfl)) pa_nil)))) 
      (pss_one (ps_expr (pe_bm PySem.F.plainAttrs_list PySem.F.slot_list_append PySem.F.type_list_append mt_append (pv 2) (pa_cons (pv 3) pa_nil)))) 
      (pss_cons (ps_if (pt_truth (pv 2) (by intro _; rfl)) 
       (pss_cons (ps_expr (pe_use G_put_text (hr.mono (by decide)) (pa_cons (pv 1) (pa_cons (pv 2) pa_nil)))) 
       (pss_one (ps_set (i := 2) sc_row_of.nd rfl (Or.inl rfl) (pe_lst pa_nil)))) pss_nil) 
      (pss_one (ps_expr (pe_bm PySem.F.plainAttrs_list PySem.F.slot_list_append PySem.F.type_list_append mt_append (pv 1) (pa_cons (pv 3) pa_nil)))))))) 
    (pss_cons (ps_if (pt_truth (pv 2) (by intro _; rfl)) 
     (pss_one (ps_expr (pe_use G_put_text (hr.mono (by decide)) (pa_cons (pv 1) (pa_cons (pv 2) pa_nil))))) pss_nil) 
    (pss_one (ps_ret (pe_callTy (cTup (K := K)) (by rfl) Z.z_tuple (by decide +kernel) (pa_cons (pv 1) pa_nil)))))))), ?_⟩
    refine q_asgL (el_lst ea_nil (Nat.zero_le _)) fun l H1 hl e1 h1 => ?_
    refine q_asgL (el_lst ea_nil (Nat.zero_le _)) fun t0 H2 ht e2 h2 => ?_
    refine q_forT (K := K) (ev_var rfl) (st_of ((e1.trans e2) _ _ hx)) (fun i σ' H' => ∃ (t : Addr) (ys : List V) (acc : List Itm) (ts : List Str) (v : Option V), σ' = [some (.ref a), some (.ref l), some (.ref t), v] ∧ Ex H H' ∧ H t = none ∧ l ≠ t ∧
      H' l = some (.lst ys) ∧ ItsAt H' ys acc ∧ ys.length ≤ 2 * i ∧ H' t = some (.lst (ts.map V.str)) ∧ ts.length ≤ i ∧ (ts.map (·.length)).sum + rowLen (row.drop i) ≤ 100000 ∧ nrmGo (row.drop i) acc ts = nrm row) ?_ ?_ ?_ ?_
    · intro H3 e3
      have nlt : l ≠ t0 := ne_of_none h1 ht
      exact ⟨t0, [], [], [], none, rfl, (e1.trans e2).trans e3, fresh_back e1 ht, nlt, e3 _ _ (e2 _ _ h1), ItsAt.nil, Nat.zero_le _, e3 _ _ h2, Nat.zero_le _, by simpa using hs, rfl⟩
    · rintro i σ' H' hi ⟨t, ys, acc, ts, v, rfl, ex, _⟩
      exact ex_t ex (st_of hx)
    · rintro i x σ' H' hxi ⟨t, ys, acc, ts, v, rfl, ex, ht, nlt, hl', hys, hyl, ht', htl, hsum, hnrm⟩
      have hi1 : i < xs.length := (List.getElem?_eq_some_iff.mp hxi).1
      have hil : i < row.length := by rw [← hI.1]; exact hi1
      have hti : row[i]? = some row[i] := List.getElem?_eq_getElem hil
      have hit := (hI.2 i x _ hxi hti).le (Le.ex ex)
      rw [rowLen_drop hti] at hsum
      rw [nrmGo_drop hti] at hnrm
      cases htt : row[i] with
      | t s =>
        rw [htt] at hit hsum hnrm
        obtain rfl : x = .str s := hit
        refine s_if (b := true) (et_B (ev_isS (ev_var rfl) rfl)) (fun _ H3 e3 => ?_) (fun z => by cases z)
        refine s_app (e3 _ _ ht') (ev_var rfl) (ev_var rfl) (by rw [List.length_map]; omega) fun H4 e4 => ?_
        have e34 := e3.trans e4
        refine ⟨t, ys, acc, ts ++ [s], _, rfl, Ex.mut (ex.trans e34) ht, ht, nlt, by rw [upd_ne nlt]; exact e34 _ _ hl', (hys.le (Le.ex e34)).up (e34 _ _ ht'), by omega, by rw [upd_same, List.map_append]; rfl, by rw [List.length_append]; exact Nat.succ_le_succ htl, ?_, hnrm⟩
        have : tLen (.t s) = s.length := rfl
        rw [List.map_append, List.sum_append]
        simp
        omega
      | r n =>
        rw [htt] at hit hsum hnrm
        obtain ⟨b, rfl, hb⟩ := hit
        refine s_if (b := false) (et_B (ev_isU (ev_var rfl) hb rfl)) (fun z => by cases z) fun _ H3 e3 => ?_
        have hsum' : (ts.map (·.length)).sum ≤ 100000 := by omega
        have hlf : H l = none := hl
        have hn2 : nrmGo (row.drop (i + 1)) (acc ++ (oneS ts).map Itm.t ++ [Itm.r n]) [] = nrm row := hnrm
        have h3l := e3 _ _ hl'
        have h3b := e3 _ _ hb
        have hbl : b ≠ l := fun z => by
          subst z
          rw [h3b] at h3l
          cases h3l
        refine q_if (b := !(ts.map V.str).isEmpty) (et_L rfl (e3 _ _ ht')) (fun hne H4 e4 => ?_) (fun he H4 e4 => ?_)
        · have e34 := e3.trans e4
          refine q_put rfl rfl (e34 _ _ hl') (e34 _ _ ht') (by omega) hsum' fun H5 e5 => ?_
          have e35 := e34.trans e5
          have h5l : H5 l = some (.lst ys) := e35 _ _ hl'
          refine s_asgL (el_lst ea_nil (Nat.zero_le _)) fun t1 H6 ht1 e6 h6 => ?_
          have ht1' : H5 t1 = none := by
            by_cases z : t1 = l
            · subst z
              rw [upd_same] at ht1
              cases ht1
            · rw [upd_ne z] at ht1
              exact ht1
          have nlt1 : l ≠ t1 := ne_of_none h5l ht1'
          have h6l : H6 l = some (.lst (ys ++ (oneS ts).map V.str)) := e6 _ _ upd_same
          refine s_app h6l (ev_var rfl) (ev_var rfl) (by
            rw [List.length_append, List.length_map]
            have := oneS_len ts
            omega) fun H7 e7 => ?_
          have h7l := e7 _ _ h6l
          have exf : Ex H (upd H7 l (.lst (ys ++ (oneS ts).map V.str ++ [.ref b]))) := Ex.mut (((Ex.mut (ex.trans e35) hlf).trans e6).trans e7) hlf
          refine ⟨t1, ys ++ (oneS ts).map V.str ++ [.ref b], acc ++ (oneS ts).map .t ++ [.r n], [], _, rfl, exf, fresh_back (ex.trans e35) ht1', nlt1, upd_same, ?_, ?_, ?_, Nat.zero_le _, ?_, hn2⟩
          · refine ItsAt.up ?_ h7l
            refine ItsAt.append (ItsAt.append ?_ (ItsAt.texts _)) (ItsAt.one ?_)
            · exact (((hys.le (Le.ex e35)).up h5l).le (Le.ex e6)).le (Le.ex e7)
            · exact ⟨b, rfl, e7 _ _ (e6 _ _ (by
                rw [upd_ne hbl]
                exact e35 _ _ hb))⟩
          · rw [List.length_append, List.length_append, List.length_map]
            have := oneS_len ts
            show ys.length + (oneS ts).length + 1 ≤ 2 * (i + 1)
            omega
          · rw [upd_ne nlt1.symm]
            exact e7 _ _ h6
          · simp
            omega
        · have hts : ts = [] := by
            cases ts with
            | nil => rfl
            | cons a r => simp at he
          subst hts
          have e34 := e3.trans e4
          have h4l := e34 _ _ hl'
          refine s_app h4l (ev_var rfl) (ev_var rfl) (by omega) fun H5 e5 => ?_
          have e35 := e34.trans e5
          have h5l := e35 _ _ hl'
          have exf : Ex H (upd H5 l (.lst (ys ++ [.ref b]))) := Ex.mut (ex.trans e35) hlf
          refine ⟨t, ys ++ [.ref b], acc ++ [.r n], [], _, rfl, exf, ht, nlt, upd_same, ?_, ?_, ?_, Nat.zero_le _, ?_, ?_⟩
          · refine ItsAt.up ?_ h5l
            exact ItsAt.append (hys.le (Le.ex e35)) (ItsAt.one ⟨b, rfl, e35 _ _ hb⟩)
          · rw [List.length_append]
            show ys.length + 1 ≤ 2 * (i + 1)
            omega
          · rw [upd_ne nlt.symm]
            exact e35 _ _ ht'
          · simp
            simp at hsum
            omega
          · rw [oneS_nil] at hn2
            simpa using hn2
    · rintro σ' H' ⟨t, ys, acc, ts, v, rfl, ex, ht, nlt, hl', hys, hyl, ht', htl, hsum, hnrm⟩
      have hd : row.drop xs.length = [] := by rw [hI.1]; exact List.drop_length
      rw [hd] at hsum hnrm
      have hlf : H l = none := hl
      have hfin : nrm row = acc ++ (oneS ts).map Itm.t := hnrm.symm
      refine q_if (b := !(ts.map V.str).isEmpty) (et_L rfl ht') (fun hne H3 e3 => ?_) (fun he H4 e4 => ?_)
      · refine q_put rfl rfl (e3 _ _ hl') (e3 _ _ ht') (by have := hI.1; omega) (by omega) fun H4 e34 => ?_
        have e4 := e3.trans e34
        have h4l := e4 _ _ hl'
        refine s_retP (Pv := fun v H' => ∃ b, v = .ref b ∧ RowAt H' b (nrm row)) (fun H5 e5 Q q => ⟨_, rfl, l, _, rfl, .inl ⟨sq_of (e5 _ _ upd_same), fun b hb => q (.ref b) _ (Ex.new hb) ⟨b, rfl, ys ++ (oneS ts).map V.str, upd_same, ?_⟩⟩⟩) fun v H5 e5 p => k _ H5 ((Ex.mut (ex.trans e4) hlf).trans e5) p
        rw [hfin]
        exact (((hys.le (Le.ex e4)).append (ItsAt.texts _)).up h4l).le (Le.ex (e5.trans (Ex.new hb)))
      · have hts : ts = [] := by
          cases ts with
          | nil => rfl
          | cons a r => simp at he
        have h4l := e4 _ _ hl'
        have hself : H4 = upd H4 l (.lst (ys ++ (oneS ts).map V.str)) := by
          rw [hts, oneS_nil]
          exact (upd_self (by rw [h4l]; simp)).symm
        rw [hself]
        show tRet (tCB (rTupOf K) (tCons (tVar 1) tNil)) { nx := fun _ H' => Q .non H', rt := Q } _ _
        refine s_retP (Pv := fun v H' => ∃ b, v = .ref b ∧ RowAt H' b (nrm row)) (fun H5 e5 Q q => ⟨_, rfl, l, _, rfl, .inl ⟨sq_of (e5 _ _ upd_same), fun b hb => q (.ref b) _ (Ex.new hb) ⟨b, rfl, ys ++ (oneS ts).map V.str, upd_same, ?_⟩⟩⟩) fun v H5 e5 p => k _ H5 ((Ex.mut (ex.trans e4) hlf).trans e5) p
        rw [hfin]
        exact (((hys.le (Le.ex e4)).append (ItsAt.texts _)).up h4l).le (Le.ex (e5.trans (Ex.new hb)))
end
end KX
end
section
set_option Elab.async false
set_option linter.all false
set_option maxRecDepth 100000
set_option maxHeartbeats 4000000
/-! Bs7: what is sorted, as a rearrangement; all_rows. -/
namespace KX
open PySem PySem.Spec PyProof.Rows L2 Evl

/-! ### sorted -/
theorem srt_perm (ps : List (V × PyData)) : (srt ps).Perm (ps.map (·.1)) := (List.mergeSort_perm ps _).map _
theorem perm_un {α β : Type} {l : List β} {xs : List α} {f : α → β} {g : β → α} (hg : ∀ x, g (f x) = x) (h : l.Perm (xs.map f)) : (l.map g).Perm xs ∧ l = (l.map g).map f := by
  refine ⟨?_, ?_⟩
  · have := h.map g
    rw [List.map_map] at this
    have e : g ∘ f = id := funext hg
    rw [e, List.map_id] at this
    exact this
  · rw [List.map_map]
    have : l.map (f ∘ g) = l.map id := List.map_congr_left fun x hx => by
      obtain ⟨y, _, rfl⟩ := List.mem_map.mp (h.mem_iff.mp hx)
      show f (g (f y)) = f y
      rw [hg]
    rw [this, List.map_id]
def unS : V → Str
  | .str s => s
  | _ => ""
def unR : V → Addr
  | .ref a => a
  | _ => 0
def unI : V → Int
  | .int i => i
  | _ => 0
def strP (xs : List Str) : List (V × PyData) := xs.map fun s => (.str s, .str s)
def srtS (xs : List Str) : List Str := (srt (strP xs)).map unS
theorem srtS_perm (xs : List Str) : (srtS xs).Perm xs ∧ srt (strP xs) = (srtS xs).map V.str :=
  perm_un (f := V.str) (g := unS) (fun _ => rfl) (by
    have := srt_perm (strP xs)
    unfold strP at this ⊢
    rw [List.map_map] at this
    exact this)
theorem strP_ok {H : Hp} {xs : List Str} (hz : xs.length ≤ 100000) : SrtOk H (strP xs) where
  fl := fun p hp => by
    obtain ⟨c, _, e⟩ := List.mem_map.mp hp
    rw [← e]
    exact Fl.str _
  al := fun d hd d' hd' => by
    obtain ⟨p, hp, rfl⟩ := List.mem_map.mp hd
    obtain ⟨p', hp', rfl⟩ := List.mem_map.mp hd'
    obtain ⟨c, _, rfl⟩ := List.mem_map.mp hp
    obtain ⟨c', _, rfl⟩ := List.mem_map.mp hp'
    simp [PySem.W.alike]
  so := .inr fun d hd => by
    obtain ⟨p, hp, rfl⟩ := List.mem_map.mp hd
    obtain ⟨c, _, rfl⟩ := List.mem_map.mp hp
    exact ⟨(fun q => by cases q), fun xs q => by cases q⟩
  sz := by
    unfold strP
    rw [List.length_map]
    exact sz_of hz
theorem signs_eq (z : Str) : signs z = strP ((cds z).map fun c => ⟨#[c]⟩) := by
  unfold signs strP
  rw [List.map_map]
  rfl
/-- the letters in order -/
def lts (L : Str) : Str := cat (srtS ((cds L).map fun c => ⟨#[c]⟩))
theorem lts_mem {L : Str} {c : Nat} : c ∈ cds (lts L) ↔ c ∈ cds L := by
  unfold lts
  rw [cds_cat, List.mem_flatten]
  constructor
  · rintro ⟨l, hl, hc⟩
    obtain ⟨s, hs, rfl⟩ := List.mem_map.mp hl
    obtain ⟨d, hd, rfl⟩ := List.mem_map.mp ((srtS_perm _).1.mem_iff.mp hs)
    have : c ∈ [d] := hc
    rw [List.mem_singleton.mp this]
    exact hd
  · intro hc
    exact ⟨[c], List.mem_map.mpr ⟨⟨#[c]⟩, (srtS_perm _).1.mem_iff.mpr (List.mem_map_of_mem (f := fun c => (⟨#[c]⟩ : Str)) hc), rfl⟩, List.mem_singleton.mpr rfl⟩
theorem lts_len (L : Str) : (lts L).length = L.length := by
  unfold lts
  rw [len_cat, ((srtS_perm _).1.map _).sum_nat, List.map_map, len_cds]
  have : ((fun s : Str => s.length) ∘ fun c => (⟨#[c]⟩ : Str)) = fun _ => 1 := rfl
  rw [this, List.map_const', List.sum_replicate_nat]
  simp
def unV : V → Key
  | .int i => .inl i
  | .str s => .inr s
  | _ => .inl 0
theorem unV_k (k : Key) : unV (kV k) = k := by
  cases k <;> rfl
def intP (xs : List Int) : List (V × PyData) := xs.map fun s => (.int s, .int s)
def srtI (xs : List Int) : List Int := (srt (intP xs)).map unI
theorem srtI_perm (xs : List Int) : (srtI xs).Perm xs ∧ srt (intP xs) = (srtI xs).map V.int :=
  perm_un (f := V.int) (g := unI) (fun _ => rfl) (by
    have := srt_perm (intP xs)
    unfold intP at this ⊢
    rw [List.map_map] at this
    exact this)
theorem intP_ok {H : Hp} {xs : List Int} (hz : xs.length ≤ 100000) : SrtOk H (intP xs) where
  fl := fun p hp => by
    obtain ⟨c, _, e⟩ := List.mem_map.mp hp
    rw [← e]
    exact Fl.int _
  al := fun d hd d' hd' => by
    obtain ⟨p, hp, rfl⟩ := List.mem_map.mp hd
    obtain ⟨p', hp', rfl⟩ := List.mem_map.mp hd'
    obtain ⟨c, _, rfl⟩ := List.mem_map.mp hp
    obtain ⟨c', _, rfl⟩ := List.mem_map.mp hp'
    simp [PySem.W.alike]
  so := .inr fun d hd => by
    obtain ⟨p, hp, rfl⟩ := List.mem_map.mp hd
    obtain ⟨c, _, rfl⟩ := List.mem_map.mp hp
    exact ⟨(fun q => by cases q), fun xs q => by cases q⟩
  sz := by
    unfold intP
    rw [List.length_map]
    exact sz_of hz
theorem paired_at {α β : Type} {R : α → β → Prop} : ∀ {xs : List α} {ys : List β}, Paired R xs ys → ∀ {i : Nat} {x : α} {y : β}, xs[i]? = some x → ys[i]? = some y → R x y
  | _, _, .nil, i, x, y, h, _ => by simp at h
  | _, _, .cons r t, 0, x, y, h, h' => by
    cases h
    cases h'
    exact r
  | _, _, .cons r t, i + 1, x, y, h, h' => paired_at t (by simpa using h) (by simpa using h')
/-- pairs of a state and a letter -/
def IsPl (k : List Key) : Prop := ∃ (s : Int) (c : Str), k = [.inl s, .inr c]
theorem keysT_ok {H : Hp} {bs : List Addr} {kvs : List (List Key × V)} (hb : IsKeys H kvs bs) (hk : ∀ k v, (k, v) ∈ kvs → IsPl k) (hz : kvs.length ≤ 100000) : SrtOk H (keysT bs kvs) where
  fl := fun p hp => by
    obtain ⟨⟨b, k, v⟩, h1, rfl⟩ := List.mem_map.mp hp
    obtain ⟨i, hi⟩ := List.mem_iff_getElem?.mp h1
    obtain ⟨h2, h3⟩ := List.getElem?_zip_eq_some.mp hi
    exact Fl.tup (paired_at hb h3 h2)
  al := fun d hd d' hd' => by
    obtain ⟨p, hp, rfl⟩ := List.mem_map.mp hd
    obtain ⟨p', hp', rfl⟩ := List.mem_map.mp hd'
    obtain ⟨⟨b, k, v⟩, h1, rfl⟩ := List.mem_map.mp hp
    obtain ⟨⟨b', k', v'⟩, h1', rfl⟩ := List.mem_map.mp hp'
    obtain ⟨s, c, rfl⟩ := hk k v (List.of_mem_zip h1).2
    obtain ⟨s', c', rfl⟩ := hk k' v' (List.of_mem_zip h1').2
    simp [PySem.W.alike, PySem.W.alikeAll, kD]
  so := .inl fun d hd => by
    obtain ⟨p, hp, rfl⟩ := List.mem_map.mp hd
    obtain ⟨⟨b, k, v⟩, h1, rfl⟩ := List.mem_map.mp hp
    obtain ⟨s, c, rfl⟩ := hk k v (List.of_mem_zip h1).2
    exact ⟨_, _, rfl⟩
  sz := by
    unfold keysT
    rw [List.length_map, List.length_zip]
    exact sz_of (by omega)
end KX
end
section
set_option Elab.async false
set_option linter.all false
set_option maxRecDepth 100000
set_option maxHeartbeats 4000000
/-! Bs8: all_rows; what a program's parts are. -/
namespace KX
open PySem PySem.Spec PyProof.Rows L2 Evl
def unD : PyData → Key
  | .int i => .inl i
  | .str s => .inr s
  | _ => .inl 0
theorem unD_k (k : Key) : unD (kD k) = k := by
  cases k <;> rfl
def unT : PyData → List Key
  | .tuple ds => ds.map unD
  | _ => []
/-- the keys in order -/
def srtKs (kvs : List (List Key × V)) : List (List Key) := ((kvs.map fun p => PyData.tuple (p.1.map kD)).mergeSort (PySem.W.dataLe false id)).map unT
theorem srtKs_perm (kvs : List (List Key × V)) : (srtKs kvs).Perm (kvs.map (·.1)) := by
  have h := (List.mergeSort_perm (kvs.map fun p => PyData.tuple (p.1.map kD)) (PySem.W.dataLe false id)).map unT
  rw [List.map_map] at h
  have e : (unT ∘ fun p : List Key × V => PyData.tuple (p.1.map kD)) = (·.1) := funext fun p => by
    show (p.1.map kD).map unD = p.1
    rw [List.map_map]
    have : unD ∘ kD = id := funext unD_k
    rw [this, List.map_id]
  rw [e] at h
  exact h
theorem srtT_ix {H : Hp} {kvs : List (List Key × V)} {bs : List Addr} (hb : IsKeys H kvs bs) : ∃ (qs : List Addr), srt (keysT bs kvs) = qs.map V.ref ∧ qs.length = (srtKs kvs).length ∧
    ∀ (i : Nat) q k, qs[i]? = some q → (srtKs kvs)[i]? = some k → H q = some (.tup (k.map kV)) := by
  -- the pairs of an address and a key, rearranged as the values are
  have hl : ∀ {kvs : List (List Key × V)} {bs : List Addr}, IsKeys H kvs bs → bs.length = kvs.length := fun h => by
    induction h with
    | nil => rfl
    | cons _ _ ih => simp [ih]
  have hlen := hl hb
  let kk : Addr → List Key := fun q => match H q with
    | some (.tup vs) => vs.map unV
    | _ => []
  have kkE : ∀ q (k : List Key), H q = some (.tup (k.map kV)) → kk q = k := fun q k h => by
    show (match H q with
      | some (.tup vs) => vs.map unV
      | _ => []) = k
    rw [h]
    show (k.map kV).map unV = k
    rw [List.map_map]
    have : unV ∘ kV = id := funext unV_k
    rw [this, List.map_id]
  obtain ⟨h1, h2⟩ := perm_un (l := srt (keysT bs kvs)) (xs := bs) (f := V.ref) (g := unR) (fun _ => rfl) (by
    have := srt_perm (keysT bs kvs)
    rw [keysT_fst hlen] at this
    exact this)
  have hs : ((srt (keysT bs kvs)).map unR).map kk = srtKs kvs := by
    have e2 : (kvs.map fun p => PyData.tuple (p.1.map kD)) = (keysT bs kvs).map (·.2) := by
      unfold keysT
      rw [List.map_map]
      have : ((fun p : V × PyData => p.2) ∘ fun p : Addr × List Key × V => (V.ref p.1, PyData.tuple (p.2.1.map kD))) = (fun p : List Key × V => PyData.tuple (p.1.map kD)) ∘ Prod.snd := rfl
      rw [this, ← List.map_map, List.map_snd_zip (by omega)]
    have e3 : ((keysT bs kvs).mergeSort (PySem.W.dataLe false fun p => p.2)).map (·.2) = ((keysT bs kvs).map (·.2)).mergeSort (PySem.W.dataLe false id) := List.map_mergeSort fun a _ b _ => rfl
    unfold srtKs srt
    rw [e2, ← e3, List.map_map, List.map_map, List.map_map]
    apply List.map_congr_left
    intro p hp
    have hp' := (List.mergeSort_perm _ _).mem_iff.mp hp
    obtain ⟨⟨b, k, v⟩, h1, rfl⟩ := List.mem_map.mp hp'
    obtain ⟨i, hi⟩ := List.mem_iff_getElem?.mp h1
    obtain ⟨h2, h3⟩ := List.getElem?_zip_eq_some.mp hi
    show kk b = (k.map kD).map unD
    rw [kkE b k (paired_at hb h3 h2), List.map_map]
    have : unD ∘ kD = id := funext unD_k
    rw [this, List.map_id]
  refine ⟨(srt (keysT bs kvs)).map unR, h2, by rw [← hs]; simp, fun i q k hq hk => ?_⟩
  rw [← hs] at hk
  rw [List.getElem?_map, hq] at hk
  obtain rfl : kk q = k := Option.some.inj hk
  have hm : q ∈ bs := h1.mem_iff.mp (List.mem_of_getElem? hq)
  obtain ⟨j, hj⟩ := List.mem_iff_getElem?.mp hm
  have hi := (List.getElem?_eq_some_iff.mp hj).1
  have hki : kvs[j]? = some kvs[j] := List.getElem?_eq_getElem (by omega)
  have hq' := paired_at hb hki hj
  rw [kkE q _ hq']
  exact hq'

def Rf (R0 : Str → Option (List Itm)) (n : Str) : List Itm := match R0 n with
  | some row => nrm row
  | none => [.r n]
/-- rows as they are told -/
def RowD (regs : List Str) (R0 : Str → Option (List Itm)) (H : Hp) (r : Addr) : Prop := ∃ kvs : List (Key × V), Rd H r (.dK kvs) ∧ ∀ n ∈ regs, (R0 n = none ∧ valV kvs (.inr n) = none) ∨
  ∃ row a, R0 n = some row ∧ valV kvs (.inr n) = some (.ref a) ∧ RowAt H a row ∧ row.length ≤ 1000 ∧ rowLen row ≤ 100000
theorem RowD.le {regs : List Str} {R0 : Str → Option (List Itm)} {H H' : Hp} {r : Addr} (e : Le H H') (h : RowD regs R0 H r) : RowD regs R0 H' r := h.imp fun kvs ⟨h1, h2⟩ => ⟨e.rd _ _ rfl h1, fun n hn => by
  rcases h2 n hn with q | ⟨row, a, e1, e2, e3, e4⟩
  · exact .inl q
  · exact .inr ⟨row, a, e1, e2, e3.le e, e4⟩⟩
/-- rows in the one form -/
def RowsN (regs : List Str) (R : Str → List Itm) (H : Hp) (d : Addr) : Prop := ∃ kvs : List (Key × V), H d = some (.dK kvs) ∧ kvs.map (·.1) = regs.map Sum.inr ∧ ∀ n v, (Sum.inr n, v) ∈ kvs → ∃ a, v = .ref a ∧ RowAt H a (R n)
theorem RowsN.ex {regs : List Str} {R : Str → List Itm} {H H' : Hp} {d : Addr} (e : Ex H H') (h : RowsN regs R H d) : RowsN regs R H' d := h.imp fun kvs ⟨h1, h2, h3⟩ => ⟨e _ _ h1, h2, fun n v m => by
  obtain ⟨a, e1, e2⟩ := h3 n v m
  exact ⟨a, e1, e2.le (Le.ex e)⟩⟩
theorem RowAt.upd {H : Hp} {a D : Addr} {row : List Itm} {o o' : HO} (hD : H D = some o) (ho : ∀ xs, o ≠ .tup xs) (h : RowAt H a row) : RowAt (upd H D o') a row := by
  obtain ⟨xs, h1, h2, h3⟩ := h
  have ne : ∀ {b : Addr} {ys : List V}, H b = some (.tup ys) → b ≠ D := fun hb z => by
    subst z
    rw [hb] at hD
    cases hD
    exact ho _ rfl
  refine ⟨xs, by rw [upd_ne (ne h1)]; exact h1, h2, fun i x t a b => ?_⟩
  have h4 := h3 i x t a b
  cases t with
  | t s => exact h4
  | r s =>
    obtain ⟨b, e, hb⟩ := h4
    exact ⟨b, e, by rw [upd_ne (ne hb)]; exact hb⟩
theorem stab_row {kind : HO → Bool} (hk : ∀ xs, kind (.tup xs) = false) {a : Addr} {row : List Itm} : Stab kind (fun H => RowAt H a row) := ⟨fun _ _ e h => h.le (Le.ex e), fun H D o o' k _ e h => h.upd e fun xs z => by
  subst z
  rw [hk] at k
  cases k⟩
def sp_all_rows : Sp := spE (fun (x : Addr × Addr × List Str × (Str → Option (List Itm))) vs H => vs = [.ref x.1, .ref x.2.1] ∧ RowD x.2.2.1 x.2.2.2 H x.1 ∧ H x.2.1 = some (.lst (x.2.2.1.map V.str)) ∧ x.2.2.1.Nodup ∧ x.2.2.1.length ≤ 60) (fun x v H => ∃ d, v = .ref d ∧ RowsN x.2.2.1 (Rf x.2.2.2) H d)
section
variable {P : Program} {w : World} {K : PySem.W.Frag} {mg : Str → Option Value} {base : Heap} {C : Addr} {f : Addr} {fd : FuncData}
theorem ok_all_rows (F : Fun K "all_rows" "all_rows" s_all_rows f fd) (Z : Zs mg C) (G_row_of : Has P w K mg base "row_of" 2 ["items"] sp_row_of) : FnOk P w K mg base CX0 3 f fd ["rows", "registers"] sp_all_rows := by
  refine F.ok sc_all_rows (fun vs H Q E h => ?_) (fun cdv A outer s H vs Q E hr h => ?_)
  · obtain ⟨i, ⟨rfl, _⟩, _⟩ := h
    rfl
  · obtain ⟨⟨r, ra, regs, R0⟩, ⟨rfl, ⟨kvs, hx, hi⟩, hra, hN, h6⟩, k⟩ := h
    dsimp only at hx hi hra hN h6
    have hu := hu_of hr
    have hu64 := hr.units
    have hu0 := Nat.lt_of_succ_lt hu
    refine ⟨_, (pss_one (ps_ret (pe_dp IsNil.k hu0 (own := [(("name" : Str), 2)]) (g := gName 2) rfl sc_all_rows.nd (pi_list (pv 1)) (blkOk_by (own := [(("name" : Str), 2)]) (N := n_all_rows) (sc := defScope s_all_rows) (by decide +kernel)) (fun _ _ _ _ _ => (pg_name (i := 2) sc_all_rows.nd rfl (Or.inl rfl))) (fun _ _ _ _ _ => pts_nil) (fun _ _ _ _ _ => (pv 2)) (fun _ _ _ _ _ => (pe_ifExp (pt_cmp (pc_din hu (pv 2) (pv 0))) (pe_use G_row_of (hr.mono (by decide)) (pa_cons (pe_dget hu (pv 0) (pv 2) (fun _ _ => rfl)) pa_nil)) (pe_tup (pa_cons (pe_tup (pa_cons (pv 2) pa_nil)) pa_nil))))))), ?_⟩
    refine s_retN (new_dpK (src_list (K := K) (ev_var rfl) (sq_of hra)) (by rw [List.length_map]; exact Nat.le_trans h6 (by decide)) (fun x => rfl) (regs.map Sum.inr) (by simp) (List.Pairwise.map Sum.inr (fun a b h q => h (Sum.inr.inj q)) hN)
      (fun i v H' => ∀ n, regs[i]? = some n → ∃ a, v = .ref a ∧ RowAt H' a (Rf R0 n)) (fun i v => stab_all fun n => stab_imp fun _ => stab_ex fun a => stab_and stab_pure (stab_row (fun _ => rfl))) ?_ ?_ ?_) fun d o H1 hd e1 h1 ⟨l, eo, hk, hv⟩ => ?_
    · intro i x k H' e hk hx
      rw [List.getElem?_map] at hk hx
      cases hr : regs[i]? with
      | none => rw [hr] at hk; cases hk
      | some s =>
        rw [hr] at hk hx
        cases hk
        cases hx
        exact ev_var rfl
    · intro i x H' e hil hxi
      rw [List.getElem?_map] at hxi
      cases hr : regs[i]? with
      | none => rw [hr] at hxi; cases hxi
      | some n =>
        rw [hr] at hxi
        obtain rfl : V.str n = x := Option.some.inj hxi
        have hx' := ex_rd e hx
        refine (ep_if (b := (valV kvs (.inr n)).isSome) (Pv := fun v H' => ∃ a, v = .ref a ∧ RowAt H' a (Rf R0 n)) (fun H1 e1 Q q => ev_in (k := .inr n) (ev_var rfl) rfl (ev_var rfl) hx' H1 e1 _ fun H2 e2 => ⟨_, rfl, q H2 e2⟩) (fun hb => ?_) (fun hb => ?_)).imp fun v H2 _ p m hm => by
          obtain rfl : n = m := Option.some.inj hm
          exact p
        · rcases hi n (List.mem_of_getElem? hr) with ⟨_, q⟩ | ⟨row, a, e1, e2, e3, e4, e5⟩
          · rw [q] at hb
            cases hb
          · refine (ep_use (ea_cons (ev_get (ev_var rfl) (ev_var rfl) (k := .inr n) rfl hx' e2) ea_nil) (spE_P (a, row) (fun _ e6 => ⟨rfl, e3.le (Le.ex (e.trans e6)), e4, e5⟩) fun v H2 _ p => p)).imp fun v H2 _ p => ?_
            unfold Rf
            rw [e1]
            exact p
        · rcases hi n (List.mem_of_getElem? hr) with ⟨q, _⟩ | ⟨row, a, e1, e2, e3, e4, e5⟩
          · refine ((new_tup (pa1 (Pr := fun vs _ => vs = []) (P := fun v H2 => ∃ b, v = .ref b ∧ H2 b = some (.tup [.str n])) (fun v H H' e ⟨b, h1, h2⟩ => ⟨b, h1, e _ _ h2⟩) (((New.ofU (eu_tup (ea_cons (ev_var rfl) ea_nil) (by show 1 ≤ 100000; decide))).evP).imp fun v H2 _ ⟨p, o, h1, h2, h3⟩ => ⟨p, h1, by rw [h2, h3]⟩) pa0) (fun vs H2 ⟨v, r, h1, h2, h3⟩ => by rw [h1, h3]; show 1 ≤ 1000; decide) (fun vs H H' e ⟨v, r, h1, ⟨b, h2, h3⟩, h4⟩ => ⟨v, r, h1, ⟨b, h2, e _ _ h3⟩, h4⟩)).evP).imp fun v H2 _ ⟨p, o, h1, h2, vs, h3, y, r, h4, ⟨b, h5, h6⟩, h7⟩ => ⟨p, h1, [.ref b], by rw [h2, h3, h4, h5, h7], ?_⟩
            unfold Rf
            rw [q]
            exact ItsAt.one ⟨b, rfl, h6⟩
          · rw [e2] at hb
            cases hb
    · intro i x H' H'' _ h
      exact h
    subst eo
    refine k _ H1 e1 ⟨d, rfl, l, h1, hk, fun n v hm => ?_⟩
    obtain ⟨i, hi⟩ := List.mem_iff_getElem?.mp hm
    refine hv i _ hi n ?_
    have h2 := congrArg (fun z : List Key => z[i]?) hk
    simp only [List.getElem?_map, hi, Option.map_some] at h2
    cases hr : regs[i]? with
    | none => rw [hr] at h2; cases h2
    | some m =>
      rw [hr] at h2
      have : (Sum.inr n : Key) = Sum.inr m := Option.some.inj h2
      rw [Sum.inr.inj this]
end
end KX
end
section
set_option Elab.async false
set_option linter.all false
set_option maxRecDepth 100000
set_option maxHeartbeats 4000000
/-! Bs9: programs on the heap; how one is made. -/
namespace KX
open PySem PySem.Spec PyProof.Rows L2 Evl

/-- a program as it is told -/
structure Td where
  L : Str
  n : Int
  regs : List Str
  fs : Str → Option Str
  goal : Int → Nat → Int
  row : Int → Nat → Str → Option (List Itm)
  fin : Int → Option (List Itm)
/-- a program as it is kept -/
structure Pg where
  L : Str
  n : Int
  regs : List Str
  fst : Str → Str
  goal : Int → Nat → Int
  row : Int → Nat → Str → List Itm
  fin : Int → Option (List Itm)
def Td.pg (t : Td) : Pg := ⟨lts t.L, t.n, srtS t.regs, fun n => (t.fs n).getD "", t.goal, fun s c => Rf (t.row s c), fun s => (t.fin s).map nrm⟩
def RowZ (row : List Itm) : Prop := row.length ≤ 1000 ∧ rowLen row ≤ 100000
/-- a state and a letter -/
def SL (L : Str) (n : Int) (s : Int) (c : Nat) : Prop := 0 ≤ s ∧ s < n ∧ c ∈ cds L
structure TdAt (H : Hp) (t : Td) (ra fa sa ea : Addr) : Prop where
  rS : H ra = some (.lst (t.regs.map V.str))
  rN : t.regs.Nodup
  r6 : t.regs.length ≤ 60
  lZ : t.L.length ≤ 100000
  f : ∃ kvs : List (Key × V), H fa = some (.dK kvs) ∧ ∀ n ∈ t.regs, valV kvs (.inr n) = (t.fs n).map V.str
  s : ∃ kvs : List (List Key × V), H sa = some (.dT kvs) ∧ kvs.length ≤ 100000 ∧ (kvs.map (·.1)).Nodup ∧
    (∀ k v, (k, v) ∈ kvs → ∃ s c b r, k = [.inl s, .inr ⟨#[c]⟩] ∧ SL t.L t.n s c ∧ v = .ref b ∧ H b = some (.tup [.int (t.goal s c), .ref r]) ∧ RowD t.regs (t.row s c) H r) ∧
    ∀ s c, SL t.L t.n s c → [Sum.inl s, Sum.inr ⟨#[c]⟩] ∈ kvs.map (·.1)
  e : ∃ kvs : List (Key × V), H ea = some (.dK kvs) ∧ kvs.length ≤ 100000 ∧ (kvs.map (·.1)).Nodup ∧
    (∀ k v, (k, v) ∈ kvs → ∃ s a row, k = .inl s ∧ t.fin s = some row ∧ v = .ref a ∧ RowAt H a row ∧ RowZ row) ∧ ∀ s, (t.fin s).isSome = true → Sum.inl s ∈ kvs.map (·.1)
theorem RowD.ex {regs : List Str} {R0 : Str → Option (List Itm)} {H H' : Hp} {r : Addr} (e : Ex H H') (h : RowD regs R0 H r) : RowD regs R0 H' r := h.le (Le.ex e)
theorem TdAt.ex {H H' : Hp} {t : Td} {ra fa sa ea : Addr} (e : Ex H H') (h : TdAt H t ra fa sa ea) : TdAt H' t ra fa sa ea where
  rS := e _ _ h.rS
  rN := h.rN
  r6 := h.r6
  lZ := h.lZ
  f := h.f.imp fun kvs ⟨a, b⟩ => ⟨e _ _ a, b⟩
  s := h.s.imp fun kvs ⟨a, b, c, d, f⟩ => ⟨e _ _ a, b, c, fun k v m => by
    obtain ⟨s, c, b, r, h1, h2, h3, h4, h5⟩ := d k v m
    exact ⟨s, c, b, r, h1, h2, h3, e _ _ h4, h5.ex e⟩, f⟩
  e := h.e.imp fun kvs ⟨a, b, c, d, f⟩ => ⟨e _ _ a, b, c, fun k v m => by
    obtain ⟨s, a, row, h1, h2, h3, h4, h5⟩ := d k v m
    exact ⟨s, a, row, h1, h2, h3, h4.le (Le.ex e), h5⟩, f⟩
structure PgD (H : Hp) (g : Pg) (ra fa sa ea : Addr) : Prop where
  rS : H ra = some (.lst (g.regs.map V.str))
  f : H fa = some (.dK (hk g.regs g.fst))
  s : ∃ kvs : List (List Key × V), H sa = some (.dT kvs) ∧ kvs.length ≤ 100000 ∧ (kvs.map (·.1)).Nodup ∧
    (∀ k v, (k, v) ∈ kvs → ∃ s c b r, k = [.inl s, .inr ⟨#[c]⟩] ∧ SL g.L g.n s c ∧ v = .ref b ∧ H b = some (.tup [.int (g.goal s c), .ref r]) ∧ RowsN g.regs (g.row s c) H r) ∧
    ∀ s c, SL g.L g.n s c → [Sum.inl s, Sum.inr ⟨#[c]⟩] ∈ kvs.map (·.1)
  e : ∃ kvs : List (Key × V), H ea = some (.dK kvs) ∧ kvs.length ≤ 100000 ∧ (kvs.map (·.1)).Nodup ∧
    (∀ k v, (k, v) ∈ kvs → ∃ s a row, k = .inl s ∧ g.fin s = some row ∧ v = .ref a ∧ RowAt H a row) ∧ ∀ s, (g.fin s).isSome = true → Sum.inl s ∈ kvs.map (·.1)
theorem PgD.ex {H H' : Hp} {g : Pg} {ra fa sa ea : Addr} (e : Ex H H') (h : PgD H g ra fa sa ea) : PgD H' g ra fa sa ea where
  rS := e _ _ h.rS
  f := e _ _ h.f
  s := h.s.imp fun kvs ⟨a, b, c, d, f⟩ => ⟨e _ _ a, b, c, fun k v m => by
    obtain ⟨s, c, b, r, h1, h2, h3, h4, h5⟩ := d k v m
    exact ⟨s, c, b, r, h1, h2, h3, e _ _ h4, h5.ex e⟩, f⟩
  e := h.e.imp fun kvs ⟨a, b, c, d, f⟩ => ⟨e _ _ a, b, c, fun k v m => by
    obtain ⟨s, a, row, h1, h2, h3, h4⟩ := d k v m
    exact ⟨s, a, row, h1, h2, h3, h4.le (Le.ex e)⟩, f⟩
def pgN : List Str := ["letters", "states", "registers", "firsts", "steps", "ends"]
/-- fields of these names alone -/
def OnlyF (ns : List Str) (fs : List (Str × V)) : Prop := ∀ m : Str, fs.lookup m ≠ none → m ∈ ns
theorem OnlyF.put {ns : List Str} {fs : List (Str × V)} {f : Str} {v : V} (h : OnlyF ns fs) (hf : f ∈ ns) : OnlyF ns (putF f v fs) := fun m hm => by
  rw [lookup_putF] at hm
  by_cases e : m = f
  · rw [e]; exact hf
  · rw [if_neg e] at hm
    exact h m hm
theorem OnlyF.no {ns : List Str} {fs : List (Str × V)} {m : Str} (h : OnlyF ns fs) (hm : m ∉ ns) : fs.lookup m = none := by
  cases e : fs.lookup m with
  | none => rfl
  | some v => exact absurd (h m (by rw [e]; exact fun z => by cases z)) hm
/-- the fields of a program -/
structure PgF (fs : List (Str × V)) (g : Pg) (ra fa sa ea : Addr) : Prop where
  z : fs.length ≤ 100
  l : fs.lookup ("letters" : Str) = some (.str g.L)
  n : fs.lookup ("states" : Str) = some (.int g.n)
  r : fs.lookup ("registers" : Str) = some (.ref ra)
  f : fs.lookup ("firsts" : Str) = some (.ref fa)
  s : fs.lookup ("steps" : Str) = some (.ref sa)
  e : fs.lookup ("ends" : Str) = some (.ref ea)
  o : OnlyF pgN fs
def PgAt (C : Addr) (H : Hp) (p : Addr) (g : Pg) : Prop := ∃ dx fs ra fa sa ea, H p = some (.ins C dx fs) ∧ PgF fs g ra fa sa ea ∧ PgD H g ra fa sa ea
theorem PgAt.ex {C : Addr} {H H' : Hp} {p : Addr} {g : Pg} (e : Ex H H') (h : PgAt C H p g) : PgAt C H' p g := by
  obtain ⟨dx, fs, ra, fa, sa, ea, h1, h2, h3⟩ := h
  exact ⟨dx, fs, ra, fa, sa, ea, e _ _ h1, h2, h3.ex e⟩
/-- what the class of programs is -/
structure PgC (K : PySem.W.Frag) (C : Addr) : Prop where
  cl : Cls K C
  l : NoAttr K C "letters"
  n : NoAttr K C "states"
  r : NoAttr K C "registers"
  f : NoAttr K C "firsts"
  s : NoAttr K C "steps"
  e : NoAttr K C "ends"
theorem putF_len (f : Str) (v : V) : ∀ fs : List (Str × V), (putF f v fs).length ≤ fs.length + 1
  | [] => Nat.le_refl _
  | (g, x) :: r => by
    show (if g = f then (g, v) :: r else (g, x) :: putF f v r).length ≤ _
    by_cases h : g = f
    · rw [if_pos h]; exact Nat.le_succ _
    · rw [if_neg h]
      have := putF_len f v r
      show (putF f v r).length + 1 ≤ r.length + 1 + 1
      omega
theorem hk_of {regs : List Str} {f : Str → Str} {kvs : List (Key × V)} (hk1 : kvs.map (·.1) = regs.map Sum.inr) (hv : ∀ (i : Nat) (p : Key × V), kvs[i]? = some p → ∀ n, regs[i]? = some n → p.2 = .str (f n)) : kvs = hk regs f := by
  have hl : kvs.length = regs.length := by simpa using congrArg List.length hk1
  unfold hk
  apply List.ext_getElem?
  intro i
  rw [List.getElem?_map]
  cases hr : regs[i]? with
  | none =>
    have := List.getElem?_eq_none_iff.mp hr
    rw [List.getElem?_eq_none (by omega)]
    rfl
  | some n =>
    have hi := (List.getElem?_eq_some_iff.mp hr).1
    have hki : kvs[i]? = some kvs[i] := List.getElem?_eq_getElem (by omega)
    have h2 := congrArg (fun z : List Key => z[i]?) hk1
    simp only [List.getElem?_map, hki, hr, Option.map_some] at h2
    rw [hki]
    have h3 := hv i _ hki n hr
    have h4 : (kvs[i]).1 = Sum.inr n := Option.some.inj h2
    show some kvs[i] = some (Sum.inr n, V.str (f n))
    rw [← h4, ← h3]
section
variable {K : PySem.W.Frag} {σ : L2.St} {H : Hp} {ta tb te tv to td tx : TE} {P : Program} {w : World} {D : Ends} {tz : TS} {C p dx : Addr} {fs : List (Str × V)} {f : Str}
theorem ev_fld {v : V} (h : Ev ta σ H (.ref p)) (hp : H p = some (.ins C dx fs)) (cl : Cls K C) (na : NoAttr K C f) (e : fs.lookup f = some v) : Ev (tFld K ta f) σ H v := fun H1 e1 Q q =>
  h H1 e1 _ fun H2 e2 => ⟨p, C, dx, fs, v, rfl, (e1.trans e2) _ _ hp, cl, na, e, q H2 e2⟩
theorem q_fld {v : V} (h : Ev tv σ H v) (ho : Ev to σ H (.ref p)) (hp : H p = some (.ins C dx fs)) (cl : Cls K C) (na : NoAttr K C f) (few : fs.length ≤ 200) (k : ∀ H1, Ex H H1 → tz D σ (upd H1 p (.ins C dx (putF f v fs)))) : tSeq (sFld K to tv f) tz D σ H :=
  h H (Ex.refl H) _ fun H1 e1 => ho H1 e1 _ fun H2 e2 => ⟨p, C, dx, fs, rfl, (e1.trans e2) _ _ hp, cl, na, by omega, k H2 (e1.trans e2)⟩
theorem q_fldN {N : HO → Hp → Prop} (h : New tv σ H N) (ho : Ev to σ H (.ref p)) (hp : H p = some (.ins C dx fs)) (cl : Cls K C) (na : NoAttr K C f) (few : fs.length ≤ 200) (hN : ∀ o H H', Ex H H' → N o H → N o H')
    (k : ∀ q o H1, H q = none → Ex H H1 → H1 q = some o → N o H1 → tz D σ (upd H1 p (.ins C dx (putF f (.ref q) fs)))) : tSeq (sFld K to tv f) tz D σ H :=
  h H (Ex.refl H) _ fun q o H1 e0 e1 e3 n => ho H1 e1 _ fun H2 e2 => ⟨p, C, dx, fs, rfl, (e1.trans e2) _ _ hp, cl, na, by omega, k q o H2 e0 (e1.trans e2) (e2 _ _ e3) (hN _ _ _ e2 n)⟩
theorem s_fldN {N : HO → Hp → Prop} (h : New tv σ H N) (ho : Ev to σ H (.ref p)) (hp : H p = some (.ins C dx fs)) (cl : Cls K C) (na : NoAttr K C f) (few : fs.length ≤ 200) (hN : ∀ o H H', Ex H H' → N o H → N o H')
    (k : ∀ q o H1, H q = none → Ex H H1 → H1 q = some o → N o H1 → D.nx σ (upd H1 p (.ins C dx (putF f (.ref q) fs)))) : sFld K to tv f D σ H :=
  h H (Ex.refl H) _ fun q o H1 e0 e1 e3 n => ho H1 e1 _ fun H2 e2 => ⟨p, C, dx, fs, rfl, (e1.trans e2) _ _ hp, cl, na, by omega, k q o H2 e0 (e1.trans e2) (e2 _ _ e3) (hN _ _ _ e2 n)⟩
theorem el_srtS {z : Str} (h : Ev ta σ H (.str z)) (hz : z.length ≤ 100000) : EvL (tCB rSrtS (tCons ta tNil)) σ H ((srtS ((cds z).map fun c => ⟨#[c]⟩)).map V.str) := fun H1 e Q q =>
  h H1 e _ fun H2 e2 => ⟨z, rfl, sz_of hz, fun p hp => q p _ (fresh_back e2 hp) (e2.trans (Ex.new hp)) (by rw [upd_same, signs_eq, (srtS_perm _).2])⟩
theorem el_srtL {a : Addr} {xs : List Str} (h : Ev ta σ H (.ref a)) (hx : H a = some (.lst (xs.map V.str))) (hz : xs.length ≤ 100000) : EvL (tCB (rSrtL K) (tCons ta tNil)) σ H ((srtS xs).map V.str) := fun H1 e Q q =>
  h H1 e _ fun H2 e2 => ⟨a, strP xs, rfl, .inl (by
    have : (strP xs).map (·.1) = xs.map V.str := by
      unfold strP
      rw [List.map_map]
      rfl
    rw [this]
    exact sq_of (e2 _ _ (e _ _ hx))), strP_ok hz, fun p hp => q p _ (fresh_back e2 hp) (e2.trans (Ex.new hp)) (by rw [upd_same, (srtS_perm _).2])⟩
theorem el_srtK {a : Addr} {kvs : List (Key × V)} {xs : List Int} (h : Ev ta σ H (.ref a)) (hx : Rd H a (.dK kvs)) (hk : kvs.map (·.1) = xs.map Sum.inl) (hz : xs.length ≤ 100000) : EvL (tCB rSrtK (tCons ta tNil)) σ H ((srtI xs).map V.int) := fun H1 e Q q =>
  h H1 e _ fun H2 e2 => by
    have hp : keysP kvs = intP xs := by
      unfold keysP intP
      have h1 : (fun p : Key × V => (kV p.1, kD p.1)) = (fun k : Key => (kV k, kD k)) ∘ Prod.fst := rfl
      rw [h1, ← List.map_map, hk, List.map_map]
      rfl
    exact ⟨a, kvs, rfl, ex_rd (e.trans e2) hx, by rw [hp]; exact intP_ok hz, fun p hp' => q p _ (fresh_back e2 hp') (e2.trans (Ex.new hp')) (by rw [upd_same, hp, (srtI_perm _).2])⟩
/-- sorted(dict of places) -/
theorem new_srtT {a : Addr} {kvs : List (List Key × V)} (h : Ev ta σ H (.ref a)) (hx : Rd H a (.dT kvs)) (hk : ∀ k v, (k, v) ∈ kvs → IsPl k) (hz : kvs.length ≤ 100000) :
    New (tCB rSrtT (tCons ta tNil)) σ H (fun o H2 => ∃ xs, o = .lst xs ∧ xs.length = kvs.length ∧ ∃ qs : List Addr, xs = qs.map V.ref ∧ ∀ (i : Nat) q k, qs[i]? = some q → (srtKs kvs)[i]? = some k → H2 q = some (.tup (k.map kV))) := fun H1 e Q q =>
  h H1 e _ fun H2 e2 => ⟨a, kvs, rfl, ex_rd (e.trans e2) hx, fun bs hb => ⟨keysT_ok hb hk hz, fun p hp => by
    obtain ⟨qs, h1, h2, h3⟩ := srtT_ix hb
    refine q p _ _ (fresh_back e2 hp) (e2.trans (Ex.new hp)) upd_same ⟨_, rfl, ?_, qs, h1, fun i q k a b => Ex.new hp _ _ (h3 i q k a b)⟩
    rw [h1, List.length_map, h2, (srtKs_perm kvs).length_eq, List.length_map]⟩⟩
theorem ev_get2 {d : Addr} {kvs : List (Key × V)} {y z : V} {k : Key} (hd : Ev td σ H (.ref d)) (hy : Ev ta σ H y) (ey : y = kV k) (hx : Ev tx σ H z) (h : H d = some (.dK kvs)) : Ev (tDGet2 td ta tx) σ H ((valV kvs k).getD z) := fun H1 e Q q =>
  hd H1 e _ fun H2 e2 => ⟨d, rfl, .inl ⟨kvs, .inl ((e.trans e2) _ _ h)⟩, hy H2 (e.trans e2) _ fun H3 e3 => hx H3 ((e.trans e2).trans e3) _ fun H4 e4 =>
    ⟨_, .inl ⟨kvs, k, .inl ((((e.trans e2).trans e3).trans e4) _ _ h), ey, rfl⟩, q H4 ((e2.trans e3).trans e4)⟩⟩
end
end KX
end
section
set_option Elab.async false
set_option linter.all false
set_option maxRecDepth 100000
set_option maxHeartbeats 8000000
/-! Bs10: the parts are put into a program; a program is made. -/
namespace KX
open PySem PySem.Spec PyProof.Rows L2 Evl
def isIns : HO → Bool
  | .ins _ _ _ => true
  | _ => false
/-- all but instances stays -/
def Kp (H H' : Hp) : Prop := ∀ a o, isIns o = false → H a = some o → H' a = some o
theorem Kp.ex {H H' : Hp} (e : Ex H H') : Kp H H' := fun a o _ h => e a o h
theorem Kp.trans {H H1 H2 : Hp} (a : Kp H H1) (b : Kp H1 H2) : Kp H H2 := fun x o f h => b x o f (a x o f h)
theorem Kp.upd {H : Hp} {p C dx : Addr} {fs : List (Str × V)} {o : HO} (h : H p = some (.ins C dx fs)) : Kp H (upd H p o) := fun a u f q => by
  rw [upd_ne (show a ≠ p from fun z => by
    subst z
    rw [h] at q
    cases q
    cases f)]
  exact q
theorem ItAt.kp {H H' : Hp} {t : Itm} {x : V} (e : Kp H H') (h : ItAt H t x) : ItAt H' t x := by
  cases t with
  | t s => exact h
  | r s => exact h.imp fun b ⟨e1, h1⟩ => ⟨e1, e _ _ rfl h1⟩
theorem RowAt.kp {H H' : Hp} {a : Addr} {row : List Itm} (e : Kp H H') (h : RowAt H a row) : RowAt H' a row := h.imp fun xs ⟨h1, h2, h3⟩ => ⟨e _ _ rfl h1, h2, fun i x t a b => (h3 i x t a b).kp e⟩
theorem RowsN.kp {regs : List Str} {R : Str → List Itm} {H H' : Hp} {d : Addr} (e : Kp H H') (h : RowsN regs R H d) : RowsN regs R H' d := h.imp fun kvs ⟨h1, h2, h3⟩ => ⟨e _ _ rfl h1, h2, fun n v m => by
  obtain ⟨a, e1, e2⟩ := h3 n v m
  exact ⟨a, e1, e2.kp e⟩⟩
theorem stab_rowsN {regs : List Str} {R : Str → List Itm} {d : Addr} : Stab isDt (fun H => RowsN regs R H d) := ⟨fun _ _ e h => h.ex e, fun H D o o' k _ hD h => by
  obtain ⟨kvs, h1, h2, h3⟩ := h
  have nt : ∀ xs, o ≠ .tup xs := fun xs z => by
    subst z
    cases k
  refine ⟨kvs, by
    rw [upd_ne (show d ≠ D from fun z => by
      subst z
      rw [h1] at hD
      cases hD
      cases k)]
    exact h1, h2, fun n v m => ?_⟩
  obtain ⟨a, e1, e2⟩ := h3 n v m
  exact ⟨a, e1, e2.upd hD nt⟩⟩
theorem RowD.perm {regs regs' : List Str} {R0 : Str → Option (List Itm)} {H : Hp} {r : Addr} (hp : ∀ n, n ∈ regs' → n ∈ regs) (h : RowD regs R0 H r) : RowD regs' R0 H r := h.imp fun kvs ⟨a, b⟩ => ⟨a, fun n hn => b n (hp n hn)⟩

def sp_Program_put (C : Addr) : Sp := fun vs H Q _ => ∃ (t : Td) (p ra fa sa ea dx : Addr) (fs : List (Str × V)) (H0 : Hp), vs = [.ref p, .str t.L, .int t.n, .ref ra, .ref fa, .ref sa, .ref ea] ∧ H0 p = none ∧ Ex H0 H ∧ H p = some (.ins C dx fs) ∧ fs.length ≤ 50 ∧ OnlyF pgN fs ∧
  TdAt H0 t ra fa sa ea ∧ ∀ H', Ex H0 H' → PgAt C H' p t.pg → (∀ dx' fs', H' p = some (.ins C dx' fs') → fs'.length ≤ fs.length + 6) → Q .non H'
section
variable {P : Program} {w : World} {K : PySem.W.Frag} {mg : Str → Option Value} {base : Heap} {C : Addr} {f : Addr} {fd : FuncData}
theorem ok_Program_put (F : Fun K "_put" "Program._put" s_Program_put f fd) (Z : Zs mg C) (PC : PgC K C) (G_all_rows : Has P w K mg base "all_rows" 3 ["rows", "registers"] sp_all_rows) (G_row_of : Has P w K mg base "row_of" 2 ["items"] sp_row_of) :
    FnOk P w K mg base CX0 4 f fd ["self", "letters", "states", "registers", "firsts", "steps", "ends"] (sp_Program_put C) := by
  refine F.ok sc_Program_put (fun vs H Q E h => ?_) (fun cdv A outer s H vs Q E hr h => ?_)
  · obtain ⟨t, p, ra, fa, sa, ea, dx, fs, H0, rfl, _⟩ := h
    rfl
  · obtain ⟨t, p, ra, fa, sa, ea, dx, fs, H0, rfl, hp0, ex0, hp, hfs, hof, T, k⟩ := h
    have hu := hu_of hr
    have hu64 := hr.units
    have hu0 := Nat.lt_of_succ_lt hu
    have hu8 := hu8_of hr
    refine ⟨_, (pss_cons (ps_fld (pv 0) (pe_join pe_str (pe_callB (cr_srtS rfl hu8) (by rfl) Z.z_sorted (by decide +kernel) (pa_cons (pv 1) pa_nil))) rfl) 
    (pss_cons (ps_fld (pv 0) (pv 2) rfl) 
    (pss_cons (ps_fld (pv 0) (pe_callB (cr_srtL (K := K) hu8) (by rfl) Z.z_sorted (by decide +kernel) (pa_cons (pv 3) pa_nil)) rfl) 
    (pss_cons (ps_fld (pv 0) (pe_dp IsNil.k hu0 (own := [(("name" : Str), 7)]) (g := gName 7) rfl sc_Program_put.nd (pi_list (pe_fldK (K := K) (pv 0) rfl)) (blkOk_by (own := [(("name" : Str), 7)]) (N := n_Program_put) (sc := defScope s_Program_put) (by decide +kernel)) (fun _ _ _ _ _ => (pg_name (i := 7) sc_Program_put.nd rfl (Or.inl rfl))) (fun _ _ _ _ _ => pts_nil) (fun _ _ _ _ _ => (pv 7)) (fun _ _ _ _ _ => (pe_dget2 hu (pv 4) (pv 7) pe_str m2))) rfl) 
    (pss_cons (ps_fld (pv 0) (pe_dp IsNil.t hu0 (own := [(("key" : Str), 8)]) (g := gName 8) rfl sc_Program_put.nd (pi_list (pe_callB (cr_srtT rfl hu8) (by rfl) Z.z_sorted (by decide +kernel) (pa_cons (pv 5) pa_nil))) (blkOk_by (own := [(("key" : Str), 8)]) (N := n_Program_put) (sc := defScope s_Program_put) (by decide +kernel)) (fun _ _ _ _ _ => (pg_name (i := 8) sc_Program_put.nd rfl (Or.inl rfl))) (fun _ _ _ _ _ => pts_nil) (fun _ _ _ _ _ => (pv 8)) (fun _ _ _ _ _ => (pe_tup (pa_cons (pe_ix (ixT (K := K)) (pe_dget hu (pv 5) (pv 8) (fun _ _ => rfl)) pe_int (fun _ _ => rfl)) (pa_cons (pe_use G_all_rows (hr.mono (by decide)) (pa_cons (pe_ix (ixT (K := K)) (pe_dget hu (pv 5) (pv 8) (fun _ _ => rfl)) pe_int (fun _ _ => rfl)) (pa_cons (pe_fldK (K := K) (pv 0) rfl) pa_nil))) pa_nil))))) rfl) 
    (pss_one (ps_fld (pv 0) (pe_dp IsNil.k hu0 (own := [(("state" : Str), 9)]) (g := gName 9) rfl sc_Program_put.nd (pi_list (pe_callB (cr_srtK rfl hu8) (by rfl) Z.z_sorted (by decide +kernel) (pa_cons (pv 6) pa_nil))) (blkOk_by (own := [(("state" : Str), 9)]) (N := n_Program_put) (sc := defScope s_Program_put) (by decide +kernel)) (fun _ _ _ _ _ => (pg_name (i := 9) sc_Program_put.nd rfl (Or.inl rfl))) (fun _ _ _ _ _ => pts_nil) (fun _ _ _ _ _ => (pv 9)) (fun _ _ _ _ _ => (pe_use G_row_of (hr.mono (by decide)) (pa_cons (pe_dget hu (pv 6) (pv 9) (fun _ _ => rfl)) pa_nil)))) rfl))))))), ?_⟩
    have h6 := T.r6
    have hperm := srtS_perm t.regs
    have hmem : ∀ n, n ∈ srtS t.regs → n ∈ t.regs := fun n h => hperm.1.mem_iff.mp h
    have hlS : (srtS t.regs).length ≤ 60 := by rw [hperm.1.length_eq]; exact h6
    have hNS : (srtS t.regs).Nodup := hperm.1.nodup_iff.mpr T.rN
    -- letters
    refine q_fld (ev_join (K := K) (el_srtS (ev_var rfl) T.lZ) rfl (by
      show (lts t.L).length ≤ 16000000
      rw [lts_len]
      exact Nat.le_trans T.lZ (by decide))) (ev_var rfl) hp PC.cl PC.l (by omega) fun H1 e1 => ?_
    have x1 : Ex H0 (upd H1 p (.ins C dx (putF "letters" (.str (cat (srtS ((cds t.L).map fun c => ⟨#[c]⟩)))) fs))) := Ex.mut (ex0.trans e1) hp0
    -- states
    refine q_fld (ev_var rfl) (ev_var rfl) upd_same PC.cl PC.n (by have := putF_len "letters" (.str (cat (srtS ((cds t.L).map fun c => ⟨#[c]⟩)))) fs; omega) fun H2 e2 => ?_
    have l1 := putF_len "letters" (.str (cat (srtS ((cds t.L).map fun c => ⟨#[c]⟩)))) fs
    have l2 := putF_len "states" (.int t.n) (putF "letters" (.str (cat (srtS ((cds t.L).map fun c => ⟨#[c]⟩)))) fs)
    have x2 := Ex.mut (o := .ins C dx (putF "states" (.int t.n) (putF "letters" (.str (cat (srtS ((cds t.L).map fun c => ⟨#[c]⟩)))) fs))) (x1.trans e2) hp0
    generalize hf2 : putF "states" (.int t.n) (putF "letters" (.str (cat (srtS ((cds t.L).map fun c => ⟨#[c]⟩)))) fs) = fs2 at x2 l2 ⊢
    -- registers
    refine q_fldN (New.ofL (el_srtL (K := K) (ev_var rfl) (x2 _ _ T.rS) (by omega))) (ev_var rfl) upd_same PC.cl PC.r (by omega) (fun _ _ _ _ h => h) fun ra' o3 H3 hn3 e3 h3 n3 => ?_
    subst n3
    have hp3 : H3 p = some (.ins C dx fs2) := e3 _ _ upd_same
    have l3 := putF_len "registers" (.ref ra') fs2
    have k3 := Kp.upd (o := .ins C dx (putF "registers" (.ref ra') fs2)) hp3
    have x3 := Ex.mut (o := .ins C dx (putF "registers" (.ref ra') fs2)) (x2.trans e3) hp0
    have lk3 : (putF "registers" (.ref ra') fs2).lookup ("registers" : Str) = some (.ref ra') := by rw [lookup_putF, if_pos rfl]
    have h3' := k3 _ _ rfl h3
    generalize hf3 : putF "registers" (.ref ra') fs2 = fs3 at k3 x3 l3 lk3 h3' ⊢
    -- firsts
    obtain ⟨kf, hkf, hkv⟩ := T.f
    refine q_fldN (new_dpK (src_list (K := K) (ev_fld (ev_var rfl) upd_same PC.cl PC.r lk3) (sq_of h3')) (by rw [List.length_map]; omega) (fun x => rfl) ((srtS t.regs).map Sum.inr) (by simp) (List.Pairwise.map Sum.inr (fun a b h q => h (Sum.inr.inj q)) hNS)
      (fun i v _ => ∀ n, (srtS t.regs)[i]? = some n → v = .str ((t.fs n).getD "")) (fun i v => stab_pure) ?_ ?_ (fun _ _ _ _ _ h => h)) (ev_var rfl) upd_same PC.cl PC.f (by omega) (fun o H H' _ ⟨l, a, b, c⟩ => ⟨l, a, b, c⟩) fun fa' o4 H4 hn4 e4 h4 ⟨lf, n4, hk4, hv4⟩ => ?_
    · intro i x k H' e hk hx
      rw [List.getElem?_map] at hk hx
      cases hr : (srtS t.regs)[i]? with
      | none => rw [hr] at hk; cases hk
      | some s =>
        rw [hr] at hk hx
        cases hk
        cases hx
        exact ev_var rfl
    · intro i x H' e hil hxi
      rw [List.getElem?_map] at hxi
      cases hr : (srtS t.regs)[i]? with
      | none => rw [hr] at hxi; cases hxi
      | some n =>
        rw [hr] at hxi
        obtain rfl : V.str n = x := Option.some.inj hxi
        refine (EvP.of (ev_get2 (ev_var rfl) (ev_var rfl) (k := .inr n) rfl ev_c ((x3.trans e) _ _ hkf))).imp fun v H2 _ hv m hm => ?_
        obtain rfl : n = m := Option.some.inj hm
        rw [hv, hkv n (hmem n (List.mem_of_getElem? hr))]
        cases t.fs n <;> rfl
    subst n4
    have hlf := hk_of (f := fun n => (t.fs n).getD "") hk4 (fun i q hq n hn => hv4 i q hq n hn)
    subst hlf
    have hp4 : H4 p = some (.ins C dx fs3) := e4 _ _ upd_same
    have l4 := putF_len "firsts" (.ref fa') fs3
    have k4 := Kp.upd (o := .ins C dx (putF "firsts" (.ref fa') fs3)) hp4
    have x4 := Ex.mut (o := .ins C dx (putF "firsts" (.ref fa') fs3)) (x3.trans e4) hp0
    have h34 : (upd H4 p (.ins C dx (putF "firsts" (.ref fa') fs3))) ra' = some (.lst ((srtS t.regs).map V.str)) := k4 _ _ rfl (e4 _ _ h3')
    have lk4 : (putF "firsts" (.ref fa') fs3).lookup ("registers" : Str) = some (.ref ra') := by rw [lookup_putF, if_neg (by decide +kernel)]; exact lk3
    have h4' := k4 _ _ rfl h4
    generalize hf4 : putF "firsts" (.ref fa') fs3 = fs4 at k4 x4 l4 lk4 h34 h4' ⊢
    -- steps
    obtain ⟨ks, hks, hkz, hkn, hkv2, hkc⟩ := T.s
    have hpl : ∀ k v, (k, v) ∈ ks → IsPl k := fun k v m => by
      obtain ⟨s, c, b, r, h1, _⟩ := hkv2 k v m
      exact ⟨s, _, h1⟩
    have hkP := srtKs_perm ks
    refine q_fldN (new_dpT (src_newT (K := K) (n := ks.length) (P := fun xs H2 => ∃ qs : List Addr, xs = qs.map V.ref ∧ ∀ (i : Nat) q k, qs[i]? = some q → (srtKs ks)[i]? = some k → H2 q = some (.tup (k.map kV))) (new_srtT (ev_var rfl) (.inl (x4 _ _ hks)) hpl hkz) (It := fun i x H => ∀ k, (srtKs ks)[i]? = some k → ∃ q, x = .ref q ∧ H q = some (.tup (k.map kV))) ?_) hkz (fun x => rfl) (srtKs ks) (by rw [hkP.length_eq]; simp) (hkP.nodup_iff.mpr hkn)
      (fun i v H => ∀ k, (srtKs ks)[i]? = some k → ∀ s c, k = [Sum.inl s, Sum.inr ⟨#[c]⟩] → ∃ b r, v = .ref b ∧ H b = some (.tup [.int (t.goal s c), .ref r]) ∧ RowsN (srtS t.regs) (Rf (t.row s c)) H r)
      (fun i v => stab_all fun k => stab_imp fun _ => stab_all fun s => stab_all fun c => stab_imp fun _ => stab_ex fun b => stab_ex fun r => stab_and stab_pure (stab_and (stab_at rfl rfl) stab_rowsN)) ?_ ?_ ?_) (ev_var rfl) upd_same PC.cl PC.s (by omega)
      (fun o H H' e ⟨l, a, b, c⟩ => ⟨l, a, b, fun i q hq k hk s z hz => by
        obtain ⟨b, r, h1, h2, h3⟩ := c i q hq k hk s z hz
        exact ⟨b, r, h1, e _ _ h2, h3.ex e⟩⟩) fun sa' o5 H5 hn5 e5 h5 ⟨ls, n5, hk5, hv5⟩ => ?_
    · rintro xs H2 H3 i x hT ⟨qs, rfl, hq⟩ hx k hk
      rw [List.getElem?_map] at hx
      cases hqi : qs[i]? with
      | none => rw [hqi] at hx; cases hx
      | some q =>
        rw [hqi] at hx
        obtain rfl : V.ref q = x := Option.some.inj hx
        exact ⟨q, rfl, hT _ _ (hq i q k hqi hk)⟩
    · intro i x k H' e hk hI
      obtain ⟨q, rfl, hq⟩ := hI k hk
      exact (EvP.of (ev_var rfl)).imp fun v H2 e2 hv => ⟨q, hv, e2 _ _ hq⟩
    · intro i x H' e hi hI
      obtain ⟨kk, hki⟩ : ∃ kk, (srtKs ks)[i]? = some kk := ⟨_, List.getElem?_eq_getElem (by rw [hkP.length_eq, List.length_map]; exact hi)⟩
      obtain ⟨q, rfl, hq⟩ := hI kk hki
      obtain ⟨v, hv, hm⟩ := valV_key (kvs := ks) (hkP.mem_iff.mp (List.mem_of_getElem? hki))
      obtain ⟨s, c, b, r, hkk, hsl, rfl, hb, hR⟩ := hkv2 kk v hm
      have xe := x4.trans e
      have get : ∀ {H2 : Hp}, Ex H' H2 → Ev (tDGet (tVar 5) (tVar 8)) (([some (V.ref p), some (V.str t.L), some (V.int t.n), some (V.ref ra), some (V.ref fa), some (V.ref sa), some (V.ref ea), none, some (V.ref q), none] : L2.St)) H2 (.ref b) := fun {H2} e2 =>
        ev_getT (ev_var rfl) (ev_var rfl) (e2 _ _ hq) (.inl ((xe.trans e2) _ _ hks)) hv
      have eA := pa1 (tr := tNil) (P := fun v H2 => ∃ d, v = .ref d ∧ RowsN (srtS t.regs) (Rf (t.row s c)) H2 d) (Pr := fun vs _ => vs = []) (fun _ _ _ e ⟨d, a, b⟩ => ⟨d, a, b.ex e⟩) (ep_use (sp := sp_all_rows) (E := E0) (ea_cons (ev_ixU (K := K) (i := 1) (get (Ex.refl _)) ev_c (xe _ _ hb) rfl) (ea_cons (ev_fld (K := K) (ta := tVar 0) (ev_var rfl) (e _ _ upd_same) PC.cl PC.r lk4) ea_nil))
          (spE_P (r, ra', srtS t.regs, t.row s c) (fun _ e1 => ⟨rfl, ((hR.ex (xe.trans e1)).perm hmem), (e.trans e1) _ _ h34, hNS, hlS⟩) fun v H2 _ p => p)) pa0
      refine ((new_tup (pa1 (P := fun v _ => v = .int (t.goal s c)) (fun _ _ _ _ h => h) (EvP.of (ev_ixU (K := K) (i := 0) (get (Ex.refl _)) ev_c (xe _ _ hb) rfl)) eA)
        (fun vs H2 ⟨v, r, h1, h2, v', r', h3, h4, h5⟩ => by rw [h1, h3, h5]; show 2 ≤ 1000; decide) (fun vs H H' e ⟨v, r, h1, h2, v', r', h3, ⟨d, h4, h6⟩, h5⟩ => ⟨v, r, h1, h2, v', r', h3, ⟨d, h4, h6.ex e⟩, h5⟩)).evP).imp fun v H2 _ ⟨b2, o, h1, h2, vs, h3, v1, r1, h4, h5, v2, r2, h6, ⟨d, h7, h8⟩, h9⟩ k' hk' s' c' hc' => ?_
      obtain rfl : kk = k' := Option.some.inj (hki.symm.trans hk')
      have he := hkk.symm.trans hc'
      injection he with q1 q2
      injection q2 with q2 _
      injection q1 with q1
      injection q2 with q2
      injection q2 with q2
      have q3 : c = c' := by simpa using q2
      subst q1 q3
      exact ⟨b2, d, h1, by rw [h2, h3, h4, h5, h6, h7, h9], h8⟩
    · intro i x H' H'' e h k hk
      obtain ⟨q, a, b⟩ := h k hk
      exact ⟨q, a, e _ _ b⟩
    subst n5
    have hp5 : H5 p = some (.ins C dx fs4) := e5 _ _ upd_same
    have l5 := putF_len "steps" (.ref sa') fs4
    have k5 := Kp.upd (o := .ins C dx (putF "steps" (.ref sa') fs4)) hp5
    have x5 := Ex.mut (o := .ins C dx (putF "steps" (.ref sa') fs4)) (x4.trans e5) hp0
    generalize hf5 : putF "steps" (.ref sa') fs4 = fs5 at k5 x5 l5 ⊢
    -- ends
    obtain ⟨kz, hkz1, hkz2, hkzn, hkzv, hkzc⟩ := T.e
    let zs : List Int := kz.map fun q => match q.1 with
      | .inl s => s
      | .inr _ => 0
    have hzs : kz.map (·.1) = zs.map Sum.inl := by
      show _ = (kz.map fun q => _).map _
      rw [List.map_map]
      apply List.map_congr_left
      rintro ⟨k, v⟩ hm
      obtain ⟨s, a, row, rfl, _⟩ := hkzv k v hm
      rfl
    have hzl : zs.length = kz.length := List.length_map _
    have hzP := srtI_perm zs
    have hzn : (srtI zs).Nodup := hzP.1.nodup_iff.mpr (by
      have h := hkzn
      rw [hzs] at h
      exact (List.pairwise_map.mp h).imp fun h q => h (by rw [q]))
    refine s_fldN (new_dpK (src_newL (K := K) (n := zs.length) (P := fun xs _ => xs = (srtI zs).map V.int) ((New.ofL (el_srtK (ev_var rfl) (.inl (x5 _ _ hkz1)) hzs (by omega))).imp fun o H2 _ h => ⟨_, h, by rw [List.length_map, hzP.1.length_eq], rfl⟩) (It := fun i x _ => ((srtI zs).map V.int)[i]? = some x) (fun xs H2 H3 i x h hx => by rw [← h]; exact hx)) (by omega) (fun x => rfl) ((srtI zs).map Sum.inl) (by rw [List.length_map, hzP.1.length_eq]) (List.Pairwise.map Sum.inl (fun a b h q => h (Sum.inl.inj q)) hzn)
      (fun i v H => ∀ s, (srtI zs)[i]? = some s → ∃ a row, t.fin s = some row ∧ v = .ref a ∧ RowAt H a (nrm row)) (fun i v => stab_all fun s => stab_imp fun _ => stab_ex fun a => stab_ex fun row => stab_and stab_pure (stab_and stab_pure (stab_row (fun _ => rfl)))) ?_ ?_ (fun _ _ _ _ _ h => h)) (ev_var rfl) upd_same PC.cl PC.e (by omega)
      (fun o H H' e ⟨l, a, b, c⟩ => ⟨l, a, b, fun i q hq s hs => by
        obtain ⟨a, row, h1, h2, h3⟩ := c i q hq s hs
        exact ⟨a, row, h1, h2, h3.le (Le.ex e)⟩⟩) fun ea' o6 H6 hn6 e6 h6 ⟨le, n6, hk6, hv6⟩ => ?_
    · intro i x k H' e hk hx
      rw [List.getElem?_map] at hk hx
      cases hr : (srtI zs)[i]? with
      | none => rw [hr] at hk; cases hk
      | some s =>
        rw [hr] at hk hx
        cases hk
        cases hx
        exact ev_var rfl
    · intro i x H' e hil hxi
      rw [List.getElem?_map] at hxi
      cases hr : (srtI zs)[i]? with
      | none => rw [hr] at hxi; cases hxi
      | some z =>
        rw [hr] at hxi
        obtain rfl : V.int z = x := Option.some.inj hxi
        have hzm : Sum.inl z ∈ kz.map (·.1) := by
          rw [hzs]
          exact List.mem_map_of_mem (hzP.1.mem_iff.mp (List.mem_of_getElem? hr))
        obtain ⟨v, hv, hm⟩ := valV_key hzm
        obtain ⟨s, a, row, hs, hfin, rfl, hR, hZ⟩ := hkzv _ v hm
        cases hs
        have xe := x5.trans e
        refine (ep_use (ea_cons (ev_get (ev_var rfl) (ev_var rfl) (k := .inl z) rfl (.inl (xe _ _ hkz1)) hv) ea_nil) (spE_P (a, row) (fun _ e1 => ⟨rfl, hR.le (Le.ex (xe.trans e1)), hZ.1, hZ.2⟩) fun v H2 _ p => p)).imp fun v H2 _ ⟨b, h1, h2⟩ s' hs' => ?_
        obtain rfl : z = s' := Option.some.inj hs'
        exact ⟨b, row, hfin, h1, h2⟩
    subst n6
    have hp6 : H6 p = some (.ins C dx fs5) := e6 _ _ upd_same
    have l6 := putF_len "ends" (.ref ea') fs5
    have k6 := Kp.upd (o := .ins C dx (putF "ends" (.ref ea') fs5)) hp6
    have x6 := Ex.mut (o := .ins C dx (putF "ends" (.ref ea') fs5)) (x5.trans e6) hp0
    refine k _ x6 ⟨dx, _, ra', fa', sa', ea', upd_same, ?_, ?_⟩ (fun dx' fs' h => by
      rw [upd_same] at h
      cases h
      omega)
    · subst hf5 hf4 hf3 hf2
      refine ⟨by omega, ?_, ?_, ?_, ?_, ?_, ?_, (((((hof.put (by decide +kernel)).put (by decide +kernel)).put (by decide +kernel)).put (by decide +kernel)).put (by decide +kernel)).put (by decide +kernel)⟩
      · repeat (first | rw [lookup_putF, if_pos rfl] | rw [lookup_putF, if_neg (by decide +kernel)])
        rfl
      · repeat (first | rw [lookup_putF, if_pos rfl] | rw [lookup_putF, if_neg (by decide +kernel)])
        rfl
      · repeat (first | rw [lookup_putF, if_pos rfl] | rw [lookup_putF, if_neg (by decide +kernel)])
      · repeat (first | rw [lookup_putF, if_pos rfl] | rw [lookup_putF, if_neg (by decide +kernel)])
      · repeat (first | rw [lookup_putF, if_pos rfl] | rw [lookup_putF, if_neg (by decide +kernel)])
      · repeat (first | rw [lookup_putF, if_pos rfl] | rw [lookup_putF, if_neg (by decide +kernel)])
    · have c5 : Kp H5 (upd H6 p (.ins C dx (putF "ends" (.ref ea') fs5))) := (k5.trans (Kp.ex e6)).trans k6
      have c4 := (Kp.ex e5).trans c5
      refine ⟨c4 _ _ rfl h34, c4 _ _ rfl h4', ⟨ls, c5 _ _ rfl h5, ?_, ?_, ?_, ?_⟩, ⟨le, k6 _ _ rfl h6, ?_, ?_, ?_, ?_⟩⟩
      · have := congrArg List.length hk5
        rw [List.length_map, hkP.length_eq, List.length_map] at this
        omega
      · rw [hk5]
        exact hkP.nodup_iff.mpr hkn
      · intro kk v hm
        obtain ⟨i, hi⟩ := List.mem_iff_getElem?.mp hm
        have h2 := congrArg (fun z : List (List Key) => z[i]?) hk5
        simp only [List.getElem?_map, hi, Option.map_some] at h2
        have hmk : kk ∈ ks.map (·.1) := hkP.mem_iff.mp (List.mem_of_getElem? h2.symm)
        obtain ⟨v0, hv0, hm0⟩ := valV_key hmk
        obtain ⟨s, c, b0, r0, hkk, hsl, _, _, _⟩ := hkv2 kk v0 hm0
        obtain ⟨b, r, h1, h2', h3'⟩ := hv5 i _ hi kk h2.symm s c hkk
        refine ⟨s, c, b, r, hkk, ⟨hsl.1, hsl.2.1, lts_mem.mpr hsl.2.2⟩, h1, c5 _ _ rfl h2', h3'.kp c5⟩
      · intro s c hsl
        rw [hk5]
        exact hkP.mem_iff.mpr (hkc s c ⟨hsl.1, hsl.2.1, lts_mem.mp hsl.2.2⟩)
      · have := congrArg List.length hk6
        rw [List.length_map, List.length_map, hzP.1.length_eq] at this
        omega
      · rw [hk6]
        exact List.Pairwise.map Sum.inl (fun a b h q => h (Sum.inl.inj q)) hzn
      · intro kk v hm
        obtain ⟨i, hi⟩ := List.mem_iff_getElem?.mp hm
        have h2 := congrArg (fun z : List Key => z[i]?) hk6
        simp only [List.getElem?_map, hi, Option.map_some] at h2
        cases hr : (srtI zs)[i]? with
        | none => rw [hr] at h2; cases h2
        | some z =>
          rw [hr] at h2
          have h3 : kk = Sum.inl z := Option.some.inj h2
          obtain ⟨a, row, h4, h5, h6⟩ := hv6 i _ hi z hr
          exact ⟨z, a, nrm row, h3, by show (t.fin z).map nrm = _; rw [h4]; rfl, h5, h6.kp k6⟩
      · intro s hs
        rw [hk6]
        have : (t.fin s).isSome = true := by
          have h : ((t.fin s).map nrm).isSome = true := hs
          simpa using h
        have h2 := hkzc s this
        rw [hzs] at h2
        obtain ⟨z, hz, e⟩ := List.mem_map.mp h2
        cases e
        exact List.mem_map_of_mem (hzP.1.mem_iff.mpr hz)
end
end KX
end
section
set_option Elab.async false
set_option linter.all false
set_option maxRecDepth 100000
set_option maxHeartbeats 8000000
/-! Bs11: programs are made and asked. -/
namespace KX
open PySem PySem.Spec PyProof.Rows L2 Evl
section
variable {K : PySem.W.Frag} {σ : L2.St} {H : Hp} {ta tb te tv to td tx : TE} {P : Program} {w : World} {D : Ends} {tz : TS} {C p dx : Addr} {fs : List (Str × V)} {f : Str}
/-- the call of a method, for its effect -/
theorem q_meth {m : Str} {sp : Sp} {E : XK} {tl : TA} {vs : List V} (ho : Ev ta σ H (.ref p)) (hp : H p = some (.ins C dx fs)) (hm : fs.lookup m = none) (ha : EvA tl σ H vs) (hs : ∀ H1, Ex H H1 → sp (.ref p :: vs) H1 (fun _ H2 => tz D σ H2) E) : tSeq (tDrop (tMeth C m sp [] E ta tl)) tz D σ H :=
  ho H (Ex.refl H) _ fun H1 e1 => ⟨p, dx, fs, rfl, e1 _ _ hp, hm, ha H1 e1 _ fun H2 e2 => by
    rw [List.append_nil]
    exact hs H2 (e1.trans e2)⟩
theorem s_meth {m : Str} {sp : Sp} {E : XK} {tl : TA} {vs : List V} (ho : Ev ta σ H (.ref p)) (hp : H p = some (.ins C dx fs)) (hm : fs.lookup m = none) (ha : EvA tl σ H vs) (hs : ∀ H1, Ex H H1 → sp (.ref p :: vs) H1 (fun _ H2 => D.nx σ H2) E) : tDrop (tMeth C m sp [] E ta tl) D σ H :=
  ho H (Ex.refl H) _ fun H1 e1 => ⟨p, dx, fs, rfl, e1 _ _ hp, hm, ha H1 e1 _ fun H2 e2 => by
    rw [List.append_nil]
    exact hs H2 (e1.trans e2)⟩
theorem ep_meth {m : Str} {sp : Sp} {E : XK} {tl : TA} {vs : List V} {Pv : V → Hp → Prop} (ho : Ev ta σ H (.ref p)) (hp : H p = some (.ins C dx fs)) (hm : fs.lookup m = none) (ha : EvA tl σ H vs) (hs : SpP sp (.ref p :: vs) H Pv) : EvP (tMeth C m sp [] E ta tl) σ H Pv := fun H1 e1 Q q =>
  ho H1 e1 _ fun H2 e2 => ⟨p, dx, fs, rfl, (e1.trans e2) _ _ hp, hm, ha H2 (e1.trans e2) _ fun H3 e3 => by
    rw [List.append_nil]
    exact hs H3 ((e1.trans e2).trans e3) Q (fun v H4 e4 pv => q v H4 ((e2.trans e3).trans e4) pv) E⟩
theorem rv_notN {x : V} : RV (fun x y H Q => y = .non ∧ Q (.bl (!decide (x = .non))) H) x .non H (.bl (!decide (x = .non))) := fun H1 _ _ q => ⟨rfl, q H1 (Ex.refl H1)⟩
end
def sp_Program_init (C : Addr) : Sp := fun vs H Q _ => ∃ (t : Td) (p ra fa sa ea dx : Addr) (H0 : Hp), vs = [.ref p, .str t.L, .int t.n, .ref ra, .ref fa, .ref sa, .ref ea] ∧ H0 p = none ∧ Ex H0 H ∧ H p = some (.ins C dx []) ∧
  TdAt H0 t ra fa sa ea ∧ PartsX H0 t.L t.n t.regs ra fa sa ea ∧ ∀ H', Ex H0 H' → PgAt C H' p t.pg → (∀ dx' fs', H' p = some (.ins C dx' fs') → fs'.length ≤ 6) → Q .non H'
/-- all letters of the text are read -/
def sp_check_word : Sp := spE (fun (x : Str × Str) vs _ => vs = [.str x.1, .str x.2] ∧ ∀ c ∈ cds x.2, c ∈ cds x.1) (fun _ v _ => v = .non)
section
variable {P : Program} {w : World} {K : PySem.W.Frag} {mg : Str → Option Value} {base : Heap} {C : Addr} {f : Addr} {fd : FuncData}
theorem ok_Program_init (F : Fun K "__init__" "Program.__init__" s_Program__init f fd) (Z : Zs mg C) {f_Program_put : Addr} {fd_Program_put : FuncData} (G_Program_put : HasM P w K mg base C "_put" 4 f_Program_put fd_Program_put ["self", "letters", "states", "registers", "firsts", "steps", "ends"] (sp_Program_put C))
    (G_first_wrong : Has P w K mg base "first_wrong" 7 ["letters", "states", "registers", "firsts", "steps", "ends"] sp_first_wrong) : FnOk P w K mg base CX0 8 f fd ["self", "letters", "states", "registers", "firsts", "steps", "ends"] (sp_Program_init C) := by
  refine F.ok sc_Program__init (fun vs H Q E h => ?_) (fun cdv A outer s H vs Q E hr h => ?_)
  · obtain ⟨t, p, ra, fa, sa, ea, dx, H0, rfl, _⟩ := h
    rfl
  · obtain ⟨t, p, ra, fa, sa, ea, dx, H0, rfl, hp0, ex0, hp, T, X, k⟩ := h
    refine ⟨_, (pss_cons (ps_set (i := 7) sc_Program__init.nd rfl (Or.inl rfl) (pe_use G_first_wrong (hr.mono (by decide)) (pa_cons (pv 1) (pa_cons (pv 2) (pa_cons (pv 3) (pa_cons (pv 4) (pa_cons (pv 5) (pa_cons (pv 6) pa_nil)))))))) 
    (pss_cons (ps_if (pt_cmpR op_notN (pv 7) pe_non (nomark _)) 
     (pss_one ps_never) pss_nil) 
    (pss_one (ps_expr (pe_meth (pv 0) G_Program_put.cl G_Program_put.me G_Program_put.ok (hr.mono (by decide)) G_Program_put.b .nil pass0 (pa_cons (pv 1) (pa_cons (pv 2) (pa_cons (pv 3) (pa_cons (pv 4) (pa_cons (pv 5) (pa_cons (pv 6) pa_nil))))))))))), ?_⟩
    refine q_asg (v := .non) (ev_use (ea_cons (ev_var rfl) (ea_cons (ev_var rfl) (ea_cons (ev_var rfl) (ea_cons (ev_var rfl) (ea_cons (ev_var rfl) (ea_cons (ev_var rfl) ea_nil)))))) (spE_V ⟨t.L, t.n, t.regs, ra, fa, sa, ea⟩ (fun _ e => ⟨rfl, X.ex (ex0.trans e)⟩) fun v _ p => p)) fun H1 e1 => ?_
    refine q_when (b := false) (et_test (ev_op (ev_var rfl) ev_c rv_notN)) (fun z => by cases z) fun _ H2 e2 => ?_
    refine s_meth (ev_var rfl) ((e1.trans e2) _ _ hp) rfl (ea_cons (ev_var rfl) (ea_cons (ev_var rfl) (ea_cons (ev_var rfl) (ea_cons (ev_var rfl) (ea_cons (ev_var rfl) (ea_cons (ev_var rfl) ea_nil)))))) fun H3 e3 => ?_
    have x3 := (ex0.trans (e1.trans e2)).trans e3
    exact ⟨t, p, ra, fa, sa, ea, dx, [], H0, rfl, hp0, x3, e3 _ _ ((e1.trans e2) _ _ hp), by decide, fun m hm => absurd rfl hm, T, fun H' e' A' z' => k H' e' A' z'⟩
theorem ok_check_word (F : Fun K "check_word" "check_word" s_check_word f fd) (Z : Zs mg C) : FnOk P w K mg base CX0 1 f fd ["letters", "text"] sp_check_word := by
  refine F.ok sc_check_word (fun vs H Q E h => ?_) (fun cdv A outer s H vs Q E hr h => ?_)
  · obtain ⟨i, ⟨rfl, _⟩, _⟩ := h
    rfl
  · obtain ⟨⟨L, z⟩, ⟨rfl, hz⟩, k⟩ := h
    refine ⟨_, (pss_cons (ps_if (pt_not (pt_val (pe_callB (cIsi (K := K)) (by rfl) Z.z_isinstance (by decide +kernel) (pa_cons (pv 1) (pa_cons (pe_bltn (by rfl) Z.z_str (by decide +kernel) (show RelV (.ty "str") _ from rfl)) pa_nil))))) 
     (pss_one ps_never) pss_nil) 
    (pss_one (ps_for PassesOwn.never rfl (pi_enumS (by rfl) Z.z_enumerate (pa_cons (pv 1) pa_nil)) (pg_tup rfl (pgs_cons (pg_name (i := 2) sc_check_word.nd rfl (Or.inl rfl)) (pgs_cons (pg_name (i := 3) sc_check_word.nd rfl (Or.inl rfl)) pgs_nil))) 
     (pss_one (ps_if (pt_cmpR op_notIn_sign (pv 3) (pv 0) (by rfl)) 
      (pss_one ps_never) pss_nil))))), ?_⟩
    refine q_when (b := false) (et_not (a := true) (et_B (ev_isS (ev_var rfl) rfl))) (fun z => by cases z) fun _ H1 e1 => ?_
    refine s_forE (ea_cons (ev_var rfl) ea_nil) (fun i σ' H' => Ex H H' ∧ ∃ v2 v3, σ' = [some (.str L), some (.str z), v2, v3]) (fun H2 e2 => ⟨e1.trans e2, _, _, rfl⟩) ?_ fun σ' H' h => k _ H' h.1 rfl
    rintro i c T σ' H' hi ⟨ex, v2, v3, rfl⟩ hT
    refine ⟨T, _, rfl, st_of upd_same, rfl, ⟨_, _, rfl, ⟨_, _, rfl, rfl, ?_⟩⟩⟩
    refine s_when (b := false) (et_test (ev_is (ev_op (ev_var rfl) (ev_var rfl) (z := .bl (!decide (c ∈ cds L))) fun H3 _ Q q => ⟨c, L, rfl, rfl, q H3 (Ex.refl H3)⟩) ?_)) (fun z => by cases z) fun _ H3 e3 => ⟨(ex.trans (Ex.new hT)).trans e3, _, _, rfl⟩
    have : c ∈ cds L := hz c (List.mem_of_getElem? (i := i) (by rw [Array.getElem?_toList]; exact hi))
    simp [this]
end
end KX
end
section
set_option Elab.async false
set_option linter.all false
set_option maxRecDepth 100000
set_option maxHeartbeats 8000000
/-! Bs12: programs run. -/
namespace KX
open PySem PySem.Spec PyProof.Rows L2 Evl
/-- a step | a run -/
def stp (g : Pg) (x : Int × (Str → Str)) (c : Nat) : Int × (Str → Str) := (g.goal x.1 c, fun n => wr (g.row x.1 c n) x.2)
def runG (g : Pg) (w : List Nat) : Int × (Str → Str) := w.foldl (stp g) (0, g.fst)
theorem runG_snoc (g : Pg) (w : List Nat) (c : Nat) : runG g (w ++ [c]) = stp g (runG g w) c := by
  unfold runG
  rw [List.foldl_append]
  rfl
structure GoOk (g : Pg) : Prop where
  n1 : 1 ≤ g.n
  rN : g.regs.Nodup
  r6 : g.regs.length ≤ 60
  go : ∀ s c, SL g.L g.n s c → 0 ≤ g.goal s c ∧ g.goal s c < g.n
  rw : ∀ s c, SL g.L g.n s c → ∀ n ∈ g.regs, (g.row s c n).length ≤ 1000 ∧ ∀ m, Itm.r m ∈ g.row s c n → m ∈ g.regs
  fn : ∀ s row, g.fin s = some row → row.length ≤ 1000 ∧ ∀ m, Itm.r m ∈ row → m ∈ g.regs
def big : Nat := 16000000
/-- what registers hold on the way is not too long -/
def Fit (g : Pg) (w : List Nat) : Prop := ∀ i, i ≤ w.length → ∀ n ∈ g.regs, ((runG g (w.take i)).2 n).length ≤ big
theorem runG_in {g : Pg} (G : GoOk g) : ∀ (w : List Nat), (∀ c ∈ w, c ∈ cds g.L) → 0 ≤ (runG g w).1 ∧ (runG g w).1 < g.n := by
  intro w
  have : ∀ (w : List Nat) (x : Int × (Str → Str)), 0 ≤ x.1 → x.1 < g.n → (∀ c ∈ w, c ∈ cds g.L) → 0 ≤ (w.foldl (stp g) x).1 ∧ (w.foldl (stp g) x).1 < g.n := by
    intro w
    induction w with
    | nil => intro x h0 h1 _; exact ⟨h0, h1⟩
    | cons c w ih =>
      intro x h0 h1 h
      have := G.go x.1 c ⟨h0, h1, h c List.mem_cons_self⟩
      exact ih (stp g x c) this.1 this.2 fun d hd => h d (List.mem_cons_of_mem _ hd)
  intro h
  exact this w (0, g.fst) (Int.le_refl _) (by have := G.n1; show (0 : Int) < g.n; omega) h
section
variable {K : PySem.W.Frag} {σ : L2.St} {H : Hp} {ta tb te tv to td tx : TE} {D : Ends} {tz : TS}
theorem q_unpackP {Pz : V → V → Hp → Prop} {i j : Nat} (h : EvP te σ H (fun v H' => ∃ b y z, v = .ref b ∧ H' b = some (.tup [y, z]) ∧ Pz y z H')) (k : ∀ y z H1, Ex H H1 → Pz y z H1 → tz D ((σ.set i (some y)).set j (some z)) H1) : tSeq (tAsg te (gTup K 2 (gCons (gName i) (gCons (gName j) gNil)))) tz D σ H :=
  h H (Ex.refl H) _ fun v H1 e ⟨b, y, z, e1, hb, p⟩ => ⟨b, _, e1, st_of hb, rfl, ⟨y, _, rfl, ⟨z, _, rfl, ⟨rfl, k y z H1 e p⟩⟩⟩⟩
theorem s_new {N : HO → Hp → Prop} {i : Nat} (h : New te σ H N) (k : ∀ p o H1, H p = none → Ex H H1 → H1 p = some o → N o H1 → D.nx (σ.set i (some (.ref p))) H1) : tAsg te (gName i) D σ H := h H (Ex.refl H) _ fun p o H1 e1 e2 e3 n => k p o H1 e1 e2 e3 n
theorem ev_ni {d : Addr} {kvs : List (Key × V)} {y : V} {k : Key} (hy : Ev ta σ H y) (ey : y = kV k) (hd : Ev td σ H (.ref d)) (h : Rd H d (.dK kvs)) : Ev (tDNotIn ta td) σ H (.bl (!(valV kvs k).isSome)) := fun H1 e Q q =>
  hy H1 e _ fun H2 e2 => hd H2 (e.trans e2) _ fun H3 e3 => ⟨d, _, rfl, .inl ⟨kvs, k, ex_rd ((e.trans e2).trans e3) h, ey, rfl⟩, q H3 (e2.trans e3)⟩
/-- dict(a dict) -/
theorem new_dict {a : Addr} {kvs : List (Key × V)} (h : Ev ta σ H (.ref a)) (hx : Rd H a (.dK kvs)) : New (tCB (fun xs H Q => ∃ (a : Addr) (kvs : List (Key × V)), xs = [.ref a] ∧ Rd H a (.dK kvs) ∧ ∀ p, H p = none → Q (.ref p) (upd H p (.dK kvs))) (tCons ta tNil)) σ H (fun o _ => o = .dK kvs) := fun H1 e Q q =>
  h H1 e _ fun H2 e2 => ⟨a, kvs, rfl, ex_rd (e.trans e2) hx, fun p hp => q p _ _ (fresh_back e2 hp) (e2.trans (Ex.new hp)) upd_same rfl⟩
end
/-- the last part of x: a heap in which the dict is not yet -/
def sp_Program_after (C : Addr) : Sp := spE (fun (x : Addr × Str × Pg × Hp) vs H => vs = [.ref x.1, .str x.2.1] ∧ PgAt C H x.1 x.2.2.1 ∧ GoOk x.2.2.1 ∧ (∀ c ∈ cds x.2.1, c ∈ cds x.2.2.1.L) ∧ Fit x.2.2.1 (cds x.2.1) ∧ Ex x.2.2.2 H)
  (fun x v H => ∃ b y z, v = .ref b ∧ H b = some (.tup [y, z]) ∧ y = .int (runG x.2.2.1 (cds x.2.1)).1 ∧ ∃ d, z = .ref d ∧ H d = some (.dK (hk x.2.2.1.regs (runG x.2.2.1 (cds x.2.1)).2)) ∧ x.2.2.2 d = none)
/-- what is written -/
def wrG (g : Pg) (w : List Nat) : Option Str := (g.fin (runG g w).1).map fun row => wr row (runG g w).2
def vO : Option Str → V
  | some s => .str s
  | none => .non
def sp_Program_call (C : Addr) : Sp := spE (fun (x : Addr × Str × Pg) vs H => vs = [.ref x.1, .str x.2.1] ∧ PgAt C H x.1 x.2.2 ∧ GoOk x.2.2 ∧ (∀ c ∈ cds x.2.1, c ∈ cds x.2.2.L) ∧ Fit x.2.2 (cds x.2.1) ∧ ∀ s, wrG x.2.2 (cds x.2.1) = some s → s.length ≤ big)
  (fun x v _ => v = vO (wrG x.2.2 (cds x.2.1)))
section
variable {P : Program} {w : World} {K : PySem.W.Frag} {mg : Str → Option Value} {base : Heap} {C : Addr} {f : Addr} {fd : FuncData}
theorem ok_Program_after (F : Fun K "after" "Program.after" s_Program_after f fd) (Z : Zs mg C) (PC : PgC K C) (G_check_word : Has P w K mg base "check_word" 1 ["letters", "text"] sp_check_word) (G_text_of : Has P w K mg base "text_of" 1 ["row", "held"] sp_text_of) :
    FnOk P w K mg base CX0 2 f fd ["self", "text"] (sp_Program_after C) := by
  refine F.ok sc_Program_after (fun vs H Q E h => ?_) (fun cdv A outer s H vs Q E hr h => ?_)
  · obtain ⟨i, ⟨rfl, _⟩, _⟩ := h
    rfl
  · obtain ⟨⟨p, z, g, H0⟩, ⟨rfl, hP, G, hw, hF, hE⟩, k⟩ := h
    dsimp only at hP G hw hF hE
    have hu := hu_of hr
    have hu64 := hr.units
    have hu0 := Nat.lt_of_succ_lt hu
    obtain ⟨dx, fs, ra, fa, sa, ea, hp, PF, PD⟩ := hP
    refine ⟨_, (pss_cons (ps_expr (pe_use G_check_word (hr.mono (by decide)) (pa_cons (pe_fldK (K := K) (pv 0) rfl) (pa_cons (pv 1) pa_nil)))) 
    (pss_cons (ps_set (i := 2) sc_Program_after.nd rfl (Or.inl rfl) pe_int) 
    (pss_cons (ps_set (i := 3) sc_Program_after.nd rfl (Or.inr rfl) (pe_callTy call_dictD (by rfl) Z.z_dict (by decide +kernel) (pa_cons (pe_fldK (K := K) (pv 0) rfl) pa_nil))) 
    (pss_cons (ps_for PassesOwn.never rfl (pi_str (pv 1)) (pg_name (i := 4) sc_Program_after.nd rfl (Or.inl rfl)) 
     (pss_cons (ps_asg (pe_dget hu (pe_fldK (K := K) (pv 0) rfl) (pe_tup (pa_cons (pv 2) (pa_cons (pv 4) pa_nil))) (fun _ _ => rfl)) (pg_tup rfl (pgs_cons (pg_name (i := 2) sc_Program_after.nd rfl (Or.inl rfl)) (pgs_cons (pg_name (i := 5) sc_Program_after.nd rfl (Or.inr rfl)) pgs_nil)))) 
     (pss_one (ps_set (i := 3) sc_Program_after.nd rfl (Or.inr rfl) (pe_lock (pe_dp IsNil.k hu0 (own := [(("name" : Str), 6)]) (g := gName 6) rfl sc_Program_after.nd (pi_keys (pv 5)) (blkOk_by (own := [(("name" : Str), 6)]) (N := n_Program_after) (sc := defScope s_Program_after) (by decide +kernel)) (fun _ _ _ _ _ => (pg_name (i := 6) sc_Program_after.nd rfl (Or.inl rfl))) (fun _ _ _ _ _ => pts_nil) (fun _ _ _ _ _ => (pv 6)) (fun _ _ _ _ _ => (pe_use G_text_of (hr.mono (by decide)) (pa_cons (pe_dget hu (pv 5) (pv 6) (fun _ _ => rfl)) (pa_cons (pv 3) pa_nil)))))))))) 
    (pss_one (ps_ret (pe_tup (pa_cons (pv 2) (pa_cons (pv 3) pa_nil))))))))), ?_⟩
    refine q_drop (v := .non) (ev_use (ea_cons (ev_fld (K := K) (ev_var rfl) hp PC.cl PC.l PF.l) (ea_cons (ev_var rfl) ea_nil)) (spE_V (g.L, z) (fun _ _ => ⟨rfl, hw⟩) fun v _ p => p)) fun H1 e1 => ?_
    refine q_asg (v := .int 0) ev_c fun H2 e2 => ?_
    have e12 := e1.trans e2
    refine q_new (new_dict (ev_fld (K := K) (ta := tVar 0) (ev_var rfl) (e12 _ _ hp) PC.cl PC.f PF.f) (.inl (e12 _ _ PD.f))) fun d o H3 hd e3 h3 n3 => ?_
    subst n3
    have e13 := e12.trans e3
    refine s_forS (ev_var rfl) (fun i σ' H' => ∃ d v4 v5, σ' = [some (.ref p), some (.str z), some (.int (runG g ((cds z).take i)).1), some (.ref d), v4, v5, none] ∧ Ex H H' ∧ H' d = some (.dK (hk g.regs (runG g ((cds z).take i)).2)) ∧ H d = none) ?_ ?_ ?_
    · intro H4 e4
      refine ⟨d, none, none, ?_, e13.trans e4, ?_, fresh_back e12 hd⟩
      · rw [List.take_zero]
        rfl
      · rw [List.take_zero]
        exact e4 _ _ h3
    · rintro i c σ' H' hi ⟨d, v4, v5, rfl, ex, hd, hdn⟩
      have hi' : (cds z)[i]? = some c := by rw [Array.getElem?_toList]; exact hi
      have hil : i < (cds z).length := (List.getElem?_eq_some_iff.mp hi').1
      have hin := runG_in G ((cds z).take i) (fun c hc => hw c (List.mem_of_mem_take hc))
      have hsl : SL g.L g.n (runG g ((cds z).take i)).1 c := ⟨hin.1, hin.2, hw c (List.mem_of_getElem? hi')⟩
      have htk : (cds z).take (i + 1) = (cds z).take i ++ [c] := by rw [List.take_succ, hi']; rfl
      have hF1 := hF (i + 1) hil
      rw [htk, runG_snoc] at hF1
      show (tSeq _ _) _ _ _
      generalize hx : runG g ((cds z).take i) = x at hd hsl hF1 ⊢
      obtain ⟨ks, hks, _, _, hkv, hkc⟩ := PD.s
      obtain ⟨v, hv, hm⟩ := valV_key (kvs := ks) (hkc x.1 c hsl)
      obtain ⟨s', c', b, r, hk1, _, rfl, hb, hR⟩ := hkv _ v hm
      injection hk1 with q1 q2
      injection q2 with q2 _
      injection q1 with q1
      injection q2 with q2
      injection q2 with q2
      have q3 : c = c' := by simpa using q2
      subst q1 q3
      refine q_unpack2 (b := b) (ev_getU (k := [.inl x.1, .inr ⟨#[c]⟩]) (ev_fld (K := K) (ta := tVar 0) (ev_var rfl) (ex _ _ hp) PC.cl PC.s PF.s) (eu_tup (ea_cons (ev_var rfl) (ea_cons (ev_var rfl) ea_nil)) (by show 2 ≤ 100000; decide)) (.inl (ex _ _ hks)) hv) (ex _ _ hb) fun H4 e4 => ?_
      have ex4 := ex.trans e4
      obtain ⟨kvs, hr4, hkk, hrow⟩ := hR.ex ex4
      have hd4 := e4 _ _ hd
      have hlen : kvs.length = g.regs.length := by simpa using congrArg List.length hkk
      refine s_new (lock_New hr4 trivial (N := fun o _ => o = .dK (hk g.regs (stp g x c).2)) (fun _ _ _ _ h => h) fun od => ?_) fun d2 o2 H5 hd2 e5 h5 n5 => ?_
      · have Lk := Le.lock (od := od) hr4 rfl rfl
        have hz1000 : kvs.length ≤ 100000 := by
          have h := G.r6
          omega
        refine (new_dpK (src_keysK (ev_var rfl) upd_same) hz1000 (fun x => rfl) (g.regs.map Sum.inr) (by rw [List.length_map, hlen]) (List.Pairwise.map Sum.inr (fun a b h q => h (Sum.inr.inj q)) G.rN) (fun i v _ => ∀ n, g.regs[i]? = some n → v = .str ((stp g x c).2 n)) (fun i v => stab_pure) ?_ ?_ ?_).imp fun o H6 _ ⟨l, ho, hl, hv⟩ => ?_
        · rintro i x' kk H' e hk ⟨k0, v0, h0, rfl⟩
          have h2 := congrArg (fun z : List Key => z[i]?) hkk
          simp only [List.getElem?_map, h0, Option.map_some] at h2
          rw [List.getElem?_map] at hk
          rw [← h2] at hk
          cases hk
          exact ev_var rfl
        · rintro i x' H' e hil ⟨k0, v0, h0, rfl⟩
          have h2 := congrArg (fun z : List Key => z[i]?) hkk
          simp only [List.getElem?_map, h0, Option.map_some] at h2
          cases hr : g.regs[i]? with
          | none => rw [hr] at h2; cases h2
          | some n =>
            rw [hr] at h2
            obtain rfl : k0 = Sum.inr n := Option.some.inj h2
            obtain ⟨v', hv', hm'⟩ := valV_of (mem_at h0)
            obtain ⟨a, rfl, hA⟩ := hrow n v' hm'
            have hn := List.mem_of_getElem? hr
            have hrw := G.rw x.1 c hsl n hn
            refine (EvP.of (ev_use (ea_cons (ev_get (ev_var rfl) (ev_var rfl) (k := .inr n) rfl (ex_rd e (.inr ⟨od, upd_same⟩)) hv') (ea_cons (ev_var rfl) ea_nil)) (spE_V (a, d, g.row x.1 c n, g.regs, x.2) (fun _ e1 => ⟨rfl, (hA.le Lk).le (Le.ex (e.trans e1)), hrw.1, hrw.2, ex_rd (e.trans e1) (Lk.rd _ _ rfl (.inl hd4)), hF1 n hn⟩) fun v _ p => p))).imp fun v H2 _ hv m hm => ?_
            obtain rfl : n = m := Option.some.inj hm
            exact hv
        · rintro i x' H' H'' e h
          exact h
        · rw [ho, hk_of hl fun i q hq n hn => hv i q hq n hn]
      · subst n5
        refine ⟨d2, some (.str ⟨#[c]⟩), some (.ref r), ?_, ex4.trans e5, ?_, fresh_back ex4 hd2⟩
        · rw [htk, runG_snoc, hx]
          rfl
        · rw [htk, runG_snoc, hx]
          exact h5
    · rintro σ' H' ⟨d, v4, v5, rfl, ex, hd, hdn⟩
      have ht : (cds z).take z.cps.size = cds z := List.take_of_length_le (by rw [Array.length_toList]; exact Nat.le_refl _)
      rw [ht] at hd ⊢
      refine s_retU (eu_tup (ea_cons (ev_var rfl) (ea_cons (ev_var rfl) ea_nil)) (by show 2 ≤ 100000; decide)) fun b H4 hb e4 h4 => ?_
      exact k _ H4 (ex.trans e4) ⟨b, _, _, rfl, h4, rfl, d, rfl, e4 _ _ hd, fresh_back hE hdn⟩
theorem ok_Program_call (F : Fun K "__call__" "Program.__call__" s_Program__call f fd) (Z : Zs mg C) (PC : PgC K C) {f_Program_after : Addr} {fd_Program_after : FuncData} (G_Program_after : HasM P w K mg base C "after" 2 f_Program_after fd_Program_after ["self", "text"] (sp_Program_after C)) (G_text_of : Has P w K mg base "text_of" 1 ["row", "held"] sp_text_of) :
    FnOk P w K mg base CX0 3 f fd ["self", "text"] (sp_Program_call C) := by
  refine F.ok sc_Program__call (fun vs H Q E h => ?_) (fun cdv A outer s H vs Q E hr h => ?_)
  · obtain ⟨i, ⟨rfl, _⟩, _⟩ := h
    rfl
  · obtain ⟨⟨p, z, g⟩, ⟨rfl, hP, G, hw, hF, hW⟩, k⟩ := h
    dsimp only at hP G hw hF hW
    have k : ∀ v H', Ex H H' → v = vO (wrG g (cds z)) → Q v H' := k
    have hu := hu_of hr
    have hPA := hP
    obtain ⟨dx, fs, ra, fa, sa, ea, hp, PF, PD⟩ := hP
    refine ⟨_, (pss_cons (ps_asg (pe_meth (pv 0) G_Program_after.cl G_Program_after.me G_Program_after.ok (hr.mono (by decide)) G_Program_after.b .nil pass0 (pa_cons (pv 1) pa_nil)) (pg_tup rfl (pgs_cons (pg_name (i := 2) sc_Program__call.nd rfl (Or.inl rfl)) (pgs_cons (pg_name (i := 3) sc_Program__call.nd rfl (Or.inl rfl)) pgs_nil)))) 
    (pss_cons (ps_if (pt_cmp (pc_dnotin hu (pv 2) (pe_fldK (K := K) (pv 0) rfl))) 
     (pss_one (ps_ret pe_non)) pss_nil) 
    (pss_one (ps_ret (pe_use G_text_of (hr.mono (by decide)) (pa_cons (pe_dget hu (pe_fldK (K := K) (pv 0) rfl) (pv 2) (fun _ _ => rfl)) (pa_cons (pv 3) pa_nil))))))), ?_⟩
    refine q_unpackP (Pz := fun y z' H => y = .int (runG g (cds z)).1 ∧ ∃ d, z' = .ref d ∧ H d = some (.dK (hk g.regs (runG g (cds z)).2))) (ep_meth (ev_var rfl) hp (PF.o.no (by decide +kernel)) (ea_cons (ev_var rfl) ea_nil) (spE_P (p, z, g, H) (fun _ e => ⟨rfl, hPA.ex e, G, hw, hF, e⟩) fun v H' _ ⟨b, y, z', h1, h2, h3, d, h4, h5, _⟩ => ⟨b, y, z', h1, h2, h3, d, h4, h5⟩)) ?_
    rintro _ _ H1 e1 ⟨rfl, d, rfl, hd⟩
    have hin := runG_in G (cds z) hw
    unfold wrG at hW k
    generalize hx : runG g (cds z) = x at hd hin hW k ⊢
    obtain ⟨kvs, hks, _, _, hkv, hkc⟩ := PD.e
    have hsome : (valV kvs (.inl x.1)).isSome = (g.fin x.1).isSome := by
      cases hf : g.fin x.1 with
      | some row =>
        obtain ⟨v, hv, _⟩ := valV_key (kvs := kvs) (hkc x.1 (by rw [hf]; rfl))
        rw [hv]
        rfl
      | none =>
        cases hv : valV kvs (.inl x.1) with
        | none => rfl
        | some v =>
          obtain ⟨s', a, row, h1, h2, _⟩ := hkv _ v (valV_mem hv)
          cases h1
          rw [hf] at h2
          cases h2
    refine q_when (b := !(g.fin x.1).isSome) (et_B (ev_is (ev_ni (k := .inl x.1) (ev_var rfl) rfl (ev_fld (K := K) (ta := tVar 0) (ev_var rfl) (e1 _ _ hp) PC.cl PC.e PF.e) (.inl (e1 _ _ hks))) (by rw [hsome]))) (fun hb H2 e2 => ?_) (fun hb H2 e2 => ?_)
    · have hn : g.fin x.1 = none := by simpa using hb
      rw [hn] at k
      exact s_ret (v := .non) ev_c fun H3 e3 => k _ H3 ((e1.trans e2).trans e3) rfl
    · cases hf : g.fin x.1 with
      | none =>
        rw [hf] at hb
        cases hb
      | some row =>
        obtain ⟨v, hv, hm⟩ := valV_key (kvs := kvs) (hkc x.1 (by rw [hf]; rfl))
        obtain ⟨s', a, row', h1, h2, rfl, hA⟩ := hkv _ v hm
        cases h1
        rw [hf] at h2
        cases h2
        rw [hf] at k hW
        have hfn := G.fn x.1 row hf
        have e12 := e1.trans e2
        exact s_ret (v := .str (wr row x.2)) (ev_use (ea_cons (ev_get (ev_fld (K := K) (ta := tVar 0) (ev_var rfl) (e12 _ _ hp) PC.cl PC.e PF.e) (ev_var rfl) (k := .inl x.1) rfl (.inl (e12 _ _ hks)) hv) (ea_cons (ev_var rfl) ea_nil))
          (spE_V (a, d, row, g.regs, x.2) (fun _ e3 => ⟨rfl, hA.le (Le.ex (e12.trans e3)), hfn.1, hfn.2, .inl (e3 _ _ (e2 _ _ hd)), hW _ rfl⟩) fun v _ p => p)) fun H3 e3 => k _ H3 (e12.trans e3) rfl
end
end KX
end
section
set_option Elab.async false
set_option linter.all false
set_option maxRecDepth 100000
set_option maxHeartbeats 8000000
/-! Bs13: numbers are drawn. -/
namespace KX
open PySem PySem.Spec PyProof.Rows L2 Evl
section
variable {K : PySem.W.Frag} {σ : L2.St} {H : Hp} {ta tb te : TE}
theorem ev_int1 {i : Int} (ha : Ev ta σ H (.int i)) : Ev (tCB (fun xs H Q => (∃ i, xs = [V.int i] ∧ Q (V.int i) H) ∨ ∃ k, xs = [V.bl k] ∧ Q (V.int (if k = true then 1 else 0)) H) (tCons ta tNil)) σ H (.int i) := ev_cb (ea_cons ha ea_nil) fun H1 _ Q q => .inl ⟨i, rfl, q H1 (Ex.refl H1)⟩
end
theorem fm_in {i b : Int} (hb : 0 < b) : 0 ≤ i.fmod b ∧ i.fmod b < b := by
  rw [Int.fmod_eq_emod_of_nonneg _ (by omega)]
  exact ⟨Int.emod_nonneg _ (by omega), Int.emod_lt_of_pos _ hb⟩
def sp_law_cell_at (K : PySem.W.Frag) : Sp := spE (fun (x : Addr × List Int × Nat) vs H => vs = [.ref x.1, .int (x.2.2 : Nat)] ∧ SqL K H x.1 (x.2.1.map V.int)) (fun _ v _ => ∃ c, v = .int c)
def sp_law_draw : Sp := spE (fun (x : Int × Nat × Int) vs _ => vs = [.int x.1, .int (x.2.1 : Nat), .int x.2.2] ∧ 0 < x.2.2 ∧ 0 ≤ x.1 ∧ x.1 ≤ 1000000000000000 ∧ x.2.1 ≤ 100) (fun x v _ => ∃ r, v = .int r ∧ 0 ≤ r ∧ r < x.2.2)
def sp_law_number : Sp := spE (fun (x : Int × Nat × Int) vs _ => vs = [.int x.1, .int (x.2.1 : Nat), .int x.2.2] ∧ 0 < x.2.2 ∧ x.2.1 ≤ 100) (fun x v _ => ∃ r, v = .int r ∧ 0 ≤ r ∧ r < x.2.2)
/-- draws from a script -/
def DrAt (K : PySem.W.Frag) (H : Hp) (d : Addr) : Prop := ∃ (a : Addr) (ns : List Int), H d = some (drawn d a) ∧ H a = some (.lst (ns.map V.int)) ∧ d ≠ a
theorem DrAt.ex {K : PySem.W.Frag} {H H' : Hp} {d : Addr} (e : Ex H H') (h : DrAt K H d) : DrAt K H' d := by
  obtain ⟨a, ns, h1, h2, h3⟩ := h
  exact ⟨a, ns, e _ _ h1, e _ _ h2, h3⟩
def sp_law_next (K : PySem.W.Frag) : Sp := spE (fun (x : Addr × Int) vs H => vs = [.ref x.1, .int x.2] ∧ DrAt K H x.1 ∧ 0 < x.2) (fun x v _ => ∃ r, v = .int r ∧ 0 ≤ r ∧ r < x.2)
def sp_law_pick (K : PySem.W.Frag) : Sp := spE (fun (x : Addr × Addr × List V) vs H => vs = [.ref x.1, .ref x.2.1] ∧ DrAt K H x.1 ∧ SqL K H x.2.1 x.2.2 ∧ x.2.2 ≠ []) (fun x v _ => v ∈ x.2.2)
section
variable {P : Program} {w : World} {K : PySem.W.Frag} {mg : Str → Option Value} {base : Heap} {C : Addr} {f : Addr} {fd : FuncData}
theorem ok_law_cell_at (F : Fun K "_law_cell_at" "_law_cell_at" s_law_cell_at f fd) (Z : Zs mg C) : FnOk P w K mg base CX0 1 f fd ["script", "k"] (sp_law_cell_at K) := by
  refine F.ok sc_law_cell_at (fun vs H Q E h => ?_) (fun cdv A outer s H vs Q E hr h => ?_)
  · obtain ⟨i, ⟨rfl, _⟩, _⟩ := h
    rfl
  · obtain ⟨⟨a, ns, n⟩, ⟨rfl, hx⟩, k⟩ := h
    refine ⟨_, (pss_cons (ps_if (pt_cmpR op_lt (pv 1) (pe_callB (cLenS (K := K)) (by rfl) Z.z_len PySem.boot_len (pa_cons (pv 0) pa_nil)) (nomark _)) 
     (pss_one (ps_ret (pe_ix (ixL (K := K)) (pv 0) (pv 1) (fun _ _ => rfl)))) pss_nil) 
    (pss_one (ps_ret pe_int))), ?_⟩
    refine q_when (b := decide ((n : Int) < ((ns.map V.int).length : Int))) (et_test (ev_op (ev_var rfl) (ev_len (ev_var rfl) hx) rv_I0)) (fun hb H1 e1 => ?_) (fun _ H1 e1 => ?_)
    · have hlt : n < ns.length := by
        have := of_decide_eq_true hb
        rw [List.length_map] at this
        omega
      have hix : (ns.map V.int)[n]? = some (.int ns[n]) := by
        rw [List.getElem?_map, List.getElem?_eq_getElem hlt]
        rfl
      exact s_ret (v := .int ns[n]) (ev_op (ev_var rfl) (ev_var rfl) (rv_ixL (ex_l e1 hx) (atI_nat hix))) fun H2 e2 => k _ H2 (e1.trans e2) ⟨_, rfl⟩
    · exact s_ret (v := .int 0) ev_c fun H2 e2 => k _ H2 (e1.trans e2) ⟨_, rfl⟩
theorem ok_law_draw (F : Fun K "_law_draw" "_law_draw" s_law_draw f fd) (Z : Zs mg C) : FnOk P w K mg base CX0 1 f fd ["cell", "k", "bound"] sp_law_draw := by
  refine F.ok sc_law_draw (fun vs H Q E h => ?_) (fun cdv A outer s H vs Q E hr h => ?_)
  · obtain ⟨i, ⟨rfl, _⟩, _⟩ := h
    rfl
  · obtain ⟨⟨c, n, b⟩, ⟨rfl, hb, h0, h1, hn⟩, k⟩ := h
    dsimp only at hb h0 h1 hn k
    refine ⟨_, (pss_cons (ps_set (i := 3) sc_law_draw.nd rfl (Or.inl rfl) (pe_tup (pa_cons pe_int (pa_cons pe_int (pa_cons pe_int (pa_cons pe_int (pa_cons pe_int (pa_cons pe_int (pa_cons pe_int (pa_cons pe_int (pa_cons pe_int (pa_cons pe_int (pa_cons pe_int (pa_cons pe_int (pa_cons pe_int (pa_cons pe_int (pa_cons pe_int (pa_cons pe_int pa_nil)))))))))))))))))) 
    (pss_one (ps_ret (pe_op op_modN (pe_op op_modN (pe_callTy call_int1 (by rfl) Z.z_int (by decide +kernel) (pa_cons (pe_op op_add (pe_op op_mul (pv 0) pe_int) (pe_op op_mul (pv 1) pe_int)) pa_nil)) (pe_ix (ixT (K := K)) (pv 3) (pe_op op_modN (pe_callTy call_int1 (by rfl) Z.z_int (by decide +kernel) (pa_cons (pv 1) pa_nil)) pe_int) (fun _ _ => rfl))) (pv 2))))), ?_⟩
    refine q_asgU (xs := [1000003, 1000033, 1000037, 1000039, 1000081, 1000099, 1000117, 1000121, 1000133, 1000151, 1000159, 1000171, 1000183, 1000187, 1000193, 1000199].map V.int) (eu_tup (ea_cons ev_c (ea_cons ev_c (ea_cons ev_c (ea_cons ev_c (ea_cons ev_c (ea_cons ev_c (ea_cons ev_c (ea_cons ev_c (ea_cons ev_c (ea_cons ev_c (ea_cons ev_c (ea_cons ev_c (ea_cons ev_c (ea_cons ev_c (ea_cons ev_c (ea_cons ev_c ea_nil)))))))))))))))) (by show 16 ≤ 100000; decide)) fun t H1 ht e1 h1 => ?_
    obtain ⟨q, hq, hq0⟩ : ∃ q : Int, (([1000003, 1000033, 1000037, 1000039, 1000081, 1000099, 1000117, 1000121, 1000133, 1000151, 1000159, 1000171, 1000183, 1000187, 1000193, 1000199] : List Int).map V.int)[n % 16]? = some (.int q) ∧ 0 < q := by
      have : n % 16 < 16 := Nat.mod_lt _ (by decide)
      generalize n % 16 = j at this
      have : j = 0 ∨ j = 1 ∨ j = 2 ∨ j = 3 ∨ j = 4 ∨ j = 5 ∨ j = 6 ∨ j = 7 ∨ j = 8 ∨ j = 9 ∨ j = 10 ∨ j = 11 ∨ j = 12 ∨ j = 13 ∨ j = 14 ∨ j = 15 := by omega
      rcases this with h | h | h | h | h | h | h | h | h | h | h | h | h | h | h | h <;> subst h <;> exact ⟨_, rfl, by decide⟩
    have hm : (n : Int).fmod 16 = ((n % 16 : Nat) : Int) := by
      rw [Int.fmod_eq_emod_of_nonneg _ (by decide)]
      rfl
    refine s_retP (Pv := fun v _ => ∃ r, v = .int r ∧ 0 ≤ r ∧ r < b) (EvP.imp (EvP.of (ev_op (ev_op (ev_int1 (ev_op (ev_op (ev_var rfl) ev_c (rv_I (.inr ⟨by decide, by decide⟩))) (ev_op (ev_var rfl) ev_c (rv_I (.inr ⟨by decide, by decide⟩))) rv_I0)) (ev_op (ev_var rfl) (ev_is (ev_op (ev_int1 (ev_var rfl)) ev_c (rv_I (by decide))) (by rw [hm])) (rv_ixT (st_of h1) (atI_nat hq))) (rv_I (Int.ne_of_gt hq0))) (ev_var rfl) (rv_I (Int.ne_of_gt hb)))) fun v H2 _ hv => ⟨_, hv, fm_in hb⟩) fun v H2 e2 p => k _ H2 (e1.trans e2) p
theorem ok_law_number (F : Fun K "_law_number" "_law_number" s_law_number f fd) (Z : Zs mg C) (G_law_draw : Has P w K mg base "_law_draw" 1 ["cell", "k", "bound"] sp_law_draw) : FnOk P w K mg base CX0 2 f fd ["cell", "k", "bound"] sp_law_number := by
  refine F.ok sc_law_number (fun vs H Q E h => ?_) (fun cdv A outer s H vs Q E hr h => ?_)
  · obtain ⟨i, ⟨rfl, _⟩, _⟩ := h
    rfl
  · obtain ⟨⟨c, n, b⟩, ⟨rfl, hb, hn⟩, k⟩ := h
    dsimp only at hb hn k
    refine ⟨_, (pss_cons (ps_set (i := 3) sc_law_number.nd rfl (Or.inl rfl) pe_int) 
    (pss_cons (ps_for PassesOwn.never rfl (pi_range1 rfl Z.z_range (pa_cons (pe_op op_modN (pe_callTy call_int1 (by rfl) Z.z_int (by decide +kernel) (pa_cons (pv 1) pa_nil)) pe_int) pa_nil)) (pg_name (i := 4) sc_law_number.nd rfl (Or.inl rfl)) 
     (pss_one (ps_set (i := 3) sc_law_number.nd rfl (Or.inl rfl) (pe_op op_mul (pv 3) pe_int)))) 
    (pss_cons (ps_set (i := 5) sc_law_number.nd rfl (Or.inl rfl) (pe_op op_fdivW (pe_op op_sub (pv 0) (pe_op op_pow pe_int pe_int)) (pv 3))) 
    (pss_cons (ps_if (pt_cmpR op_gt (pv 5) pe_int (nomark _)) 
     (pss_one (ps_ret (pe_op op_modN (pe_op op_modN (pe_callTy call_int1 (by rfl) Z.z_int (by decide +kernel) (pa_cons (pv 5) pa_nil)) pe_int) (pv 2)))) pss_nil) 
    (pss_cons (ps_set (i := 6) sc_law_number.nd rfl (Or.inl rfl) (pe_op op_modN (pe_callTy call_int1 (by rfl) Z.z_int (by decide +kernel) (pa_cons (pv 0) pa_nil)) pe_int)) 
    (pss_one (ps_ret (pe_op op_modN (pe_use G_law_draw (hr.mono (by decide)) (pa_cons (pe_op op_mul (pe_op op_add (pv 6) (pe_op op_mul pe_int (pv 1))) (pe_op op_add (pe_op op_add (pv 6) (pe_op op_mul pe_int (pv 1))) pe_int)) (pa_cons (pe_op op_add (pe_op op_modN (pe_callTy call_int1 (by rfl) Z.z_int (by decide +kernel) (pa_cons (pv 1) pa_nil)) pe_int) pe_int) (pa_cons pe_int pa_nil)))) (pv 2))))))))), ?_⟩
    have hm : (n : Int).fmod 24 = ((n % 24 : Nat) : Int) := by
      rw [Int.fmod_eq_emod_of_nonneg _ (by decide)]
      rfl
    have hm9 : (n : Int).fmod 9 + 1 = ((n % 9 + 1 : Nat) : Int) := by
      rw [Int.fmod_eq_emod_of_nonneg _ (by decide)]
      rfl
    have h24 : n % 24 < 24 := Nat.mod_lt _ (by decide)
    refine q_asg (v := .int 1) ev_c fun H1 e1 => ?_
    refine q_forR1 (n := ((n % 24 : Nat) : Int)) (ea_cons (ev_is (ev_op (ev_int1 (ev_var rfl)) ev_c (rv_I (by decide))) (by rw [hm])) ea_nil) ⟨by omega, by omega⟩ (fun i σ' H' => Ex H H' ∧ ∃ v4, σ' = [some (.int c), some (.int (n : Nat)), some (.int b), some (.int ((1009 ^ i : Nat) : Int)), v4, none, none]) (fun H2 e2 => ⟨e1.trans e2, none, rfl⟩) ?_ ?_
    · rintro i σ' H' hi ⟨ex, v4, rfl⟩
      refine s_asg (ev_op (ev_var rfl) ev_c (rv_I (.inr ⟨by decide, by decide⟩))) fun H3 e3 => ⟨ex.trans e3, some (.int (i : Nat)), ?_⟩
      rw [Nat.pow_succ, Int.natCast_mul]
      rfl
    · rintro σ' H' ⟨ex, v4, rfl⟩
      have hp0 : (0 : Int) < ((1009 ^ (((n % 24 : Nat) : Int)).toNat : Nat) : Int) := by
        have : 0 < 1009 ^ (((n % 24 : Nat) : Int)).toNat := Nat.pow_pos (by decide)
        omega
      have hpw : ((1009 ^ (((n % 24 : Nat) : Int)).toNat : Nat) : Int).natAbs < 2 ^ 300 := by
        rw [Int.natAbs_natCast]
        have h1 : 1009 ^ (((n % 24 : Nat) : Int)).toNat ≤ 1009 ^ 24 := Nat.pow_le_pow_right (by decide) (by omega)
        exact Nat.lt_of_le_of_lt h1 (by decide +kernel)
      refine q_asg (ev_op (ev_op (ev_var rfl) (ev_op ev_c ev_c (rv_I ⟨by decide, by decide, by decide⟩)) rv_I0) (ev_var rfl) (rv_I (wide_div hp0 hpw (by decide) (by decide)))) fun H2 e2 => ?_
      have ex2 := ex.trans e2
      generalize (c - 10 ^ (Int.toNat 18)) / ((1009 ^ (((n % 24 : Nat) : Int)).toNat : Nat) : Int) = rem
      refine q_when (b := decide (0 < rem)) (et_test (ev_op (ev_var rfl) ev_c rv_I0)) (fun hb' H3 e3 => ?_) (fun _ H3 e3 => ?_)
      · exact s_retP (Pv := fun v _ => ∃ r, v = .int r ∧ 0 ≤ r ∧ r < b) (EvP.imp (EvP.of (ev_op (ev_op (ev_int1 (ev_var rfl)) ev_c (rv_I (by decide))) (ev_var rfl) (rv_I (Int.ne_of_gt hb)))) fun v H2 _ hv => ⟨_, hv, fm_in hb⟩) fun v H4 e4 p => k _ H4 ((ex2.trans e3).trans e4) p
      · have hs := fm_in (i := c) (b := 1000003) (by decide)
        refine q_asg (ev_op (ev_int1 (ev_var rfl)) ev_c (rv_I (by decide))) fun H4 e4 => ?_
        generalize c.fmod 1000003 = sm at hs
        have hmul : 0 ≤ (sm + 977 * (n : Int)) * (sm + 31 * (n : Int) + 5) ∧ (sm + 977 * (n : Int)) * (sm + 31 * (n : Int) + 5) ≤ 1000000000000000 := by
          have h1 : 0 ≤ sm + 977 * (n : Int) := by omega
          have h2 : 0 ≤ sm + 31 * (n : Int) + 5 := by omega
          have h3 : sm + 977 * (n : Int) ≤ 1100000 := by omega
          have h4 : sm + 31 * (n : Int) + 5 ≤ 1100000 := by omega
          refine ⟨Int.mul_nonneg h1 h2, Int.le_trans (Int.mul_le_mul h3 h4 h2 (by decide)) (by decide)⟩
        refine s_retP (Pv := fun v _ => ∃ r, v = .int r ∧ 0 ≤ r ∧ r < b) (fun H5 e5 Q q => ?_) fun v H5 e5 p => k _ H5 (((ex2.trans e3).trans e4).trans e5) p
        refine ep_use (P := fun v _ => ∃ r, v = .int r ∧ 0 ≤ r ∧ r < 999983) (ea_cons (ev_op (ev_op (ev_var rfl) (ev_op ev_c (ev_var rfl) (rv_I (.inl ⟨by decide, by decide⟩))) rv_I0) (ev_op (ev_op (ev_var rfl) (ev_op ev_c (ev_var rfl) (rv_I (.inl ⟨by decide, by decide⟩))) rv_I0) ev_c rv_I0) (rv_I (.inl ⟨by omega, by omega⟩))) (ea_cons (ev_is (ev_op (ev_op (ev_int1 (ev_var rfl)) ev_c (rv_I (by decide))) ev_c rv_I0) (by rw [hm9])) (ea_cons ev_c ea_nil)))
          (spE_P ((sm + 977 * (n : Int)) * (sm + 31 * (n : Int) + 5), n % 9 + 1, 999983) (fun _ _ => ⟨rfl, by show (0 : Int) < 999983; decide, hmul.1, hmul.2, by show n % 9 + 1 ≤ 100; have := Nat.mod_lt n (show 9 > 0 by decide); omega⟩) fun v _ _ p => p) H5 e5 _ fun v H6 e6 p => ?_
        obtain ⟨r, rfl, _⟩ := p
        exact (ev_var (v := .int b) rfl) H6 (Ex.refl H6) _ fun H7 e7 => ⟨r, b, rfl, rfl, Int.ne_of_gt hb, q _ H7 (e6.trans e7) ⟨_, rfl, fm_in hb⟩⟩
theorem ok_law_next (F : Fun K "_law_next" "_law_next" s_law_next f fd) (Z : Zs mg C) (G_law_cell_at : Has P w K mg base "_law_cell_at" 1 ["script", "k"] (sp_law_cell_at K)) (G_law_number : Has P w K mg base "_law_number" 2 ["cell", "k", "bound"] sp_law_number) : FnOk P w K mg base CX0 3 f fd ["draw", "bound"] (sp_law_next K) := by
  refine F.ok sc_law_next (fun vs H Q E h => ?_) (fun cdv A outer s H vs Q E hr h => ?_)
  · obtain ⟨i, ⟨rfl, _⟩, _⟩ := h
    rfl
  · obtain ⟨⟨d, b⟩, ⟨rfl, ⟨a, ns, hd, ha, hda⟩, hb⟩, k⟩ := h
    dsimp only at hd ha hda hb k
    refine ⟨_, pss_draw (pss_cons (ps_asg (pe_op op_add (pe_ix (ixL (K := K)) (pv 0) pe_int (fun _ _ => rfl)) pe_int) (pg_sub (pv 0) pe_int set_list)) 
    (pss_cons (ps_set (i := 2) sc_law_next.nd rfl (Or.inl rfl) (pe_op op_fdivN (pe_ix (ixL (K := K)) (pv 0) pe_int (fun _ _ => rfl)) pe_int)) 
    (pss_cons (ps_set (i := 3) sc_law_next.nd rfl (Or.inl rfl) (pe_op op_add (pe_use G_law_cell_at (hr.mono (by decide)) (pa_cons (pe_ix (ixL (K := K)) (pv 0) pe_int (fun _ _ => rfl)) (pa_cons (pe_op op_add (pe_ix (ixL (K := K)) (pv 0) pe_int (fun _ _ => rfl)) (pv 2)) pa_nil))) (pe_op op_mul pe_int (pv 2)))) 
    (pss_one (ps_ret (pe_use G_law_number (hr.mono (by decide)) (pa_cons (pv 3) (pa_cons (pe_op op_add (pe_op op_modN (pe_callTy call_int1 (by rfl) Z.z_int (by decide +kernel) (pa_cons (pe_ix (ixL (K := K)) (pv 0) pe_int (fun _ _ => rfl)) pa_nil)) pe_int) pe_int) (pa_cons (pv 1) pa_nil))))))))), d, a, hd, fun n => ?_⟩
    have h0 : (upd H d (.lst [.ref a, .int 0, .int (n : Nat)])) d = some (.lst [.ref a, .int 0, .int (n : Nat)]) := upd_same
    refine q_setL (j := 2) h0 (ev_op (ev_op (ev_var (v := .ref d) rfl) ev_c (rv_ixL (i := ((2 : Nat) : Int)) (sq_of h0) (atI_nat rfl))) ev_c rv_I0) (ev_var rfl) ev_c (by show 2 < 3; decide) fun H1 e1 => ?_
    have h1 : (upd H1 d (.lst ([V.ref a, .int 0, .int (n : Nat)].set 2 (.int ((n : Int) + 1))))) d = some (.lst [.ref a, .int 0, .int ((n + 1 : Nat) : Int)]) := by
      rw [upd_same]
      rfl
    have ha1 : (upd H1 d (.lst ([V.ref a, .int 0, .int (n : Nat)].set 2 (.int ((n : Int) + 1))))) a = some (.lst (ns.map V.int)) := by
      rw [upd_ne (Ne.symm hda)]
      refine e1 _ _ ?_
      rw [upd_ne (Ne.symm hda)]
      exact ha
    have hx1 : ∀ x o, x ≠ d → H x = some o → (upd H1 d (.lst ([V.ref a, .int 0, .int (n : Nat)].set 2 (.int ((n : Int) + 1))))) x = some o := fun x o hx h => by
      rw [upd_ne hx]
      refine e1 _ _ ?_
      rw [upd_ne hx]
      exact h
    generalize upd H1 d (.lst ([V.ref a, .int 0, .int (n : Nat)].set 2 (.int ((n : Int) + 1)))) = G1 at h1 ha1 hx1
    have hdiv : (((n + 1 : Nat) : Int)).fdiv 12 = (((n + 1) / 12 : Nat) : Int) := by
      rw [Int.fdiv_eq_ediv_of_nonneg _ (by decide)]
      rfl
    have hmod : (((n + 1 : Nat) : Int)).fmod 12 + 1 = (((n + 1) % 12 + 1 : Nat) : Int) := by
      rw [Int.fmod_eq_emod_of_nonneg _ (by decide)]
      rfl
    refine q_asg (ev_is (ev_op (ev_op (ev_var (v := .ref d) rfl) ev_c (rv_ixL (i := ((2 : Nat) : Int)) (sq_of h1) (atI_nat rfl))) ev_c (rv_I ⟨by decide, by decide⟩)) (by rw [hdiv])) fun H2 e2 => ?_
    refine q_asgP (Pv := fun v _ => ∃ c, v = .int c) (fun H3 e3 Q q => ?_) fun v H3 e3 p => ?_
    · have e23 := e2.trans e3
      have hd3 := e23 _ _ h1
      refine ep_use (P := fun v _ => ∃ c, v = .int c) (ea_cons (ev_op (ev_var (v := .ref d) rfl) ev_c (rv_ixL (i := ((0 : Nat) : Int)) (sq_of hd3) (atI_nat rfl))) (ea_cons (ev_is (ev_op (ev_op (ev_var (v := .ref d) rfl) ev_c (rv_ixL (i := ((1 : Nat) : Int)) (sq_of hd3) (atI_nat rfl))) (ev_var rfl) rv_I0) (by rw [Int.zero_add])) ea_nil))
        (spE_P (a, ns, (n + 1) / 12) (fun _ e => ⟨rfl, sq_of ((e23.trans e) _ _ ha1)⟩) fun v _ _ p => p) H3 (Ex.refl H3) _ fun v H4 e4 p => ?_
      obtain ⟨c, rfl⟩ := p
      exact (ev_op (ev_c (v := .int 31)) (ev_var rfl) (rv_I (.inl ⟨by decide, by decide⟩))) H4 (Ex.refl H4) _ fun H5 e5 => ⟨c, _, rfl, rfl, q _ H5 (e4.trans e5) ⟨_, rfl⟩⟩
    · obtain ⟨c, rfl⟩ := p
      have e23 := e2.trans e3
      have hd3 := e23 _ _ h1
      refine s_retP (ep_use (P := fun v _ => ∃ r, v = .int r ∧ 0 ≤ r ∧ r < b) (ea_cons (ev_var rfl) (ea_cons (ev_is (ev_op (ev_op (ev_int1 (ev_op (ev_var (v := .ref d) rfl) ev_c (rv_ixL (i := ((2 : Nat) : Int)) (sq_of hd3) (atI_nat rfl)))) ev_c (rv_I (by decide))) ev_c rv_I0) (by rw [hmod])) (ea_cons (ev_var rfl) ea_nil)))
        (spE_P (c, (n + 1) % 12 + 1, b) (fun _ _ => ⟨rfl, hb, by show (n + 1) % 12 + 1 ≤ 100; have := Nat.mod_lt (n + 1) (show 12 > 0 by decide); omega⟩) fun v _ _ p => p)) fun v H4 e4 p => ?_
      have e24 := e23.trans e4
      refine ⟨n + 1, e24 _ _ h1, k v _ (fun x o h => ?_) p⟩
      by_cases hx : x = d
      · subst hx
        rw [upd_same, ← hd]
        exact h
      · rw [upd_ne hx]
        exact e24 _ _ (hx1 x o hx h)
theorem ok_law_pick (F : Fun K "_law_pick" "_law_pick" s_law_pick f fd) (Z : Zs mg C) (G_law_next : Has P w K mg base "_law_next" 3 ["draw", "bound"] (sp_law_next K)) : FnOk P w K mg base CX0 4 f fd ["draw", "things"] (sp_law_pick K) := by
  refine F.ok sc_law_pick (fun vs H Q E h => ?_) (fun cdv A outer s H vs Q E hr h => ?_)
  · obtain ⟨i, ⟨rfl, _⟩, _⟩ := h
    rfl
  · obtain ⟨⟨d, t, xs⟩, ⟨rfl, hD, hx, hne⟩, k⟩ := h
    dsimp only at hD hx hne k
    have hl : 0 < xs.length := List.length_pos_iff.mpr hne
    refine ⟨_, (pss_one (ps_ret (pe_ix (ixL (K := K)) (pv 1) (pe_use G_law_next (hr.mono (by decide)) (pa_cons (pv 0) (pa_cons (pe_callB (cLenS (K := K)) (by rfl) Z.z_len PySem.boot_len (pa_cons (pv 1) pa_nil)) pa_nil))) (fun _ _ => rfl)))), ?_⟩
    refine s_retP (Pv := fun v _ => v ∈ xs) (fun H1 e1 Q q => (ev_var (v := .ref t) rfl) H1 e1 _ fun H2 e2 => ?_) fun v H1 e1 p => k v H1 e1 p
    have e12 := e1.trans e2
    refine ep_use (P := fun v _ => ∃ r, v = .int r ∧ 0 ≤ r ∧ r < ((xs.length : Nat) : Int)) (ea_cons (ev_var rfl) (ea_cons (ev_len (ev_var rfl) (ex_l e12 hx)) ea_nil)) (spE_P (d, ((xs.length : Nat) : Int)) (fun _ e => ⟨rfl, hD.ex (e12.trans e), by show (0 : Int) < _; omega⟩) fun v _ _ p => p) H2 (Ex.refl H2) _ fun v H3 e3 p => ?_
    obtain ⟨r, rfl, h0, h1⟩ := p
    obtain ⟨m, rfl⟩ : ∃ m : Nat, r = (m : Int) := ⟨r.toNat, by omega⟩
    have hm : m < xs.length := by omega
    have hix : xs[m]? = some xs[m] := List.getElem?_eq_getElem hm
    exact ⟨t, xs, _, _, rfl, rfl, ex_l (e12.trans e3) hx, atI_nat hix, q _ H3 (e2.trans e3) (List.mem_of_getElem? hix)⟩
end
end KX
end
section
set_option Elab.async false
set_option linter.all false
set_option maxRecDepth 100000
set_option maxHeartbeats 8000000
/-! Bs14: rows are drawn. -/
namespace KX
open PySem PySem.Spec PyProof.Rows L2 Evl
section
variable {K : PySem.W.Frag} {σ : L2.St} {H : Hp} {ta tb te tl : TE} {wi : TI} {n j : Nat} {It : Nat → V → Hp → Prop} {ws : List Nat} {D : Ends} {tz : TS}
/-- [te for j in wi], what is told of the items apart from the list -/
theorem new_lcD (S : Src wi σ H n It) (hz : n ≤ 100000) (hw : ∀ x, wipe ((wipe σ ws).set j (some x)) ws = wipe σ ws) (P : Addr → Nat → V → Hp → Prop) (hle : ∀ D i x H H', Ex H H' → P D i x H → P D i x H') (hup : ∀ D i x H l l', H D = some (.lst l) → P D i x H → P D i x (upd H D (.lst l')))
    (he : ∀ D l i x H', Ex H H' → H' D = some (.lst l) → H D = none → i < n → It i x H' → EvP te ((wipe σ ws).set j (some x)) H' (P D i)) : New (tLc wi (gName j) tYes te ws) σ H (fun o H2 => ∃ D xs, o = .lst xs ∧ xs.length = n ∧ ∀ i x, xs[i]? = some x → P D i x H2) := fun H1 e Q q =>
  S H1 e _ fun J G H2 e2 g2 gx gu w D hD => by
    refine lc_it w (fun i H' => Ex H2 H' ∧ G H' ∧ ∃ acc, H' D = some (.lst acc) ∧ acc.length = i ∧ ∀ k x, acc[k]? = some x → P D k x H') ⟨Ex.new hD, gx _ _ (Ex.new hD) g2, [], upd_same, rfl, fun k x h => by simp at h⟩ (fun i H' _ p => p.2.1) (fun i x H' H'' hi p y => ?_) fun H' p => ?_
    · obtain ⟨rfl, hI⟩ := y
      obtain ⟨ex, g, acc, ha, hl, hp⟩ := p
      refine ⟨hw x, ?_⟩
      unfold tYes
      refine iteT ?_
      refine he D acc i x H'' ((e.trans e2).trans ex) ha (fresh_back (e.trans e2) hD) hi hI H'' (Ex.refl _) _ fun y H4 e4 py => ?_
      have ha4 := e4 _ _ ha
      refine ⟨acc, ha4, sz_lt (by omega), Ex.mut (ex.trans e4) hD, gu H4 D _ _ rfl hD (gx _ _ e4 g) ha4, acc ++ [y], upd_same, by rw [List.length_append, hl]; rfl, fun k x h => ?_⟩
      by_cases hk : k < acc.length
      · rw [List.getElem?_append_left hk] at h
        exact hup D k x _ _ _ ha4 (hle D k x _ _ e4 (hp k x h))
      · rw [List.getElem?_append_right (by omega)] at h
        have e0 : k - acc.length = 0 := by
          cases hh : k - acc.length with
          | zero => rfl
          | succ m => rw [hh] at h; simp at h
        rw [e0] at h
        obtain rfl : y = x := by simpa using h
        obtain rfl : k = i := by omega
        exact hup D k y _ _ _ ha4 py
    · obtain ⟨ex, g, acc, ha, hl, hp⟩ := p
      exact q D _ H' (fresh_back e2 hD) (e2.trans ex) ha ⟨D, acc, rfl, hl, hp⟩
def dec (H : Hp) (b : Addr) : Key × V := match H b with
  | some (.tup [k, v]) => (unV k, v)
  | _ => (.inl 0, .non)
theorem dict_list {H : Hp} {xs : List V} {ks : List Key} (hl : xs.length = ks.length) {Q : Nat → V → Prop} (h : ∀ (i : Nat) x k, xs[i]? = some x → ks[i]? = some k → ∃ b v, x = .ref b ∧ H b = some (.tup [kV k, v]) ∧ Q i v) :
    ∃ (ps : List Addr) (kvs : List (Key × V)), xs = ps.map V.ref ∧ Paired (fun p kv => SqT K H p [kV kv.1, kv.2]) ps kvs ∧ kvs.map (·.1) = ks ∧ ∀ (i : Nat) (p : Key × V), kvs[i]? = some p → Q i p.2 := by
  have key : ∀ (i : Nat) x k, xs[i]? = some x → ks[i]? = some k → ∃ b v, x = .ref b ∧ H b = some (.tup [kV k, v]) ∧ dec H b = (k, v) ∧ Q i v := fun i x k a b => by
    obtain ⟨b, v, h1, h2, h3⟩ := h i x k a b
    refine ⟨b, v, h1, h2, ?_, h3⟩
    unfold dec
    rw [h2]
    show (unV (kV k), v) = (k, v)
    rw [unV_k]
  refine ⟨xs.map unR, (xs.map unR).map (dec H), ?_, ?_, ?_, ?_⟩
  · apply List.ext_getElem?
    intro i
    rw [List.map_map, List.getElem?_map]
    cases hx : xs[i]? with
    | none => rfl
    | some x =>
      have hi := (List.getElem?_eq_some_iff.mp hx).1
      obtain ⟨b, v, rfl, _⟩ := key i x _ hx (List.getElem?_eq_getElem (show i < ks.length by omega))
      rfl
  · have : ∀ (bs : List Addr), (∀ b ∈ bs, SqT K H b [kV (dec H b).1, (dec H b).2]) → Paired (fun p kv => SqT K H p [kV kv.1, kv.2]) bs (bs.map (dec H)) := fun bs hb => by
      induction bs with
      | nil => exact .nil
      | cons b bs ih => exact .cons (hb b List.mem_cons_self) (ih fun c hc => hb c (List.mem_cons_of_mem _ hc))
    refine this _ fun b hb => ?_
    obtain ⟨x, hx, rfl⟩ := List.mem_map.mp hb
    obtain ⟨i, hi⟩ := List.mem_iff_getElem?.mp hx
    have hil := (List.getElem?_eq_some_iff.mp hi).1
    obtain ⟨b, v, rfl, h2, h3, _⟩ := key i x _ hi (List.getElem?_eq_getElem (show i < ks.length by omega))
    show SqT K H b [kV (dec H b).1, (dec H b).2]
    rw [h3]
    exact st_of h2
  · apply List.ext_getElem?
    intro i
    rw [List.map_map, List.map_map, List.getElem?_map]
    cases hx : xs[i]? with
    | none =>
      have := List.getElem?_eq_none_iff.mp hx
      rw [List.getElem?_eq_none (by omega)]
      rfl
    | some x =>
      have hi := (List.getElem?_eq_some_iff.mp hx).1
      have hk : ks[i]? = some ks[i] := List.getElem?_eq_getElem (by omega)
      obtain ⟨b, v, rfl, _, h3, _⟩ := key i x _ hx hk
      rw [hk]
      show some (dec H b).1 = _
      rw [h3]
  · intro i p hp
    rw [List.getElem?_map, List.getElem?_map] at hp
    cases hx : xs[i]? with
    | none => rw [hx] at hp; cases hp
    | some x =>
      rw [hx] at hp
      have hi := (List.getElem?_eq_some_iff.mp hx).1
      obtain ⟨b, v, rfl, _, h3, h4⟩ := key i x _ hx (List.getElem?_eq_getElem (show i < ks.length by omega))
      obtain rfl : dec H b = p := Option.some.inj hp
      rw [h3]
      exact h4
theorem mergeK_nodup : ∀ (kvs acc : List (Key × V)), ((acc ++ kvs).map (·.1)).Nodup → mergeK acc kvs = acc ++ kvs
  | [], acc, _ => (List.append_nil _).symm
  | p :: r, acc, h => by
    have hnew : valV acc p.1 = none := by
      cases hv : valV acc p.1 with
      | none => rfl
      | some z =>
        have hm := List.mem_map_of_mem (f := (·.1)) (valV_mem hv)
        rw [List.map_append, List.nodup_append] at h
        exact absurd rfl (h.2.2 p.1 hm p.1 (List.mem_map_of_mem (f := fun q : Key × V => q.1) List.mem_cons_self))
    have e1 : putK acc p.1 p.2 = acc ++ [p] := putK_new _ hnew
    have e2 : mergeK acc (p :: r) = mergeK (putK acc p.1 p.2) r := rfl
    rw [e2, e1, mergeK_nodup r (acc ++ [p]) (by rw [List.append_assoc]; exact h), List.append_assoc]
    rfl
/-- dict(a new list of pairs) -/
theorem new_dictP {ks : List Key} (hnd : ks.Nodup) {Q : Nat → V → Hp → Prop} (hQ : ∀ i v H H', Ex H H' → Q i v H → Q i v H') (h : New tl σ H (fun o H2 => ∃ xs, o = .lst xs ∧ xs.length = ks.length ∧ ∀ (i : Nat) x, xs[i]? = some x → ∀ k, ks[i]? = some k → ∃ b v, x = .ref b ∧ H2 b = some (.tup [kV k, v]) ∧ Q i v H2)) :
    New (tCB (fun xs H Q => ∃ (a : Addr) (ps : List Addr) (kvs : List (Key × V)), xs = [.ref a] ∧ SqL K H a (ps.map V.ref) ∧ Paired (fun p kv => SqT K H p [kV kv.1, kv.2]) ps kvs ∧ ∀ p, H p = none → Q (.ref p) (upd H p (.dK (mergeK [] kvs)))) (tCons tl tNil)) σ H
      (fun o H2 => ∃ kvs, o = .dK kvs ∧ kvs.map (·.1) = ks ∧ ∀ (i : Nat) (p : Key × V), kvs[i]? = some p → Q i p.2 H2) := fun H1 e Q' q =>
  h H1 e _ fun a o H2 e1 e2 e3 ⟨xs, eo, hl, hx⟩ => by
    subst eo
    obtain ⟨ps, kvs, rfl, hp, hk, hv⟩ := dict_list (K := K) hl (Q := fun i v => Q i v H2) fun i x k a b => hx i x a k b
    refine ⟨a, ps, kvs, rfl, sq_of e3, hp, fun p hp' => ?_⟩
    have hm : mergeK [] kvs = kvs := by
      have := mergeK_nodup kvs [] (by rw [List.nil_append, hk]; exact hnd)
      rw [List.nil_append] at this
      exact this
    rw [hm]
    exact q p _ _ (fresh_back e2 hp') (e2.trans (Ex.new hp')) upd_same ⟨kvs, rfl, hk, fun i p h => hQ _ _ _ _ (Ex.new hp') (hv i p h)⟩
end
theorem putK_keys {κ : Type} [DecidableEq κ] {kvs : List (κ × V)} {k : κ} {v : V} (h : k ∈ kvs.map (·.1)) : (putK kvs k v).map (·.1) = kvs.map (·.1) := by
  unfold putK
  obtain ⟨p, hp, rfl⟩ := List.mem_map.mp h
  rw [if_pos (List.any_eq_true.mpr ⟨p, hp, by simp⟩), List.map_map]
  apply List.map_congr_left
  intro q _
  show (if q.1 = p.1 then (q.1, v) else q).1 = q.1
  by_cases e : q.1 = p.1
  · rw [if_pos e]
  · rw [if_neg e]
theorem putK_mem {κ : Type} [DecidableEq κ] {kvs : List (κ × V)} {k k' : κ} {v v' : V} (h : k ∈ kvs.map (·.1)) (hm : (k', v') ∈ putK kvs k v) : (k' = k ∧ v' = v) ∨ (k' ≠ k ∧ (k', v') ∈ kvs) := by
  unfold putK at hm
  obtain ⟨p, hp, rfl⟩ := List.mem_map.mp h
  rw [if_pos (List.any_eq_true.mpr ⟨p, hp, by simp⟩)] at hm
  obtain ⟨q, hq, e⟩ := List.mem_map.mp hm
  by_cases e1 : q.1 = p.1
  · rw [if_pos e1] at e
    cases e
    exact .inl ⟨e1, rfl⟩
  · rw [if_neg e1] at e
    subst e
    exact .inr ⟨e1, hq⟩
end KX
end
section
set_option Elab.async false
set_option linter.all false
set_option maxRecDepth 100000
set_option maxHeartbeats 8000000
/-! Bs15: the rows of a step are drawn. -/
namespace KX
open PySem PySem.Spec PyProof.Rows L2 Evl
/-- a test with some answer -/
def EvTA (tt : TT) (σ : L2.St) (H : Hp) : Prop := ∀ H1, Ex H H1 → ∀ Q : Bool → Hp → Prop, (∀ b H2, Ex H1 H2 → Q b H2) → tt σ H1 Q
section
variable {K : PySem.W.Frag} {σ : L2.St} {H : Hp} {ta tb te tl tv td ty : TE} {tt : TT} {tu tw tz : TS} {D : Ends}
theorem EvTA.mono {H' : Hp} (e : Ex H H') (h : EvTA tt σ H) : EvTA tt σ H' := fun H1 a Q q => h H1 (e.trans a) Q q
theorem s_ifA (h : EvTA tt σ H) (h1 : ∀ H1, Ex H H1 → tu D σ H1) (h2 : ∀ H1, Ex H H1 → tw D σ H1) : tIfS tt tu tw D σ H := h H (Ex.refl H) _ fun b H1 e => by
  cases b with
  | true => exact h1 H1 e
  | false => exact h2 H1 e
theorem q_ifA (h : EvTA tt σ H) (h1 : ∀ H1, Ex H H1 → tu { D with nx := tz D } σ H1) (h2 : ∀ H1, Ex H H1 → tw { D with nx := tz D } σ H1) : tSeq (tIfS tt tu tw) tz D σ H := s_ifA (D := { D with nx := tz D }) h h1 h2
theorem ep_ifA {P : V → Hp → Prop} (h : EvTA tt σ H) (h1 : EvP ta σ H P) (h2 : EvP tb σ H P) : EvP (tIf tt ta tb) σ H P := fun H1 e Q q => h H1 e _ fun b H2 e2 => by
  cases b with
  | true =>
    show ta σ H2 Q
    exact h1 H2 (e.trans e2) Q fun v H3 e3 => q v H3 (e2.trans e3)
  | false =>
    show tb σ H2 Q
    exact h2 H2 (e.trans e2) Q fun v H3 e3 => q v H3 (e2.trans e3)
theorem new_ifA {N : HO → Hp → Prop} (h : EvTA tt σ H) (h1 : New ta σ H N) (h2 : New tb σ H N) : New (tIf tt ta tb) σ H N := fun H1 e Q q => h H1 e _ fun b H2 e2 => by
  cases b with
  | true =>
    show ta σ H2 Q
    exact h1 H2 (e.trans e2) Q fun p o H3 e0 e3 => q p o H3 (fresh_back e2 e0) (e2.trans e3)
  | false =>
    show tb σ H2 Q
    exact h2 H2 (e.trans e2) Q fun p o H3 e0 e3 => q p o H3 (fresh_back e2 e0) (e2.trans e3)
theorem eta_I {g : Int → Int → Bool} {c : Int} (h : EvP ta σ H (fun v _ => ∃ r, v = .int r)) (hb : Ev tb σ H (.int c)) : EvTA (tTest (tOp (rI0 fun i j => .bl (g i j)) ta tb)) σ H := fun H1 e Q q =>
  h H1 e _ fun v H2 e2 ⟨r, ev⟩ => by
    subst ev
    exact hb H2 (e.trans e2) _ fun H3 e3 => ⟨r, c, rfl, rfl, _, rfl, q _ H3 (e2.trans e3)⟩
theorem eta_E {c : Int} (h : EvP ta σ H (fun v _ => ∃ r, v = .int r)) (hb : Ev tb σ H (.int c)) : EvTA (tTest (tOp rEq ta tb)) σ H := fun H1 e Q q =>
  h H1 e _ fun v H2 e2 ⟨r, ev⟩ => by
    subst ev
    exact hb H2 (e.trans e2) _ fun H3 e3 => ⟨rfl, _, rfl, q _ H3 (e2.trans e3)⟩
/-- a + b of lists -/
theorem new_cat {Pa Pb : List V → Hp → Prop} (ha : EvP ta σ H (fun v H2 => ∃ a xs, v = .ref a ∧ H2 a = some (.lst xs) ∧ Pa xs H2)) (hb : ∀ H1, Ex H H1 → EvP tb σ H1 (fun v H2 => ∃ a xs, v = .ref a ∧ H2 a = some (.lst xs) ∧ Pb xs H2))
    (mA : ∀ xs H H', Ex H H' → Pa xs H → Pa xs H') (mB : ∀ xs H H', Ex H H' → Pb xs H → Pb xs H') (hz : ∀ xs ys H H', Pa xs H → Pb ys H' → xs.length + ys.length ≤ 100000) : New (tOp rCat ta tb) σ H (fun o H2 => ∃ xs ys, o = .lst (xs ++ ys) ∧ Pa xs H2 ∧ Pb ys H2) := fun H1 e Q q =>
  ha H1 e _ fun v H2 e2 ⟨a, xs, ev, h1, p1⟩ => hb H2 (e.trans e2) H2 (Ex.refl H2) _ fun u H3 e3 ⟨b, ys, eu, h2, p2⟩ =>
    ⟨a, b, xs, ys, ev, eu, e3 _ _ h1, h2, sz_of (hz xs ys H2 H3 p1 p2), fun p hp => q p _ _ (fresh_back (e2.trans e3) hp) ((e2.trans e3).trans (Ex.new hp)) upd_same ⟨xs, ys, rfl, mA _ _ _ (e3.trans (Ex.new hp)) p1, mB _ _ _ (Ex.new hp) p2⟩⟩
/-- d[k] = v -/
theorem s_dput {Pv : V → Hp → Prop} {d : Addr} {kvs : List (Key × V)} {y : V} {k : Key} (hd : H d = some (.dK kvs)) (hv : EvP tv σ H Pv) (ho : Ev td σ H (.ref d)) (hy : Ev ty σ H y) (ey : y = kV k) (hz : kvs.length < 100000) (kk : ∀ v H1, Ex H H1 → Pv v H1 → (∀ v H H', Ex H H' → Pv v H → Pv v H') → D.nx σ (upd H1 d (.dK (putK kvs k v))))
    (mV : ∀ v H H', Ex H H' → Pv v H → Pv v H') : sDPut td ty tv D σ H :=
  hv H (Ex.refl H) _ fun v H1 e1 p => ho H1 e1 _ fun H2 e2 => hy H2 (e1.trans e2) _ fun H3 e3 => by
    have e := (e1.trans e2).trans e3
    subst ey
    exact ⟨d, _, rfl, DPut.k (e _ _ hd) (sz_lt hz), kk v H3 e (mV _ _ _ (e2.trans e3) p) mV⟩
end
section
variable {K : PySem.W.Frag} {σ : L2.St} {H : Hp} {E : XK} {ta : TE}
theorem ep_next {d : Addr} {b : Int} {tb : TE} (hd : Ev ta σ H (.ref d)) (hb : Ev tb σ H (.int b)) (D : DrAt K H d) (h0 : 0 < b) : EvP (tCall (sp_law_next K) [] E (tCons ta (tCons tb tNil))) σ H (fun v _ => ∃ r, v = .int r ∧ 0 ≤ r ∧ r < b) :=
  ep_use (ea_cons hd (ea_cons hb ea_nil)) (spE_P (d, b) (fun _ e => ⟨rfl, D.ex e, h0⟩) fun v _ _ p => p)
theorem ep_nextI {d : Addr} {b : Int} {tb : TE} (hd : Ev ta σ H (.ref d)) (hb : Ev tb σ H (.int b)) (D : DrAt K H d) (h0 : 0 < b) : EvP (tCall (sp_law_next K) [] E (tCons ta (tCons tb tNil))) σ H (fun v _ => ∃ r, v = .int r) :=
  (ep_next hd hb D h0).imp fun v _ _ ⟨r, h, _⟩ => ⟨r, h⟩
theorem ep_pick {d : Addr} {xs : List V} {tb : TE} (hd : Ev ta σ H (.ref d)) (hb : EvP tb σ H (fun v H2 => ∃ t, v = .ref t ∧ SqL K H2 t xs)) (D : DrAt K H d) (h0 : xs ≠ []) : EvP (tCall (sp_law_pick K) [] E (tCons ta (tCons tb tNil))) σ H (fun v _ => v ∈ xs) := fun H1 e Q q =>
  hd H1 e _ fun H2 e2 => hb H2 (e.trans e2) _ fun v H3 e3 ⟨t, ev, ht⟩ => by
    subst ev
    exact ⟨(d, t, xs), ⟨rfl, D.ex ((e.trans e2).trans e3), ht, h0⟩, fun v H4 e4 p => q v H4 ((e2.trans e3).trans e4) p⟩
end
/-- a row as drawn -/
def RowOkD (regs sg : List Str) (k : Nat) (row : List Itm) : Prop := row.length ≤ k ∧ ∀ t ∈ row, match t with
  | .t s => s ∈ sg
  | .r m => m ∈ regs
theorem RowOkD.app {regs sg : List Str} {k l : Nat} {a b : List Itm} (ha : RowOkD regs sg k a) (hb : RowOkD regs sg l b) : RowOkD regs sg (k + l) (a ++ b) := ⟨by
  rw [List.length_append]
  exact Nat.add_le_add ha.1 hb.1, fun t ht => (List.mem_append.mp ht).elim (ha.2 t) (hb.2 t)⟩
theorem RowOkD.up {regs sg : List Str} {k l : Nat} {a : List Itm} (ha : RowOkD regs sg k a) (h : k ≤ l) : RowOkD regs sg l a := ⟨Nat.le_trans ha.1 h, ha.2⟩
/-- the registers of a row -/
def rgs (row : List Itm) : List Str := row.filterMap fun t => match t with
  | .t _ => none
  | .r m => some m
theorem rgs_app (a b : List Itm) : rgs (a ++ b) = rgs a ++ rgs b := List.filterMap_append
/-- each register stands in one row at most, there once -/
def Lin (regs : List Str) (R : Str → List Itm) : Prop := ∃ tg : Str → Str, ∀ n ∈ regs, (rgs (R n)).Nodup ∧ ∀ m ∈ rgs (R n), tg m = n
def RowsLin (regs sg : List Str) (R : Str → List Itm) : Prop := (∀ n ∈ regs, RowOkD regs sg (regs.length + 1) (R n)) ∧ Lin regs R
/-- .. in the making: dn are those that are put already -/
def RowL (tg : Str → Str) (dn : List Str) (n : Str) (row : List Itm) : Prop := (rgs row).Nodup ∧ ∀ m ∈ rgs row, tg m = n ∧ m ∈ dn
theorem RowL.mono {tg : Str → Str} {dn dn' : List Str} {n : Str} {row : List Itm} (h : RowL tg dn n row) (s : ∀ m ∈ dn, m ∈ dn') : RowL tg dn' n row := ⟨h.1, fun m hm => ⟨(h.2 m hm).1, s m (h.2 m hm).2⟩⟩
theorem RowL.text {tg : Str → Str} {dn : List Str} {n s : Str} {row row' : List Itm} (h : RowL tg dn n row) (e : row' = row ++ [.t s] ∨ row' = [.t s] ++ row) : RowL tg dn n row' := by
  have : rgs row' = rgs row := by
    rcases e with rfl | rfl
    · rw [rgs_app]
      exact List.append_nil _
    · rw [rgs_app]
      rfl
  unfold RowL
  rw [this]
  exact h
/-- another register is put: t is where -/
def tgP (tg : Str → Str) (nm t : Str) : Str → Str := fun y => if y = nm then t else tg y
theorem RowL.other {tg : Str → Str} {dn dn' : List Str} {n nm t : Str} {row : List Itm} (h : RowL tg dn n row) (s : ∀ m ∈ dn, m ∈ dn') (nn : nm ∉ dn) : RowL (tgP tg nm t) dn' n row := ⟨h.1, fun m hm => by
  obtain ⟨e1, e2⟩ := h.2 m hm
  refine ⟨?_, s m e2⟩
  unfold tgP
  rw [if_neg (fun z => by
    subst z
    exact nn e2)]
  exact e1⟩
theorem RowL.here {tg : Str → Str} {dn dn' : List Str} {nm t : Str} {row row' : List Itm} (h : RowL tg dn t row) (s : ∀ m ∈ dn, m ∈ dn') (nn : nm ∉ dn) (hn : nm ∈ dn') (e : row' = row ++ [.r nm] ∨ row' = [.r nm] ++ row) : RowL (tgP tg nm t) dn' t row' := by
  have fresh : nm ∉ rgs row := fun z => nn (h.2 nm z).2
  have o := h.other (t := t) s nn
  have at_ : tgP tg nm t nm = t := by
    unfold tgP
    rw [if_pos rfl]
  rcases e with rfl | rfl
  · have q : rgs (row ++ [Itm.r nm]) = rgs row ++ [nm] := by
      rw [rgs_app]
      rfl
    unfold RowL
    rw [q]
    refine ⟨List.nodup_append.mpr ⟨h.1, by simp, fun a ha b hb z => fresh (by
      rw [List.mem_singleton.mp hb] at z
      rw [← z]
      exact ha)⟩, fun m hm => ?_⟩
    rcases List.mem_append.mp hm with z | z
    · exact o.2 m z
    · rw [List.mem_singleton.mp z]
      exact ⟨at_, hn⟩
  · have q : rgs ([Itm.r nm] ++ row) = nm :: rgs row := by
      rw [rgs_app]
      rfl
    unfold RowL
    rw [q]
    refine ⟨List.nodup_cons.mpr ⟨fresh, h.1⟩, fun m hm => ?_⟩
    rcases List.mem_cons.mp hm with z | z
    · rw [z]
      exact ⟨at_, hn⟩
    · exact o.2 m z
/-- lists of rows in the making -/
def RwL (regs sg : List Str) (k : Nat) (tg : Str → Str) (dn : List Str) (H : Hp) (rd : Addr) : Prop := ∃ kvs : List (Key × V), H rd = some (.dK kvs) ∧ kvs.map (·.1) = regs.map Sum.inr ∧ ∀ n v, (Sum.inr n, v) ∈ kvs → ∃ a xs row, v = .ref a ∧ H a = some (.lst xs) ∧ ItsAt H xs row ∧ RowOkD regs sg k row ∧ RowL tg dn n row
theorem RwL.ex {regs sg : List Str} {k : Nat} {tg : Str → Str} {dn : List Str} {H H' : Hp} {rd : Addr} (e : Ex H H') (h : RwL regs sg k tg dn H rd) : RwL regs sg k tg dn H' rd := h.imp fun kvs ⟨h1, h2, h3⟩ => ⟨e _ _ h1, h2, fun n v m => by
  obtain ⟨a, xs, row, e1, e2, e3, e4⟩ := h3 n v m
  exact ⟨a, xs, row, e1, e _ _ e2, e3.le (Le.ex e), e4⟩⟩
theorem RwL.up {regs sg : List Str} {k l : Nat} {tg : Str → Str} {dn dn' : List Str} {H : Hp} {rd : Addr} (hk : k ≤ l) (hd : ∀ m ∈ dn, m ∈ dn') (h : RwL regs sg k tg dn H rd) : RwL regs sg l tg dn' H rd := h.imp fun kvs ⟨h1, h2, h3⟩ => ⟨h1, h2, fun n v m => by
  obtain ⟨a, xs, row, e1, e2, e3, e4⟩ := h3 n v m
  exact ⟨a, xs, row, e1, e2, e3, e4.1.up hk, e4.2.mono hd⟩⟩
theorem ItAt.upK {H : Hp} {D : Addr} {t : Itm} {x : V} {l l' : List (Key × V)} (h : ItAt H t x) (hD : H D = some (.dK l)) : ItAt (upd H D (.dK l')) t x := by
  cases t with
  | t s => exact h
  | r s =>
    obtain ⟨b, e, hb⟩ := h
    refine ⟨b, e, ?_⟩
    rw [upd_ne (show b ≠ D from fun z => by
      subst z
      rw [hb] at hD
      cases hD)]
    exact hb
theorem ItsAt.upK {H : Hp} {D : Addr} {row : List Itm} {xs : List V} {l l' : List (Key × V)} (h : ItsAt H xs row) (hD : H D = some (.dK l)) : ItsAt (upd H D (.dK l')) xs row := ⟨h.1, fun i x t a b => (h.2 i x t a b).upK hD⟩
/-- one row is put anew -/
theorem RwL.put {regs sg : List Str} {l : Nat} {tg : Str → Str} {dn : List Str} {H : Hp} {rd a : Addr} {n : Str} {kvs : List (Key × V)} {xs : List V} {row : List Itm} (h1 : H rd = some (.dK kvs)) (h2 : kvs.map (·.1) = regs.map Sum.inr)
    (h3 : ∀ m v, m ≠ n → (Sum.inr m, v) ∈ kvs → ∃ a xs row, v = .ref a ∧ H a = some (.lst xs) ∧ ItsAt H xs row ∧ RowOkD regs sg l row ∧ RowL tg dn m row) (hn : n ∈ regs) (ha : H a = some (.lst xs)) (hx : ItsAt H xs row) (hr : RowOkD regs sg l row ∧ RowL tg dn n row) : RwL regs sg l tg dn (upd H rd (.dK (putK kvs (.inr n) (.ref a)))) rd := by
  have hm : (Sum.inr n : Key) ∈ kvs.map (·.1) := by rw [h2]; exact List.mem_map_of_mem hn
  have ne : ∀ {b : Addr} {ys : List V}, H b = some (.lst ys) → b ≠ rd := fun hb z => by
    subst z
    rw [hb] at h1
    cases h1
  refine ⟨_, upd_same, by rw [putK_keys hm, h2], fun m v hmv => ?_⟩
  rcases putK_mem hm hmv with ⟨e1, rfl⟩ | ⟨e1, e2⟩
  · cases e1
    exact ⟨a, xs, row, rfl, by rw [upd_ne (ne ha)]; exact ha, hx.upK h1, hr⟩
  · obtain ⟨b, ys, row', q1, q2, q3, q4⟩ := h3 m v (fun z => e1 (by rw [z])) e2
    exact ⟨b, ys, row', q1, by rw [upd_ne (ne q2)]; exact q2, q3.upK h1, q4⟩
theorem valV_uniq {κ : Type} [DecidableEq κ] {kvs : List (κ × V)} {k : κ} {v : V} (hn : (kvs.map (·.1)).Nodup) (h : (k, v) ∈ kvs) : valV kvs k = some v := by
  obtain ⟨v', hv, hm⟩ := valV_of h
  obtain ⟨i, hi⟩ := List.mem_iff_getElem?.mp h
  obtain ⟨j, hj⟩ := List.mem_iff_getElem?.mp hm
  have a : (kvs.map (·.1))[i]? = some k := by rw [List.getElem?_map, hi]; rfl
  have b : (kvs.map (·.1))[j]? = some k := by rw [List.getElem?_map, hj]; rfl
  have := nodup_ix' hn a b
  subst this
  rw [hi] at hj
  cases hj
  exact hv
/-- for each key some row: one function -/
theorem rows_fun {kvs : List (Key × V)} (hn : (kvs.map (·.1)).Nodup) {Q : V → List Itm → Prop} (h : ∀ n v, (Sum.inr n, v) ∈ kvs → ∃ row, Q v row) : ∃ R : Str → List Itm, ∀ n v, (Sum.inr n, v) ∈ kvs → Q v (R n) := by
  classical
  refine ⟨fun n => if z : ∃ row, ∀ v, valV kvs (.inr n) = some v → Q v row then z.choose else [], fun n v m => ?_⟩
  have z : ∃ row, ∀ v, valV kvs (.inr n) = some v → Q v row := by
    obtain ⟨row, hq⟩ := h n v m
    refine ⟨row, fun v' hv' => ?_⟩
    rw [valV_uniq hn m] at hv'
    cases hv'
    exact hq
  show Q v (if z : ∃ row, ∀ v, valV kvs (.inr n) = some v → Q v row then z.choose else [])
  rw [dif_pos z]
  exact z.choose_spec v (valV_uniq hn m)
theorem rows_funN {kvs : List (Key × V)} (hn : (kvs.map (·.1)).Nodup) {Q : Str → V → List Itm → Prop} (h : ∀ n v, (Sum.inr n, v) ∈ kvs → ∃ row, Q n v row) : ∃ R : Str → List Itm, ∀ n v, (Sum.inr n, v) ∈ kvs → Q n v (R n) := by
  classical
  refine ⟨fun n => if z : ∃ row, ∀ v, valV kvs (.inr n) = some v → Q n v row then z.choose else [], fun n v m => ?_⟩
  have z : ∃ row, ∀ v, valV kvs (.inr n) = some v → Q n v row := by
    obtain ⟨row, hq⟩ := h n v m
    refine ⟨row, fun v' hv' => ?_⟩
    rw [valV_uniq hn m] at hv'
    cases hv'
    exact hq
  show Q n v (if z : ∃ row, ∀ v, valV kvs (.inr n) = some v → Q n v row then z.choose else [])
  rw [dif_pos z]
  exact z.choose_spec v (valV_uniq hn m)
/-- z: an address to keep away from -/
def sp_law_rows (K : PySem.W.Frag) : Sp := spE (fun (x : Addr × Addr × Addr × List Str × List Str × Addr) vs H => vs = [.ref x.1, .ref x.2.1, .ref x.2.2.1] ∧ DrAt K H x.1 ∧ H x.2.1 = some (.lst (x.2.2.2.1.map V.str)) ∧ H x.2.2.1 = some (.lst (x.2.2.2.2.1.map V.str)) ∧ x.2.2.2.1.Nodup ∧ x.2.2.2.1.length ≤ 10 ∧ x.2.2.2.2.1.length ≤ 10 ∧ ∃ o, H x.2.2.2.2.2 = some o)
  (fun x v H => ∃ r R, v = .ref r ∧ RowsN x.2.2.2.1 R H r ∧ RowsLin x.2.2.2.1 ("" :: "" :: x.2.2.2.2.1) R ∧ r ≠ x.2.2.2.2.2)
end KX
end
section
set_option Elab.async false
set_option linter.all false
set_option maxRecDepth 100000
set_option maxHeartbeats 8000000
/-! Bs16: _law_rows, _law_end. -/
namespace KX
open PySem PySem.Spec PyProof.Rows L2 Evl
theorem nil_okD {regs sg : List Str} : RowOkD regs sg 0 [] := ⟨Nat.le_refl _, fun t h => by cases h⟩
theorem one_r {regs sg : List Str} {n : Str} (h : n ∈ regs) : RowOkD regs sg 1 [.r n] := ⟨Nat.le_refl _, fun t ht => by
  rw [List.mem_singleton.mp ht]
  exact h⟩
theorem one_t {regs sg : List Str} {s : Str} (h : s ∈ sg) : RowOkD regs sg 1 [.t s] := ⟨Nat.le_refl _, fun t ht => by
  rw [List.mem_singleton.mp ht]
  exact h⟩
/-- a new list of what is given -/
theorem new_lst {σ : L2.St} {H : Hp} {ta : TA} {Pa : List V → Hp → Prop} (h : EvPA ta σ H Pa) (hz : ∀ vs H2, Pa vs H2 → vs.length ≤ 1000) (hP : ∀ vs H H', Ex H H' → Pa vs H → Pa vs H') : New (tLst ta) σ H (fun o H2 => ∃ vs, o = .lst vs ∧ Pa vs H2) := fun H1 e Q q =>
  h H1 e _ fun vs H2 e2 p => ⟨sz_of (Nat.le_trans (hz vs H2 p) (by decide)), fun l hl => q l _ _ (fresh_back e2 hl) (e2.trans (Ex.new hl)) upd_same ⟨vs, rfl, hP vs H2 _ (Ex.new hl) p⟩⟩
/-- the list [(name,)], [text] -/
theorem new_one {σ : L2.St} {H : Hp} {i : Nat} {n : Str} (h : σ[i]? = some (some (.str n))) : EvP (tLst (tCons (tTup (tCons (tVar i) tNil)) tNil)) σ H (fun v H2 => ∃ a xs, v = .ref a ∧ H2 a = some (.lst xs) ∧ ItsAt H2 xs [.r n]) :=
  (new_lst (pa1 (Pr := fun vs _ => vs = []) (P := fun v H2 => ∃ b, v = .ref b ∧ H2 b = some (.tup [.str n])) (fun v H H' e ⟨b, h1, h2⟩ => ⟨b, h1, e _ _ h2⟩) (((New.ofU (eu_tup (ea_cons (ev_var h) ea_nil) (by show 1 ≤ 100000; decide))).evP).imp fun v H2 _ ⟨p, o, h1, h2, h3⟩ => ⟨p, h1, by rw [h2, h3]⟩) pa0) (fun vs H2 ⟨v, r, h1, h2, h3⟩ => by rw [h1, h3]; show 1 ≤ 1000; decide) (fun vs H H' e ⟨v, r, h1, ⟨b, h2, h3⟩, h4⟩ => ⟨v, r, h1, ⟨b, h2, e _ _ h3⟩, h4⟩)).evP.imp
    fun v H2 _ ⟨p, o, h1, h2, vs, h3, y, r, h4, ⟨b, h5, h6⟩, h7⟩ => ⟨p, [.ref b], h1, by rw [h2, h3, h4, h5, h7], ItsAt.one ⟨b, rfl, h6⟩⟩
theorem new_oneT {σ : L2.St} {H : Hp} {i : Nat} {s : Str} (h : σ[i]? = some (some (.str s))) : EvP (tLst (tCons (tVar i) tNil)) σ H (fun v H2 => ∃ a xs, v = .ref a ∧ H2 a = some (.lst xs) ∧ ItsAt H2 xs [.t s]) := fun H1 e Q q =>
  (el_lst (ea_cons (ev_var (H := H) h) ea_nil) (by show 1 ≤ 100000; decide)) H1 e _ fun b H2 hb e2 h2 => q (.ref b) _ e2 ⟨b, [.str s], rfl, h2, ItsAt.one rfl⟩
/-- .. each register once -/
def RowOkE (regs sg : List Str) (k : Nat) (row : List Itm) : Prop := RowOkD regs sg k row ∧ (rgs row).Nodup
def EndL (regs : List Str) (i : Nat) (row : List Itm) : Prop := (rgs row).Nodup ∧ ∀ m ∈ rgs row, m ∈ regs.take i
theorem EndL.nil {regs : List Str} : EndL regs 0 [] := ⟨List.nodup_nil, fun m hm => by cases hm⟩
theorem EndL.up {regs : List Str} {i : Nat} {row : List Itm} (h : EndL regs i row) : EndL regs (i + 1) row := ⟨h.1, fun m hm => List.take_subset_take_left regs (Nat.le_succ i) (h.2 m hm)⟩
theorem EndL.new {regs : List Str} {i : Nat} {row : List Itm} {n : Str} (hN : regs.Nodup) (hn : regs[i]? = some n) (h : EndL regs i row) : n ∉ rgs row ∧ n ∈ regs.take (i + 1) := by
  refine ⟨fun hm => ?_, by rw [List.take_succ, hn]; simp⟩
  obtain ⟨q, hq⟩ := List.mem_iff_getElem?.mp (h.2 n hm)
  have hql : q < i := by
    have := (List.getElem?_eq_some_iff.mp hq).1
    rw [List.length_take] at this
    omega
  rw [List.getElem?_take_of_lt hql] at hq
  have := nodup_ix' hN hq hn
  omega
theorem EndL.snoc {regs : List Str} {i : Nat} {row : List Itm} {n : Str} (hN : regs.Nodup) (hn : regs[i]? = some n) (h : EndL regs i row) : EndL regs (i + 1) (row ++ [.r n]) := by
  obtain ⟨h1, h2⟩ := h.new hN hn
  have e : rgs (row ++ [.r n]) = rgs row ++ [n] := rgs_app _ _
  refine ⟨?_, fun m hm => ?_⟩
  · rw [e]
    exact List.nodup_append.mpr ⟨h.1, List.nodup_cons.mpr ⟨by simp, List.nodup_nil⟩, fun a ha b hb q => h1 (by rw [← List.mem_singleton.mp hb, ← q]; exact ha)⟩
  · rw [e] at hm
    rcases List.mem_append.mp hm with hm | hm
    · exact h.up.2 m hm
    · rw [List.mem_singleton.mp hm]
      exact h2
theorem EndL.cons {regs : List Str} {i : Nat} {row : List Itm} {n : Str} (hN : regs.Nodup) (hn : regs[i]? = some n) (h : EndL regs i row) : EndL regs (i + 1) ([.r n] ++ row) := by
  obtain ⟨h1, h2⟩ := h.new hN hn
  have e : rgs ([.r n] ++ row) = n :: rgs row := rgs_app [.r n] row
  refine ⟨by rw [e]; exact List.nodup_cons.mpr ⟨h1, h.1⟩, fun m hm => ?_⟩
  rw [e] at hm
  rcases List.mem_cons.mp hm with rfl | hm
  · exact h2
  · exact h.up.2 m hm
def sp_law_end (K : PySem.W.Frag) : Sp := spE (fun (x : Addr × Addr × Addr × List Str × List Str) vs H => vs = [.ref x.1, .ref x.2.1, .ref x.2.2.1] ∧ DrAt K H x.1 ∧ H x.2.1 = some (.lst (x.2.2.2.1.map V.str)) ∧ H x.2.2.1 = some (.lst (x.2.2.2.2.map V.str)) ∧ x.2.2.2.1.length ≤ 10 ∧ x.2.2.2.2.length ≤ 10 ∧ x.2.2.2.1.Nodup)
  (fun x v H => ∃ a row, v = .ref a ∧ RowAt H a row ∧ RowOkE x.2.2.2.1 ("" :: "" :: x.2.2.2.2) (x.2.2.2.1.length + 1) row)
/-- tuple(a list) -/
theorem ep_tupL {K : PySem.W.Frag} {σ : L2.St} {H : Hp} {te : TE} {Pv : List V → Hp → Prop} (h : EvP te σ H (fun v H2 => ∃ a xs, v = .ref a ∧ H2 a = some (.lst xs) ∧ Pv xs H2)) (hP : ∀ xs H H', Ex H H' → Pv xs H → Pv xs H') : EvP (tCB (rTupOf K) (tCons te tNil)) σ H (fun v H2 => ∃ c xs, v = .ref c ∧ H2 c = some (.tup xs) ∧ Pv xs H2) := fun H1 e Q q =>
  h H1 e _ fun v H2 e2 ⟨a, xs, ev, h1, p⟩ => ⟨a, xs, by rw [ev], .inl ⟨sq_of h1, fun c hc => q (.ref c) _ (e2.trans (Ex.new hc)) ⟨c, xs, rfl, upd_same, hP _ _ _ (Ex.new hc) p⟩⟩⟩
section
variable {P : Program} {w : World} {K : PySem.W.Frag} {mg : Str → Option Value} {base : Heap} {C : Addr} {f : Addr} {fd : FuncData}
theorem ok_law_rows (F : Fun K "_law_rows" "_law_rows" s_law_rows f fd) (Z : Zs mg C) (G_law_next : Has P w K mg base "_law_next" 3 ["draw", "bound"] (sp_law_next K)) (G_law_pick : Has P w K mg base "_law_pick" 4 ["draw", "things"] (sp_law_pick K)) :
    FnOk P w K mg base CX0 5 f fd ["draw", "registers", "signs"] (sp_law_rows K) := by
  refine F.ok sc_law_rows (fun vs H Q E h => ?_) (fun cdv A outer s H vs Q E hr h => ?_)
  · obtain ⟨i, ⟨rfl, _⟩, _⟩ := h
    rfl
  · obtain ⟨⟨d, ra, sa, regs, signs, za⟩, ⟨rfl, hD, hra, hsa, hN, h10, hs10, zo, hza⟩, k⟩ := h
    dsimp only at hD hra hsa hN h10 hs10 hza
    have k : ∀ v H', Ex H H' → (∃ r R, v = .ref r ∧ RowsN regs R H' r ∧ RowsLin regs ("" :: "" :: signs) R ∧ r ≠ za) → Q v H' := k
    have hu := hu_of hr
    have hu64 := hr.units
    have hu0 := Nat.lt_of_succ_lt hu
    refine ⟨_, (pss_cons (ps_set (i := 4) sc_law_rows.nd rfl (Or.inr rfl) (pe_callTy (call_dictP rfl) (by rfl) Z.z_dict (by decide +kernel) (pa_cons (pe_lc (own := [(("name" : Str), 3)]) (g := gName 3) rfl sc_law_rows.nd (pi_list (pv 1)) (blkOk_by (own := [(("name" : Str), 3)]) (N := n_law_rows) (sc := defScope s_law_rows) (by decide +kernel)) (fun _ _ _ _ _ => (pg_name (i := 3) sc_law_rows.nd rfl (Or.inl rfl))) (fun _ _ _ _ _ => pts_nil) (fun _ _ _ _ _ => (pe_tup (pa_cons (pv 3) (pa_cons (pe_lst pa_nil) pa_nil))))) pa_nil))) 
    (pss_cons (ps_for PassesOwn.never rfl (pi_list (pv 1)) (pg_name (i := 3) sc_law_rows.nd rfl (Or.inl rfl)) 
     (pss_one (ps_if (pt_cmpR op_gt (pe_use G_law_next (hr.mono (by decide)) (pa_cons (pv 0) (pa_cons pe_int pa_nil))) pe_int (nomark _)) 
      (pss_cons (ps_set (i := 5) sc_law_rows.nd rfl (Or.inl rfl) (pe_ifExp (pt_cmpR op_gt (pe_use G_law_next (hr.mono (by decide)) (pa_cons (pv 0) (pa_cons pe_int pa_nil))) pe_int (nomark _)) (pv 3) (pe_use G_law_pick (hr.mono (by decide)) (pa_cons (pv 0) (pa_cons (pv 1) pa_nil))))) 
      (pss_one (ps_dput hu (pv 4) (pv 5) (pe_ifExp (pt_cmpR op_eq (pe_use G_law_next (hr.mono (by decide)) (pa_cons (pv 0) (pa_cons pe_int pa_nil))) pe_int (nomark _)) (pe_op op_cat (pe_dget hu (pv 4) (pv 5) (fun _ _ => rfl)) (pe_lst (pa_cons (pe_tup (pa_cons (pv 3) pa_nil)) pa_nil))) (pe_op op_cat (pe_lst (pa_cons (pe_tup (pa_cons (pv 3) pa_nil)) pa_nil)) (pe_dget hu (pv 4) (pv 5) (fun _ _ => rfl)))) rfl))) pss_nil))) 
    (pss_cons (ps_for PassesOwn.never rfl (pi_list (pv 1)) (pg_name (i := 3) sc_law_rows.nd rfl (Or.inl rfl)) 
     (pss_cons (ps_set (i := 6) sc_law_rows.nd rfl (Or.inl rfl) (pe_use G_law_pick (hr.mono (by decide)) (pa_cons (pv 0) (pa_cons (pe_op op_cat (pe_lst (pa_cons pe_str (pa_cons pe_str pa_nil))) (pv 2)) pa_nil)))) 
     (pss_one (ps_dput hu (pv 4) (pv 3) (pe_ifExp (pt_cmpR op_eq (pe_use G_law_next (hr.mono (by decide)) (pa_cons (pv 0) (pa_cons pe_int pa_nil))) pe_int (nomark _)) (pe_op op_cat (pe_lst (pa_cons (pv 6) pa_nil)) (pe_dget hu (pv 4) (pv 3) (fun _ _ => rfl))) (pe_op op_cat (pe_dget hu (pv 4) (pv 3) (fun _ _ => rfl)) (pe_lst (pa_cons (pv 6) pa_nil)))) rfl)))) 
    (pss_one (ps_ret (pe_callTy (call_dictP rfl) (by rfl) Z.z_dict (by decide +kernel) (pa_cons (pe_lc (own := [(("name" : Str), 3)]) (g := gName 3) rfl sc_law_rows.nd (pi_list (pv 1)) (blkOk_by (own := [(("name" : Str), 3)]) (N := n_law_rows) (sc := defScope s_law_rows) (by decide +kernel)) (fun _ _ _ _ _ => (pg_name (i := 3) sc_law_rows.nd rfl (Or.inl rfl))) (fun _ _ _ _ _ => pts_nil) (fun _ _ _ _ _ => (pe_tup (pa_cons (pv 3) (pa_cons (pe_callTy (cTup (K := K)) (by rfl) Z.z_tuple (by decide +kernel) (pa_cons (pe_dget hu (pv 4) (pv 3) (fun _ _ => rfl)) pa_nil)) pa_nil))))) pa_nil))))))), ?_⟩
    have hNk : (regs.map (Sum.inr : Str → Key)).Nodup := List.Pairwise.map Sum.inr (fun a b h q => h (Sum.inr.inj q)) hN
    have hll : (regs.map V.str).length = regs.length := List.length_map _
    have at_str : ∀ {i : Nat} {x : V}, (regs.map V.str)[i]? = some x → ∃ n, regs[i]? = some n ∧ x = .str n ∧ n ∈ regs := fun {i x} h => by
      rw [List.getElem?_map] at h
      cases hr : regs[i]? with
      | none => rw [hr] at h; cases h
      | some n =>
        rw [hr] at h
        exact ⟨n, rfl, (Option.some.inj h).symm, List.mem_of_getElem? hr⟩
    -- rows = dict([(name, []) ..])
    refine q_new (new_dictP (K := K) hNk (Q := fun _ v H => ∃ l, v = .ref l ∧ H l = some (.lst [])) (fun i v H H' e ⟨l, a, b⟩ => ⟨l, a, e _ _ b⟩) ((new_lcD (src_list (K := K) (ev_var rfl) (sq_of hra)) (by omega) (fun x => rfl)
      (fun D i x H => ∃ n b l, regs[i]? = some n ∧ x = .ref b ∧ H b = some (.tup [.str n, .ref l]) ∧ H l = some (.lst []) ∧ l ≠ D) (fun D i x H H' e ⟨n, b, l, h1, h2, h3, h4, h5⟩ => ⟨n, b, l, h1, h2, e _ _ h3, e _ _ h4, h5⟩)
      (fun D i x H l l' hD ⟨n, b, l0, h1, h2, h3, h4, h5⟩ => ⟨n, b, l0, h1, h2, by rw [upd_ne (show b ≠ D from fun z => by subst z; rw [h3] at hD; cases hD)]; exact h3, by rw [upd_ne h5]; exact h4, h5⟩) ?_).imp fun o H2 _ ⟨D, xs, h1, h2, h3⟩ => ⟨xs, h1, by rw [h2, hll, List.length_map], fun i x hx kk hk => ?_⟩)) fun rd o H1 hrd e1 h1 ⟨kvs, n1, hk, hv⟩ => ?_
    · intro D l0 i x H' e hDl hD0 hi hx
      obtain ⟨n, hn, rfl, _⟩ := at_str hx
      have eL : EvP (tLst tNil) [some (.ref d), some (.ref ra), some (.ref sa), some (.str n), none, none, none] H' (fun v H => ∃ l, v = .ref l ∧ H l = some (.lst []) ∧ l ≠ D) := fun H2 e2 Q q => (el_lst ea_nil (Nat.zero_le _)) H2 (Ex.refl H2) _ fun l H4 hl e4 h4 => q (.ref l) H4 e4 ⟨l, rfl, h4, fun z => by
        subst z
        rw [e2 _ _ hDl] at hl
        cases hl⟩
      exact ((new_tup (pa1 (P := fun v _ => v = .str n) (fun _ _ _ _ h => h) (EvP.of (ev_var rfl)) (pa1 (Pr := fun vs _ => vs = []) (fun v H H' e ⟨l, h1, h2, h3⟩ => ⟨l, h1, e _ _ h2, h3⟩) eL pa0)) (fun vs H2 ⟨v, r, h1, h2, v', r', h3, h4, h5⟩ => by rw [h1, h3, h5]; show 2 ≤ 1000; decide)
        (fun vs H H' e ⟨v, r, h1, h2, v', r', h3, ⟨l, h4, h6, h7⟩, h5⟩ => ⟨v, r, h1, h2, v', r', h3, ⟨l, h4, e _ _ h6, h7⟩, h5⟩)).evP).imp fun v H2 _ ⟨b, o, h1, h2, vs, h3, v1, r1, h4, h5, v2, r2, h6, ⟨l, h7, h8, h9⟩, h10⟩ => ⟨n, b, l, hn, h1, by rw [h2, h3, h4, h5, h6, h7, h10], h8, h9⟩
    · obtain ⟨n, b, l, g1, g2, g3, g4, _⟩ := h3 i x hx
      rw [List.getElem?_map, g1] at hk
      cases hk
      exact ⟨b, _, g2, g3, l, rfl, g4⟩
    subst n1
    have R0 : RwL regs ("" :: "" :: signs) 0 (fun y => y) (regs.take 0) H1 rd := ⟨kvs, h1, hk, fun n v m => by
      obtain ⟨i, hi⟩ := List.mem_iff_getElem?.mp m
      obtain ⟨l, rfl, hl⟩ := hv i _ hi
      exact ⟨l, [], [], rfl, hl, ItsAt.nil, nil_okD, List.nodup_nil, fun m hm => by cases hm⟩⟩
    have nRd : ∀ {x : Addr} {o : HO}, H x = some o → x ≠ rd := fun h z => by
      subst z
      rw [hrd] at h
      cases h
    -- the invariant of both loops
    let Iv : Nat → Hp → Prop := fun m H' => Ex H H' ∧ ∃ tg, RwL regs ("" :: "" :: signs) m tg (regs.take m) H' rd
    have tkS : ∀ (m : Nat) (y : Str), y ∈ regs.take m → y ∈ regs.take (m + 1) := fun m y hy => by
      rw [List.take_succ]
      exact List.mem_append_left _ hy
    have tkN : ∀ {m : Nat} {y : Str}, regs[m]? = some y → y ∉ regs.take m ∧ y ∈ regs.take (m + 1) := fun {m y} hy => by
      constructor
      · intro z
        obtain ⟨j, hj⟩ := List.mem_iff_getElem?.mp z
        have hjm : j < m := by
          have := (List.getElem?_eq_some_iff.mp hj).1
          rw [List.length_take] at this
          omega
        rw [List.getElem?_take_of_lt hjm] at hj
        have := nodup_ix' hN hj hy
        omega
      · rw [List.take_succ, hy]
        exact List.mem_append_right _ (List.mem_singleton.mpr rfl)
    have turn : ∀ {m : Nat} {H2 H3 : Hp} {l : Addr} {kvs : List (Key × V)} {n nm : Str} {tg : Str → Str} {xs : List V} {row : List Itm}, Ex H H2 → H2 rd = some (.dK kvs) → kvs.map (·.1) = regs.map Sum.inr → (∀ n v, (Sum.inr n, v) ∈ kvs → ∃ a xs row, v = .ref a ∧ H2 a = some (.lst xs) ∧ ItsAt H2 xs row ∧ RowOkD regs ("" :: "" :: signs) m row ∧ RowL tg (regs.take m) n row) → Ex H2 H3 → regs[m]? = some nm → n ∈ regs → H3 l = some (.lst xs) → ItsAt H3 xs row → RowOkD regs ("" :: "" :: signs) (m + 1) row → RowL (tgP tg nm n) (regs.take (m + 1)) n row →
        Iv (m + 1) (upd H3 rd (.dK (putK kvs (.inr n) (.ref l)))) := fun {m H2 H3 l kvs n nm tg xs row} I hk1 hk2 hk3 e hnm hn hl hx hrow hrl => ⟨Ex.mut (I.trans e) hrd, tgP tg nm n, RwL.put (e _ _ hk1) hk2 (fun m' v _ hm => by
      obtain ⟨a, ys, row', q1, q2, q3, q4, q5⟩ := hk3 m' v hm
      exact ⟨a, ys, row', q1, e _ _ q2, q3.le (Le.ex e), q4.up (Nat.le_succ _), q5.other (tkS m) (tkN hnm).1⟩) hn hl hx ⟨hrow, hrl⟩⟩
    refine q_forL (K := K) (ev_var rfl) (sq_of (e1 _ _ hra)) (fun i σ' H' => Iv i H' ∧ ∃ v3 v5, σ' = [some (.ref d), some (.ref ra), some (.ref sa), v3, some (.ref rd), v5, none]) (fun H2 e2 => ⟨⟨e1.trans e2, _, R0.ex e2⟩, none, none, rfl⟩) (fun i σ' H' _ h => sq_of (h.1.1 _ _ hra)) ?_ ?_
    · rintro i x σ' H' hx ⟨I, v3, v5, rfl⟩
      obtain ⟨n, hn, rfl, hnr⟩ := at_str hx
      have hDr := hD.ex I.1
      refine s_ifA (eta_I (g := fun i j => decide (j < i)) (ep_nextI (ev_var rfl) ev_c hDr (by decide)) ev_c) (fun H2 e2 => ?_) (fun H2 e2 => ⟨⟨I.1.trans e2, I.2.imp fun tg h => (h.ex e2).up (Nat.le_succ _) (tkS _)⟩, some (.str n), v5, rfl⟩)
      have I2 : Iv i H2 := ⟨I.1.trans e2, I.2.imp fun tg h => h.ex e2⟩
      refine q_asgP (Pv := fun v _ => ∃ t, v = .str t ∧ t ∈ regs) (ep_ifA (eta_I (g := fun i j => decide (j < i)) (ep_nextI (ev_var rfl) ev_c (hD.ex I2.1) (by decide)) ev_c) ((EvP.of (ev_var rfl)).imp fun v _ _ hv => ⟨n, hv, hnr⟩) ((ep_pick (K := K) (xs := regs.map V.str) (ev_var rfl) ((EvP.of (ev_var (v := .ref ra) rfl)).imp fun v H3 e3 hv => ⟨ra, hv, sq_of (e3 _ _ (I2.1 _ _ hra))⟩) (hD.ex I2.1) (by intro z; rw [List.map_eq_nil_iff.mp z] at hnr; cases hnr)).imp fun v _ _ hv => ?_)) fun v H3 e3 p => ?_
      · obtain ⟨t, ht, rfl⟩ := List.mem_map.mp hv
        exact ⟨t, rfl, ht⟩
      · obtain ⟨t, rfl, ht⟩ := p
        have I3 : Iv i H3 := ⟨I2.1.trans e3, I2.2.imp fun tg h => h.ex e3⟩
        obtain ⟨tg, kv3, g1, g2, g3⟩ := id I3.2
        obtain ⟨v0, hv0, hm0⟩ := valV_key (kvs := kv3) (k := .inr t) (by rw [g2]; exact List.mem_map_of_mem ht)
        obtain ⟨a0, xs0, row0, rfl, q2, q3, q4, q4L⟩ := g3 t v0 hm0
        have hget : ∀ H4, Ex H3 H4 → EvP (tDGet (tVar 4) (tVar 5)) [some (.ref d), some (.ref ra), some (.ref sa), some (.str n), some (.ref rd), some (.str t), none] H4 (fun v H2 => ∃ a xs, v = .ref a ∧ H2 a = some (.lst xs) ∧ (ItsAt H2 xs row0 ∧ xs.length = row0.length)) := fun H4 e4 => (EvP.of (ev_get (ev_var rfl) (ev_var rfl) (k := .inr t) rfl (.inl (e4 _ _ g1)) hv0)).imp fun v H5 e5 hv => ⟨a0, xs0, hv, (e4.trans e5) _ _ q2, q3.le (Le.ex (e4.trans e5)), q3.1⟩
        have hone : ∀ H4, Ex H3 H4 → EvP (tLst (tCons (tTup (tCons (tVar 3) tNil)) tNil)) [some (.ref d), some (.ref ra), some (.ref sa), some (.str n), some (.ref rd), some (.str t), none] H4 (fun v H2 => ∃ a xs, v = .ref a ∧ H2 a = some (.lst xs) ∧ (ItsAt H2 xs [.r n] ∧ xs.length = 1)) := fun H4 e4 => (new_one rfl).imp fun v H5 _ ⟨a, xs, h1, h2, h3⟩ => ⟨a, xs, h1, h2, h3, h3.1⟩
        have hr0 : row0.length ≤ 1000 := Nat.le_trans q4.1 (by
          have : i < regs.length := (List.getElem?_eq_some_iff.mp hn).1
          omega)
        have stab : ∀ (row : List Itm) (m : Nat) (xs : List V) (H H' : Hp), Ex H H' → (ItsAt H xs row ∧ xs.length = m) → (ItsAt H' xs row ∧ xs.length = m) := fun row m xs H H' e h => ⟨h.1.le (Le.ex e), h.2⟩
        refine s_dput (Pv := fun v H => ∃ l xs row, v = .ref l ∧ H l = some (.lst xs) ∧ ItsAt H xs row ∧ RowOkD regs ("" :: "" :: signs) (i + 1) row ∧ RowL (tgP tg n t) (regs.take (i + 1)) t row) g1 ((New.evP (new_ifA (N := fun o H => ∃ xs row, o = .lst xs ∧ ItsAt H xs row ∧ RowOkD regs ("" :: "" :: signs) (i + 1) row ∧ RowL (tgP tg n t) (regs.take (i + 1)) t row) (eta_E (ep_nextI (ev_var rfl) ev_c (hD.ex I3.1) (by decide)) ev_c)
          ((new_cat (Pa := fun xs H => ItsAt H xs row0 ∧ xs.length = row0.length) (Pb := fun xs H => ItsAt H xs [.r n] ∧ xs.length = 1) (hget H3 (Ex.refl H3)) hone (stab _ _) (stab _ _) (fun xs ys _ _ h1 h2 => by omega)).imp fun o H4 _ ⟨xs, ys, h1, h2, h3⟩ => ⟨_, _, h1, h2.1.append h3.1, q4.app (one_r hnr), q4L.here (tkS i) (tkN hn).1 (tkN hn).2 (.inl rfl)⟩)
          ((new_cat (Pa := fun xs H => ItsAt H xs [.r n] ∧ xs.length = 1) (Pb := fun xs H => ItsAt H xs row0 ∧ xs.length = row0.length) (hone H3 (Ex.refl H3)) hget (stab _ _) (stab _ _) (fun xs ys _ _ h1 h2 => by omega)).imp fun o H4 _ ⟨xs, ys, h1, h2, h3⟩ => ⟨_, _, h1, h2.1.append h3.1, ((one_r hnr).app q4).up (by omega), q4L.here (tkS i) (tkN hn).1 (tkN hn).2 (.inr rfl)⟩))).imp fun v H4 _ ⟨p, o, h1, h2, xs, row, h3, h4, h5⟩ => ⟨p, xs, row, h1, by rw [h2, h3], h4, h5⟩)
          (ev_var rfl) (ev_var rfl) (k := .inr t) rfl (by
            have := congrArg List.length g2
            rw [List.length_map, List.length_map] at this
            omega) (fun v H4 e4 ⟨l, xs, row, q1, q2, q3, q5⟩ _ => ?_) (fun v H H' e ⟨l, xs, row, h1, h2, h3, h4⟩ => ⟨l, xs, row, h1, e _ _ h2, h3.le (Le.ex e), h4⟩)
        subst q1
        exact ⟨turn I3.1 g1 g2 g3 e4 hn ht q2 q3 q5.1 q5.2, some (.str n), some (.str t), rfl⟩
    · rintro σ' H' ⟨I, v3, v5, rfl⟩
      rw [hll] at I
      obtain ⟨tg, I2⟩ := I.2
      rw [List.take_of_length_le (Nat.le_refl _)] at I2
      -- the second loop: a row is as long as names and one more where its text is in
      refine q_forL (K := K) (ev_var rfl) (sq_of (I.1 _ _ hra)) (fun i σ' H' => (Ex H H' ∧ ∃ kvs : List (Key × V), H' rd = some (.dK kvs) ∧ kvs.map (·.1) = regs.map Sum.inr ∧ ∀ n v, (Sum.inr n, v) ∈ kvs → ∃ a xs row, v = .ref a ∧ H' a = some (.lst xs) ∧ ItsAt H' xs row ∧ RowOkD regs ("" :: "" :: signs) (regs.length + 1) row ∧ ((∃ j, i ≤ j ∧ regs[j]? = some n) → row.length ≤ regs.length) ∧ RowL tg regs n row) ∧ ∃ v3 v6, σ' = [some (.ref d), some (.ref ra), some (.ref sa), v3, some (.ref rd), v5, v6]) (fun H2 e2 => ?_) (fun i σ' H' _ h => sq_of (h.1.1 _ _ hra)) ?_ ?_
      · refine ⟨⟨I.1.trans e2, ?_⟩, v3, none, rfl⟩
        obtain ⟨kv, g1, g2, g3⟩ := I2.ex e2
        refine ⟨kv, g1, g2, fun n v m => ?_⟩
        obtain ⟨a, xs, row, q1, q2, q3, q4, q5⟩ := g3 n v m
        exact ⟨a, xs, row, q1, q2, q3, q4.up (Nat.le_succ _), fun _ => q4.1, q5⟩
      · rintro i x σ' H2 hx ⟨⟨ex, kv, g1, g2, g3⟩, v3, v6, rfl⟩
        obtain ⟨n, hn, rfl, hnr⟩ := at_str hx
        refine q_asgP (Pv := fun v _ => ∃ t, v = .str t ∧ t ∈ (("" : Str) :: "" :: signs)) ((ep_pick (K := K) (xs := (("" : Str) :: "" :: signs).map V.str) (ev_var rfl) (((New.evP (new_cat (Pa := fun xs _ => xs = [.str "", .str ""]) (Pb := fun xs _ => xs = signs.map V.str) (((New.ofL (el_lst (ea_cons ev_c (ea_cons ev_c ea_nil)) (by show 2 ≤ 100000; decide))).evP).imp fun v H3 _ ⟨p, o, h1, h2, h3⟩ => ⟨p, _, h1, by rw [h2, h3], rfl⟩) (fun H3 e3 => (EvP.of (ev_var rfl)).imp fun v H4 e4 hv => ⟨sa, _, hv, ((ex.trans e3).trans e4) _ _ hsa, rfl⟩) (fun _ _ _ _ h => h) (fun _ _ _ _ h => h) (fun xs ys _ _ h1 h2 => by rw [h1, h2, List.length_map]; show 2 + signs.length ≤ 100000; omega)))).imp fun v H3 _ ⟨p, o, h1, h2, xs, ys, h3, h4, h5⟩ => ⟨p, h1, sq_of (by rw [h2, h3, h4, h5]; rfl)⟩) (hD.ex ex) (by intro z; cases z)).imp fun v _ _ hv => ?_) fun v H3 e3 p => ?_
        · obtain ⟨t, ht, rfl⟩ := List.mem_map.mp hv
          exact ⟨t, rfl, ht⟩
        · obtain ⟨t, rfl, ht⟩ := p
          have ex3 := ex.trans e3
          obtain ⟨v0, hv0, hm0⟩ := valV_key (kvs := kv) (k := .inr n) (by rw [g2]; exact List.mem_map_of_mem hnr)
          obtain ⟨a0, xs0, row0, rfl, q2, q3, q4, q5, q6⟩ := g3 n v0 hm0
          have hlen0 := q5 ⟨i, Nat.le_refl _, hn⟩
          have hget : ∀ H4, Ex H3 H4 → EvP (tDGet (tVar 4) (tVar 3)) [some (.ref d), some (.ref ra), some (.ref sa), some (.str n), some (.ref rd), v5, some (.str t)] H4 (fun v H2 => ∃ a xs, v = .ref a ∧ H2 a = some (.lst xs) ∧ (ItsAt H2 xs row0 ∧ xs.length = row0.length)) := fun H4 e4 => (EvP.of (ev_get (ev_var rfl) (ev_var rfl) (k := .inr n) rfl (.inl ((e3.trans e4) _ _ g1)) hv0)).imp fun v H5 e5 hv => ⟨a0, xs0, hv, ((e3.trans e4).trans e5) _ _ q2, q3.le (Le.ex ((e3.trans e4).trans e5)), q3.1⟩
          have hone : ∀ H4, Ex H3 H4 → EvP (tLst (tCons (tVar 6) tNil)) [some (.ref d), some (.ref ra), some (.ref sa), some (.str n), some (.ref rd), v5, some (.str t)] H4 (fun v H2 => ∃ a xs, v = .ref a ∧ H2 a = some (.lst xs) ∧ (ItsAt H2 xs [.t t] ∧ xs.length = 1)) := fun H4 e4 => (new_oneT rfl).imp fun v H5 _ ⟨a, xs, h1, h2, h3⟩ => ⟨a, xs, h1, h2, h3, h3.1⟩
          have stab : ∀ (row : List Itm) (m : Nat) (xs : List V) (H H' : Hp), Ex H H' → (ItsAt H xs row ∧ xs.length = m) → (ItsAt H' xs row ∧ xs.length = m) := fun row m xs H H' e h => ⟨h.1.le (Le.ex e), h.2⟩
          have q4' : RowOkD regs ("" :: "" :: signs) regs.length row0 := ⟨hlen0, q4.2⟩
          refine s_dput (Pv := fun v H => ∃ l xs row, v = .ref l ∧ H l = some (.lst xs) ∧ ItsAt H xs row ∧ RowOkD regs ("" :: "" :: signs) (regs.length + 1) row ∧ RowL tg regs n row) (e3 _ _ g1) ((New.evP (new_ifA (N := fun o H => ∃ xs row, o = .lst xs ∧ ItsAt H xs row ∧ RowOkD regs ("" :: "" :: signs) (regs.length + 1) row ∧ RowL tg regs n row) (eta_E (ep_nextI (ev_var rfl) ev_c (hD.ex ex3) (by decide)) ev_c)
            ((new_cat (Pa := fun xs H => ItsAt H xs [.t t] ∧ xs.length = 1) (Pb := fun xs H => ItsAt H xs row0 ∧ xs.length = row0.length) (hone H3 (Ex.refl H3)) hget (stab _ _) (stab _ _) (fun xs ys _ _ h1 h2 => by omega)).imp fun o H4 _ ⟨xs, ys, h1, h2, h3⟩ => ⟨_, _, h1, h2.1.append h3.1, ((one_t ht).app q4').up (by omega), q6.text (.inr rfl)⟩)
            ((new_cat (Pa := fun xs H => ItsAt H xs row0 ∧ xs.length = row0.length) (Pb := fun xs H => ItsAt H xs [.t t] ∧ xs.length = 1) (hget H3 (Ex.refl H3)) hone (stab _ _) (stab _ _) (fun xs ys _ _ h1 h2 => by omega)).imp fun o H4 _ ⟨xs, ys, h1, h2, h3⟩ => ⟨_, _, h1, h2.1.append h3.1, q4'.app (one_t ht), q6.text (.inl rfl)⟩))).imp fun v H4 _ ⟨p, o, h1, h2, xs, row, h3, h4, h5⟩ => ⟨p, xs, row, h1, by rw [h2, h3], h4, h5⟩)
            (ev_var rfl) (ev_var rfl) (k := .inr n) rfl (by
              have := congrArg List.length g2
              rw [List.length_map, List.length_map] at this
              omega) (fun v H4 e4 ⟨l, xs, row, q1, q2', q3', q5'⟩ _ => ?_) (fun v H H' e ⟨l, xs, row, h1, h2, h3, h4⟩ => ⟨l, xs, row, h1, e _ _ h2, h3.le (Le.ex e), h4⟩)
          subst q1
          have e34 := e3.trans e4
          have hg := e34 _ _ g1
          have ne : ∀ {b : Addr} {ys : List V}, H4 b = some (.lst ys) → b ≠ rd := fun hb z => by
            subst z
            rw [hb] at hg
            cases hg
          have hmn : (Sum.inr n : Key) ∈ kv.map (·.1) := by rw [g2]; exact List.mem_map_of_mem hnr
          refine ⟨⟨Ex.mut (ex3.trans e4) hrd, _, upd_same, by rw [putK_keys hmn, g2], fun m v hmv => ?_⟩, some (.str n), some (.str t), rfl⟩
          rcases putK_mem hmn hmv with ⟨z1, rfl⟩ | ⟨z1, z2⟩
          · cases z1
            refine ⟨l, xs, row, rfl, by rw [upd_ne (ne q2')]; exact q2', q3'.upK hg, q5'.1, fun ⟨j, hj, hjr⟩ => ?_, q5'.2⟩
            have := nodup_ix' hN hjr hn
            omega
          · obtain ⟨b, ys, row', r1, r2, r3, r4, r5, r6⟩ := g3 m v z2
            exact ⟨b, ys, row', r1, by rw [upd_ne (ne (e34 _ _ r2))]; exact e34 _ _ r2, (r3.le (Le.ex e34)).upK hg, r4, fun ⟨j, hj, hjr⟩ => r5 ⟨j, by omega, hjr⟩, r6⟩
      · rintro σ' H2 ⟨⟨ex, kv, g1, g2, g3⟩, v3, v6, rfl⟩
        have hkn : (kv.map (·.1)).Nodup := by rw [g2]; exact hNk
        obtain ⟨R, hR⟩ := rows_funN (kvs := kv) hkn (Q := fun n v row => ∃ a xs, v = .ref a ∧ H2 a = some (.lst xs) ∧ ItsAt H2 xs row ∧ RowOkD regs ("" :: "" :: signs) (regs.length + 1) row ∧ RowL tg regs n row) fun n v m => by
          obtain ⟨a, xs, row, q1, q2, q3, q4, _, q6⟩ := g3 n v m
          exact ⟨row, a, xs, q1, q2, q3, q4, q6⟩
        have hRR : ∀ n ∈ regs, RowOkD regs ("" :: "" :: signs) (regs.length + 1) (R n) ∧ RowL tg regs n (R n) := fun n hn => by
          obtain ⟨v0, hv0, hm0⟩ := valV_key (kvs := kv) (k := .inr n) (by rw [g2]; exact List.mem_map_of_mem hn)
          obtain ⟨a0, xs0, _, _, _, q4⟩ := hR n v0 hm0
          exact q4
        refine s_retN (new_dictP (K := K) hNk (Q := fun i v H => ∀ n, regs[i]? = some n → ∃ a, v = .ref a ∧ RowAt H a (R n)) (fun i v H H' e h n hn => (h n hn).imp fun a ⟨h1, h2⟩ => ⟨h1, h2.le (Le.ex e)⟩) ((new_lc (src_list (K := K) (ev_var rfl) (sq_of (ex _ _ hra))) (by omega) (fun x => rfl)
          (fun i x H => ∃ n b a, regs[i]? = some n ∧ x = .ref b ∧ H b = some (.tup [.str n, .ref a]) ∧ RowAt H a (R n)) (fun i x => stab_ex fun n => stab_ex fun b => stab_ex fun a => stab_and stab_pure (stab_and stab_pure (stab_and (stab_at rfl rfl) (stab_row (fun _ => rfl))))) ?_).imp fun o H3 _ ⟨xs, h1, h2, h3⟩ => ⟨xs, h1, by rw [h2, hll, List.length_map], fun i x hx kk hk => ?_⟩)) fun r o H3 hr3 e3 h3 ⟨l, n3, hk3, hv3⟩ => ?_
        · intro i x H' e hi hx
          obtain ⟨n, hn, rfl, hnr⟩ := at_str hx
          obtain ⟨v0, hv0, hm0⟩ := valV_key (kvs := kv) (k := .inr n) (by rw [g2]; exact List.mem_map_of_mem hnr)
          obtain ⟨a0, xs0, rfl, q2, q3, q4⟩ := hR n v0 hm0
          have eT : EvP (tCB (rTupOf K) (tCons (tDGet (tVar 4) (tVar 3)) tNil)) [some (.ref d), some (.ref ra), some (.ref sa), some (.str n), some (.ref rd), v5, v6] H' (fun v H2 => ∃ c, v = .ref c ∧ RowAt H2 c (R n)) :=
            (ep_tupL (Pv := fun xs H => ItsAt H xs (R n)) ((EvP.of (ev_get (v := .ref a0) (ev_var rfl) (ev_var rfl) (k := .inr n) rfl (.inl (e _ _ g1)) hv0)).imp fun v H5 e5 hv => ⟨a0, xs0, hv, (e.trans e5) _ _ q2, q3.le (Le.ex (e.trans e5))⟩) (fun _ _ _ e h => h.le (Le.ex e))).imp fun v H2 _ ⟨c, xs, h1, h2, h3⟩ => ⟨c, h1, xs, h2, h3⟩
          exact ((new_tup (pa1 (P := fun v _ => v = .str n) (fun _ _ _ _ h => h) (EvP.of (ev_var rfl)) (pa1 (Pr := fun vs _ => vs = []) (fun v H H' e ⟨l, h1, h2⟩ => ⟨l, h1, h2.le (Le.ex e)⟩) eT pa0)) (fun vs H2 ⟨v, r, h1, h2, v', r', h3, h4, h5⟩ => by rw [h1, h3, h5]; show 2 ≤ 1000; decide)
            (fun vs H H' e ⟨v, r, h1, h2, v', r', h3, ⟨l, h4, h6⟩, h5⟩ => ⟨v, r, h1, h2, v', r', h3, ⟨l, h4, h6.le (Le.ex e)⟩, h5⟩)).evP).imp fun v H2 _ ⟨b, o, h1, h2, vs, h3, v1, r1, h4, h5, v2, r2, h6, ⟨l, h7, h8⟩, h10⟩ => ⟨n, b, l, hn, h1, by rw [h2, h3, h4, h5, h6, h7, h10], h8⟩
        · obtain ⟨n, b, a, g4, g5, g6, g7⟩ := h3 i x hx
          rw [List.getElem?_map, g4] at hk
          cases hk
          exact ⟨b, _, g5, g6, fun m hm => by
            rw [g4] at hm
            cases hm
            exact ⟨a, rfl, g7⟩⟩
        · subst n3
          refine k _ H3 (ex.trans e3) ⟨r, R, rfl, ⟨l, h3, hk3, fun n v m => ?_⟩, ⟨fun n hn => (hRR n hn).1, tg, fun n hn => ⟨(hRR n hn).2.1, fun m hm => ((hRR n hn).2.2 m hm).1⟩⟩, fun z => by
            subst z
            rw [ex _ _ hza] at hr3
            cases hr3⟩
          · obtain ⟨i, hi⟩ := List.mem_iff_getElem?.mp m
            have h2 := congrArg (fun z : List Key => z[i]?) hk3
            simp only [List.getElem?_map, hi, Option.map_some] at h2
            cases hr : regs[i]? with
            | none => rw [hr] at h2; cases h2
            | some m' =>
              rw [hr] at h2
              have : (Sum.inr n : Key) = Sum.inr m' := Option.some.inj h2
              cases this
              exact hv3 i _ hi n hr
theorem ok_law_end (F : Fun K "_law_end" "_law_end" s_law_end f fd) (Z : Zs mg C) (G_law_next : Has P w K mg base "_law_next" 3 ["draw", "bound"] (sp_law_next K)) (G_law_pick : Has P w K mg base "_law_pick" 4 ["draw", "things"] (sp_law_pick K)) :
    FnOk P w K mg base CX0 5 f fd ["draw", "registers", "signs"] (sp_law_end K) := by
  refine F.ok sc_law_end (fun vs H Q E h => ?_) (fun cdv A outer s H vs Q E hr h => ?_)
  · obtain ⟨i, ⟨rfl, _⟩, _⟩ := h
    rfl
  · obtain ⟨⟨d, ra, sa, regs, signs⟩, ⟨rfl, hD, hra, hsa, h10, hs10, hN⟩, k⟩ := h
    dsimp only at hD hra hsa h10 hs10 hN
    have k : ∀ v H', Ex H H' → (∃ a row, v = .ref a ∧ RowAt H' a row ∧ RowOkE regs ("" :: "" :: signs) (regs.length + 1) row) → Q v H' := k
    refine ⟨_, (pss_cons (ps_set (i := 3) sc_law_end.nd rfl (Or.inl rfl) (pe_lst pa_nil)) 
    (pss_cons (ps_for PassesOwn.never rfl (pi_list (pv 1)) (pg_name (i := 4) sc_law_end.nd rfl (Or.inl rfl)) 
     (pss_one (ps_if (pt_cmpR op_gt (pe_use G_law_next (hr.mono (by decide)) (pa_cons (pv 0) (pa_cons pe_int pa_nil))) pe_int (nomark _)) 
      (pss_one (ps_set (i := 3) sc_law_end.nd rfl (Or.inl rfl) (pe_ifExp (pt_cmpR op_eq (pe_use G_law_next (hr.mono (by decide)) (pa_cons (pv 0) (pa_cons pe_int pa_nil))) pe_int (nomark _)) (pe_op op_cat (pv 3) (pe_lst (pa_cons (pe_tup (pa_cons (pv 4) pa_nil)) pa_nil))) (pe_op op_cat (pe_lst (pa_cons (pe_tup (pa_cons (pv 4) pa_nil)) pa_nil)) (pv 3))))) pss_nil))) 
    (pss_one (ps_ret (pe_callTy (cTup (K := K)) (by rfl) Z.z_tuple (by decide +kernel) (pa_cons (pe_op op_cat (pv 3) (pe_lst (pa_cons (pe_use G_law_pick (hr.mono (by decide)) (pa_cons (pv 0) (pa_cons (pe_op op_cat (pe_lst (pa_cons pe_str (pa_cons pe_str pa_nil))) (pv 2)) pa_nil))) pa_nil))) pa_nil)))))), ?_⟩
    have hll : (regs.map V.str).length = regs.length := List.length_map _
    have at_str : ∀ {i : Nat} {x : V}, (regs.map V.str)[i]? = some x → ∃ n, regs[i]? = some n ∧ x = .str n ∧ n ∈ regs := fun {i x} h => by
      rw [List.getElem?_map] at h
      cases hr : regs[i]? with
      | none => rw [hr] at h; cases h
      | some n =>
        rw [hr] at h
        exact ⟨n, rfl, (Option.some.inj h).symm, List.mem_of_getElem? hr⟩
    have stab : ∀ (row : List Itm) (m : Nat) (xs : List V) (H H' : Hp), Ex H H' → (ItsAt H xs row ∧ xs.length = m) → (ItsAt H' xs row ∧ xs.length = m) := fun row m xs H H' e h => ⟨h.1.le (Le.ex e), h.2⟩
    refine q_asgL (el_lst ea_nil (Nat.zero_le _)) fun l H1 hl e1 h1 => ?_
    refine q_forL (K := K) (ev_var rfl) (sq_of (e1 _ _ hra)) (fun i σ' H' => Ex H H' ∧ ∃ l xs row v4, σ' = [some (.ref d), some (.ref ra), some (.ref sa), some (.ref l), v4] ∧ H' l = some (.lst xs) ∧ ItsAt H' xs row ∧ RowOkD regs ("" :: "" :: signs) i row ∧ EndL regs i row) (fun H2 e2 => ⟨e1.trans e2, l, [], [], none, rfl, e2 _ _ h1, ItsAt.nil, nil_okD, EndL.nil⟩) (fun i σ' H' _ h => sq_of (h.1 _ _ hra)) ?_ ?_
    · rintro i x σ' H' hx ⟨ex, l, xs, row, v4, rfl, hl, hI, hO, hE⟩
      obtain ⟨n, hn, rfl, hnr⟩ := at_str hx
      have hi : i < regs.length := (List.getElem?_eq_some_iff.mp hn).1
      have hrow := hO.1
      refine s_ifA (eta_I (g := fun i j => decide (j < i)) (ep_nextI (ev_var rfl) ev_c (hD.ex ex) (by decide)) ev_c) (fun H2 e2 => ?_) (fun H2 e2 => ⟨ex.trans e2, l, xs, row, some (.str n), rfl, e2 _ _ hl, hI.le (Le.ex e2), hO.up (Nat.le_succ _), hE.up⟩)
      have hl2 := e2 _ _ hl
      have hI2 := hI.le (Le.ex e2)
      have hget : ∀ H4, Ex H2 H4 → EvP (tVar 3) [some (.ref d), some (.ref ra), some (.ref sa), some (.ref l), some (.str n)] H4 (fun v H2 => ∃ a xs, v = .ref a ∧ H2 a = some (.lst xs) ∧ (ItsAt H2 xs row ∧ xs.length = row.length)) := fun H4 e4 => (EvP.of (ev_var rfl)).imp fun v H5 e5 hv => ⟨l, xs, hv, (e4.trans e5) _ _ hl2, hI2.le (Le.ex (e4.trans e5)), hI2.1⟩
      have hone : ∀ H4, Ex H2 H4 → EvP (tLst (tCons (tTup (tCons (tVar 4) tNil)) tNil)) [some (.ref d), some (.ref ra), some (.ref sa), some (.ref l), some (.str n)] H4 (fun v H2 => ∃ a xs, v = .ref a ∧ H2 a = some (.lst xs) ∧ (ItsAt H2 xs [.r n] ∧ xs.length = 1)) := fun H4 e4 => (new_one rfl).imp fun v H5 _ ⟨a, xs, h1, h2, h3⟩ => ⟨a, xs, h1, h2, h3, h3.1⟩
      refine s_new (new_ifA (N := fun o H => ∃ xs row, o = .lst xs ∧ ItsAt H xs row ∧ RowOkD regs ("" :: "" :: signs) (i + 1) row ∧ EndL regs (i + 1) row) (eta_E (ep_nextI (ev_var rfl) ev_c (hD.ex (ex.trans e2)) (by decide)) ev_c)
        ((new_cat (Pa := fun xs H => ItsAt H xs row ∧ xs.length = row.length) (Pb := fun xs H => ItsAt H xs [.r n] ∧ xs.length = 1) (hget H2 (Ex.refl H2)) hone (stab _ _) (stab _ _) (fun xs ys _ _ h1 h2 => by omega)).imp fun o H4 _ ⟨xs, ys, h1, h2, h3⟩ => ⟨_, _, h1, h2.1.append h3.1, hO.app (one_r hnr), hE.snoc hN hn⟩)
        ((new_cat (Pa := fun xs H => ItsAt H xs [.r n] ∧ xs.length = 1) (Pb := fun xs H => ItsAt H xs row ∧ xs.length = row.length) (hone H2 (Ex.refl H2)) hget (stab _ _) (stab _ _) (fun xs ys _ _ h1 h2 => by omega)).imp fun o H4 _ ⟨xs, ys, h1, h2, h3⟩ => ⟨_, _, h1, h2.1.append h3.1, ((one_r hnr).app hO).up (by omega), hE.cons hN hn⟩)) fun p o H3 _ e3 h3 ⟨ys, row', n3, q1, q2⟩ => ?_
      subst n3
      exact ⟨(ex.trans e2).trans e3, p, ys, row', some (.str n), rfl, h3, q1, q2⟩
    · rintro σ' H' ⟨ex, l, xs, row, v4, rfl, hl, hI, hO, hE⟩
      rw [hll] at hO hE
      have hrow := hO.1
      have eP : ∀ H1, Ex H' H1 → EvP (tCall (sp_law_pick K) [] E0 (tCons (tVar 0) (tCons (tOp rCat (tLst (tCons (tC (.str "")) (tCons (tC (.str "")) tNil))) (tVar 2)) tNil))) [some (.ref d), some (.ref ra), some (.ref sa), some (.ref l), v4] H1 (fun v _ => ∃ t, v = .str t ∧ t ∈ (("" : Str) :: "" :: signs)) := fun H1 e1 =>
        (ep_pick (K := K) (xs := (("" : Str) :: "" :: signs).map V.str) (ev_var rfl) (((New.evP (new_cat (Pa := fun xs _ => xs = [.str "", .str ""]) (Pb := fun xs _ => xs = signs.map V.str) (((New.ofL (el_lst (ea_cons ev_c (ea_cons ev_c ea_nil)) (by show 2 ≤ 100000; decide))).evP).imp fun v H3 _ ⟨p, o, h1, h2, h3⟩ => ⟨p, _, h1, by rw [h2, h3], rfl⟩) (fun H3 e3 => (EvP.of (ev_var rfl)).imp fun v H4 e4 hv => ⟨sa, _, hv, (((ex.trans e1).trans e3).trans e4) _ _ hsa, rfl⟩) (fun _ _ _ _ h => h) (fun _ _ _ _ h => h) (fun xs ys _ _ h1 h2 => by rw [h1, h2, List.length_map]; show 2 + signs.length ≤ 100000; omega)))).imp fun v H3 _ ⟨p, o, h1, h2, xs, ys, h3, h4, h5⟩ => ⟨p, h1, sq_of (by rw [h2, h3, h4, h5]; rfl)⟩) (hD.ex (ex.trans e1)) (by intro z; cases z)).imp fun v _ _ hv => by
          obtain ⟨t, ht, rfl⟩ := List.mem_map.mp hv
          exact ⟨t, rfl, ht⟩
      refine s_retP ((ep_tupL (K := K) (Pv := fun xs H => ∃ row, ItsAt H xs row ∧ RowOkE regs ("" :: "" :: signs) (regs.length + 1) row) (((New.evP (new_cat (Pa := fun xs H => ItsAt H xs row ∧ xs.length = row.length) (Pb := fun xs H => ∃ t, t ∈ (("" : Str) :: "" :: signs) ∧ xs = [.str t]) ((EvP.of (ev_var rfl)).imp fun v H5 e5 hv => ⟨l, xs, hv, e5 _ _ hl, hI.le (Le.ex e5), hI.1⟩)
        (fun H1 e1 => ((New.evP (new_lst (pa1 (Pr := fun vs _ => vs = []) (fun _ _ _ _ h => h) (eP H1 e1) pa0) (fun vs H2 ⟨v, r, h1, h2, h3⟩ => by rw [h1, h3]; show 1 ≤ 1000; decide) (fun vs H H' e h => h)))).imp fun v H2 _ ⟨p, o, h1, h2, vs, h3, v1, r1, h4, ⟨t, h5, h6⟩, h7⟩ => ⟨p, vs, h1, by rw [h2, h3], t, h6, by rw [h4, h5, h7]⟩) (stab _ _) (fun _ _ _ _ h => h) (fun xs ys _ _ h1 ⟨t, _, h2⟩ => by rw [h2]; show xs.length + 1 ≤ 100000; omega)))).imp fun v H2 _ ⟨p, o, h1, h2, xs, ys, h3, h4, t, h5, h6⟩ => ⟨p, xs ++ ys, h1, by rw [h2, h3], row ++ [.t t], h4.1.append (by rw [h6]; exact ItsAt.one rfl), hO.app (one_t h5), by rw [rgs_app]; show (rgs row ++ []).Nodup; rw [List.append_nil]; exact hE.1⟩)
        (fun xs H H' e ⟨row, h1, h2⟩ => ⟨row, h1.le (Le.ex e), h2⟩)).imp (P' := fun v H' => ∃ a row, v = .ref a ∧ RowAt H' a row ∧ RowOkE regs ("" :: "" :: signs) (regs.length + 1) row) fun v H2 _ ⟨c, xs, h1, h2, row, h3, h4⟩ => ⟨c, row, h1, ⟨xs, h2, h3⟩, h4⟩) fun v H2 e2 p => k v H2 (ex.trans e2) p
end
end KX
end
section
set_option Elab.async false
set_option linter.all false
set_option maxRecDepth 100000
set_option maxHeartbeats 8000000
/-! Bs17: a program is drawn. -/
namespace KX
open PySem PySem.Spec PyProof.Rows L2 Evl
theorem key_fun {κ β : Type} [DecidableEq κ] [Inhabited β] {kvs : List (κ × V)} (hn : (kvs.map (·.1)).Nodup) {Q : κ → V → β → Prop} (h : ∀ k v, (k, v) ∈ kvs → ∃ b, Q k v b) : ∃ R : κ → β, ∀ k v, (k, v) ∈ kvs → Q k v (R k) := by
  classical
  refine ⟨fun k => if z : ∃ b, ∀ v, valV kvs k = some v → Q k v b then z.choose else default, fun k v m => ?_⟩
  have z : ∃ b, ∀ v, valV kvs k = some v → Q k v b := by
    obtain ⟨b, hq⟩ := h k v m
    refine ⟨b, fun v' hv' => ?_⟩
    rw [valV_uniq hn m] at hv'
    cases hv'
    exact hq
  show Q k v (if z : ∃ b, ∀ v, valV kvs k = some v → Q k v b then z.choose else default)
  rw [dif_pos z]
  exact z.choose_spec v (valV_uniq hn m)
section
variable {K : PySem.W.Frag} {σ : L2.St} {H : Hp} {ta tb te tl tv td ty : TE} {tz : TS} {D : Ends}
theorem EvPA.imp {tA : TA} {P P' : List V → Hp → Prop} (h : EvPA tA σ H P) (f : ∀ vs H2, Ex H H2 → P vs H2 → P' vs H2) : EvPA tA σ H P' := fun H1 e Q q => h H1 e Q fun vs H2 e2 p => q vs H2 e2 (f vs H2 (e.trans e2) p)
theorem q_par {i j : Nat} {tA : TA} {Pz : V → V → Hp → Prop} (h : EvPA tA σ H (fun vs H => ∃ v w, vs = [v, w] ∧ Pz v w H)) (k : ∀ v w H1, Ex H H1 → Pz v w H1 → tz D ((σ.set i (some v)).set j (some w)) H1) : tSeq (tPar i j tA) tz D σ H :=
  h H (Ex.refl H) _ fun vs H1 e ⟨v, w, ev, p⟩ => ⟨v, w, ev, k v w H1 e p⟩
theorem ep_opI {g : Int → Int → V} {a : Int} {P : Int → Prop} (ha : Ev ta σ H (.int a)) (hb : EvP tb σ H (fun v _ => ∃ r, v = .int r ∧ P r)) : EvP (tOp (rI0 g) ta tb) σ H (fun v _ => ∃ r, v = g a r ∧ P r) := fun H1 e Q q =>
  ha H1 e _ fun H2 e2 => hb H2 (e.trans e2) _ fun v H3 e3 ⟨r, ev, p⟩ => ⟨a, r, rfl, ev, q _ H3 (e2.trans e3) ⟨r, rfl, p⟩⟩
/-- xs[:k], k drawn -/
theorem new_cut {xs : List V} {P : Int → Prop} (hl : EvL tl σ H xs) (hk : ∀ H1, Ex H H1 → EvP te σ H1 (fun v _ => ∃ r, v = .int r ∧ P r)) : New (tSl (rSlL K) tl tNoPart (tPart te)) σ H (fun o _ => ∃ r, P r ∧ o = .lst (cutV xs none (some r))) := fun H1 e Q q =>
  hl H1 e _ fun a H2 _ e2 h2 => hk H2 (e.trans e2) H2 (Ex.refl H2) _ fun v H3 e3 ⟨r, ev, p⟩ => ⟨r, ev, a, xs, rfl, sq_of (e3 _ _ h2), fun p' hp => q p' _ _ (fresh_back (e2.trans e3) hp) ((e2.trans e3).trans (Ex.new hp)) upd_same ⟨r, p, rfl⟩⟩
/-- d[a tuple] = v -/
theorem s_dputT {Pv : V → Hp → Prop} {d : Addr} {kvs : List (List Key × V)} {k : List Key} (hd : H d = some (.dT kvs)) (hv : EvP tv σ H Pv) (ho : ∀ H1, Ex H H1 → Ev td σ H1 (.ref d)) (hy : ∀ H1, Ex H H1 → EvU ty σ H1 (k.map kV)) (hz : kvs.length < 100000)
    (mV : ∀ v H H', Ex H H' → Pv v H → Pv v H') (kk : ∀ v H1, Ex H H1 → Pv v H1 → D.nx σ (upd H1 d (.dT (putK kvs k v)))) : sDPut td ty tv D σ H :=
  hv H (Ex.refl H) _ fun v H1 e1 p => ho H1 e1 H1 (Ex.refl H1) _ fun H2 e2 => hy H2 (e1.trans e2) H2 (Ex.refl H2) _ fun b H3 _ e3 hb => by
    have e := (e1.trans e2).trans e3
    exact ⟨d, _, rfl, DPut.t (e _ _ hd) hb (sz_lt hz), kk v H3 e (mV _ _ _ (e2.trans e3) p)⟩
end
theorem RowsN.updK {regs : List Str} {R : Str → List Itm} {H : Hp} {d D : Addr} {l l' : List (Key × V)} (h : RowsN regs R H d) (hD : H D = some (.dK l)) (ne : d ≠ D) : RowsN regs R (upd H D (.dK l')) d := by
  obtain ⟨kvs, h1, h2, h3⟩ := h
  refine ⟨kvs, by rw [upd_ne ne]; exact h1, h2, fun n v m => ?_⟩
  obtain ⟨a, e1, e2⟩ := h3 n v m
  exact ⟨a, e1, e2.upd hD (fun xs z => by cases z)⟩
/-- a step as drawn -/
def StepD (n : Int) (regs sg : List Str) (ea : Addr) (H : Hp) (v : V) (x : Int × (Str → List Itm)) : Prop := ∃ b r, v = .ref b ∧ H b = some (.tup [.int x.1, .ref r]) ∧ 0 ≤ x.1 ∧ x.1 < n ∧ RowsN regs x.2 H r ∧ RowsLin regs sg x.2 ∧ r ≠ ea
theorem StepD.ex {n : Int} {regs sg : List Str} {ea : Addr} {H H' : Hp} {v : V} {x : Int × (Str → List Itm)} (e : Ex H H') (h : StepD n regs sg ea H v x) : StepD n regs sg ea H' v x := by
  obtain ⟨b, r, h1, h2, h3, h4, h5, h6, h7⟩ := h
  exact ⟨b, r, h1, e _ _ h2, h3, h4, h5.ex e, h6, h7⟩
theorem StepD.updT {n : Int} {regs sg : List Str} {ea D : Addr} {H : Hp} {v : V} {x : Int × (Str → List Itm)} {l l' : List (List Key × V)} (hD : H D = some (.dT l)) (h : StepD n regs sg ea H v x) : StepD n regs sg ea (upd H D (.dT l')) v x := by
  obtain ⟨b, r, h1, h2, h3, h4, h5, h6, h7⟩ := h
  refine ⟨b, r, h1, ?_, h3, h4, stab_rowsN.up _ _ _ _ rfl rfl hD h5, h6, h7⟩
  rw [upd_ne (show b ≠ D from fun z => by
    subst z
    rw [h2] at hD
    cases hD)]
  exact h2
theorem StepD.updK {n : Int} {regs sg : List Str} {ea : Addr} {H : Hp} {v : V} {x : Int × (Str → List Itm)} {l l' : List (Key × V)} (hD : H ea = some (.dK l)) (h : StepD n regs sg ea H v x) : StepD n regs sg ea (upd H ea (.dK l')) v x := by
  obtain ⟨b, r, h1, h2, h3, h4, h5, h6, h7⟩ := h
  refine ⟨b, r, h1, ?_, h3, h4, h5.updK hD h7, h6, h7⟩
  rw [upd_ne (show b ≠ ea from fun z => by
    subst z
    rw [h2] at hD
    cases hD)]
  exact h2
/-- a program as drawn -/
structure DrOk (sg : List Str) (g : Pg) : Prop where
  L : g.L = "ab" ∨ g.L = "b"
  n : g.n = 1 ∨ g.n = 2
  r : g.regs = [("x" : Str)] ∨ g.regs = [("x" : Str), "y"] ∨ g.regs = []
  f : ∀ n ∈ g.regs, g.fst n = "" ∨ g.fst n = "a"
  go : ∀ s c, SL g.L g.n s c → 0 ≤ g.goal s c ∧ g.goal s c < g.n
  ro : ∀ s c, SL g.L g.n s c → ∀ n ∈ g.regs, RowOkD g.regs sg (g.regs.length + 1) (g.row s c n)
  li : ∀ s c, SL g.L g.n s c → Lin g.regs (g.row s c)
  fi : ∀ s row, g.fin s = some row → 0 ≤ s ∧ s < g.n ∧ RowOkE g.regs sg (g.regs.length + 1) row
def Told (H : Hp) (g : Pg) (b : Addr) : Prop := ∃ ra fa sa ea, H b = some (.tup [.str g.L, .int g.n, .ref ra, .ref fa, .ref sa, .ref ea]) ∧ PgD H g ra fa sa ea
def sp_law_program (K : PySem.W.Frag) : Sp := spE (fun (x : Addr × Addr × List Str) vs H => vs = [.ref x.1, .ref x.2.1] ∧ DrAt K H x.1 ∧ H x.2.1 = some (.lst (x.2.2.map V.str)) ∧ x.2.2.length ≤ 10) (fun x v H => ∃ b g, v = .ref b ∧ Told H g b ∧ DrOk ("" :: "" :: x.2.2) g)
/-- done with m states, and j letters of the next one -/
def Done (L : Str) (m j : Nat) (s : Int) (c : Nat) : Prop := ∃ s' : Nat, s = (s' : Int) ∧ ((s' < m ∧ c ∈ cds L) ∨ (s' = m ∧ c ∈ (cds L).take j))
structure Inv2 (L : Str) (n : Int) (regs sg : List Str) (sa ea : Addr) (H4 : Hp) (m j : Nat) (H : Hp) : Prop where
  ex : Ex H4 H
  s : ∃ kvs : List (List Key × V), H sa = some (.dT kvs) ∧ (kvs.map (·.1)).Nodup ∧ kvs.length ≤ m * 10 + j ∧ (∀ k v, (k, v) ∈ kvs → ∃ s c, k = [.inl s, .inr ⟨#[c]⟩] ∧ Done L m j s c ∧ ∃ x, StepD n regs sg ea H v x) ∧ ∀ s c, Done L m j s c → [Sum.inl s, Sum.inr ⟨#[c]⟩] ∈ kvs.map (·.1)
  e : ∃ kvs : List (Key × V), H ea = some (.dK kvs) ∧ (kvs.map (·.1)).Nodup ∧ kvs.length ≤ m ∧ ∀ k v, (k, v) ∈ kvs → ∃ (s : Nat) (a : Addr) (row : List Itm), k = .inl (s : Int) ∧ s < m ∧ v = .ref a ∧ RowAt H a row ∧ RowOkE regs sg (regs.length + 1) row
theorem Inv2.ext {L : Str} {n : Int} {regs sg : List Str} {sa ea : Addr} {H4 H H' : Hp} {m j : Nat} (e : Ex H H') (h : Inv2 L n regs sg sa ea H4 m j H) : Inv2 L n regs sg sa ea H4 m j H' where
  ex := h.ex.trans e
  s := h.s.imp fun kvs ⟨h1, h2, h3, h4, h5⟩ => ⟨e _ _ h1, h2, h3, fun k v hm => by
    obtain ⟨s, c, e1, e2, x, e3⟩ := h4 k v hm
    exact ⟨s, c, e1, e2, x, e3.ex e⟩, h5⟩
  e := h.e.imp fun kvs ⟨h1, h2, h3, h4⟩ => ⟨e _ _ h1, h2, h3, fun k v hm => by
    obtain ⟨s, a, row, e1, e2, e3, e4, e5⟩ := h4 k v hm
    exact ⟨s, a, row, e1, e2, e3, e4.le (Le.ex e), e5⟩⟩
theorem pl_inj {s s' : Int} {c c' : Nat} (h : ([Sum.inl s, Sum.inr ⟨#[c]⟩] : List Key) = [Sum.inl s', Sum.inr ⟨#[c']⟩]) : s = s' ∧ c = c' := by
  injection h with q1 q2
  injection q2 with q2 _
  injection q1 with q1
  injection q2 with q2
  injection q2 with q2
  exact ⟨q1, by simpa using q2⟩
end KX
end
section
set_option Elab.async false
set_option linter.all false
set_option maxRecDepth 100000
set_option maxHeartbeats 8000000
/-! Bs18: _law_program. -/
namespace KX
open PySem PySem.Spec PyProof.Rows L2 Evl
theorem cds_nodup_L {L : Str} (h : L = "ab" ∨ L = "b") : (cds L).Nodup ∧ (cds L).length ≤ 2 := by
  rcases h with rfl | rfl
  · exact ⟨by decide +kernel, by decide +kernel⟩
  · exact ⟨by decide +kernel, by decide +kernel⟩
section
variable {P : Program} {w : World} {K : PySem.W.Frag} {mg : Str → Option Value} {base : Heap} {C : Addr} {f : Addr} {fd : FuncData}
theorem ok_law_program (F : Fun K "_law_program" "_law_program" s_law_program f fd) (Z : Zs mg C) (G_law_next : Has P w K mg base "_law_next" 3 ["draw", "bound"] (sp_law_next K)) (G_law_pick : Has P w K mg base "_law_pick" 4 ["draw", "things"] (sp_law_pick K))
    (G_law_rows : Has P w K mg base "_law_rows" 5 ["draw", "registers", "signs"] (sp_law_rows K)) (G_law_end : Has P w K mg base "_law_end" 5 ["draw", "registers", "signs"] (sp_law_end K)) : FnOk P w K mg base CX0 6 f fd ["draw", "signs"] (sp_law_program K) := by
  refine F.ok sc_law_program (fun vs H Q E h => ?_) (fun cdv A outer s H vs Q E hr h => ?_)
  · obtain ⟨i, ⟨rfl, _⟩, _⟩ := h
    rfl
  · obtain ⟨⟨d, sg, signs⟩, ⟨rfl, hD, hsg, hs10⟩, k⟩ := h
    dsimp only at hD hsg hs10
    have k : ∀ v H', Ex H H' → (∃ b g, v = .ref b ∧ Told H' g b ∧ DrOk ("" :: "" :: signs) g) → Q v H' := k
    have hu := hu_of hr
    have hu64 := hr.units
    have hu0 := Nat.lt_of_succ_lt hu
    refine ⟨_, (pss_cons (ps_par (i := 2) (j := 3) (by rfl) sc_law_program.nd rfl rfl (by decide) rfl rfl (pa_cons (pe_use G_law_pick (hr.mono (by decide)) (pa_cons (pv 0) (pa_cons (pe_lst (pa_cons pe_str (pa_cons pe_str (pa_cons pe_str (pa_cons pe_str pa_nil))))) pa_nil))) (pa_cons (pe_op op_add pe_int (pe_use G_law_next (hr.mono (by decide)) (pa_cons (pv 0) (pa_cons pe_int pa_nil)))) pa_nil)) (by rfl)) 
    (pss_cons (ps_set (i := 4) sc_law_program.nd rfl (Or.inl rfl) (pe_slice sl_list (pe_lst (pa_cons pe_str (pa_cons pe_str pa_nil))) po_none (po_some (pe_use G_law_pick (hr.mono (by decide)) (pa_cons (pv 0) (pa_cons (pe_lst (pa_cons pe_int (pa_cons pe_int (pa_cons pe_int (pa_cons pe_int (pa_cons pe_int pa_nil)))))) pa_nil)))))) 
    (pss_cons (ps_set (i := 5) sc_law_program.nd rfl (Or.inl rfl) (pe_callTy (call_dictP rfl) (by rfl) Z.z_dict (by decide +kernel) (pa_cons (pe_lc (own := [(("name" : Str), 10)]) (g := gName 10) rfl sc_law_program.nd (pi_list (pv 4)) (blkOk_by (own := [(("name" : Str), 10)]) (N := n_law_program) (sc := defScope s_law_program) (by decide +kernel)) (fun _ _ _ _ _ => (pg_name (i := 10) sc_law_program.nd rfl (Or.inl rfl))) (fun _ _ _ _ _ => pts_nil) (fun _ _ _ _ _ => (pe_tup (pa_cons (pv 10) (pa_cons (pe_use G_law_pick (hr.mono (by decide)) (pa_cons (pv 0) (pa_cons (pe_lst (pa_cons pe_str (pa_cons pe_str (pa_cons pe_str pa_nil)))) pa_nil))) pa_nil))))) pa_nil))) 
    (pss_cons (ps_par (i := 6) (j := 7) (by rfl) sc_law_program.nd rfl rfl (by decide) rfl rfl (pa_cons pe_dnewT (pa_cons pe_dnewK pa_nil)) (by rfl)) 
    (pss_cons (ps_for PassesOwn.never rfl (pi_range1 rfl Z.z_range (pa_cons (pv 3) pa_nil)) (pg_name (i := 8) sc_law_program.nd rfl (Or.inl rfl)) 
     (pss_cons (ps_for PassesOwn.never rfl (pi_str (pv 2)) (pg_name (i := 9) sc_law_program.nd rfl (Or.inl rfl)) 
      (pss_one (ps_dput hu (pv 6) (pe_tup (pa_cons (pv 8) (pa_cons (pv 9) pa_nil))) (pe_tup (pa_cons (pe_use G_law_next (hr.mono (by decide)) (pa_cons (pv 0) (pa_cons (pv 3) pa_nil))) (pa_cons (pe_use G_law_rows (hr.mono (by decide)) (pa_cons (pv 0) (pa_cons (pv 4) (pa_cons (pv 1) pa_nil)))) pa_nil))) rfl))) 
     (pss_one (ps_if (pt_cmpR op_gt (pe_use G_law_next (hr.mono (by decide)) (pa_cons (pv 0) (pa_cons pe_int pa_nil))) pe_int (nomark _)) 
      (pss_one (ps_dput hu (pv 7) (pv 8) (pe_use G_law_end (hr.mono (by decide)) (pa_cons (pv 0) (pa_cons (pv 4) (pa_cons (pv 1) pa_nil)))) rfl)) pss_nil)))) 
    (pss_one (ps_ret (pe_tup (pa_cons (pv 2) (pa_cons (pv 3) (pa_cons (pv 4) (pa_cons (pv 5) (pa_cons (pv 6) (pa_cons (pv 7) pa_nil)))))))))))))), ?_⟩
    -- letters, states
    refine q_par (Pz := fun v w _ => ∃ (L : Str) (n : Int), v = .str L ∧ w = .int n ∧ (L = "ab" ∨ L = "b") ∧ (n = 1 ∨ n = 2)) (((pa1 (P := fun v _ => ∃ L : Str, v = .str L ∧ (L = "ab" ∨ L = "b")) (fun _ _ _ _ h => h) ((ep_pick (K := K) (xs := [("ab" : Str), "ab", "ab", "b"].map V.str) (ev_var rfl) (((New.ofL (el_lst (ea_cons ev_c (ea_cons ev_c (ea_cons ev_c (ea_cons ev_c ea_nil)))) (by show 4 ≤ 100000; decide))).evP).imp fun v H2 _ ⟨p, o, h1, h2, h3⟩ => ⟨p, h1, sq_of (by rw [h2, h3]; rfl)⟩) hD (by intro z; cases z)).imp fun v _ _ hv => ?_)
      (pa1 (P := fun v _ => ∃ r, v = .int (1 + r) ∧ (0 ≤ r ∧ r < 2)) (Pr := fun vs _ => vs = []) (fun _ _ _ _ h => h) (ep_opI ev_c (ep_next (ev_var rfl) ev_c hD (by decide))) pa0)) : EvPA _ _ _ _).imp fun vs H2 e2 p => ?_) fun v w' H1 e1 p => ?_
    · have hv : v ∈ ([.str "ab", .str "ab", .str "ab", .str "b"] : List V) := hv
      simp only [List.mem_cons, List.not_mem_nil, or_false] at hv
      rcases hv with h | h | h | h
      · exact ⟨_, h, .inl rfl⟩
      · exact ⟨_, h, .inl rfl⟩
      · exact ⟨_, h, .inl rfl⟩
      · exact ⟨_, h, .inr rfl⟩
    · obtain ⟨v, r, h1, ⟨L, h2, h3⟩, v', r', h4, ⟨x, h5, h6⟩, h7⟩ := p
      exact ⟨v, v', by rw [h1, h4, h7], L, 1 + x, h2, h5, h3, by omega⟩
    obtain ⟨L, n, rfl, rfl, hL, hn⟩ := p
    obtain ⟨hLn, hLl⟩ := cds_nodup_L hL
    have hn0 : 0 < n := by omega
    -- registers
    refine q_new ((new_cut (K := K) (P := fun r => r = 1 ∨ r = 2 ∨ r = 0) (el_lst (ea_cons ev_c (ea_cons ev_c ea_nil)) (by show 2 ≤ 100000; decide)) fun H2 e2 => (ep_pick (K := K) (xs := [(1 : Int), 2, 2, 2, 0].map V.int) (ev_var rfl) (((New.ofL (el_lst (ea_cons ev_c (ea_cons ev_c (ea_cons ev_c (ea_cons ev_c (ea_cons ev_c ea_nil))))) (by show 5 ≤ 100000; decide))).evP).imp fun v H3 _ ⟨p, o, h1, h2, h3⟩ => ⟨p, h1, sq_of (by rw [h2, h3]; rfl)⟩) (hD.ex (e1.trans e2)) (by intro z; cases z)).imp fun v _ _ hv => ?_).imp (N' := fun o _ => ∃ regs : List Str, o = .lst (regs.map V.str) ∧ (regs = [("x" : Str)] ∨ regs = [("x" : Str), "y"] ∨ regs = [])) fun o _ _ ⟨r, hr, ho⟩ => ?_) fun ra o H2 hra0 e2 h2 n2 => ?_
    · have hv : v ∈ ([.int 1, .int 2, .int 2, .int 2, .int 0] : List V) := hv
      simp only [List.mem_cons, List.not_mem_nil, or_false] at hv
      rcases hv with h | h | h | h | h
      · exact ⟨_, h, .inl rfl⟩
      · exact ⟨_, h, .inr (.inl rfl)⟩
      · exact ⟨_, h, .inr (.inl rfl)⟩
      · exact ⟨_, h, .inr (.inl rfl)⟩
      · exact ⟨_, h, .inr (.inr rfl)⟩
    · rcases hr with rfl | rfl | rfl
      · exact ⟨["x"], ho, .inl rfl⟩
      · exact ⟨["x", "y"], ho, .inr (.inl rfl)⟩
      · exact ⟨[], ho, .inr (.inr rfl)⟩
    obtain ⟨regs, rfl, hregs⟩ := n2
    have hN : regs.Nodup := by
      rcases hregs with rfl | rfl | rfl
      · decide +kernel
      · decide +kernel
      · exact List.nodup_nil
    have h10 : regs.length ≤ 2 := by
      rcases hregs with rfl | rfl | rfl <;> simp
    have e12 := e1.trans e2
    have hNk : (regs.map (Sum.inr : Str → Key)).Nodup := List.Pairwise.map Sum.inr (fun a b h q => h (Sum.inr.inj q)) hN
    have hll : (regs.map V.str).length = regs.length := List.length_map _
    have at_str : ∀ {i : Nat} {x : V}, (regs.map V.str)[i]? = some x → ∃ n, regs[i]? = some n ∧ x = .str n ∧ n ∈ regs := fun {i x} h => by
      rw [List.getElem?_map] at h
      cases hr : regs[i]? with
      | none => rw [hr] at h; cases h
      | some n =>
        rw [hr] at h
        exact ⟨n, rfl, (Option.some.inj h).symm, List.mem_of_getElem? hr⟩
    -- firsts
    refine q_new (new_dictP (K := K) hNk (Q := fun _ v _ => ∃ s : Str, v = .str s ∧ (s = "" ∨ s = "a")) (fun _ _ _ _ _ h => h) ((new_lc (src_list (K := K) (ev_var rfl) (sq_of h2)) (by omega) (fun x => rfl)
      (fun i x H => ∃ n b, regs[i]? = some n ∧ x = .ref b ∧ ∃ s : Str, H b = some (.tup [.str n, .str s]) ∧ (s = "" ∨ s = "a")) (fun i x => stab_ex fun n => stab_ex fun b => stab_and stab_pure (stab_and stab_pure (stab_ex fun s => stab_and (stab_at rfl rfl) stab_pure))) ?_).imp fun o H3 _ ⟨xs, g1, g2, g3⟩ => ⟨xs, g1, by rw [g2, hll, List.length_map], fun i x hx kk hk => ?_⟩)) fun fa o H3 hfa0 e3 h3 ⟨kf, n3, hkf, hvf⟩ => ?_
    · intro i x H' e hi hx
      obtain ⟨n', hn', rfl, hnr⟩ := at_str hx
      have eP : EvP (tCall (sp_law_pick K) [] E0 (tCons (tVar 0) (tCons (tLst (tCons (tC (.str "")) (tCons (tC (.str "")) (tCons (tC (.str "a")) tNil)))) tNil))) [some (.ref d), some (.ref sg), some (.str L), some (.int n), some (.ref ra), none, none, none, none, none, some (.str n')] H' (fun v _ => ∃ s : Str, v = .str s ∧ (s = "" ∨ s = "a")) :=
        (ep_pick (K := K) (xs := [("" : Str), "", "a"].map V.str) (ev_var rfl) (((New.ofL (el_lst (ea_cons ev_c (ea_cons ev_c (ea_cons ev_c ea_nil))) (by show 3 ≤ 100000; decide))).evP).imp fun v H3 _ ⟨p, o, h1, h2, h3⟩ => ⟨p, h1, sq_of (by rw [h2, h3]; rfl)⟩) (hD.ex (e12.trans e)) (by intro z; cases z)).imp fun v _ _ hv => by
          have hv : v ∈ ([.str "", .str "", .str "a"] : List V) := hv
          simp only [List.mem_cons, List.not_mem_nil, or_false] at hv
          rcases hv with h | h | h
          · exact ⟨_, h, .inl rfl⟩
          · exact ⟨_, h, .inl rfl⟩
          · exact ⟨_, h, .inr rfl⟩
      exact ((new_tup (pa1 (P := fun v _ => v = .str n') (fun _ _ _ _ h => h) (EvP.of (ev_var rfl)) (pa1 (Pr := fun vs _ => vs = []) (fun _ _ _ _ h => h) eP pa0)) (fun vs H2 ⟨v, r, h1, h2, v', r', h3, h4, h5⟩ => by rw [h1, h3, h5]; show 2 ≤ 1000; decide)
        (fun vs H H' e h => h)).evP).imp fun v H2 _ ⟨b, o, h1, h2, vs, h3, v1, r1, h4, h5, v2, r2, h6, ⟨s, h7, h8⟩, h10⟩ => ⟨n', b, hn', h1, s, by rw [h2, h3, h4, h5, h6, h7, h10], h8⟩
    · obtain ⟨n', b, g4, g5, s, g6, g7⟩ := g3 i x hx
      rw [List.getElem?_map, g4] at hk
      cases hk
      exact ⟨b, _, g5, g6, s, rfl, g7⟩
    subst n3
    have hkfn : (kf.map (·.1)).Nodup := by rw [hkf]; exact hNk
    obtain ⟨fst, hfst⟩ := key_fun (β := Str) (kvs := kf) (hn := hkfn) (Q := fun _ v s => v = .str s ∧ (s = "" ∨ s = "a")) fun kk v m => by
      obtain ⟨i, hi⟩ := List.mem_iff_getElem?.mp m
      exact hvf i _ hi
    have hkfe : kf = hk regs (fun n => fst (.inr n)) := hk_of hkf fun i p hp m hm => by
      have h2 := congrArg (fun z : List Key => z[i]?) hkf
      simp only [List.getElem?_map, hp, hm, Option.map_some] at h2
      have h4 : p.1 = Sum.inr m := Option.some.inj h2
      have := hfst p.1 p.2 (List.mem_of_getElem? hp)
      rw [h4] at this
      exact this.1
    have hfstok : ∀ m ∈ regs, fst (.inr m) = "" ∨ fst (.inr m) = "a" := fun m hm => by
      obtain ⟨v, hv, hmm⟩ := valV_key (kvs := kf) (k := .inr m) (by rw [hkf]; exact List.mem_map_of_mem hm)
      exact (hfst _ v hmm).2
    rw [hkfe] at h3
    have e13 := e12.trans e3
    -- steps, ends
    intro sa hsa ea hea
    refine ⟨_, _, rfl, ?_⟩
    have nse : ea ≠ sa := fun z => by
      subst z
      rw [upd_same] at hea
      cases hea
    have hea3 : H3 ea = none := by
      rw [upd_ne nse] at hea
      exact hea
    have x4 : Ex H3 (upd (upd H3 sa (.dT [])) ea (.dK [])) := (Ex.new hsa).trans (Ex.new hea)
    have I0 : Inv2 L n regs ("" :: "" :: signs) sa ea H3 0 0 (upd (upd H3 sa (.dT [])) ea (.dK [])) := {
      ex := x4
      s := ⟨[], by rw [upd_ne (Ne.symm nse), upd_same], List.nodup_nil, Nat.zero_le _, fun _ _ h => (by cases h), fun s c ⟨s', _, h⟩ => by
        rcases h with ⟨h, _⟩ | ⟨_, h⟩
        · omega
        · simp at h⟩
      e := ⟨[], upd_same, List.nodup_nil, Nat.zero_le _, fun _ _ h => (by cases h)⟩ }
    have hra3 := e3 _ _ h2
    refine q_forR1 (n := n) (ea_cons (ev_var rfl) ea_nil) ⟨by omega, by omega⟩ (fun m σ' H' => Inv2 L n regs ("" :: "" :: signs) sa ea H3 m 0 H' ∧ ∃ v8 v9, σ' = [some (.ref d), some (.ref sg), some (.str L), some (.int n), some (.ref ra), some (.ref fa), some (.ref sa), some (.ref ea), v8, v9, none]) (fun H5 e5 => ⟨I0.ext e5, none, none, rfl⟩) ?_ ?_
    · rintro m σ' H' hm ⟨I, v8, v9, rfl⟩
      show (tSeq _ _) _ _ _
      refine s_forS (ev_var rfl) (fun j σ' H' => Inv2 L n regs ("" :: "" :: signs) sa ea H3 m j H' ∧ ∃ v9, σ' = [some (.ref d), some (.ref sg), some (.str L), some (.int n), some (.ref ra), some (.ref fa), some (.ref sa), some (.ref ea), some (.int (m : Int)), v9, none]) (fun H5 e5 => ⟨I.ext e5, v9, rfl⟩) ?_ ?_
      · rintro j c σ' H5 hc ⟨I, v9, rfl⟩
        have hc' : (cds L)[j]? = some c := by rw [Array.getElem?_toList]; exact hc
        have hjl : j < (cds L).length := (List.getElem?_eq_some_iff.mp hc').1
        obtain ⟨kvs, g1, g2, g3, g4, g5⟩ := I.s
        obtain ⟨ke, q1, q2, q3, q4⟩ := I.e
        have htk : (cds L).take (j + 1) = (cds L).take j ++ [c] := by rw [List.take_succ, hc']; rfl
        have hcn : c ∉ (cds L).take j := fun z => by
          have := hLn
          rw [← List.take_append_drop (j + 1) (cds L), htk] at this
          have h2 := (List.nodup_append.mp (List.nodup_append.mp this).1)
          exact h2.2.2 c z c (List.mem_singleton.mpr rfl) rfl
        have hnew : [Sum.inl (m : Int), Sum.inr ⟨#[c]⟩] ∉ kvs.map (·.1) := fun z => by
          obtain ⟨p, hp, e⟩ := List.mem_map.mp z
          obtain ⟨s, c2, e1, ⟨s', e2, e3⟩, _⟩ := g4 p.1 p.2 hp
          rw [e1] at e
          obtain ⟨e4, rfl⟩ := pl_inj e
          rcases e3 with ⟨e3, _⟩ | ⟨_, e3⟩
          · omega
          · exact hcn e3
        have hvn : valV kvs [Sum.inl (m : Int), Sum.inr ⟨#[c]⟩] = none := by
          cases hv : valV kvs [Sum.inl (m : Int), Sum.inr ⟨#[c]⟩] with
          | none => rfl
          | some v => exact absurd (List.mem_map_of_mem (f := (·.1)) (valV_mem hv)) hnew
        have hD5 := hD.ex (e13.trans I.ex)
        have hsg5 := (e13.trans I.ex) _ _ hsg
        have hra5 := I.ex _ _ hra3
        have eR : ∀ H6, Ex H5 H6 → EvP (tCall (sp_law_rows K) [] E0 (tCons (tVar 0) (tCons (tVar 4) (tCons (tVar 1) tNil)))) [some (.ref d), some (.ref sg), some (.str L), some (.int n), some (.ref ra), some (.ref fa), some (.ref sa), some (.ref ea), some (.int (m : Int)), some (.str ⟨#[c]⟩), none] H6 (fun v H => ∃ r R, v = .ref r ∧ RowsN regs R H r ∧ RowsLin regs ("" :: "" :: signs) R ∧ r ≠ ea) := fun H6 e6 =>
          ep_use (ea_cons (ev_var rfl) (ea_cons (ev_var rfl) (ea_cons (ev_var rfl) ea_nil))) (spE_P (d, ra, sg, regs, signs, ea) (fun _ e7 => ⟨rfl, hD5.ex (e6.trans e7), (e6.trans e7) _ _ hra5, (e6.trans e7) _ _ hsg5, hN, by show regs.length ≤ 10; omega, hs10, _, (e6.trans e7) _ _ q1⟩) fun v H7 _ p => p)
        refine s_dputT (k := [.inl (m : Int), .inr ⟨#[c]⟩]) (Pv := fun v H => ∃ x, StepD n regs ("" :: "" :: signs) ea H v x) g1
          (((new_tup (pa1 (P := fun v _ => ∃ r, v = .int r ∧ 0 ≤ r ∧ r < n) (fun _ _ _ _ h => h) (ep_next (ev_var rfl) (ev_var rfl) hD5 hn0) (pa1 (Pr := fun vs _ => vs = []) (fun v H H' e ⟨r, R, a1, a2, a3⟩ => ⟨r, R, a1, a2.ex e, a3⟩) (eR H5 (Ex.refl H5)) pa0)) (fun vs H2 ⟨v, r, h1, h2, v', r', h3, h4, h5⟩ => by rw [h1, h3, h5]; show 2 ≤ 1000; decide)
            (fun vs H H' e ⟨v, r, h1, h2, v', r', h3, ⟨l, R, h4, h6, h7⟩, h5⟩ => ⟨v, r, h1, h2, v', r', h3, ⟨l, R, h4, h6.ex e, h7⟩, h5⟩)).evP).imp fun v H6 _ ⟨b, o, h1, h2, vs, h3, v1, r1, h4, ⟨g, h5, h5a, h5b⟩, v2, r2, h6, ⟨l, R, h7, h8, h8a, h8b⟩, h10⟩ => ⟨(g, R), b, l, h1, by rw [h2, h3, h4, h5, h6, h7, h10], h5a, h5b, h8, h8a, h8b⟩)
          (fun H6 e6 => ev_var rfl) (fun H6 e6 => eu_tup (ea_cons (ev_var rfl) (ea_cons (ev_var rfl) ea_nil)) (by show 2 ≤ 100000; decide)) (by omega) (fun v H H' e ⟨x, h⟩ => ⟨x, h.ex e⟩) fun v H6 e6 ⟨x, hx⟩ => ?_
        have I6 := I.ext e6
        have g16 := e6 _ _ g1
        rw [putK_new _ hvn]
        refine ⟨{ ex := ?_, s := ⟨_, upd_same, ?_, ?_, ?_, ?_⟩, e := ⟨ke, ?_, q2, q3, ?_⟩ }, some (.str ⟨#[c]⟩), rfl⟩
        · exact Ex.mut I6.ex hsa
        · rw [List.map_append, List.nodup_append]
          refine ⟨g2, by simp, fun a ha b hb z => ?_⟩
          subst z
          rw [List.mem_singleton.mp hb] at ha
          exact hnew ha
        · rw [List.length_append]
          show kvs.length + 1 ≤ m * 10 + (j + 1)
          omega
        · intro kk v' hm'
          rcases List.mem_append.mp hm' with h | h
          · obtain ⟨s, c2, e1, ⟨s', e2, e3⟩, y, e4⟩ := g4 kk v' h
            refine ⟨s, c2, e1, ⟨s', e2, ?_⟩, y, (e4.ex e6).updT g16⟩
            rcases e3 with e3 | ⟨e3, e3b⟩
            · exact .inl e3
            · exact .inr ⟨e3, by rw [htk]; exact List.mem_append_left _ e3b⟩
          · cases List.mem_singleton.mp h
            exact ⟨(m : Int), c, rfl, ⟨m, rfl, .inr ⟨rfl, by rw [htk]; exact List.mem_append_right _ (List.mem_singleton.mpr rfl)⟩⟩, x, hx.updT g16⟩
        · rintro s c2 ⟨s', rfl, hd⟩
          rw [List.map_append]
          rcases hd with hd | ⟨rfl, hd⟩
          · exact List.mem_append_left _ (g5 _ _ ⟨s', rfl, .inl hd⟩)
          · rw [htk] at hd
            rcases List.mem_append.mp hd with hd | hd
            · exact List.mem_append_left _ (g5 _ _ ⟨_, rfl, .inr ⟨rfl, hd⟩⟩)
            · rw [List.mem_singleton.mp hd]
              exact List.mem_append_right _ (List.mem_singleton.mpr rfl)
        · rw [upd_ne nse]
          exact e6 _ _ q1
        · intro kk v' hm'
          obtain ⟨s, a, row, e1, e2, e3, e4, e5⟩ := q4 kk v' hm'
          exact ⟨s, a, row, e1, e2, e3, (e4.le (Le.ex e6)).upd g16 (fun xs z => by cases z), e5⟩
      · rintro σ' H5 ⟨I, v9, rfl⟩
        have hsz : L.cps.size = (cds L).length := by rw [Array.length_toList]
        have Ifull : ∀ {H6 : Hp}, Ex H5 H6 → (∃ kvs : List (List Key × V), H6 sa = some (.dT kvs) ∧ (kvs.map (·.1)).Nodup ∧ kvs.length ≤ (m + 1) * 10 + 0 ∧ (∀ k v, (k, v) ∈ kvs → ∃ s c, k = [.inl s, .inr ⟨#[c]⟩] ∧ Done L (m + 1) 0 s c ∧ ∃ x, StepD n regs ("" :: "" :: signs) ea H6 v x) ∧ ∀ s c, Done L (m + 1) 0 s c → [Sum.inl s, Sum.inr ⟨#[c]⟩] ∈ kvs.map (·.1)) := fun {H6} e6 => by
          obtain ⟨kvs, g1, g2, g3, g4, g5⟩ := (I.ext e6).s
          rw [hsz] at g3 g4 g5
          refine ⟨kvs, g1, g2, by omega, fun kk v hm' => ?_, fun s c ⟨s', e1, e2⟩ => g5 s c ⟨s', e1, ?_⟩⟩
          · obtain ⟨s, c, e1, ⟨s', e2, e3⟩, x, e4⟩ := g4 kk v hm'
            refine ⟨s, c, e1, ⟨s', e2, .inl ?_⟩, x, e4⟩
            rcases e3 with ⟨e3, e3b⟩ | ⟨e3, e3b⟩
            · exact ⟨by omega, e3b⟩
            · exact ⟨by omega, by rw [List.take_length] at e3b; exact e3b⟩
          · rcases e2 with ⟨e2, e2b⟩ | ⟨_, e2b⟩
            · by_cases h : s' < m
              · exact .inl ⟨h, e2b⟩
              · exact .inr ⟨by omega, by rw [List.take_length]; exact e2b⟩
            · simp at e2b
        have hD5 := hD.ex (e13.trans I.ex)
        obtain ⟨ke, q1, q2, q3, q4⟩ := I.e
        refine s_ifA (eta_I (g := fun i j => decide (j < i)) (ep_nextI (ev_var rfl) ev_c hD5 (by decide)) ev_c) (fun H6 e6 => ?_) (fun H6 e6 => ⟨{ ex := I.ex.trans e6, s := Ifull e6, e := ⟨ke, e6 _ _ q1, q2, by omega, fun kk v hm' => ?_⟩ }, some (.int (m : Int)), v9, rfl⟩)
        · have hvn : valV ke (Sum.inl (m : Int)) = none := by
            cases hv : valV ke (Sum.inl (m : Int)) with
            | none => rfl
            | some v =>
              obtain ⟨s, a, row, e1, e2, _⟩ := q4 _ v (valV_mem hv)
              cases e1
              omega
          have e6' := I.ex.trans e6
          refine s_dput (k := .inl (m : Int)) (Pv := fun v H => ∃ a row, v = .ref a ∧ RowAt H a row ∧ RowOkE regs ("" :: "" :: signs) (regs.length + 1) row) (e6 _ _ q1) (ep_use (ea_cons (ev_var rfl) (ea_cons (ev_var rfl) (ea_cons (ev_var rfl) ea_nil))) (spE_P (d, ra, sg, regs, signs) (fun _ e7 => ⟨rfl, hD.ex ((e13.trans e6').trans e7), (e6'.trans e7) _ _ hra3, ((e13.trans e6').trans e7) _ _ hsg, by show regs.length ≤ 10; omega, hs10, hN⟩) fun v H7 _ p => p))
            (ev_var rfl) (ev_var rfl) rfl (by omega) (fun v H7 e7 ⟨a, row, b1, b2, b3⟩ _ => ?_) (fun v H H' e ⟨a, row, b1, b2, b3⟩ => ⟨a, row, b1, b2.le (Le.ex e), b3⟩)
          have q17 := (e6.trans e7) _ _ q1
          rw [putK_new _ hvn]
          obtain ⟨kvs, g1, g2, g3, g4, g5⟩ := Ifull (e6.trans e7)
          refine ⟨{ ex := Ex.mut (e6'.trans e7) hea3, s := ⟨kvs, by rw [upd_ne (Ne.symm nse)]; exact g1, g2, g3, fun kk v' hm' => ?_, g5⟩, e := ⟨_, upd_same, ?_, ?_, ?_⟩ }, some (.int (m : Int)), v9, rfl⟩
          · obtain ⟨s, c, e1, e2, x, e3⟩ := g4 kk v' hm'
            exact ⟨s, c, e1, e2, x, e3.updK q17⟩
          · rw [List.map_append, List.nodup_append]
            refine ⟨q2, by simp, fun a' ha b hb z => ?_⟩
            subst z
            rw [List.mem_singleton.mp hb] at ha
            obtain ⟨v', hv', _⟩ := valV_key ha
            rw [hvn] at hv'
            cases hv'
          · rw [List.length_append]
            show ke.length + 1 ≤ m + 1
            omega
          · intro kk v' hm'
            rcases List.mem_append.mp hm' with h | h
            · obtain ⟨s, a', row', c1, c2, c3, c4, c5⟩ := q4 kk v' h
              exact ⟨s, a', row', c1, by omega, c3, (c4.le (Le.ex (e6.trans e7))).upd q17 (fun xs z => by cases z), c5⟩
            · cases List.mem_singleton.mp h
              exact ⟨m, a, row, rfl, Nat.lt_succ_self m, b1, b2.upd q17 (fun xs z => by cases z), b3⟩
        · obtain ⟨s, a, row, c1, c2, c3, c4, c5⟩ := q4 kk v hm'
          exact ⟨s, a, row, c1, by omega, c3, c4.le (Le.ex e6), c5⟩
    · rintro σ' H' ⟨I, v8, v9, rfl⟩
      obtain ⟨kvs, g1, g2, g3, g4, g5⟩ := I.s
      obtain ⟨ke, q1, q2, q3, q4⟩ := I.e
      obtain ⟨fx, hfx⟩ := key_fun (β := Int × (Str → List Itm)) (kvs := kvs) g2 (Q := fun _ v x => StepD n regs ("" :: "" :: signs) ea H' v x) fun kk v hm' => by
        obtain ⟨s, c, _, _, x, hx⟩ := g4 kk v hm'
        exact ⟨x, hx⟩
      obtain ⟨fe, hfe⟩ := key_fun (β := List Itm) (kvs := ke) q2 (Q := fun _ v row => ∃ a, v = .ref a ∧ RowAt H' a row ∧ RowOkE regs ("" :: "" :: signs) (regs.length + 1) row) fun kk v hm' => by
        obtain ⟨s, a, row, _, _, c3, c4, c5⟩ := q4 kk v hm'
        exact ⟨row, a, c3, c4, c5⟩
      have hdone : ∀ s c, Done L n.toNat 0 s c ↔ SL L n s c := fun s c => by
        constructor
        · rintro ⟨s', rfl, h⟩
          rcases h with ⟨h, h2⟩ | ⟨_, h⟩
          · exact ⟨by omega, by omega, h2⟩
          · simp at h
        · rintro ⟨h0, h1, h2⟩
          exact ⟨s.toNat, by omega, .inl ⟨by omega, h2⟩⟩
      let g : Pg := ⟨L, n, regs, fun m => fst (.inr m), fun s c => (fx [.inl s, .inr ⟨#[c]⟩]).1, fun s c => (fx [.inl s, .inr ⟨#[c]⟩]).2, fun s => if (valV ke (.inl s)).isSome = true then some (fe (.inl s)) else none⟩
      have PD : PgD H' g ra fa sa ea := {
        rS := I.ex _ _ hra3
        f := I.ex _ _ h3
        s := ⟨kvs, g1, by omega, g2, fun kk v hm' => by
          obtain ⟨s, c, e1, e2, _⟩ := g4 kk v hm'
          obtain ⟨b, r, d1, d2, d3, d4, d5, d6, d7⟩ := hfx kk v hm'
          subst e1
          exact ⟨s, c, b, r, rfl, (hdone s c).mp e2, d1, d2, d5⟩, fun s c h => g5 s c ((hdone s c).mpr h)⟩
        e := ⟨ke, q1, by omega, q2, fun kk v hm' => by
          obtain ⟨s, a, row, c1, c2, c3, c4, c5⟩ := q4 kk v hm'
          obtain ⟨a', d1, d2, d3⟩ := hfe kk v hm'
          subst c1
          refine ⟨(s : Int), a', _, rfl, ?_, d1, d2⟩
          show (if (valV ke (.inl (s : Int))).isSome = true then some (fe (.inl (s : Int))) else none) = _
          rw [valV_uniq q2 hm']
          rfl, fun s h => by
          have h : (if (valV ke (.inl s)).isSome = true then some (fe (.inl s)) else none).isSome = true := h
          by_cases hv : (valV ke (.inl s)).isSome = true
          · obtain ⟨v, hv'⟩ := Option.isSome_iff_exists.mp hv
            exact List.mem_map_of_mem (f := (·.1)) (valV_mem hv')
          · rw [if_neg hv] at h
            cases h⟩ }
      have DO : DrOk ("" :: "" :: signs) g := {
        L := hL
        n := hn
        r := hregs
        f := hfstok
        go := fun s c h => by
          obtain ⟨v, hv, hm'⟩ := valV_key (g5 s c ((hdone s c).mpr h))
          obtain ⟨b, r, d1, d2, d3, d4, _⟩ := hfx _ v hm'
          exact ⟨d3, d4⟩
        ro := fun s c h => by
          obtain ⟨v, hv, hm'⟩ := valV_key (g5 s c ((hdone s c).mpr h))
          obtain ⟨b, r, d1, d2, d3, d4, d5, d6, d7⟩ := hfx _ v hm'
          exact d6.1
        li := fun s c h => by
          obtain ⟨v, hv, hm'⟩ := valV_key (g5 s c ((hdone s c).mpr h))
          obtain ⟨b, r, d1, d2, d3, d4, d5, d6, d7⟩ := hfx _ v hm'
          exact d6.2
        fi := fun s row h => by
          have h : (if (valV ke (.inl s)).isSome = true then some (fe (.inl s)) else none) = some row := h
          by_cases hv : (valV ke (.inl s)).isSome = true
          · rw [if_pos hv] at h
            obtain ⟨v, hv'⟩ := Option.isSome_iff_exists.mp hv
            have hm' := valV_mem hv'
            obtain ⟨s', a, row', c1, c2, _⟩ := q4 _ v hm'
            obtain ⟨a', d1, d2, d3⟩ := hfe _ v hm'
            cases c1
            cases h
            exact ⟨by omega, by show (s' : Int) < n; omega, d3⟩
          · rw [if_neg hv] at h
            cases h }
      refine s_retU (eu_tup (ea_cons (ev_var rfl) (ea_cons (ev_var rfl) (ea_cons (ev_var rfl) (ea_cons (ev_var rfl) (ea_cons (ev_var rfl) (ea_cons (ev_var rfl) ea_nil)))))) (by show 6 ≤ 100000; decide)) fun b H7 hb e7 h7 => ?_
      exact k _ H7 ((e13.trans I.ex).trans e7) ⟨b, g, rfl, ⟨ra, fa, sa, ea, h7, PD.ex e7⟩, DO⟩
end
end KX
end
section
set_option Elab.async false
set_option linter.all false
set_option maxRecDepth 100000
set_option maxHeartbeats 8000000
/-! Bs19 of the seventeenth law (also the text ca is drawn): a drawn program is as told, and runs. -/
namespace KX
open PySem PySem.Spec PyProof.Rows L2 Evl
def Pg.td (g : Pg) : Td := ⟨g.L, g.n, g.regs, fun n => some (g.fst n), g.goal, fun s c n => some (g.row s c n), g.fin⟩
theorem tx_ok {s : Str} (h : s ∈ [("" : Str), "", "a", "b", "ca"]) : Tx s := by
  simp only [List.mem_cons, List.not_mem_nil, or_false] at h
  rcases h with rfl | rfl | rfl | rfl | rfl
  · exact ⟨by decide +kernel, by decide +kernel⟩
  · exact ⟨by decide +kernel, by decide +kernel⟩
  · exact ⟨by decide +kernel, by decide +kernel⟩
  · exact ⟨by decide +kernel, by decide +kernel⟩
  · exact ⟨by decide +kernel, by decide +kernel⟩
abbrev sg4 : List Str := ["", "", "a", "b", "ca"]
theorem len_sg {s : Str} (h : s ∈ sg4) : s.length ≤ 2 := by
  simp only [List.mem_cons, List.not_mem_nil, or_false] at h
  rcases h with rfl | rfl | rfl | rfl | rfl <;> decide +kernel
theorem rowLen_le {regs : List Str} {k : Nat} : ∀ {row : List Itm}, RowOkD regs sg4 k row → rowLen row ≤ 2 * row.length
  | [], _ => Nat.le_refl _
  | t :: r, h => by
    have ih := rowLen_le (regs := regs) (k := r.length) (row := r) ⟨Nat.le_refl _, fun u hu => h.2 u (List.mem_cons_of_mem _ hu)⟩
    have ht := h.2 t List.mem_cons_self
    have : tLen t ≤ 2 := by
      cases t with
      | t s => exact len_sg ht
      | r m => exact Nat.zero_le _
    show tLen t + rowLen r ≤ 2 * (r.length + 1)
    omega
theorem regs_ok {g : Pg} {sg : List Str} (D : DrOk sg g) : g.regs.Nodup ∧ g.regs.length ≤ 2 ∧ ∀ x ∈ g.regs, Wd x := by
  have r := D.r
  generalize g.regs = regs at r
  rcases r with rfl | rfl | rfl
  · exact ⟨by decide +kernel, by decide, fun x hx => by rw [List.mem_singleton.mp hx]; decide +kernel⟩
  · refine ⟨by decide +kernel, by decide, fun x hx => ?_⟩
    simp only [List.mem_cons, List.not_mem_nil, or_false] at hx
    rcases hx with rfl | rfl <;> decide +kernel
  · exact ⟨List.nodup_nil, by decide, fun x hx => by cases hx⟩
theorem L_ok {g : Pg} {sg : List Str} (D : DrOk sg g) : Tx g.L ∧ 1 ≤ g.L.length ∧ g.L.length ≤ 4 ∧ ((cds g.L).map fun c => (⟨#[c]⟩ : Str)).Nodup := by
  have l := D.L
  generalize g.L = L at l
  rcases l with rfl | rfl
  · exact ⟨⟨by decide +kernel, by decide +kernel⟩, by decide +kernel, by decide +kernel, by decide +kernel⟩
  · exact ⟨⟨by decide +kernel, by decide +kernel⟩, by decide +kernel, by decide +kernel, by decide +kernel⟩
/-- all places: so many -/
theorem places_len {L : Str} {n : Int} (hL : (cds L).Nodup) (hn : 0 ≤ n) {kvs : List (List Key × V)} (h1 : (kvs.map (·.1)).Nodup) (h2 : ∀ k v, (k, v) ∈ kvs → ∃ s c, k = [.inl s, .inr ⟨#[c]⟩] ∧ SL L n s c) (h3 : ∀ s c, SL L n s c → [Sum.inl s, Sum.inr ⟨#[c]⟩] ∈ kvs.map (·.1)) :
    (kvs.length : Int) = n * (L.length : Int) := by
  let all : List (List Key) := (List.range n.toNat).flatMap fun (s : Nat) => (cds L).map fun c => [Sum.inl (s : Int), Sum.inr ⟨#[c]⟩]
  have hmem : ∀ k, k ∈ all ↔ k ∈ kvs.map (·.1) := fun k => by
    constructor
    · intro h
      obtain ⟨s, hs, hk⟩ := List.mem_flatMap.mp h
      obtain ⟨c, hc, rfl⟩ := List.mem_map.mp hk
      have := List.mem_range.mp hs
      exact h3 _ _ ⟨by omega, by omega, hc⟩
    · intro h
      obtain ⟨p, hp, rfl⟩ := List.mem_map.mp h
      obtain ⟨s, c, e, h0, h1, h2⟩ := h2 p.1 p.2 hp
      rw [e]
      refine List.mem_flatMap.mpr ⟨s.toNat, List.mem_range.mpr (by omega), List.mem_map.mpr ⟨c, h2, ?_⟩⟩
      have : ((s.toNat : Nat) : Int) = s := by omega
      rw [this]
  have hnd : all.Nodup := by
    refine List.pairwise_flatMap.mpr ⟨fun s _ => ?_, ?_⟩
    · refine List.Pairwise.map _ (fun a b hab q => hab ?_) hL
      exact (pl_inj q).2
    · refine List.Pairwise.imp ?_ (List.nodup_range (n := n.toNat))
      intro a b hab k hk1 k2 hk2 q
      obtain ⟨c, _, rfl⟩ := List.mem_map.mp hk1
      obtain ⟨c', _, rfl⟩ := List.mem_map.mp hk2
      have := (pl_inj q).1
      exact hab (by omega)
  have hp : all.Perm (kvs.map (·.1)) := (List.perm_ext_iff_of_nodup hnd h1).mpr hmem
  have hl := hp.length_eq
  rw [List.length_map] at hl
  have ha : all.length = n.toNat * (cds L).length := by
    show (List.flatMap _ _).length = _
    rw [List.length_flatMap]
    simp
    rw [List.map_const', List.sum_replicate_nat, List.length_range]
  rw [← hl, ha, len_cds, Int.natCast_mul]
  congr 1
  omega
theorem told_ok {H : Hp} {g : Pg} {ra fa sa ea : Addr} (D : DrOk sg4 g) (T : PgD H g ra fa sa ea) : TdAt H g.td ra fa sa ea ∧ PartsX H g.L g.n g.regs ra fa sa ea := by
  obtain ⟨hN, h2, hW⟩ := regs_ok D
  obtain ⟨lT, l1, l4, lN⟩ := L_ok D
  obtain ⟨hLn, _⟩ := cds_nodup_L D.L
  have hn := D.n
  have okrow : ∀ {row : List Itm}, RowOkD g.regs sg4 (g.regs.length + 1) row → RowZ row ∧ (∀ t ∈ row, ItOk g.regs t) := fun {row} h => by
    have h1 := rowLen_le h
    have h3 := h.1
    refine ⟨⟨by omega, by omega⟩, fun t ht => ?_⟩
    have h4 := h.2 t ht
    cases t with
    | t s => exact tx_ok h4
    | r m => exact h4
  obtain ⟨kvs, g1, g2, g3, g4, g5⟩ := T.s
  obtain ⟨ke, q1, q2, q3, q4, q5⟩ := T.e
  have hlen := places_len hLn (by omega) g3 (fun k v m => by
    obtain ⟨s, c, b, r, h1, h2, _⟩ := g4 k v m
    exact ⟨s, c, h1, h2⟩) g5
  have hkl : kvs.length ≤ 8 := by
    have h1 : (g.L.length : Int) ≤ 4 := by omega
    rcases hn with h | h <;> rw [h] at hlen <;> omega
  have hkel : ke.length ≤ 2 := by
    have hp : ∀ k ∈ ke.map (·.1), k ∈ [(Sum.inl 0 : Key), Sum.inl 1] := fun k hk => by
      obtain ⟨p, hp, rfl⟩ := List.mem_map.mp hk
      obtain ⟨s, a, row, h1, h2, _⟩ := q4 p.1 p.2 hp
      obtain ⟨f0, f1, _⟩ := D.fi s row h2
      rw [h1]
      have : s = 0 ∨ s = 1 := by omega
      rcases this with rfl | rfl <;> simp
    have := List.Nodup.length_le_of_subset q3 hp
    rw [List.length_map] at this
    exact this
  have rowD : ∀ {s c r}, SL g.L g.n s c → RowsN g.regs (g.row s c) H r → RowD g.regs (g.td.row s c) H r := fun {s c r} hsl hR => by
    obtain ⟨l, a1, a2, a3⟩ := hR
    refine ⟨l, .inl a1, fun m hm => .inr ?_⟩
    obtain ⟨v, hv, hmm⟩ := valV_key (kvs := l) (k := .inr m) (by rw [a2]; exact List.mem_map_of_mem hm)
    obtain ⟨a, rfl, hA⟩ := a3 m v hmm
    have hz := (okrow (D.ro s c hsl m hm)).1
    exact ⟨g.row s c m, a, rfl, hv, hA, hz.1, hz.2⟩
  have rowX : ∀ {s c r}, SL g.L g.n s c → RowsN g.regs (g.row s c) H r → RowsX g.regs H r := fun {s c r} hsl hR => by
    obtain ⟨l, a1, a2, a3⟩ := hR
    have hl : l.length = g.regs.length := by simpa using congrArg List.length a2
    refine ⟨l, a1, by omega, fun k v m => ?_⟩
    have hk : k ∈ l.map (·.1) := List.mem_map_of_mem (f := (·.1)) m
    rw [a2] at hk
    obtain ⟨m', hm', rfl⟩ := List.mem_map.mp hk
    obtain ⟨a, rfl, hA⟩ := a3 m' v m
    have hz := okrow (D.ro s c hsl m' hm')
    exact ⟨m', a, rfl, rfl, hm', g.row s c m', hA, hz.1.1, hz.2⟩
  refine ⟨⟨T.rS, hN, by show g.regs.length ≤ 60; omega, by show g.L.length ≤ 100000; omega, ⟨_, T.f, fun n hn => hk_at hn⟩, ⟨kvs, g1, by omega, g3, fun k v m => ?_, g5⟩, ⟨ke, q1, by omega, q3, fun k v m => ?_, q5⟩⟩, ?_⟩
  · obtain ⟨s, c, b, r, h1, h2, h3, h4, h5⟩ := g4 k v m
    exact ⟨s, c, b, r, h1, h2, h3, h4, rowD h2 h5⟩
  · obtain ⟨s, a, row, h1, h2, h3, h4⟩ := q4 k v m
    exact ⟨s, a, row, h1, h2, h3, h4, (okrow (D.fi s row h2).2.2.1).1⟩
  · refine ⟨lT, l1, l4, lN, by omega, by omega, T.rS, hN, by omega, hW, ⟨_, T.f, by unfold hk; rw [List.length_map]; omega, fun k v m => ?_⟩, ⟨kvs, g1, by omega, hlen, fun k v m => ?_⟩, ⟨ke, q1, by omega, fun k v m => ?_⟩⟩
    · obtain ⟨n, hn, e⟩ := List.mem_map.mp m
      cases e
      refine ⟨n, _, rfl, rfl, hn, ?_⟩
      rcases D.f n hn with h | h <;> rw [h] <;> exact tx_ok (by simp)
    · obtain ⟨s, c, b, r, h1, h2, h3, h4, h5⟩ := g4 k v m
      have hgo := D.go s c h2
      exact ⟨⟨s, c, h1, h2.1, h2.2.1, h2.2.2⟩, b, h3, g.goal s c, r, h4, hgo.1, hgo.2, rowX h2 h5⟩
    · obtain ⟨s, a, row, h1, h2, h3, h4⟩ := q4 k v m
      obtain ⟨f0, f1, f2⟩ := D.fi s row h2
      have hz := okrow f2.1
      exact ⟨s, a, h1, h3, f0, f1, row, h4, hz.1.1, hz.2⟩
end KX
end
section
set_option Elab.async false
set_option linter.all false
set_option maxRecDepth 100000
set_option maxHeartbeats 8000000
/-! Bs20: what is kept of a drawn program runs as it is told. -/
namespace KX
open PySem PySem.Spec PyProof.Rows L2 Evl
theorem nrmGo_len : ∀ (row acc : List Itm) (ts : List Str), (nrmGo row acc ts).length ≤ acc.length + 2 * row.length + 1
  | [], acc, ts => by
    show (acc ++ (oneS ts).map Itm.t).length ≤ _
    rw [List.length_append, List.length_map]
    have := oneS_len ts
    simp
    omega
  | .t s :: r, acc, ts => by
    have := nrmGo_len r acc (ts ++ [s])
    show (nrmGo r acc (ts ++ [s])).length ≤ acc.length + 2 * (r.length + 1) + 1
    omega
  | .r n :: r, acc, ts => by
    have h := nrmGo_len r (acc ++ (oneS ts).map .t ++ [.r n]) []
    have h1 := oneS_len ts
    rw [List.length_append, List.length_append, List.length_map] at h
    show (nrmGo r (acc ++ (oneS ts).map .t ++ [.r n]) []).length ≤ acc.length + 2 * (r.length + 1) + 1
    have h2 : [Itm.r n].length = 1 := rfl
    omega
theorem nrm_len (row : List Itm) : (nrm row).length ≤ 2 * row.length + 1 := by
  have := nrmGo_len row [] []
  show (nrmGo row [] []).length ≤ _
  simpa using this
theorem goOk {g : Pg} (D : DrOk sg4 g) : GoOk g.td.pg := by
  obtain ⟨hN, h2, hW⟩ := regs_ok D
  have hp := srtS_perm g.regs
  have hn := D.n
  have sl : ∀ {s c}, SL (lts g.L) g.n s c → SL g.L g.n s c := fun h => ⟨h.1, h.2.1, lts_mem.mp h.2.2⟩
  refine ⟨by show 1 ≤ g.n; omega, hp.1.nodup_iff.mpr hN, by show (srtS g.regs).length ≤ 60; rw [hp.1.length_eq]; omega, fun s c h => D.go s c (sl h), fun s c h n hn => ?_, fun s row h => ?_⟩
  · have hro := D.ro s c (sl h) n (hp.1.mem_iff.mp hn)
    have h1 := nrm_len (g.row s c n)
    have h3 := hro.1
    refine ⟨by show (nrm (g.row s c n)).length ≤ 1000; omega, fun m hm => hp.1.mem_iff.mpr (hro.2 _ (nrm_mem hm))⟩
  · have h : (g.fin s).map nrm = some row := h
    obtain ⟨row0, h0, rfl⟩ := Option.map_eq_some_iff.mp h
    have hfi := (D.fi s row0 h0).2.2.1
    have h1 := nrm_len row0
    have h3 := hfi.1
    exact ⟨by omega, fun m hm => hp.1.mem_iff.mpr (hfi.2 _ (nrm_mem hm))⟩
/-- runs as told -/
theorem runG_td (g : Pg) : ∀ (w : List Nat), runG g.td.pg w = runG g w := by
  have h : ∀ (w : List Nat) (x : Int × (Str → Str)), w.foldl (stp g.td.pg) x = w.foldl (stp g) x := by
    intro w
    induction w with
    | nil => intro x; rfl
    | cons c w ih =>
      intro x
      have e : stp g.td.pg x c = stp g x c := by
        show (g.goal x.1 c, fun n => wr (nrm (g.row x.1 c n)) x.2) = (g.goal x.1 c, fun n => wr (g.row x.1 c n) x.2)
        congr 1
        funext n
        rw [wr_nrm]
      show w.foldl (stp g.td.pg) (stp g.td.pg x c) = w.foldl (stp g) (stp g x c)
      rw [e, ih]
  intro w
  have e0 : (fun n => (g.td.fs n).getD "") = g.fst := rfl
  show w.foldl (stp g.td.pg) (0, fun n => (g.td.fs n).getD "") = w.foldl (stp g) (0, g.fst)
  rw [e0]
  exact h w _
theorem wrG_td (g : Pg) (w : List Nat) : wrG g.td.pg w = wrG g w := by
  unfold wrG
  rw [runG_td]
  show ((g.fin (runG g w).1).map nrm).map (fun row => wr row (runG g w).2) = (g.fin (runG g w).1).map (fun row => wr row (runG g w).2)
  cases g.fin (runG g w).1 with
  | none => rfl
  | some row =>
    show some (wr (nrm row) (runG g w).2) = some (wr row (runG g w).2)
    rw [wr_nrm]
end KX
end
section
set_option Elab.async false
set_option linter.all false
set_option maxRecDepth 100000
set_option maxHeartbeats 8000000
/-! Bt1: names in rows, doubles, paths. -/
namespace KX
open PySem PySem.Spec PyProof.Rows L2 Evl
section
variable {K : PySem.W.Frag} {σ : L2.St} {H : Hp} {wi : TI} {n : Nat} {It : Nat → V → Hp → Prop} {te : TE} {tt : TT} {j : Nat} {ws : List Nat}
/-- [te for j in wi if tt] -/
theorem el_lcF (S : Src wi σ H n It) (hz : n ≤ 40000) (hw : ∀ x, wipe ((wipe σ ws).set j (some x)) ws = wipe σ ws) (fl : Nat → Bool) (v : Nat → V) (ht : ∀ i x H', Ex H H' → i < n → It i x H' → EvT tt ((wipe σ ws).set j (some x)) H' (fl i)) (he : ∀ i x H', Ex H H' → i < n → It i x H' → fl i = true → Ev te ((wipe σ ws).set j (some x)) H' (v i)) (hI : ∀ i x H' H'', Ex H' H'' → It i x H' → It i x H'') :
    EvL (tLc wi (gName j) tt te ws) σ H (given n fl v) := fun H1 e Q q =>
  S H1 e _ fun J G H2 e2 g2 gx gu w D hD => by
    refine lc_it w (fun i H' => G H' ∧ Cw H2 fl v D i H') ⟨gx _ _ (Ex.new hD) g2, hD, Ex.new hD, upd_same⟩ (fun i H' _ p => p.1) (fun i x H' H'' hi p y => ?_) fun H' p => ?_
    · obtain ⟨rfl, hx⟩ := y
      obtain ⟨g, c⟩ := p
      refine ⟨hw x, ?_⟩
      have ex := (e.trans e2).trans c.2.1
      have hc := c
      obtain ⟨p1, p2, p3⟩ := c
      refine ht i x H'' ex hi hx H'' (Ex.refl _) _ fun H3 e3 => ?_
      cases hf : fl i with
      | true =>
        refine (if_pos rfl).mpr ?_
        refine he i x H3 (ex.trans e3) hi (hI _ _ _ _ e3 hx) hf H3 (Ex.refl _) _ fun H4 e4 => ?_
        have e34 := e3.trans e4
        refine ⟨given i fl v, e34 D _ p3, sz_lt (by have := given_len i fl v; omega), gu H4 D _ _ rfl hD (gx _ _ e34 g) (e34 D _ p3), p1, Ex.mut (p2.trans e34) p1, ?_⟩
        rw [given_yes hf]
        exact upd_same
      | false =>
        refine (if_neg (by decide)).mpr ?_
        refine ⟨gx _ _ e3 g, p1, p2.trans e3, ?_⟩
        rw [given_no hf]
        exact e3 D _ p3
    · obtain ⟨g, p1, p2, p3⟩ := p
      exact q D H' (fresh_back e2 p1) (e2.trans p2) p3
end
/-- met.add(name) -/
theorem s_sadd {P : Program} {w : World} {σ : L2.St} {H : Hp} {to te : TE} {D : Ends} {a : Addr} {S : Key → Bool} {c : Nat} {k : Key} {y : V} (ho : Ev to σ H (.ref a)) (hy : Ev te σ H y) (ey : y = kV k) (hS : H a = some (SetK P w a S c)) (room : c + 1 < 4096)
    (kk : ∀ H1, Ex H H1 → D.nx σ (upd H1 a (SetK P w a (fun j => S j || decide (j = k)) (if S k = true then c else c + 1)))) : tDrop (tSAddK P w to (tCons te tNil)) D σ H :=
  ho H (Ex.refl H) _ fun H3 e3 => ⟨⟨a, S, c, rfl, e3 _ _ hS⟩, hy H3 e3 _ fun H4 e4 => by
    subst ey
    exact ⟨a, k, S, c, rfl, rfl, (e3.trans e4) _ _ hS, room, kk H4 (e3.trans e4)⟩⟩
/-- the registers in a row -/
def regsOf : List Itm → List Str
  | [] => []
  | .t _ :: r => regsOf r
  | .r n :: r => n :: regsOf r
theorem regsOf_append : ∀ a b : List Itm, regsOf (a ++ b) = regsOf a ++ regsOf b
  | [], b => rfl
  | .t _ :: r, b => regsOf_append r b
  | .r n :: r, b => by
    show n :: regsOf (r ++ b) = n :: (regsOf r ++ regsOf b)
    rw [regsOf_append r b]
def isR : Itm → Bool
  | .t _ => false
  | .r _ => true
def nmR : Itm → Str
  | .t _ => ""
  | .r n => n
theorem given_regs (row : List Itm) : given row.length (fun i => ((row[i]?).map isR).getD false) (fun i => .str (((row[i]?).map nmR).getD "")) = (regsOf row).map V.str := by
  have key : ∀ k, k ≤ row.length → given k (fun i => ((row[i]?).map isR).getD false) (fun i => .str (((row[i]?).map nmR).getD "")) = (regsOf (row.take k)).map V.str := fun k => by
    induction k with
    | zero => intro _; rfl
    | succ k ih =>
      intro hk
      have hx : row[k]? = some row[k] := List.getElem?_eq_getElem (by omega)
      have ht : row.take (k + 1) = row.take k ++ [row[k]] := by rw [List.take_succ, hx]; rfl
      rw [ht, regsOf_append, List.map_append]
      cases hr : row[k] with
      | t s =>
        rw [given_no (by rw [hx, hr]; rfl), ih (by omega)]
        simp [regsOf]
      | r m =>
        rw [given_yes (by rw [hx, hr]; rfl), ih (by omega), hx, hr]
        rfl
  have := key row.length (Nat.le_refl _)
  rw [List.take_length] at this
  exact this
/-- the first name that stands there again -/
def dbl : List Str → List Str → Option Str
  | _, [] => none
  | met, n :: r => if n ∈ met then some n else dbl (n :: met) r
def firstDbl (ns : List Str) : Option Str := dbl [] ns
theorem dbl_none : ∀ (met ns : List Str), dbl met ns = none ↔ ns.Nodup ∧ ∀ n ∈ ns, n ∉ met
  | met, [] => by simp [dbl]
  | met, n :: r => by
    unfold dbl
    by_cases h : n ∈ met
    · rw [if_pos h]
      simp [h]
    · rw [if_neg h, dbl_none (n :: met) r]
      simp only [List.nodup_cons, List.mem_cons]
      constructor
      · rintro ⟨a, b⟩
        exact ⟨⟨fun q => b n q (.inl rfl), a⟩, fun m hm => hm.elim (fun e => by rw [e]; exact h) fun hm => fun q => b m hm (.inr q)⟩
      · rintro ⟨⟨a, b⟩, c⟩
        exact ⟨b, fun m hm q => q.elim (fun e => by rw [e] at hm; exact a hm) fun q => c m (.inr hm) q⟩
theorem firstDbl_none (ns : List Str) : firstDbl ns = none ↔ ns.Nodup := by
  unfold firstDbl
  rw [dbl_none]
  simp
theorem dbl_mem : ∀ (met ns : List Str) {n : Str}, dbl met ns = some n → n ∈ ns
  | met, [], n, h => by cases h
  | met, m :: r, n, h => by
    unfold dbl at h
    by_cases hm : m ∈ met
    · rw [if_pos hm] at h
      cases h
      exact List.mem_cons_self
    · rw [if_neg hm] at h
      exact List.mem_cons_of_mem _ (dbl_mem _ r h)
def vOS : Option Str → V
  | some s => .str s
  | none => .non
/-- z: an address to keep away from -/
def sp_names_in : Sp := spE (fun (x : Addr × List Itm × Addr) vs H => vs = [.ref x.1] ∧ RowAt H x.1 x.2.1 ∧ x.2.1.length ≤ 1000 ∧ ∃ o, H x.2.2 = some o) (fun x v H => ∃ l, v = .ref l ∧ H l = some (.lst ((regsOf x.2.1).map V.str)) ∧ l ≠ x.2.2)
def sp_first_double (K : PySem.W.Frag) : Sp := spE (fun (x : Addr × List Str) vs H => vs = [.ref x.1] ∧ SqL K H x.1 (x.2.map V.str) ∧ x.2.length ≤ 4000) (fun x v _ => v = vOS (firstDbl x.2))
section
variable {P : Program} {w : World} {K : PySem.W.Frag} {mg : Str → Option Value} {base : Heap} {C : Addr} {f : Addr} {fd : FuncData}
theorem ok_names_in (F : Fun K "names_in" "names_in" s_names_in f fd) (Z : Zs mg C) : FnOk P w K mg base CX0 1 f fd ["row"] sp_names_in := by
  refine F.ok sc_names_in (fun vs H Q E h => ?_) (fun cdv A outer s H vs Q E hr h => ?_)
  · obtain ⟨i, ⟨rfl, _⟩, _⟩ := h
    rfl
  · obtain ⟨⟨a, row, z⟩, ⟨rfl, ⟨xs, hx, hl, hi⟩, hz, zo, hzo⟩, k⟩ := h
    dsimp only at hx hl hi hz hzo k
    refine ⟨_, (pss_one (ps_ret (pe_lc (own := [(("item" : Str), 1)]) (g := gName 1) rfl sc_names_in.nd (pi_tup (pv 0)) (blkOk_by (own := [(("item" : Str), 1)]) (N := n_names_in) (sc := defScope s_names_in) (by decide +kernel)) (fun _ _ _ _ _ => (pg_name (i := 1) sc_names_in.nd rfl (Or.inl rfl))) (fun _ _ _ _ _ => pts_one (pt_not (pt_val (pe_callB (cIsi (K := K)) (by rfl) Z.z_isinstance (by decide +kernel) (pa_cons (pv 1) (pa_cons (pe_bltn (by rfl) Z.z_str (by decide +kernel) (show RelV (.ty "str") _ from rfl)) pa_nil)))))) (fun _ _ _ _ _ => (pe_ix (ixT (K := K)) (pv 1) pe_int (fun _ _ => rfl)))))), ?_⟩
    refine s_retL (el_lcF (src_tup (K := K) (ev_var rfl) (st_of hx)) (by omega) (fun x => rfl) (fun i => ((row[i]?).map isR).getD false) (fun i => .str (((row[i]?).map nmR).getD "")) ?_ ?_ (fun _ _ _ _ _ h => h)) fun l H1 hl0 e1 h1 => k _ H1 e1 ⟨l, rfl, ?_, fun q => by
      subst q
      rw [hzo] at hl0
      cases hl0⟩
    · intro i x H' e hil hxi
      have hri : row[i]? = some row[i] := List.getElem?_eq_getElem (by omega)
      have h1 := (hi i x _ hxi hri).le (Le.ex e)
      rw [hri]
      cases hr : row[i] with
      | t s =>
        rw [hr] at h1
        obtain rfl : x = .str s := h1
        exact et_not (a := true) (et_B (ev_isS (ev_var rfl) rfl))
      | r m =>
        rw [hr] at h1
        obtain ⟨b, rfl, hb⟩ := h1
        exact et_not (a := false) (et_B (ev_isU (ev_var rfl) hb rfl))
    · intro i x H' e hil hxi hf
      have hri : row[i]? = some row[i] := List.getElem?_eq_getElem (by omega)
      have h1 := (hi i x _ hxi hri).le (Le.ex e)
      rw [hri] at hf ⊢
      cases hr : row[i] with
      | t s =>
        rw [hr] at hf
        cases hf
      | r m =>
        rw [hr] at h1
        obtain ⟨b, rfl, hb⟩ := h1
        exact ev_ixU (i := 0) (ev_var rfl) ev_c hb rfl
    · rw [h1, hl, given_regs]
theorem ok_first_double (F : Fun K "first_double" "first_double" s_first_double f fd) (Z : Zs mg C) : FnOk P w K mg base CX0 1 f fd ["names"] (sp_first_double K) := by
  refine F.ok sc_first_double (fun vs H Q E h => ?_) (fun cdv A outer s H vs Q E hr h => ?_)
  · obtain ⟨i, ⟨rfl, _⟩, _⟩ := h
    rfl
  · obtain ⟨⟨a, ns⟩, ⟨rfl, hx, hz⟩, k⟩ := h
    dsimp only at hx hz
    have k : ∀ v H', Ex H H' → v = vOS (firstDbl ns) → Q v H' := k
    refine ⟨_, (pss_cons (ps_set (i := 1) sc_first_double.nd rfl (Or.inl rfl) (pe_callTy0 cr_set0K (by rfl) Z.z_set (by decide +kernel))) 
    (pss_cons (ps_for PassesOwn.never rfl (pi_list (pv 0)) (pg_name (i := 2) sc_first_double.nd rfl (Or.inl rfl)) 
     (pss_cons (ps_if (pt_cmpR or_sinK (pv 2) (pv 1) (by rfl)) 
      (pss_one (ps_ret (pv 2))) pss_nil) 
     (pss_one (ps_expr (pe_saddK (pv 1) (pa_cons (pv 2) pa_nil)))))) 
    (pss_one (ps_ret pe_non)))), ?_⟩
    refine ⟨rfl, fun m hm => ?_⟩
    have e1 : Ex H (upd H m (SetK P w m (fun _ => false) 0)) := Ex.new hm
    refine q_forL (K := K) (ev_var rfl) (ex_l e1 hx) (fun i σ' H' => Ex H H' ∧ (∃ v2 S c, σ' = [some (.ref a), some (.ref m), v2] ∧ H' m = some (SetK P w m S c) ∧ c ≤ i ∧ ∀ n : Str, S (.inr n) = decide (n ∈ (ns.take i))) ∧ firstDbl ns = dbl (ns.take i).reverse (ns.drop i)) (fun H2 e2 => ⟨e1.trans e2, ⟨none, _, 0, rfl, e2 _ _ upd_same, Nat.le_refl _, fun n => by simp⟩, by rw [List.take_zero, List.drop_zero]; rfl⟩) (fun i σ' H' _ h => ex_l h.1 hx) ?_ ?_
    · rintro i x σ' H' hxi ⟨ex, ⟨v2, S, c, rfl, hS, hc, hSn⟩, hfd⟩
      rw [List.getElem?_map] at hxi
      cases hr : ns[i]? with
      | none => rw [hr] at hxi; cases hxi
      | some n =>
        rw [hr] at hxi
        obtain rfl : V.str n = x := Option.some.inj hxi
        have hil := (List.getElem?_eq_some_iff.mp hr).1
        have hdr : ns.drop i = n :: ns.drop (i + 1) := by
          rw [List.drop_eq_getElem_cons hil]
          congr 1
          have := List.getElem?_eq_getElem hil
          rw [hr] at this
          exact (Option.some.inj this).symm
        have htk : ns.take (i + 1) = ns.take i ++ [n] := by rw [List.take_succ, hr]; rfl
        rw [hdr] at hfd
        have hd2 : dbl (ns.take i).reverse (n :: ns.drop (i + 1)) = if n ∈ (ns.take i).reverse then some n else dbl (n :: (ns.take i).reverse) (ns.drop (i + 1)) := rfl
        rw [hd2] at hfd
        show (tSeq _ _) _ _ _
        refine q_when (b := decide (n ∈ ns.take i)) (et_test (ev_is (ev_op (ev_var rfl) (ev_var rfl) (z := .bl (S (.inr n))) fun H3 e3 Q q => ⟨.inr n, m, S, c, rfl, rfl, e3 _ _ hS, q H3 (Ex.refl H3)⟩) (by rw [hSn]))) (fun hb H2 e2 => ?_) (fun hb H2 e2 => ?_)
        · have hmem : n ∈ ns.take i := of_decide_eq_true hb
          rw [if_pos (List.mem_reverse.mpr hmem)] at hfd
          exact s_ret (v := .str n) (ev_var rfl) fun H3 e3 => k _ H3 ((ex.trans e2).trans e3) (by rw [hfd]; rfl)
        · have hmem : n ∉ ns.take i := of_decide_eq_false hb
          rw [if_neg (fun z => hmem (List.mem_reverse.mp z))] at hfd
          have hSf : S (.inr n) = false := by rw [hSn]; simp [hmem]
          refine s_sadd (k := .inr n) (ev_var rfl) (ev_var rfl) rfl (e2 _ _ hS) (by omega) fun H4 e4 => ?_
          have e24 := e2.trans e4
          refine ⟨Ex.mut (ex.trans e24) hm, ⟨some (.str n), _, _, rfl, upd_same, ?_, fun n' => ?_⟩, ?_⟩
          · rw [hSf]
            show c + 1 ≤ i + 1
            omega
          · show (S (.inr n') || decide ((Sum.inr n' : Key) = .inr n)) = _
            rw [hSn, htk]
            simp
          · rw [hfd, htk, List.reverse_append]
            rfl
    · rintro σ' H' ⟨ex, ⟨v2, S, c, rfl, hS, hc, hSn⟩, hfd⟩
      have hl : (ns.map V.str).length = ns.length := List.length_map _
      rw [hl, List.drop_length] at hfd
      exact s_ret (v := .non) ev_c fun H3 e3 => k _ H3 (ex.trans e3) (by rw [hfd]; rfl)
end
end KX
end
section
set_option Elab.async false
set_option linter.all false
set_option maxRecDepth 100000
set_option maxHeartbeats 8000000
/-! Bt2: names in several rows; programs are checked; paths. -/
namespace KX
open PySem PySem.Spec PyProof.Rows L2 Evl
theorem pi_listK {X : Cx} {K : PySem.W.Frag} {tg e : Expr} {te : TE} (he : PE X e te) (hK : X.K = K := by rfl) : PI X tg e (iList K te) := by
  subst hK
  exact pi_list he
theorem flat_next (ins : Nat → List V) (i : Nat) : (List.range (i + 1)).flatMap ins = (List.range i).flatMap ins ++ ins i := by
  rw [List.range_succ, List.flatMap_append]
  simp
section
variable {K : PySem.W.Frag} {σ : L2.St} {H : Hp} {wi : TI} {n : Nat} {It : Nat → V → Hp → Prop} {tl : TE} {j j1 : Nat} {ws w1 : List Nat}
/-- [y for x in wi for y in a list] -/
theorem el_lc2 (S : Src wi σ H n It) (hw : ∀ x, wipe ((wipe σ ws).set j (some x)) ws = wipe σ ws) (ins : Nat → List V) (hz : ((List.range n).flatMap ins).length ≤ 90000)
    (hs : ∀ x y, (((wipe ((wipe σ ws).set j (some x)) w1).set j1 (some y))[j1]? = some (some y)) ∧ wipe ((wipe ((wipe σ ws).set j (some x)) w1).set j1 (some y)) w1 = wipe ((wipe σ ws).set j (some x)) w1)
    (hin : ∀ i x H' D acc, Ex H H' → H' D = some (.lst acc) → H D = none → i < n → It i x H' → EvP tl ((wipe σ ws).set j (some x)) H' (fun v H2 => ∃ a, v = .ref a ∧ H2 a = some (.lst (ins i)) ∧ a ≠ D)) :
    EvL (tLc2 wi (gName j) tYes (iList K tl) (gName j1) tYes (tVar j1) ws w1) σ H ((List.range n).flatMap ins) := fun H1 e Q q =>
  S H1 e _ fun J G H2 e2 g2 gx gu w D hD => by
    have hmono : ∀ i, i ≤ n → ((List.range i).flatMap ins).length ≤ 90000 := fun i hi => by
      obtain ⟨d, rfl⟩ : ∃ d, n = i + d := ⟨n - i, by omega⟩
      have : (List.range (i + d)).flatMap ins = (List.range i).flatMap ins ++ ((List.range d).map (i + ·)).flatMap ins := by
        rw [List.range_add, List.flatMap_append]
      rw [this, List.length_append] at hz
      omega
    refine ⟨fun i m H => m = n - i ∧ i ≤ n ∧ G H ∧ Ex H2 H ∧ H D = some (.lst ((List.range i).flatMap ins)), ⟨n, by simp, Nat.zero_le _, gx _ _ (Ex.new hD) g2, Ex.new hD, upd_same⟩, ?_⟩
    rintro i m H' ⟨rfl, hi, g, ex, hd⟩
    by_cases hlt : i < n
    · refine .inr ⟨w.goes i H' hlt g, fun H => i + 1 ≤ n ∧ G H ∧ Ex H2 H ∧ H D = some (.lst ((List.range (i + 1)).flatMap ins)), fun H p => ⟨n - (i + 1), by omega, rfl, p.1, p.2⟩, fun x H'' hy => ?_⟩
      obtain ⟨rfl, hI⟩ := w.yields i H' x H'' hlt g hy
      refine ⟨hw x, ?_⟩
      unfold tYes
      refine iteT ?_
      have exx := (e.trans e2).trans ex
      refine hin i x H'' D _ exx hd (fresh_back (e.trans e2) hD) hlt hI H'' (Ex.refl _) _ fun v H3 e3 ⟨a, ev, ha, hne⟩ => ?_
      refine ⟨a, ev, ⟨_, sq_of ha⟩, ?_⟩
      have W1 := walk_list (K := K) (a := a) (xs := ins i)
      refine ⟨fun jj kk H => kk = (ins i).length - jj ∧ jj ≤ (ins i).length ∧ G H ∧ Ex H2 H ∧ H a = some (.lst (ins i)) ∧ H D = some (.lst ((List.range i).flatMap ins ++ (ins i).take jj)), ⟨(ins i).length, by simp, Nat.zero_le _, gx _ _ e3 g, ex.trans e3, ha, by rw [List.take_zero, List.append_nil]; exact e3 _ _ hd⟩, ?_⟩
      rintro jj kk H4 ⟨rfl, hj, g4, ex4, ha4, hd4⟩
      by_cases hjl : jj < (ins i).length
      · refine .inr ⟨W1.goes jj H4 hjl (sq_of ha4), fun H => jj + 1 ≤ (ins i).length ∧ G H ∧ Ex H2 H ∧ H a = some (.lst (ins i)) ∧ H D = some (.lst ((List.range i).flatMap ins ++ (ins i).take (jj + 1))), fun H p => ⟨(ins i).length - (jj + 1), by omega, rfl, p⟩, fun y H5 hy5 => ?_⟩
        obtain ⟨rfl, hy1⟩ := W1.yields jj H4 y H5 hjl (sq_of ha4) hy5
        refine ⟨(hs x y).2, iteT ?_⟩
        refine ⟨y, (hs x y).1, _, hd4, ?_, hjl, ?_, ?_, ?_, ?_⟩
        · have h1 := hmono (i + 1) hlt
          rw [flat_next, List.length_append] at h1
          refine sz_lt ?_
          rw [List.length_append, List.length_take]
          omega
        · exact gu H5 D _ _ rfl hD g4 hd4
        · exact Ex.mut ex4 hD
        · rw [upd_ne hne]
          exact ha4
        · rw [upd_same, List.take_succ, hy1]
          simp
      · have hje : jj = (ins i).length := by omega
        subst hje
        refine .inl ⟨W1.stops H4 (sq_of ha4), hlt, g4, ex4, ?_⟩
        rw [flat_next]
        rw [List.take_length] at hd4
        exact hd4
    · obtain rfl : i = n := by omega
      exact .inl ⟨w.stops H' g, q D H' (fresh_back e2 hD) (e2.trans ex) hd⟩
end
/-- the registers in the rows of these -/
def regsOfs (R : Str → List Itm) (ns : List Str) : List Str := ns.flatMap fun n => regsOf (R n)
theorem regsOf_len : ∀ row : List Itm, (regsOf row).length ≤ row.length
  | [] => Nat.le_refl _
  | .t _ :: r => Nat.le_succ_of_le (regsOf_len r)
  | .r _ :: r => Nat.succ_le_succ (regsOf_len r)
theorem regsOf_mem {n : Str} : ∀ {row : List Itm}, n ∈ regsOf row ↔ .r n ∈ row
  | [] => by simp [regsOf]
  | .t s :: r => by
    have := regsOf_mem (n := n) (row := r)
    simp [regsOf, this]
  | .r m :: r => by
    have := regsOf_mem (n := n) (row := r)
    simp [regsOf, this]
def sp_names_in_rows (K : PySem.W.Frag) : Sp := spE (fun (x : Addr × Addr × List Str × (Str → List Itm) × List Str) vs H => vs = [.ref x.1, .ref x.2.1] ∧ RowsN x.2.2.1 x.2.2.2.1 H x.1 ∧ SqL K H x.2.1 (x.2.2.2.2.map V.str) ∧ (∀ n ∈ x.2.2.2.2, n ∈ x.2.2.1) ∧ x.2.2.2.2.length ≤ 60 ∧ ∀ n ∈ x.2.2.1, (x.2.2.2.1 n).length ≤ 1000)
  (fun x v H => ∃ l, v = .ref l ∧ H l = some (.lst ((regsOfs x.2.2.2.1 x.2.2.2.2).map V.str)))
section
variable {P : Program} {w : World} {K : PySem.W.Frag} {mg : Str → Option Value} {base : Heap} {C : Addr} {f : Addr} {fd : FuncData}
theorem ok_names_in_rows (F : Fun K "names_in_rows" "names_in_rows" s_names_in_rows f fd) (Z : Zs mg C) (G_names_in : Has P w K mg base "names_in" 1 ["row"] sp_names_in) : FnOk P w K mg base CX0 2 f fd ["rows", "names"] (sp_names_in_rows K) := by
  refine F.ok sc_names_in_rows (fun vs H Q E h => ?_) (fun cdv A outer s H vs Q E hr h => ?_)
  · obtain ⟨i, ⟨rfl, _⟩, _⟩ := h
    rfl
  · obtain ⟨⟨r, na, regs, R, ns⟩, ⟨rfl, ⟨kvs, hr1, hkk, hrow⟩, hna, hsub, h60, hz⟩, k⟩ := h
    dsimp only at hr1 hkk hrow hna hsub h60 hz
    have k : ∀ v H', Ex H H' → (∃ l, v = .ref l ∧ H' l = some (.lst ((regsOfs R ns).map V.str))) → Q v H' := k
    have hu := hu_of hr
    refine ⟨_, (pss_one (ps_ret (pe_lc2 (own := [(("told" : Str), 2), (("name" : Str), 3)]) (vs1 := [3]) (g := gName 2) (g1 := gName 3) rfl sc_names_in_rows.nd (pi_list (pv 1)) (blkOk_by (own := [(("told" : Str), 2), (("name" : Str), 3)]) (N := n_names_in_rows) (sc := defScope s_names_in_rows) (by decide +kernel)) (by decide) (fun _ _ _ _ _ => (pg_name (i := 2) sc_names_in_rows.nd rfl (Or.inl rfl))) (fun _ _ _ _ _ => pts_nil) (fun _ _ _ _ _ => (pi_listK (K := K) (pe_use G_names_in (hr.mono (by decide)) (pa_cons (pe_dget hu (pv 0) (pv 2) (fun _ _ => rfl)) pa_nil)))) (fun _ _ _ _ _ => (pg_name (i := 3) sc_names_in_rows.nd rfl (Or.inl rfl))) (fun _ _ _ _ _ => pts_nil) (fun _ _ _ _ _ => (pv 3))))), ?_⟩
    let ins : Nat → List V := fun i => ((ns[i]?).map fun n => (regsOf (R n)).map V.str).getD []
    have hflat : ∀ m, m ≤ ns.length → (List.range m).flatMap ins = (regsOfs R (ns.take m)).map V.str := fun m => by
      induction m with
      | zero => intro _; rfl
      | succ m ih =>
        intro hm
        have hx : ns[m]? = some ns[m] := List.getElem?_eq_getElem (by omega)
        rw [flat_next, ih (by omega), List.take_succ, hx]
        show _ ++ (((ns[m]?).map fun n => (regsOf (R n)).map V.str).getD []) = _
        rw [hx]
        unfold regsOfs
        rw [List.flatMap_append, List.map_append]
        simp
    have hall : (List.range (ns.map V.str).length).flatMap ins = (regsOfs R ns).map V.str := by
      rw [List.length_map, hflat _ (Nat.le_refl _), List.take_length]
    have hlen : (regsOfs R ns).length ≤ 60 * 1000 := by
      have : ∀ l : List Str, (∀ n ∈ l, n ∈ regs) → (regsOfs R l).length ≤ l.length * 1000 := fun l => by
        induction l with
        | nil => intro _; exact Nat.le_refl _
        | cons a l ih =>
          intro h
          have h1 := ih fun n hn => h n (List.mem_cons_of_mem _ hn)
          have h2 := regsOf_len (R a)
          have h3 := hz a (h a List.mem_cons_self)
          show (regsOf (R a) ++ regsOfs R l).length ≤ (l.length + 1) * 1000
          rw [List.length_append]
          omega
      have := this ns hsub
      omega
    refine s_retL (el_lc2 (K := K) (src_list (K := K) (ev_var rfl) hna) (fun x => rfl) ins (by rw [hall, List.length_map]; omega) (fun x y => ⟨rfl, rfl⟩) ?_) fun l H1 _ e1 h1 => k _ H1 e1 ⟨l, rfl, by rw [h1, hall]⟩
    intro i x H' D acc e hD hD0 hi hx
    rw [List.getElem?_map] at hx
    cases hr : ns[i]? with
    | none => rw [hr] at hx; cases hx
    | some n =>
      rw [hr] at hx
      obtain rfl : V.str n = x := Option.some.inj hx
      have hn := hsub n (List.mem_of_getElem? hr)
      obtain ⟨v, hv, hm⟩ := valV_key (kvs := kvs) (k := .inr n) (by rw [hkk]; exact List.mem_map_of_mem hn)
      obtain ⟨a, rfl, hA⟩ := hrow n v hm
      refine (ep_use (ea_cons (ev_get (ev_var rfl) (ev_var rfl) (k := .inr n) rfl (.inl (e _ _ hr1)) hv) ea_nil) (spE_P (a, R n, D) (fun _ e2 => ⟨rfl, hA.le (Le.ex (e.trans e2)), hz n hn, _, e2 _ _ hD⟩) fun v H2 _ p => p)).imp fun v H2 _ ⟨l, h1, h2, h3⟩ => ⟨l, h1, ?_, h3⟩
      rw [h2]
      show _ = some (HO.lst (((ns[i]?).map fun n => (regsOf (R n)).map V.str).getD []))
      rw [hr]
      rfl
end
end KX
end
section
set_option Elab.async false
set_option linter.all false
set_option maxRecDepth 100000
set_option maxHeartbeats 8000000
/-! Bt3: programs are checked; plain ones; paths. -/
namespace KX
open PySem PySem.Spec PyProof.Rows L2 Evl
/-- what isinstance asks of the class of programs -/
structure IsP (K : PySem.W.Frag) (C : Addr) : Prop where
  a : PySem.W.findIn K (.ref C) "__class__" = some (some (.builtin "object.__class__"))
  n : PySem.W.specialIn K (.builtin "object.__class__") "__get__" = some (some (.builtin "getset_descriptor.__get__"))
  t : PySem.W.takesIn K (.builtin "object.__class__") = some true
  m : PySem.W.mroIn K C (.type "object") = some true
theorem ev_isP {K : PySem.W.Frag} {C a dx : Addr} {fs : List (Str × V)} {σ : L2.St} {H : Hp} {ta : TE} (cl : Cls K C) (I : IsP K C) (ha : Ev ta σ H (.ref a)) (h : H a = some (.ins C dx fs)) : Ev (tCB (rIsi K) (tCons ta (tCons (tC (.ref C)) tNil))) σ H (.bl true) :=
  ev_isi ha (.own C) (fun H1 e1 => .base (.ins (e1 _ _ h) cl I.a I.n I.t I.m)) (by
    show (if (Value.ref C == Value.ref C) = true then some true else _) = some true
    rw [if_pos (by simp)])
def sp_check_program (C : Addr) : Sp := spE (fun (x : Addr) vs H => vs = [.ref x] ∧ ∃ dx fs, H x = some (.ins C dx fs)) (fun _ v _ => v = .non)
/-- the states on the way -/
def pth (g : Pg) (w : List Nat) : List Int := (List.range (w.length + 1)).map fun i => (runG g (w.take i)).1
def sp_path_of (C : Addr) : Sp := spE (fun (x : Addr × Str × Pg) vs H => vs = [.ref x.1, .str x.2.1] ∧ PgAt C H x.1 x.2.2 ∧ GoOk x.2.2 ∧ (∀ c ∈ cds x.2.1, c ∈ cds x.2.2.L) ∧ x.2.1.length ≤ 50000)
  (fun x v H => ∃ l, v = .ref l ∧ H l = some (.lst ((pth x.2.2 (cds x.2.1)).map V.int)))
theorem pth_snoc (g : Pg) (w : List Nat) (i : Nat) (hi : i < w.length) : (List.range (i + 1 + 1)).map (fun i => (runG g (w.take i)).1) = (List.range (i + 1)).map (fun i => (runG g (w.take i)).1) ++ [(runG g (w.take (i + 1))).1] := by
  rw [List.range_succ, List.map_append]
  rfl
theorem atI_last (xs : List V) (v : V) : atI (xs ++ [v]) (-1) = some v := by
  unfold atI
  have h : ixN (xs ++ [v]).length (-1) = some xs.length := by
    unfold ixN
    rw [List.length_append]
    simp
    omega
  first
    | (rw [h]; simp)
    | simp [h]
section
variable {P : Program} {w : World} {K : PySem.W.Frag} {mg : Str → Option Value} {base : Heap} {C : Addr} {f : Addr} {fd : FuncData}
theorem ok_check_program (F : Fun K "check_program" "check_program" s_check_program f fd) (Z : Zs mg C) (PC : PgC K C) (IC : IsP K C) : FnOk P w K mg base CX0 1 f fd ["thing"] (sp_check_program C) := by
  refine F.ok sc_check_program (fun vs H Q E h => ?_) (fun cdv A outer s H vs Q E hr h => ?_)
  · obtain ⟨i, ⟨rfl, _⟩, _⟩ := h
    rfl
  · obtain ⟨p, ⟨rfl, dx, fs, hp⟩, k⟩ := h
    refine ⟨_, (pss_one (ps_if (pt_not (pt_val (pe_callB (cIsi (K := K)) (by rfl) Z.z_isinstance (by decide +kernel) (pa_cons (pv 0) (pa_cons (pe_glob rfl Z.k_Program (show RelV (.ref C) _ from rfl)) pa_nil))))) 
     (pss_one ps_never) pss_nil)), ?_⟩
    exact s_when (b := false) (et_not (a := true) (et_B (ev_isP PC.cl IC (ev_var rfl) hp))) (fun z => by cases z) fun _ H1 e1 => k _ H1 e1 rfl
end
end KX
end
section
set_option Elab.async false
set_option linter.all false
set_option maxRecDepth 100000
set_option maxHeartbeats 8000000
/-! Bt4: loops over locked dicts; plain programs. -/
namespace KX
open PySem PySem.Spec PyProof.Rows L2 Evl
section
variable {σ : L2.St} {H : Hp} {td : TE} {tb tz : TS} {D : Ends} {d : Addr} {j : Nat}
/-- for j in a dict of places, nothing that stood before is changed -/
theorem q_lockT {kvs : List (List Key × V)} (hd : H d = some (.dT kvs)) (ho : ∀ L, Le H L → Ev td σ L (.ref d)) (Pv : Obj → Nat → L2.St → Hp → Prop) (h0 : ∀ od H1, Ex (upd H d (.frz od (.dT kvs))) H1 → Pv od 0 σ H1) (hG : ∀ od i σ' H', Pv od i σ' H' → Ex (upd H d (.frz od (.dT kvs))) H')
    (hs : ∀ od (i : Nat) k v q σ' H' (E : Ends), kvs[i]? = some (k, v) → H' q = some (.tup (k.map kV)) → Pv od i σ' H' → E.nx = Pv od (i + 1) → E.rt = (fun v H' => H' d = some (.frz od (.dT kvs)) ∧ D.rt v (upd H' d (.dT kvs))) → tb E (σ'.set j (some (.ref q))) H')
    (hd2 : ∀ od σ' H', Pv od kvs.length σ' H' → tz D σ' (upd H' d (.dT kvs))) : tSeq (tLock (tFor (iKeys td) (gName j) tb)) tz D σ H :=
  ⟨d, _, hd, trivial, fun od => ho _ (Le.lock hd rfl rfl) _ (Ex.refl _) _ fun H1 e1 => ⟨d, od, rfl, .inr ⟨kvs, e1 _ _ upd_same, for_it walk_keysT (Pv od) (h0 od H1 e1) (fun i σ' H' _ p => hG od i σ' H' p _ _ upd_same) (fun i x σ' H' H'' _ p y => by
    obtain ⟨rfl, k, v, q, h1, rfl, h2⟩ := y
    exact hs od i k v q σ' H'' _ h1 h2 p rfl rfl) fun σ' H' p => ⟨hG od _ σ' H' p _ _ upd_same, hd2 od σ' H' p⟩⟩⟩⟩
/-- for j in a dict by numbers and texts -/
theorem q_lockK {kvs : List (Key × V)} (hd : H d = some (.dK kvs)) (ho : ∀ L, Le H L → Ev td σ L (.ref d)) (Pv : Obj → Nat → L2.St → Hp → Prop) (h0 : ∀ od H1, Ex (upd H d (.frz od (.dK kvs))) H1 → Pv od 0 σ H1) (hG : ∀ od i σ' H', Pv od i σ' H' → Ex (upd H d (.frz od (.dK kvs))) H')
    (hs : ∀ od (i : Nat) k v σ' H' (E : Ends), kvs[i]? = some (k, v) → Pv od i σ' H' → E.nx = Pv od (i + 1) → E.rt = (fun v H' => H' d = some (.frz od (.dK kvs)) ∧ D.rt v (upd H' d (.dK kvs))) → tb E (σ'.set j (some (kV k))) H')
    (hd2 : ∀ od σ' H', Pv od kvs.length σ' H' → tz D σ' (upd H' d (.dK kvs))) : tSeq (tLock (tFor (iKeys td) (gName j) tb)) tz D σ H :=
  ⟨d, _, hd, trivial, fun od => ho _ (Le.lock hd rfl rfl) _ (Ex.refl _) _ fun H1 e1 => ⟨d, od, rfl, .inl ⟨kvs, e1 _ _ upd_same, for_it walk_keys (Pv od) (h0 od H1 e1) (fun i σ' H' _ p => hG od i σ' H' p _ _ upd_same) (fun i x σ' H' H'' _ p y => by
    obtain ⟨rfl, k, v, h1, rfl⟩ := y
    exact hs od i k v σ' H'' _ h1 p rfl rfl) fun σ' H' p => ⟨hG od _ σ' H' p _ _ upd_same, hd2 od σ' H' p⟩⟩⟩⟩
end
/-- no register twice -/
def Plain (g : Pg) : Prop := (∀ s c, SL g.L g.n s c → (regsOfs (g.row s c) g.regs).Nodup) ∧ ∀ s row, g.fin s = some row → (regsOf row).Nodup
def sp_is_plain (C : Addr) : Sp := spE (fun (x : Addr × Pg) vs H => vs = [.ref x.1] ∧ PgAt C H x.1 x.2 ∧ GoOk x.2 ∧ ∀ s c, SL x.2.L x.2.n s c → (regsOfs (x.2.row s c) x.2.regs).length ≤ 4000) (fun x v _ => ∃ b, v = .bl b ∧ (b = true ↔ Plain x.2))
theorem RowsN.lockT {regs : List Str} {R : Str → List Itm} {H : Hp} {d r : Addr} {kvs : List (List Key × V)} {od : Obj} (hd : H d = some (.dT kvs)) (h : RowsN regs R H r) : RowsN regs R (upd H d (.frz od (.dT kvs))) r := by
  obtain ⟨l, h1, h2, h3⟩ := h
  refine ⟨l, ?_, h2, fun n v m => ?_⟩
  · rw [upd_ne (show r ≠ d from fun z => by
      subst z
      rw [h1] at hd
      cases hd)]
    exact h1
  · obtain ⟨a, e1, e2⟩ := h3 n v m
    exact ⟨a, e1, e2.le (Le.lock hd rfl rfl)⟩
theorem ev_fdbl {K : PySem.W.Frag} {σ : L2.St} {H : Hp} {ta : TE} {E : XK} {ns : List Str} (ha : EvP ta σ H (fun v H2 => ∃ l, v = .ref l ∧ H2 l = some (.lst (ns.map V.str)))) (hz : ns.length ≤ 4000) : Ev (tCall (sp_first_double K) [] E (tCons ta tNil)) σ H (vOS (firstDbl ns)) := fun H1 e Q q =>
  ha H1 e _ fun v H2 e2 ⟨l, ev, hl⟩ => by
    subst ev
    exact ⟨(l, ns), ⟨rfl, sq_of hl, hz⟩, fun v H3 e3 p => by
      rw [p]
      exact q H3 (e2.trans e3)⟩
theorem vOS_non (o : Option Str) : decide (vOS o = .non) = o.isNone := by
  cases o <;> simp [vOS]
section
variable {P : Program} {w : World} {K : PySem.W.Frag} {mg : Str → Option Value} {base : Heap} {C : Addr} {f : Addr} {fd : FuncData}
theorem ok_is_plain (F : Fun K "is_plain" "is_plain" s_is_plain f fd) (Z : Zs mg C) (PC : PgC K C) (G_check_program : Has P w K mg base "check_program" 1 ["thing"] (sp_check_program C)) (G_first_double : Has P w K mg base "first_double" 1 ["names"] (sp_first_double K))
    (G_names_in : Has P w K mg base "names_in" 1 ["row"] sp_names_in) (G_names_in_rows : Has P w K mg base "names_in_rows" 2 ["rows", "names"] (sp_names_in_rows K)) : FnOk P w K mg base CX0 3 f fd ["program"] (sp_is_plain C) := by
  refine F.ok sc_is_plain (fun vs H Q E h => ?_) (fun cdv A outer s H vs Q E hr h => ?_)
  · obtain ⟨i, ⟨rfl, _⟩, _⟩ := h
    rfl
  · obtain ⟨⟨p, g⟩, ⟨rfl, hP, G, hfew⟩, k⟩ := h
    dsimp only at hP G hfew
    have k : ∀ v H', Ex H H' → (∃ b, v = .bl b ∧ (b = true ↔ Plain g)) → Q v H' := k
    have hu := hu_of hr
    obtain ⟨dx, fs, ra, fa, sa, ea, hp, PF, PD⟩ := hP
    obtain ⟨ks, hks, hkz, hkn, hkv, hkc⟩ := PD.s
    obtain ⟨ke, hke, hkez, hken, hkev, hkec⟩ := PD.e
    refine ⟨_, (pss_cons (ps_expr (pe_use G_check_program (hr.mono (by decide)) (pa_cons (pv 0) pa_nil))) 
    (pss_cons (ps_lock (ps_for PassesOwn.never rfl (pi_keys (pe_fldK (K := K) (pv 0) rfl)) (pg_name (i := 1) sc_is_plain.nd rfl (Or.inl rfl)) 
     (pss_one (ps_if (pt_cmpR op_notN (pe_use G_first_double (hr.mono (by decide)) (pa_cons (pe_use G_names_in_rows (hr.mono (by decide)) (pa_cons (pe_ix (ixT (K := K)) (pe_dget hu (pe_fldK (K := K) (pv 0) rfl) (pv 1) (fun _ _ => rfl)) pe_int (fun _ _ => rfl)) (pa_cons (pe_fldK (K := K) (pv 0) rfl) pa_nil))) pa_nil)) pe_non (nomark _)) 
      (pss_one (ps_ret pe_bl)) pss_nil)))) 
    (pss_one (ps_ret (pe_callB (cr_all rfl) (by rfl) Z.z_all (by decide +kernel) (pa_cons (pe_lock (pe_lc (own := [(("state" : Str), 2)]) (g := gName 2) rfl sc_is_plain.nd (pi_keys (pe_fldK (K := K) (pv 0) rfl)) (blkOk_by (own := [(("state" : Str), 2)]) (N := n_is_plain) (sc := defScope s_is_plain) (by decide +kernel)) (fun _ _ _ _ _ => (pg_name (i := 2) sc_is_plain.nd rfl (Or.inl rfl))) (fun _ _ _ _ _ => pts_nil) (fun _ _ _ _ _ => (pe_cmpR op_isN (pe_use G_first_double (hr.mono (by decide)) (pa_cons (pe_use G_names_in (hr.mono (by decide)) (pa_cons (pe_dget hu (pe_fldK (K := K) (pv 0) rfl) (pv 2) (fun _ _ => rfl)) pa_nil)) pa_nil)) pe_non (nomark _))))) pa_nil)))))), ?_⟩
    refine q_drop (v := .non) (ev_use (ea_cons (ev_var rfl) ea_nil) (spE_V p (fun _ e => ⟨rfl, dx, fs, e _ _ hp⟩) fun v _ p => p)) fun H1 e1 => ?_
    have hp1 := e1 _ _ hp
    have hks1 := e1 _ _ hks
    refine q_lockT hks1 (fun L le => ev_fld (K := K) (ev_var rfl) (le.st _ _ rfl hp1) PC.cl PC.s PF.s) (fun od i σ' H' => Ex (upd H1 sa (.frz od (.dT ks))) H' ∧ (∃ v1, σ' = [some (.ref p), v1, none]) ∧ ∀ (j : Nat) s c v, j < i → ks[j]? = some ([.inl s, .inr ⟨#[c]⟩], v) → (regsOfs (g.row s c) g.regs).Nodup)
      (fun od H2 e2 => ⟨e2, ⟨none, rfl⟩, fun j s c v hj => absurd hj (Nat.not_lt_zero _)⟩) (fun od i σ' H' p => p.1) ?_ ?_
    · rintro od i kk v q σ' H' E hi hq ⟨ex, ⟨v1, rfl⟩, hprev⟩ hEn hEr
      obtain ⟨s, c, b, r, rfl, hsl, rfl, hb, hR⟩ := hkv kk v (List.mem_of_getElem? hi)
      obtain ⟨v', hv', hm'⟩ := valV_of (mem_at hi)
      have hvu := valV_uniq hkn (List.mem_of_getElem? hi)
      rw [hvu] at hv'
      cases hv'
      have Lk := Le.lock (od := od) hks1 rfl rfl
      have hpL := ex _ _ (Lk.st _ _ rfl hp1)
      have hbL := ex _ _ (Lk.st _ _ rfl (e1 _ _ hb))
      have hraL := ex _ _ (Lk.st _ _ rfl (e1 _ _ PD.rS))
      have hRL := ((hR.ex e1).lockT (od := od) hks1).ex ex
      have hN : EvP (tCall (sp_names_in_rows K) [] E0 (tCons (tOp (rIxT K) (tDGet (tFld K (tVar 0) "steps") (tVar 1)) (tC (.int 1))) (tCons (tFld K (tVar 0) "registers") tNil))) [some (.ref p), some (.ref q), none] H' (fun v H2 => ∃ l, v = .ref l ∧ H2 l = some (.lst ((regsOfs (g.row s c) g.regs).map V.str))) :=
        ep_use (ea_cons (ev_ixU (K := K) (i := 1) (ev_getT (ev_fld (K := K) (ta := tVar 0) (ev_var rfl) hpL PC.cl PC.s PF.s) (ev_var rfl) hq (ex_rd ex (.inr ⟨od, upd_same⟩)) hvu) ev_c hbL rfl) (ea_cons (ev_fld (K := K) (ta := tVar 0) (ev_var rfl) hpL PC.cl PC.r PF.r) ea_nil))
          (spE_P (r, ra, g.regs, g.row s c, g.regs) (fun _ e => ⟨rfl, hRL.ex e, sq_of (e _ _ hraL), fun n hn => hn, G.r6, fun n hn => (G.rw s c hsl n hn).1⟩) fun v H2 _ p => p)
      refine s_when (b := !(firstDbl (regsOfs (g.row s c) g.regs)).isNone) (et_test (ev_is (ev_op (ev_fdbl hN (hfew s c hsl)) ev_c rv_notN) (by rw [vOS_non]))) (fun hb' H2 e2 => ?_) (fun hb' H2 e2 => ?_)
      · refine s_ret (v := .bl false) ev_c fun H3 e3 => ?_
        rw [hEr]
        have exx := (ex.trans e2).trans e3
        refine ⟨exx _ _ upd_same, k _ _ (e1.trans (ex_unlock hks1 exx)) ⟨false, rfl, ?_⟩⟩
        constructor
        · intro z
          cases z
        · intro hpl
          have := (firstDbl_none _).mpr (hpl.1 s c hsl)
          rw [this] at hb'
          cases hb'
      · rw [hEn]
        refine ⟨ex.trans e2, ⟨some (.ref q), rfl⟩, fun j s2 c2 v2 hj hjk => ?_⟩
        by_cases hji : j < i
        · exact hprev j s2 c2 v2 hji hjk
        · have : j = i := by omega
          subst this
          rw [hi] at hjk
          have hjk := Option.some.inj hjk
          have h1 := congrArg Prod.fst hjk
          obtain ⟨rfl, rfl⟩ := pl_inj h1
          have hn : firstDbl (regsOfs (g.row s c) g.regs) = none := by
            cases hf : firstDbl (regsOfs (g.row s c) g.regs) with
            | none => rfl
            | some x => rw [hf] at hb'; cases hb'
          exact (firstDbl_none _).mp hn
    · rintro od σ' H' ⟨ex, ⟨v1, rfl⟩, hall⟩
      have eU : Ex H1 (upd H' sa (.dT ks)) := ex_unlock hks1 ex
      have e2 := e1.trans eU
      have hsteps : ∀ s c, SL g.L g.n s c → (regsOfs (g.row s c) g.regs).Nodup := fun s c hsl => by
        obtain ⟨v, hv, hm⟩ := valV_key (hkc s c hsl)
        obtain ⟨j, hj⟩ := List.mem_iff_getElem?.mp hm
        exact hall j s c v (List.getElem?_eq_some_iff.mp hj).1 hj
      have hp2 := e2 _ _ hp
      have hke2 := e2 _ _ hke
      let rowOf : Key → List Itm := fun kk => match kk with
        | .inl s => (g.fin s).getD []
        | .inr _ => []
      let bs : List Bool := ke.map fun q => (firstDbl (regsOf (rowOf q.1))).isNone
      generalize upd H' sa (.dT ks) = H2 at e2 hp2 hke2
      refine s_retP (Pv := fun v _ => ∃ b, v = .bl b ∧ (b = true ↔ Plain g)) ((EvP.of (ev_allL (K := K) (bs := bs) (lock_EvL hke2 trivial fun od2 => ?_))).imp fun v H3 _ hv => ⟨_, hv, ?_⟩) fun v H3 e3 p => k v H3 (e2.trans e3) p
      · have Lk := Le.lock (od := od2) hke2 rfl rfl
        refine el_lcW (src_keysK (ev_fld (K := K) (ta := tVar 0) (ev_var rfl) (Lk.st _ _ rfl hp2) PC.cl PC.e PF.e) upd_same) (by omega) (fun x => rfl) _ (by simp [bs]) ?_
        intro i x y H3 e hy ⟨kk, v, hkk, hxe⟩
        subst hxe
        rw [List.getElem?_map] at hy
        have hy : (bs[i]?).map V.bl = some y := hy
        have hbi : bs[i]? = some ((firstDbl (regsOf (rowOf kk))).isNone) := by
          show (ke.map fun q => (firstDbl (regsOf (rowOf q.1))).isNone)[i]? = _
          rw [List.getElem?_map, hkk]
          rfl
        rw [hbi] at hy
        cases hy
        obtain ⟨s, a, row, rfl, hfin, rfl, hA⟩ := hkev kk v (List.mem_of_getElem? hkk)
        have hvu := valV_uniq hken (List.mem_of_getElem? hkk)
        have hro : rowOf (.inl s) = row := by
          show (g.fin s).getD [] = row
          rw [hfin]
          rfl
        rw [hro]
        have hA3 := ((hA.le (Le.ex e2)).le Lk).le (Le.ex e)
        have hz := (G.fn s row hfin).1
        have hN : EvP (tCall sp_names_in [] E0 (tCons (tDGet (tFld K (tVar 0) "ends") (tVar 2)) tNil)) [some (.ref p), v1, some (.int s)] H3 (fun v H2 => ∃ l, v = .ref l ∧ H2 l = some (.lst ((regsOf row).map V.str))) :=
          (ep_use (ea_cons (ev_get (ev_fld (K := K) (ta := tVar 0) (ev_var rfl) (e _ _ (Lk.st _ _ rfl hp2)) PC.cl PC.e PF.e) (ev_var rfl) (k := .inl s) rfl (ex_rd e (.inr ⟨od2, upd_same⟩)) hvu) ea_nil)
            (spE_P (a, row, p) (fun _ e4 => ⟨rfl, hA3.le (Le.ex e4), hz, _, e4 _ _ (e _ _ (Lk.st _ _ rfl hp2))⟩) fun v H2 _ p => p)).imp fun v H4 _ ⟨l, h1, h2, _⟩ => ⟨l, h1, h2⟩
        refine ev_is (ev_op (ev_fdbl hN (by have := regsOf_len row; omega)) ev_c (z := .bl (decide (vOS (firstDbl (regsOf row)) = .non))) fun H4 _ Q q => ⟨rfl, q H4 (Ex.refl H4)⟩) (by rw [vOS_non])
      · show bs.all id = true ↔ Plain g
        constructor
        · intro hb
          refine ⟨hsteps, fun s row hfin => ?_⟩
          have hk := hkec s (by rw [hfin]; rfl)
          obtain ⟨v, hv, hm⟩ := valV_key hk
          have hmem : (firstDbl (regsOf (rowOf (.inl s)))).isNone ∈ bs := List.mem_map_of_mem (f := fun q : Key × V => (firstDbl (regsOf (rowOf q.1))).isNone) hm
          have h1 := List.all_eq_true.mp hb _ hmem
          have hro : rowOf (.inl s) = row := by
            show (g.fin s).getD [] = row
            rw [hfin]
            rfl
          rw [hro] at h1
          exact (firstDbl_none _).mp (by simpa using h1)
        · intro hpl
          refine List.all_eq_true.mpr fun b hb => ?_
          obtain ⟨q, hq, rfl⟩ := List.mem_map.mp hb
          obtain ⟨s, a, row, h1, hfin, _⟩ := hkev q.1 q.2 hq
          rw [h1]
          have hro : rowOf (.inl s) = row := by
            show (g.fin s).getD [] = row
            rw [hfin]
            rfl
          rw [hro, (firstDbl_none _).mpr (hpl.2 s row hfin)]
          rfl
end
end KX
end
section
set_option Elab.async false
set_option linter.all false
set_option maxRecDepth 100000
set_option maxHeartbeats 4000000
/-! M1: rows put into rows; a word's rows; plain programs' rows stay short. -/
namespace KX
open PySem PySem.Spec PyProof.Rows L2 Evl

/-! ### rows put into rows -/
def sbt (R : Str → List Itm) : Itm → List Itm
  | .t s => [.t s]
  | .r n => R n
def sub (row : List Itm) (R : Str → List Itm) : List Itm := row.flatMap (sbt R)
def fil (row : List Itm) (R : Str → List Itm) : List Itm := nrm (sub row R)
theorem cds_wr_nil (h : Str → Str) : cds (wr [] h) = [] := by rw [cds_wr]; rfl
theorem cds_wr_cons (t : Itm) (r : List Itm) (h : Str → Str) : cds (wr (t :: r) h) = cds (itT h t) ++ cds (wr r h) := by rw [cds_wr, cds_wr]; rfl
theorem cds_wr_app (a b : List Itm) (h : Str → Str) : cds (wr (a ++ b) h) = cds (wr a h) ++ cds (wr b h) := by
  rw [cds_wr, cds_wr, cds_wr, List.map_append, List.flatten_append]
theorem cds_sub (R : Str → List Itm) (h : Str → Str) : ∀ row : List Itm, cds (wr (sub row R) h) = cds (wr row fun n => wr (R n) h)
  | [] => rfl
  | t :: r => by
    have e : sub (t :: r) R = sbt R t ++ sub r R := rfl
    rw [e, cds_wr_app, cds_sub R h r, cds_wr_cons]
    congr 1
    cases t with
    | t s =>
      show cds (wr [.t s] h) = _
      rw [cds_wr_cons, cds_wr_nil, List.append_nil]
      rfl
    | r n => rfl
theorem wr_sub (row : List Itm) (R : Str → List Itm) (h : Str → Str) : wr (sub row R) h = wr row fun n => wr (R n) h := cds_inj (cds_sub R h row)
theorem wr_fil (row : List Itm) (R : Str → List Itm) (h : Str → Str) : wr (fil row R) h = wr row fun n => wr (R n) h := by
  unfold fil
  rw [wr_nrm, wr_sub]
theorem regsOf_texts (ts : List Str) : regsOf (ts.map Itm.t) = [] := by
  induction ts with
  | nil => rfl
  | cons s r ih => exact ih
theorem regsOf_nrmGo : ∀ (row acc : List Itm) (ts : List Str), regsOf (nrmGo row acc ts) = regsOf acc ++ regsOf row
  | [], acc, ts => by
    show regsOf (acc ++ (oneS ts).map .t) = _
    rw [regsOf_append, regsOf_texts]
    rfl
  | .t s :: r, acc, ts => regsOf_nrmGo r acc (ts ++ [s])
  | .r n :: r, acc, ts => by
    show regsOf (nrmGo r (acc ++ (oneS ts).map .t ++ [.r n]) []) = _
    rw [regsOf_nrmGo r, regsOf_append, regsOf_append, regsOf_texts, List.append_nil, List.append_assoc]
    rfl
theorem regsOf_nrm (row : List Itm) : regsOf (nrm row) = regsOf row := regsOf_nrmGo row [] []
theorem regsOf_sub (R : Str → List Itm) : ∀ row : List Itm, regsOf (sub row R) = (regsOf row).flatMap fun n => regsOf (R n)
  | [] => rfl
  | .t s :: r => by
    have e : sub (.t s :: r) R = [.t s] ++ sub r R := rfl
    rw [e, regsOf_append, regsOf_sub R r]
    rfl
  | .r n :: r => by
    have e : sub (.r n :: r) R = R n ++ sub r R := rfl
    rw [e, regsOf_append, regsOf_sub R r]
    rfl
theorem regsOf_fil (row : List Itm) (R : Str → List Itm) : regsOf (fil row R) = (regsOf row).flatMap fun n => regsOf (R n) := by
  unfold fil
  rw [regsOf_nrm, regsOf_sub]
theorem nrmGo_alt : ∀ (row acc : List Itm) (ts : List Str), (nrmGo row acc ts).length ≤ acc.length + 2 * (regsOf row).length + 1
  | [], acc, ts => by
    show (acc ++ (oneS ts).map Itm.t).length ≤ _
    rw [List.length_append, List.length_map]
    have := oneS_len ts
    have e : (regsOf []).length = 0 := rfl
    omega
  | .t s :: r, acc, ts => nrmGo_alt r acc (ts ++ [s])
  | .r n :: r, acc, ts => by
    have h := nrmGo_alt r (acc ++ (oneS ts).map .t ++ [.r n]) []
    have h1 := oneS_len ts
    rw [List.length_append, List.length_append, List.length_map] at h
    have h2 : [Itm.r n].length = 1 := rfl
    have e : (regsOf (.r n :: r)).length = (regsOf r).length + 1 := rfl
    show (nrmGo r (acc ++ (oneS ts).map .t ++ [.r n]) []).length ≤ _
    omega
theorem nrm_alt (row : List Itm) : (nrm row).length ≤ 2 * (regsOf row).length + 1 := by
  have := nrmGo_alt row [] []
  show (nrmGo row [] []).length ≤ _
  simpa using this
theorem rowLen_app (a b : List Itm) : rowLen (a ++ b) = rowLen a + rowLen b := by
  unfold rowLen
  rw [List.map_append, List.sum_append]
theorem rowLen_oneS (ts : List Str) : rowLen ((oneS ts).map .t) = (ts.map (·.length)).sum := by
  unfold oneS
  by_cases e : cat ts = ""
  · rw [if_pos e]
    have := len_cat ts
    rw [e] at this
    exact this
  · rw [if_neg e]
    show (cat ts).length + 0 = _
    rw [len_cat]
    rfl
theorem rowLen_nrmGo : ∀ (row acc : List Itm) (ts : List Str), rowLen (nrmGo row acc ts) = rowLen acc + (ts.map (·.length)).sum + rowLen row
  | [], acc, ts => by
    show rowLen (acc ++ (oneS ts).map .t) = _
    rw [rowLen_app, rowLen_oneS]
    rfl
  | .t s :: r, acc, ts => by
    show rowLen (nrmGo r acc (ts ++ [s])) = _
    rw [rowLen_nrmGo r, List.map_append, List.sum_append]
    show _ + ((ts.map (·.length)).sum + (s.length + 0)) + rowLen r = _ + _ + (s.length + rowLen r)
    omega
  | .r n :: r, acc, ts => by
    show rowLen (nrmGo r (acc ++ (oneS ts).map .t ++ [.r n]) []) = _
    rw [rowLen_nrmGo r, rowLen_app, rowLen_app, rowLen_oneS]
    show _ + _ + 0 + 0 + rowLen r = _ + _ + (0 + rowLen r)
    omega
theorem rowLen_nrm (row : List Itm) : rowLen (nrm row) = rowLen row := by
  have := rowLen_nrmGo row [] []
  show rowLen (nrmGo row [] []) = _
  rw [this]
  show 0 + 0 + rowLen row = _
  omega
/-- sums over names -/
def smF (f : Str → Nat) (l : List Str) : Nat := (l.map f).sum
theorem smF_app {f : Str → Nat} (a b : List Str) : smF f (a ++ b) = smF f a + smF f b := by
  unfold smF
  rw [List.map_append, List.sum_append]
theorem smF_perm {f : Str → Nat} {a b : List Str} (h : a.Perm b) : smF f a = smF f b := by
  unfold smF
  induction h with
  | nil => rfl
  | cons x _ ih => simp only [List.map_cons, List.sum_cons, ih]
  | swap x y l =>
    simp only [List.map_cons, List.sum_cons]
    omega
  | trans _ _ i1 i2 => rw [i1, i2]
theorem smF_sub {f : Str → Nat} : ∀ {l regs : List Str}, l.Nodup → (∀ m ∈ l, m ∈ regs) → smF f l ≤ smF f regs
  | [], _, _, _ => Nat.zero_le _
  | a :: l, regs, hn, hs => by
    have ha := hs a List.mem_cons_self
    have hn := List.nodup_cons.mp hn
    rw [smF_perm (List.perm_cons_erase ha)]
    show f a + smF f l ≤ f a + smF f (regs.erase a)
    have := smF_sub (f := f) (l := l) (regs := regs.erase a) hn.2 fun m hm => (List.mem_erase_of_ne (fun z => by
      subst z
      exact hn.1 hm)).mpr (hs m (List.mem_cons_of_mem _ hm))
    omega
theorem rowLen_sub (R : Str → List Itm) : ∀ row : List Itm, rowLen (sub row R) = rowLen row + smF (fun n => rowLen (R n)) (regsOf row)
  | [] => rfl
  | .t s :: r => by
    have e : sub (.t s :: r) R = [.t s] ++ sub r R := rfl
    rw [e, rowLen_app, rowLen_sub R r]
    show s.length + 0 + _ = s.length + rowLen r + _
    have : regsOf (.t s :: r) = regsOf r := rfl
    rw [this]
    omega
  | .r n :: r => by
    have e : sub (.r n :: r) R = R n ++ sub r R := rfl
    rw [e, rowLen_app, rowLen_sub R r]
    show rowLen (R n) + (rowLen r + smF _ (regsOf r)) = 0 + rowLen r + (rowLen (R n) + smF _ (regsOf r))
    omega
theorem rowLen_fil (row : List Itm) (R : Str → List Itm) : rowLen (fil row R) = rowLen row + smF (fun n => rowLen (R n)) (regsOf row) := by
  unfold fil
  rw [rowLen_nrm, rowLen_sub]

/-! ### each register once -/
def LinN (regs : List Str) (R : Str → List Itm) : Prop := (regsOfs R regs).Nodup ∧ ∀ n ∈ regs, ∀ m ∈ regsOf (R n), m ∈ regs
def tl (regs : List Str) (R : Str → List Itm) : Nat := smF (fun n => rowLen (R n)) regs
def idR : Str → List Itm := fun n => [.r n]
def aft (R1 R2 : Str → List Itm) : Str → List Itm := fun n => fil (R2 n) R1
theorem flat_one {f : Str → List Str} {x y z : Str} : ∀ {l : List Str}, (l.flatMap f).Nodup → x ∈ l → y ∈ l → z ∈ f x → z ∈ f y → x = y
  | [], _, h, _, _, _ => by cases h
  | a :: l, hn, hx, hy, hzx, hzy => by
    rw [List.flatMap_cons] at hn
    obtain ⟨h1, h2, h3⟩ := List.nodup_append.mp hn
    rcases List.mem_cons.mp hx with ex | hx <;> rcases List.mem_cons.mp hy with ey | hy
    · rw [ex, ey]
    · rw [ex] at hzx
      exact absurd rfl (h3 z hzx z (List.mem_flatMap.mpr ⟨y, hy, hzy⟩))
    · rw [ey] at hzy
      exact absurd rfl (h3 z hzy z (List.mem_flatMap.mpr ⟨x, hx, hzx⟩))
    · exact flat_one h2 hx hy hzx hzy
theorem flat_each {f : Str → List Str} {x : Str} : ∀ {l : List Str}, (l.flatMap f).Nodup → x ∈ l → (f x).Nodup
  | [], _, h => by cases h
  | a :: l, hn, hx => by
    rw [List.flatMap_cons] at hn
    obtain ⟨h1, h2, _⟩ := List.nodup_append.mp hn
    rcases List.mem_cons.mp hx with ex | hx
    · rw [ex]
      exact h1
    · exact flat_each h2 hx
theorem flat_sub {f : Str → List Str} {regs : List Str} (hr : (regs.flatMap f).Nodup) : ∀ {l : List Str}, l.Nodup → (∀ m ∈ l, m ∈ regs) → (l.flatMap f).Nodup
  | [], _, _ => List.nodup_nil
  | a :: l, hn, hs => by
    have hn := List.nodup_cons.mp hn
    rw [List.flatMap_cons]
    refine List.nodup_append.mpr ⟨flat_each hr (hs a List.mem_cons_self), flat_sub hr hn.2 fun m hm => hs m (List.mem_cons_of_mem _ hm), fun x hx y hy z => ?_⟩
    subst z
    obtain ⟨n, hnl, hxn⟩ := List.mem_flatMap.mp hy
    have := flat_one hr (hs a List.mem_cons_self) (hs n (List.mem_cons_of_mem _ hnl)) hx hxn
    rw [this] at hn
    exact hn.1 hnl
theorem lin_id {regs : List Str} (h : regs.Nodup) : LinN regs idR := by
  have e : regsOfs idR regs = regs := by
    unfold regsOfs
    induction regs with
    | nil => rfl
    | cons a l ih =>
      rw [List.flatMap_cons, ih (List.nodup_cons.mp h).2]
      rfl
  refine ⟨by rw [e]; exact h, fun n hn m hm => ?_⟩
  rw [List.mem_singleton.mp (show m ∈ [n] from hm)]
  exact hn
theorem regsOfs_aft (R1 R2 : Str → List Itm) (l : List Str) : regsOfs (aft R1 R2) l = (regsOfs R2 l).flatMap fun n => regsOf (R1 n) := by
  unfold regsOfs
  induction l with
  | nil => rfl
  | cons a l ih =>
    rw [List.flatMap_cons, List.flatMap_cons, List.flatMap_append, ih]
    congr 1
    exact regsOf_fil _ _
theorem lin_aft {regs : List Str} {R1 R2 : Str → List Itm} (h1 : LinN regs R1) (h2 : LinN regs R2) : LinN regs (aft R1 R2) := by
  refine ⟨?_, fun n hn m hm => ?_⟩
  · rw [regsOfs_aft]
    refine flat_sub h1.1 h2.1 fun m hm => ?_
    obtain ⟨n, hn, hmn⟩ := List.mem_flatMap.mp hm
    exact h2.2 n hn m hmn
  · have hm : m ∈ regsOf (fil (R2 n) R1) := hm
    rw [regsOf_fil] at hm
    obtain ⟨k, hk, hmk⟩ := List.mem_flatMap.mp hm
    exact h1.2 k (h2.2 n hn k hk) m hmk
theorem tl_id (regs : List Str) : tl regs idR = 0 := by
  unfold tl smF
  induction regs with
  | nil => rfl
  | cons a l ih =>
    rw [List.map_cons, List.sum_cons, ih]
    rfl
theorem tl_aft {regs : List Str} {R1 R2 : Str → List Itm} (h2 : LinN regs R2) : tl regs (aft R1 R2) ≤ tl regs R2 + tl regs R1 := by
  have step : ∀ l : List Str, smF (fun n => rowLen (aft R1 R2 n)) l = smF (fun n => rowLen (R2 n)) l + smF (fun n => rowLen (R1 n)) (regsOfs R2 l) := by
    intro l
    induction l with
    | nil => rfl
    | cons a l ih =>
      have e : regsOfs R2 (a :: l) = regsOf (R2 a) ++ regsOfs R2 l := rfl
      rw [e, smF_app]
      show rowLen (fil (R2 a) R1) + smF (fun n => rowLen (aft R1 R2 n)) l = rowLen (R2 a) + smF (fun n => rowLen (R2 n)) l + _
      rw [ih, rowLen_fil]
      omega
  have s := step regs
  have := smF_sub (f := fun n => rowLen (R1 n)) (l := regsOfs R2 regs) (regs := regs) h2.1 fun m hm => by
    obtain ⟨n, hn, hmn⟩ := List.mem_flatMap.mp hm
    exact h2.2 n hn m hmn
  show smF (fun n => rowLen (aft R1 R2 n)) regs ≤ smF (fun n => rowLen (R2 n)) regs + smF (fun n => rowLen (R1 n)) regs
  omega
theorem le_tl {regs : List Str} {R : Str → List Itm} {n : Str} (hn : n ∈ regs) : rowLen (R n) ≤ tl regs R := by
  have := smF_sub (f := fun n => rowLen (R n)) (l := [n]) (regs := regs) (by simp) fun m hm => by
    rw [List.mem_singleton.mp hm]
    exact hn
  have e : smF (fun n => rowLen (R n)) [n] = rowLen (R n) := by
    unfold smF
    simp
  rw [e] at this
  exact this
theorem lin_len {regs : List Str} {R : Str → List Itm} {n : Str} (h : LinN regs R) (hn : n ∈ regs) : (regsOf (R n)).length ≤ regs.length :=
  List.Nodup.length_le_of_subset (flat_each h.1 hn) fun m hm => h.2 n hn m hm

/-! ### the rows of a word -/
def rwStp (g : Pg) (x : Int × (Str → List Itm)) (c : Nat) : Int × (Str → List Itm) := (g.goal x.1 c, aft x.2 (g.row x.1 c))
def rwG (g : Pg) (s : Int) (w : List Nat) : Int × (Str → List Itm) := w.foldl (rwStp g) (s, idR)
def runS (g : Pg) (s : Int) (h : Str → Str) (w : List Nat) : Int × (Str → Str) := w.foldl (stp g) (s, h)
/-- what rows make of what is held -/
def ap (R : Str → List Itm) (h : Str → Str) : Str → Str := fun n => wr (R n) h
theorem ap_id (h : Str → Str) : ap idR h = h := by
  funext n
  apply cds_inj
  show cds (wr [.r n] h) = _
  rw [cds_wr_cons, cds_wr_nil, List.append_nil]
  rfl
theorem ap_aft (R1 R2 : Str → List Itm) (h : Str → Str) : ap (aft R1 R2) h = ap R2 (ap R1 h) := by
  funext n
  exact wr_fil _ _ _
theorem rw_run (g : Pg) (h : Str → Str) : ∀ (w : List Nat) (x : Int × (Str → List Itm)), runS g x.1 (ap x.2 h) w = ((w.foldl (rwStp g) x).1, ap (w.foldl (rwStp g) x).2 h)
  | [], _ => rfl
  | c :: w, x => by
    have e : stp g (x.1, ap x.2 h) c = ((rwStp g x c).1, ap (rwStp g x c).2 h) := by
      show (g.goal x.1 c, ap (g.row x.1 c) (ap x.2 h)) = (g.goal x.1 c, ap (aft x.2 (g.row x.1 c)) h)
      rw [ap_aft]
    show (w.foldl (stp g) (stp g (x.1, ap x.2 h) c)) = _
    rw [e]
    exact rw_run g h w (rwStp g x c)
theorem rwG_run (g : Pg) (s : Int) (h : Str → Str) (w : List Nat) : runS g s h w = ((rwG g s w).1, ap (rwG g s w).2 h) := by
  have := rw_run g h w (s, idR)
  rw [ap_id] at this
  exact this
theorem runS_app (g : Pg) (s : Int) (h : Str → Str) (a b : List Nat) : runS g s h (a ++ b) = runS g (runS g s h a).1 (runS g s h a).2 b := by
  unfold runS
  rw [List.foldl_append]
theorem runG_S (g : Pg) (w : List Nat) : runG g w = runS g 0 g.fst w := rfl
/-- plain, and rows not too long: B signs a step at most -/
structure Thin (g : Pg) (B : Nat) : Prop where
  n1 : 1 ≤ g.n
  rN : g.regs.Nodup
  go : ∀ s c, SL g.L g.n s c → 0 ≤ g.goal s c ∧ g.goal s c < g.n
  li : ∀ s c, SL g.L g.n s c → LinN g.regs (g.row s c) ∧ tl g.regs (g.row s c) ≤ B
  fi : ∀ s row, g.fin s = some row → (regsOf row).Nodup ∧ (∀ m ∈ regsOf row, m ∈ g.regs) ∧ rowLen row ≤ B
  r4 : g.regs.length ≤ 4
  b : B ≤ 100
  rl : ∀ s c, SL g.L g.n s c → ∀ n ∈ g.regs, (g.row s c n).length ≤ 20
  fl : ∀ s row, g.fin s = some row → row.length ≤ 20
theorem rwG_thin {g : Pg} {B : Nat} (T : Thin g B) : ∀ (w : List Nat) (x : Int × (Str → List Itm)) (k : Nat), (∀ c ∈ w, c ∈ cds g.L) → 0 ≤ x.1 ∧ x.1 < g.n → LinN g.regs x.2 → tl g.regs x.2 ≤ k →
    (0 ≤ (w.foldl (rwStp g) x).1 ∧ (w.foldl (rwStp g) x).1 < g.n) ∧ LinN g.regs (w.foldl (rwStp g) x).2 ∧ tl g.regs (w.foldl (rwStp g) x).2 ≤ k + B * w.length
  | [], x, k, _, h1, h2, h3 => ⟨h1, h2, by simpa using h3⟩
  | c :: w, x, k, hw, h1, h2, h3 => by
    have hsl : SL g.L g.n x.1 c := ⟨h1.1, h1.2, hw c List.mem_cons_self⟩
    have l := T.li x.1 c hsl
    have t := tl_aft (R1 := x.2) l.1
    have := rwG_thin T w (rwStp g x c) (k + B) (fun d hd => hw d (List.mem_cons_of_mem _ hd)) (T.go x.1 c hsl) (lin_aft h2 l.1) (by show tl g.regs (aft x.2 (g.row x.1 c)) ≤ _; omega)
    rw [List.length_cons, Nat.mul_succ]
    exact ⟨this.1, this.2.1, by have := this.2.2; show tl g.regs (w.foldl (rwStp g) (rwStp g x c)).2 ≤ _; omega⟩
theorem rwG_ok {g : Pg} {B : Nat} (T : Thin g B) {s : Int} {w : List Nat} (hw : ∀ c ∈ w, c ∈ cds g.L) (h0 : 0 ≤ s) (h1 : s < g.n) : (0 ≤ (rwG g s w).1 ∧ (rwG g s w).1 < g.n) ∧ LinN g.regs (rwG g s w).2 ∧ tl g.regs (rwG g s w).2 ≤ B * w.length := by
  have := rwG_thin T w (s, idR) 0 hw ⟨h0, h1⟩ (lin_id T.rN) (by rw [tl_id]; exact Nat.le_refl _)
  rw [Nat.zero_add] at this
  exact this
theorem sub_len (R : Str → List Itm) : ∀ row : List Itm, (sub row R).length ≤ row.length + smF (fun m => (R m).length) (regsOf row)
  | [] => Nat.zero_le _
  | .t s :: r => by
    have e : sub (.t s :: r) R = [.t s] ++ sub r R := rfl
    have ih := sub_len R r
    have e2 : regsOf (.t s :: r) = regsOf r := rfl
    rw [e, List.length_append, e2]
    show 1 + _ ≤ r.length + 1 + _
    omega
  | .r n :: r => by
    have e : sub (.r n :: r) R = R n ++ sub r R := rfl
    have ih := sub_len R r
    rw [e, List.length_append]
    show _ ≤ r.length + 1 + ((R n).length + smF _ (regsOf r))
    omega
/-- rows in one form -/
def Nrm (R : Str → List Itm) : Prop := ∀ n, (R n).length ≤ 2 * (regsOf (R n)).length + 1
theorem nrm_id : Nrm idR := fun n => by
  show 1 ≤ 2 * 1 + 1
  omega
theorem nrm_aft (R1 R2 : Str → List Itm) : Nrm (aft R1 R2) := fun n => by
  show (nrm _).length ≤ 2 * (regsOf (nrm _)).length + 1
  rw [regsOf_nrm]
  exact nrm_alt _
theorem nrm_rw (g : Pg) (s : Int) (w : List Nat) : Nrm (rwG g s w).2 := by
  rcases List.eq_nil_or_concat w with e | ⟨l, c, e⟩
  · rw [e]
    exact nrm_id
  · rw [e]
    have : rwG g s (l.concat c) = rwStp g (rwG g s l) c := by
      unfold rwG
      rw [List.concat_eq_append, List.foldl_append]
      rfl
    rw [this]
    exact nrm_aft _ _
theorem smF_le {f : Str → Nat} {k : Nat} : ∀ {l : List Str}, (∀ n ∈ l, f n ≤ k) → smF f l ≤ l.length * k
  | [], _ => Nat.zero_le _
  | a :: l, h => by
    have := smF_le (l := l) fun n hn => h n (List.mem_cons_of_mem _ hn)
    have ha := h a List.mem_cons_self
    rw [List.length_cons, Nat.succ_mul]
    show f a + smF f l ≤ _
    omega
/-- what is put in is short -/
theorem sub_ok {regs : List Str} {R : Str → List Itm} {row : List Itm} {k : Nat} (h4 : regs.length ≤ 4) (L : LinN regs R) (N : Nrm R) (hl : row.length ≤ 20) (hn : (regsOf row).Nodup) (hr : ∀ m ∈ regsOf row, m ∈ regs) (ht : rowLen row + tl regs R ≤ k) :
    (sub row R).length ≤ 1000 ∧ rowLen (sub row R) ≤ k := by
  have l4 : (regsOf row).length ≤ 4 := Nat.le_trans (List.Nodup.length_le_of_subset hn hr) h4
  refine ⟨?_, ?_⟩
  · have a := sub_len R row
    have b := smF_le (f := fun m => (R m).length) (k := 9) (l := regsOf row) fun m hm => by
      have := lin_len L (hr m hm)
      have := N m
      omega
    have : (regsOf row).length * 9 ≤ 4 * 9 := Nat.mul_le_mul_right _ l4
    omega
  · rw [rowLen_sub]
    have := smF_sub (f := fun n => rowLen (R n)) hn hr
    have e : tl regs R = smF (fun n => rowLen (R n)) regs := rfl
    omega
/-- rows, one behind the other -/
def thr (ms : List (Str → List Itm)) : Str → List Itm := ms.foldl aft idR
theorem thr_snoc (ms : List (Str → List Itm)) (m : Str → List Itm) : thr (ms ++ [m]) = aft (thr ms) m := by
  unfold thr
  rw [List.foldl_append]
  rfl
theorem ap_thr (h : Str → Str) : ∀ (ms : List (Str → List Itm)) (R : Str → List Itm), ap (ms.foldl aft R) h = ms.foldl (fun h m => ap m h) (ap R h)
  | [], _ => rfl
  | m :: ms, R => by
    show ap (ms.foldl aft (aft R m)) h = ms.foldl _ (ap m (ap R h))
    rw [ap_thr h ms (aft R m), ap_aft]
theorem ap_thr0 (ms : List (Str → List Itm)) (h : Str → Str) : ap (thr ms) h = ms.foldl (fun h m => ap m h) h := by
  have := ap_thr h ms idR
  rw [ap_id] at this
  exact this
theorem thr_ok {regs : List Str} {B : Nat} : ∀ (ms : List (Str → List Itm)) (R : Str → List Itm) (k : Nat), LinN regs R → tl regs R ≤ k → (∀ m ∈ ms, LinN regs m ∧ tl regs m ≤ B) → LinN regs (ms.foldl aft R) ∧ tl regs (ms.foldl aft R) ≤ k + B * ms.length
  | [], R, k, h1, h2, _ => ⟨h1, by simpa using h2⟩
  | m :: ms, R, k, h1, h2, h3 => by
    have hm := h3 m List.mem_cons_self
    have t := tl_aft (R1 := R) hm.1
    have := thr_ok ms (aft R m) (k + B) (lin_aft h1 hm.1) (by omega) fun x hx => h3 x (List.mem_cons_of_mem _ hx)
    rw [List.length_cons, Nat.mul_succ]
    exact ⟨this.1, by have := this.2; show tl regs (ms.foldl aft (aft R m)) ≤ _; omega⟩
end KX
end
section
set_option Elab.async false
set_option linter.all false
set_option maxRecDepth 100000
set_option maxHeartbeats 8000000
/-! Ext: a list is extended by a tuple. -/
namespace KX
open PySem PySem.Spec PyProof.Rows L2 Evl PySem.AutoSeq1
set_option maxRecDepth 8000 in
theorem list_extend_tup (l : Addr) (items : Array Value) (n : Nat) (b : Addr) (items2 : Array Value) (n2 : Nat) (dd : Option Addr) (sl : Array (Option Value)) (hs0 : ¬(!items.isEmpty && Builtin.List.listTooLong (items.size + items2.size)) = true) (hs1 : items.size ≤ sizeLine) (hs2 : items.size + items2.size ≤ sizeLine + 1) :
    Meets (Builtin.«list.extend» ⟨[.ref l, .ref b], []⟩) (fun _ R s => s.heap.get? l = some { cls := .type "list", dict := none, data := .seq items n, slots := #[] } ∧ s.heap.get? b = some { cls := .type "tuple", dict := dd, data := .seq items2 n2, slots := sl } ∧ R (.ok (.ret Value.none)) { s with heap := s.heap.update l (Obj.mapSeq fun x => x ++ items2), toks := s.toks }) :=
  .of_wp fun prog w A R s h => by
    obtain ⟨hp, g, d, tk, os⟩ := s; obtain ⟨hl, hb, h⟩ := h; have f1 := idx_int; have f2 := AutoSeq1.sub_tuple_tuple; have f3 := AutoSeq1.sub_list_list; have f4 := AutoSeq1.sub_tuple_list; have f5 := AutoSeq1.sub_list_tuple;
    have hz' : (items ++ items2).size ≤ sizeLine + 1 := by rw [Array.size_append]; exact hs2
    wp_walk using (wpAny_updateSeq hl rfl (hz := hs1) (_hz' := hz')), wpAny_loadPart' hl, wpAny_loadPart' hb; exact ⟨_, rfl, h⟩
/-- xs.extend(a tuple) -/
def rExtendT : V → List V → Hp → VK → Prop := fun x vs H Q => ∃ l b xs zs, x = .ref l ∧ vs = [.ref b] ∧ H l = some (.lst xs) ∧ H b = some (.tup zs) ∧ xs.length + zs.length ≤ sizeLine ∧ Q .non (upd H l (.lst (xs ++ zs)))
theorem mt_extendT {X : Cx} : MtM X "list.extend" rExtendT := by
  intro pins s σ H x vs v us Q I rx rv h
  obtain ⟨l, b, xs, zs, rfl, rfl, hH, hB, hz, q⟩ := h
  cases rx
  obtain ⟨u, rfl, ru⟩ := rv.one
  cases ru
  obtain ⟨z, its, n, r, hl, e⟩ := I.lstM hH
  obtain ⟨its2, r2, ⟨⟨c, dd, dt, sl⟩, e2, c2, n2, d2⟩, hz2⟩ := I.tuple (st_of hB)
  cases c2
  cases d2
  have hl2 := r2.length
  have hsz : its.toArray.size + its2.toArray.size ≤ sizeLine := by rw [List.size_toArray, List.size_toArray]; omega
  have hlong : ¬ (!its.toArray.isEmpty && Builtin.List.listTooLong (its.toArray.size + its2.toArray.size)) = true := by
    rw [notLongL hsz, Bool.and_false]
    exact Bool.false_ne_true
  refine call_meets F.slot_list_extend ⟨_, e, rfl⟩ F.entry_list_extend (F.args_list_extend_2 _ _)
    (list_extend_tup l its.toArray n b its2.toArray n2 dd sl hlong (by rw [List.size_toArray]; omega) (by omega)) ⟨e, e2, ?_⟩
  refine ⟨.non, _, I.lset (its' := its ++ its2) hH e (by simp) (r.append r2) ?_, rfl, q⟩
  rw [List.length_append]
  omega
end KX
end
section
set_option Elab.async false
set_option linter.all false
set_option maxRecDepth 100000
set_option maxHeartbeats 4000000
/-! M2: very long texts by pieces: what they stand for, parts of them. -/
namespace KX
open PySem PySem.Spec PyProof.Rows L2 Evl

inductive Pc
  | t (s : Str)
  | j (a b : Nat)
/-- the value with a number -/
abbrev vAt (vs : List (List Nat)) (i : Nat) : List Nat := vs.getD i []
inductive PcV : List Pc → List (List Nat) → Prop
  | nil : PcV [] []
  | text {ps vs} (s : Str) : s.length ≤ 100000 → PcV ps vs → PcV (ps ++ [.t s]) (vs ++ [cds s])
  | join {ps vs} (a b : Nat) : PcV ps vs → a < vs.length → b < vs.length → 0 < (vAt vs a).length → 0 < (vAt vs b).length → PcV (ps ++ [.j a b]) (vs ++ [vAt vs a ++ vAt vs b])
theorem PcV.len {ps : List Pc} {vs : List (List Nat)} (h : PcV ps vs) : ps.length = vs.length := by
  induction h with
  | nil => rfl
  | text s _ _ ih => rw [List.length_append, List.length_append, ih]; rfl
  | join a b _ _ _ _ _ ih => rw [List.length_append, List.length_append, ih]; rfl
theorem vAt_app {vs ws : List (List Nat)} {i : Nat} (h : i < vs.length) : vAt (vs ++ ws) i = vAt vs i := by
  show (vs ++ ws).getD i [] = vs.getD i []
  rw [List.getD_eq_getElem?_getD, List.getD_eq_getElem?_getD, List.getElem?_append_left h]
theorem vAt_last (vs : List (List Nat)) (v : List Nat) : vAt (vs ++ [v]) vs.length = v := by
  show (vs ++ [v]).getD vs.length [] = v
  rw [List.getD_eq_getElem?_getD, List.getElem?_append_right (Nat.le_refl _), Nat.sub_self]
  rfl
theorem snoc_at {α : Type} {l : List α} {x y : α} {i : Nat} (h : (l ++ [x])[i]? = some y) : (l[i]? = some y ∧ i < l.length) ∨ (i = l.length ∧ y = x) := by
  by_cases hi : i < l.length
  · rw [List.getElem?_append_left hi] at h
    exact .inl ⟨h, hi⟩
  · rw [List.getElem?_append_right (by omega)] at h
    have : i - l.length = 0 := by
      rcases Nat.eq_zero_or_pos (i - l.length) with z | z
      · exact z
      · rw [List.getElem?_eq_none (by simp; omega)] at h
        cases h
    rw [this] at h
    cases h
    exact .inr ⟨by omega, rfl⟩
theorem PcV.at_t {ps : List Pc} {vs : List (List Nat)} (h : PcV ps vs) : ∀ {i : Nat} {s : Str}, ps[i]? = some (.t s) → vAt vs i = cds s := by
  induction h with
  | nil => intro i s e; cases e
  | @text ps vs s' hs hp ih =>
    intro i s e
    have hl := hp.len
    rcases snoc_at e with ⟨e, hi⟩ | ⟨hi, e⟩
    · rw [vAt_app (by omega)]
      exact ih e
    · cases e
      rw [hi, hl, vAt_last]
  | @join ps vs a b hp _ _ _ _ ih =>
    intro i s e
    have hl := hp.len
    rcases snoc_at e with ⟨e, hi⟩ | ⟨hi, e⟩
    · rw [vAt_app (by omega)]
      exact ih e
    · cases e
theorem PcV.at_j {ps : List Pc} {vs : List (List Nat)} (h : PcV ps vs) : ∀ {i a b : Nat}, ps[i]? = some (.j a b) → a < i ∧ b < i ∧ 0 < (vAt vs a).length ∧ 0 < (vAt vs b).length ∧ vAt vs i = vAt vs a ++ vAt vs b := by
  induction h with
  | nil => intro i a b e; cases e
  | @text ps vs s' hs hp ih =>
    intro i a b e
    have hl := hp.len
    rcases snoc_at e with ⟨e, hi⟩ | ⟨hi, e⟩
    · obtain ⟨h1, h2, h3, h4, h5⟩ := ih e
      rw [vAt_app (by omega : a < vs.length), vAt_app (by omega : b < vs.length), vAt_app (by omega : i < vs.length)]
      exact ⟨h1, h2, h3, h4, h5⟩
    · cases e
  | @join ps vs a' b' hp ha hb za zb ih =>
    intro i a b e
    have hl := hp.len
    rcases snoc_at e with ⟨e, hi⟩ | ⟨hi, e⟩
    · obtain ⟨h1, h2, h3, h4, h5⟩ := ih e
      rw [vAt_app (by omega : a < vs.length), vAt_app (by omega : b < vs.length), vAt_app (by omega : i < vs.length)]
      exact ⟨h1, h2, h3, h4, h5⟩
    · cases e
      rw [hi, hl, vAt_last, vAt_app ha, vAt_app hb]
      exact ⟨ha, hb, za, zb, rfl⟩

theorem PcV.short {ps : List Pc} {vs : List (List Nat)} (h : PcV ps vs) : ∀ {i : Nat} {s : Str}, ps[i]? = some (.t s) → s.length ≤ 100000 := by
  induction h with
  | nil => intro i s e; cases e
  | @text ps vs s' hs hp ih =>
    intro i s e
    rcases snoc_at e with ⟨e, hi⟩ | ⟨hi, e⟩
    · exact ih e
    · cases e
      exact hs
  | @join ps vs a b hp _ _ _ _ ih =>
    intro i s e
    rcases snoc_at e with ⟨e, hi⟩ | ⟨hi, e⟩
    · exact ih e
    · cases e

/-! ### parts -/
def clip (f l s : Nat) (X : List Nat) : List Nat := (X.drop (f - s)).take ((l - s) - (f - s))
theorem clip_app (f l s : Nat) (A B : List Nat) : clip f l s (A ++ B) = clip f l s A ++ clip f l (s + A.length) B := by
  unfold clip
  rw [List.drop_append, List.take_append, List.length_drop]
  have e1 : f - s - A.length = f - (s + A.length) := by omega
  have e2 : l - s - (f - s) - (A.length - (f - s)) = l - (s + A.length) - (f - (s + A.length)) := by omega
  rw [e1, e2]
theorem clip_len (f l s : Nat) (X : List Nat) : (clip f l s X).length = min ((l - s) - (f - s)) (X.length - (f - s)) := by
  unfold clip
  rw [List.length_take, List.length_drop]
theorem clip_off {f l s : Nat} {X : List Nat} (h : ¬ (s < l ∧ f < s + X.length)) : clip f l s X = [] := by
  apply List.eq_nil_of_length_eq_zero
  rw [clip_len]
  omega
/-- numbers and places that wait, the last one first -/
def clips (f l : Nat) (vs : List (List Nat)) (st : List (Nat × Nat)) : List Nat := st.reverse.flatMap fun x => clip f l x.2 (vAt vs x.1)
theorem clips_snoc (f l : Nat) (vs : List (List Nat)) (st : List (Nat × Nat)) (x : Nat × Nat) : clips f l vs (st ++ [x]) = clip f l x.2 (vAt vs x.1) ++ clips f l vs st := by
  unfold clips
  rw [List.reverse_append, List.flatMap_append]
  congr 1
  show (clip f l x.2 (vAt vs x.1)) ++ [] = _
  rw [List.append_nil]
def mu (vs : List (List Nat)) (i : Nat) : Nat := max 1 (2 * (vAt vs i).length - 1)
def mus (vs : List (List Nat)) (st : List (Nat × Nat)) : Nat := (st.map fun x => mu vs x.1).sum
theorem mus_snoc (vs : List (List Nat)) (st : List (Nat × Nat)) (x : Nat × Nat) : mus vs (st ++ [x]) = mus vs st + mu vs x.1 := by
  unfold mus
  rw [List.map_append, List.sum_append]
  rfl
/-- numbers below ever lesser bounds -/
def StkOk : Nat → List (Nat × Nat) → Prop
  | _, [] => True
  | b, x :: r => x.1 < b ∧ ∃ b', b' < b ∧ StkOk b' r
theorem StkOk.len : ∀ {b : Nat} {st : List (Nat × Nat)}, StkOk b st → st.length ≤ b
  | _, [], _ => Nat.zero_le _
  | b, x :: r, ⟨_, b', h1, h2⟩ => by
    have := StkOk.len h2
    rw [List.length_cons]
    omega
theorem StkOk.two : ∀ {b : Nat} {st : List (Nat × Nat)} {x y z : Nat × Nat}, StkOk b (st ++ [x]) → y.1 < x.1 → z.1 < x.1 → StkOk b (st ++ [y, z])
  | b, [], x, y, z, ⟨h1, _⟩, hy, hz => ⟨by omega, x.1, h1, hz, 0, by omega, trivial⟩
  | b, u :: r, x, y, z, ⟨h1, b', h2, h3⟩, hy, hz => ⟨h1, b', h2, StkOk.two h3 hy hz⟩
theorem StkOk.init : ∀ {b : Nat} {st : List (Nat × Nat)} {x : Nat × Nat}, StkOk b (st ++ [x]) → StkOk b st
  | b, [], x, _ => trivial
  | b, u :: r, x, ⟨h1, b', h2, h3⟩ => ⟨h1, b', h2, StkOk.init h3⟩
theorem StkOk.last : ∀ {b : Nat} {st : List (Nat × Nat)} {x : Nat × Nat}, StkOk b (st ++ [x]) → x.1 < b
  | b, [], x, ⟨h, _⟩ => h
  | b, u :: r, x, ⟨h1, b', h2, h3⟩ => by
    have := StkOk.last h3
    omega
/-- how far a part is found: fs found, st waits -/
structure PartI (f l : Nat) (ps : List Pc) (vs : List (List Nat)) (T : List Nat) (fs : List Str) (st : List (Nat × Nat)) : Prop where
  v : (fs.map cds).flatten ++ clips f l vs st = clip f l 0 T
  w : fs.length + (clips f (l + 1) vs st).length ≤ (clip f (l + 1) 0 T).length
  k : StkOk ps.length st
  p : ∀ x ∈ st, 0 < (vAt vs x.1).length ∨ l ≤ x.2
theorem PartI.start {f l : Nat} {ps : List Pc} {vs : List (List Nat)} {n : Nat} (V : PcV ps vs) (hn : n < vs.length) (hl : l ≤ (vAt vs n).length) : PartI f l ps vs (vAt vs n) [] [(n, 0)] := by
  refine ⟨?_, ?_, ⟨by have := V.len; show n < _; omega, 0, by have := V.len; omega, trivial⟩, fun x hx => ?_⟩
  · show [] ++ clips f l vs ([] ++ [(n, 0)]) = _
    rw [clips_snoc]
    show clip f l 0 (vAt vs n) ++ [] = _
    rw [List.append_nil]
  · have : clips f (l + 1) vs ([] ++ [(n, 0)]) = clip f (l + 1) 0 (vAt vs n) ++ [] := clips_snoc _ _ _ _ _
    rw [List.append_nil] at this
    show 0 + (clips f (l + 1) vs ([] ++ [(n, 0)])).length ≤ _
    rw [this]
    omega
  · rw [List.mem_singleton.mp hx]
    show 0 < (vAt vs n).length ∨ l ≤ 0
    omega
theorem PartI.skip {f l : Nat} {ps : List Pc} {vs : List (List Nat)} {T : List Nat} {fs : List Str} {st : List (Nat × Nat)} {x : Nat × Nat} (h : PartI f l ps vs T fs (st ++ [x])) (hx : ¬ (x.2 < l ∧ f < x.2 + (vAt vs x.1).length)) : PartI f l ps vs T fs st := by
  refine ⟨?_, ?_, h.k.init, fun y hy => h.p y (List.mem_append_left _ hy)⟩
  · have := h.v
    rw [clips_snoc, clip_off hx] at this
    exact this
  · have := h.w
    rw [clips_snoc, List.length_append] at this
    omega
theorem PartI.text {f l : Nat} {ps : List Pc} {vs : List (List Nat)} {T : List Nat} {fs : List Str} {st : List (Nat × Nat)} {x : Nat × Nat} {s z : Str} (hfl : f ≤ l) (h : PartI f l ps vs T fs (st ++ [x])) (hx : x.2 < l ∧ f < x.2 + (vAt vs x.1).length) (hz : cds z = clip f l x.2 (vAt vs x.1)) : PartI f l ps vs T (fs ++ [z]) st := by
  refine ⟨?_, ?_, h.k.init, fun y hy => h.p y (List.mem_append_left _ hy)⟩
  · have := h.v
    rw [clips_snoc] at this
    rw [← this, List.map_append, List.flatten_append, List.append_assoc]
    congr 2
    show cds z ++ [] = _
    rw [hz, List.append_nil]
  · have := h.w
    rw [clips_snoc, List.length_append, clip_len] at this
    rw [List.length_append]
    have e : [z].length = 1 := rfl
    have hp := h.p x (List.mem_append_right _ (by simp))
    omega
theorem PartI.join {f l : Nat} {ps : List Pc} {vs : List (List Nat)} {T : List Nat} {fs : List Str} {st : List (Nat × Nat)} {x : Nat × Nat} {a b : Nat} (h : PartI f l ps vs T fs (st ++ [x])) (ha : a < x.1) (hb : b < x.1) (za : 0 < (vAt vs a).length) (zb : 0 < (vAt vs b).length) (e : vAt vs x.1 = vAt vs a ++ vAt vs b) : PartI f l ps vs T fs (st ++ [(b, x.2 + (vAt vs a).length), (a, x.2)]) := by
  have c : ∀ l, clips f l vs (st ++ [(b, x.2 + (vAt vs a).length), (a, x.2)]) = clips f l vs (st ++ [x]) := fun l => by
    have e2 : st ++ [(b, x.2 + (vAt vs a).length), (a, x.2)] = (st ++ [(b, x.2 + (vAt vs a).length)]) ++ [(a, x.2)] := by simp
    rw [e2, clips_snoc, clips_snoc, clips_snoc, e, clip_app, List.append_assoc]
  refine ⟨by rw [c]; exact h.v, by rw [c]; exact h.w, h.k.two hb ha, fun y hy => ?_⟩
  rcases List.mem_append.mp hy with hy | hy
  · exact h.p y (List.mem_append_left _ hy)
  · simp only [List.mem_cons, List.not_mem_nil, or_false] at hy
    rcases hy with rfl | rfl
    · exact .inl zb
    · exact .inl za
theorem mus_join {vs : List (List Nat)} {st : List (Nat × Nat)} {x : Nat × Nat} {a b : Nat} {s t : Nat} (za : 0 < (vAt vs a).length) (zb : 0 < (vAt vs b).length) (e : vAt vs x.1 = vAt vs a ++ vAt vs b) : mus vs (st ++ [(b, s), (a, t)]) < mus vs (st ++ [x]) := by
  have e2 : st ++ [(b, s), (a, t)] = (st ++ [(b, s)]) ++ [(a, t)] := by simp
  rw [e2, mus_snoc, mus_snoc, mus_snoc]
  unfold mu
  rw [e, List.length_append]
  show _ + max 1 (2 * (vAt vs b).length - 1) + max 1 (2 * (vAt vs a).length - 1) < _
  omega
theorem mus_less {vs : List (List Nat)} {st : List (Nat × Nat)} {x : Nat × Nat} : mus vs st < mus vs (st ++ [x]) := by
  rw [mus_snoc]
  unfold mu
  omega

/-! ### rows with numbers -/
inductive Nit
  | n (i : Nat)
  | r (m : Str)
def nv (vs : List (List Nat)) (h : Str → List Nat) : Nit → List Nat
  | .n i => vAt vs i
  | .r m => h m
def nwr (vs : List (List Nat)) (row : List Nit) (h : Str → List Nat) : List Nat := row.flatMap (nv vs h)
def NIn (k : Nat) (row : List Nit) : Prop := ∀ t ∈ row, match t with
  | .n i => i < k
  | .r _ => True
theorem NIn.mono {k k' : Nat} {row : List Nit} (h : NIn k row) (hk : k ≤ k') : NIn k' row := fun t ht => by
  have := h t ht
  cases t with
  | n i => exact Nat.lt_of_lt_of_le this hk
  | r m => trivial
theorem nwr_ext {vs ws : List (List Nat)} {h : Str → List Nat} : ∀ {row : List Nit}, NIn vs.length row → nwr (vs ++ ws) row h = nwr vs row h
  | [], _ => rfl
  | t :: r, hi => by
    show nv (vs ++ ws) h t ++ nwr (vs ++ ws) r h = nv vs h t ++ nwr vs r h
    rw [nwr_ext (row := r) fun u hu => hi u (List.mem_cons_of_mem _ hu)]
    congr 1
    have := hi t List.mem_cons_self
    cases t with
    | n i => exact vAt_app this
    | r m => rfl
theorem nwr_app (vs : List (List Nat)) (a b : List Nit) (h : Str → List Nat) : nwr vs (a ++ b) h = nwr vs a h ++ nwr vs b h := by
  unfold nwr
  rw [List.flatMap_append]
def nregs (row : List Nit) : List Str := row.filterMap fun t => match t with
  | .n _ => none
  | .r m => some m
theorem nregs_app (a b : List Nit) : nregs (a ++ b) = nregs a ++ nregs b := List.filterMap_append
end KX
end
section
set_option Elab.async false
set_option linter.all false
set_option maxRecDepth 100000
set_option maxHeartbeats 4000000
/-! M3: what is written for a word ever more times grows evenly. -/
namespace KX
open PySem PySem.Spec PyProof.Rows L2 Evl

theorem wr_congr {h h' : Str → Str} : ∀ {row : List Itm}, (∀ n ∈ regsOf row, h n = h' n) → cds (wr row h) = cds (wr row h')
  | [], _ => rfl
  | .t s :: r, e => by
    rw [cds_wr_cons, cds_wr_cons, wr_congr (row := r) e]
    rfl
  | .r n :: r, e => by
    rw [cds_wr_cons, cds_wr_cons, wr_congr (row := r) fun m hm => e m (List.mem_cons_of_mem _ hm)]
    congr 1
    show cds (h n) = cds (h' n)
    rw [e n List.mem_cons_self]
theorem wr_lens (h : Str → Str) : ∀ row : List Itm, (wr row h).length = rowLen row + smF (fun n => (h n).length) (regsOf row)
  | [] => by rw [len_cds, cds_wr_nil]; rfl
  | .t s :: r => by
    have ih := wr_lens h r
    rw [len_cds] at ih
    rw [len_cds, cds_wr_cons, List.length_append, ih]
    show (cds s).length + _ = s.length + rowLen r + _
    rw [len_cds]
    have : regsOf (.t s :: r) = regsOf r := rfl
    rw [this]
    omega
  | .r n :: r => by
    have ih := wr_lens h r
    rw [len_cds] at ih
    rw [len_cds, cds_wr_cons, List.length_append, ih]
    show (cds (h n)).length + _ = 0 + rowLen r + ((h n).length + smF _ (regsOf r))
    rw [len_cds (h n)]
    omega
theorem wr_zero (h : Str → Str) : ∀ {row : List Itm}, rowLen row = 0 → cds (wr row h) = (regsOf row).flatMap fun n => cds (h n)
  | [], _ => rfl
  | .t s :: r, z => by
    have z : s.length + rowLen r = 0 := z
    have e : s = "" := empty_of (by omega)
    rw [cds_wr_cons, wr_zero (row := r) h (by omega), e]
    rfl
  | .r n :: r, z => by
    have z : 0 + rowLen r = 0 := z
    rw [cds_wr_cons, wr_zero (row := r) h (by omega)]
    rfl
theorem smF_ext {f f' : Str → Nat} : ∀ {l : List Str}, (∀ n ∈ l, f n = f' n) → smF f l = smF f' l
  | [], _ => rfl
  | a :: l, h => by
    show f a + smF f l = f' a + smF f' l
    rw [h a List.mem_cons_self, smF_ext (l := l) fun n hn => h n (List.mem_cons_of_mem _ hn)]
theorem smF_ap (R : Str → List Itm) (h : Str → Str) : ∀ l : List Str, smF (fun n => (ap R h n).length) l = smF (fun n => rowLen (R n)) l + smF (fun n => (h n).length) (regsOfs R l)
  | [] => rfl
  | a :: l => by
    have e : regsOfs R (a :: l) = regsOf (R a) ++ regsOfs R l := rfl
    rw [e, smF_app]
    show (wr (R a) h).length + smF (fun n => (ap R h n).length) l = rowLen (R a) + smF (fun n => rowLen (R n)) l + _
    rw [smF_ap R h l, wr_lens]
    omega
theorem smF_zero {f : Str → Nat} : ∀ {l : List Str}, smF f l = 0 → ∀ n ∈ l, f n = 0
  | [], _, n, hn => by cases hn
  | a :: l, h, n, hn => by
    have h : f a + smF f l = 0 := h
    rcases List.mem_cons.mp hn with e | hn
    · rw [e]
      omega
    · exact smF_zero (l := l) (by omega) n hn

/-! ### rows that are done again and again -/
/-- u: where a register's content comes to; done twice it is the same as once -/
structure Again (regs : List Str) (R : Str → List Itm) (u : Str → Option Str) : Prop where
  rN : regs.Nodup
  li : LinN regs R
  to : ∀ x ∈ regs, ∀ m, m ∈ regsOf (R x) ↔ u m = some x
  uu : ∀ m, (u m).bind u = u m
theorem Again.in {regs : List Str} {R : Str → List Itm} {u : Str → Option Str} (A : Again regs R u) {l : List Str} (hl : ∀ n ∈ l, n ∈ regs) {m : Str} : m ∈ regsOfs R l ↔ ∃ x ∈ l, u m = some x := by
  unfold regsOfs
  rw [List.mem_flatMap]
  constructor
  · rintro ⟨x, hx, hm⟩
    exact ⟨x, hx, (A.to x (hl x hx) m).mp hm⟩
  · rintro ⟨x, hx, hm⟩
    exact ⟨x, hx, (A.to x (hl x hx) m).mpr hm⟩
theorem Again.sub {regs : List Str} {R : Str → List Itm} {u : Str → Option Str} (A : Again regs R u) {l : List Str} (hl : ∀ n ∈ l, n ∈ regs) : ∀ n ∈ regsOfs R l, n ∈ regs := fun n hn => by
  obtain ⟨x, hx, hm⟩ := List.mem_flatMap.mp hn
  exact A.li.2 x (hl x hx) n hm
theorem Again.nodup {regs : List Str} {R : Str → List Itm} {u : Str → Option Str} (A : Again regs R u) {l : List Str} (hl : ∀ n ∈ l, n ∈ regs) (hn : l.Nodup) : (regsOfs R l).Nodup := flat_sub A.li.1 hn hl
/-- led back twice is led back once -/
theorem Again.twice {regs : List Str} {R : Str → List Itm} {u : Str → Option Str} (A : Again regs R u) {l : List Str} (hl : ∀ n ∈ l, n ∈ regs) (hn : l.Nodup) : (regsOfs R (regsOfs R l)).Perm (regsOfs R l) := by
  refine (List.perm_ext_iff_of_nodup (A.nodup (A.sub hl) (A.nodup hl hn)) (A.nodup hl hn)).mpr fun m => ?_
  rw [A.in (A.sub hl), A.in hl]
  have e := A.uu m
  constructor
  · rintro ⟨x, hx, hm⟩
    obtain ⟨y, hy, hxy⟩ := (A.in hl).mp hx
    rw [hm] at e
    have e : u x = some x := e
    rw [hxy] at e
    cases e
    exact ⟨x, hy, hm⟩
  · rintro ⟨x, hx, hm⟩
    rw [hm] at e
    exact ⟨x, (A.in hl).mpr ⟨x, hx, e⟩, hm⟩
/-- content behind so many -/
def Hn (R : Str → List Itm) (h : Str → Str) : Nat → (Str → Str)
  | 0 => h
  | k + 1 => ap R (Hn R h k)
section
variable {regs : List Str} {R : Str → List Itm} {u : Str → Option Str} (A : Again regs R u) {W : List Itm} (h0 : Str → Str)
include A in
theorem Again.pre (hl : ∀ n ∈ regsOf W, n ∈ regs) (hn : (regsOf W).Nodup) : ∀ k, smF (fun n => (Hn R h0 k n).length) (regsOfs R (regsOf W)) = smF (fun n => (h0 n).length) (regsOfs R (regsOf W)) + k * smF (fun n => rowLen (R n)) (regsOfs R (regsOf W))
  | 0 => by
    rw [Nat.zero_mul]
    rfl
  | k + 1 => by
    have ih := Again.pre hl hn k
    have e := smF_ap R (Hn R h0 k) (regsOfs R (regsOf W))
    rw [smF_perm (A.twice hl hn), ih] at e
    show smF (fun n => (ap R (Hn R h0 k) n).length) _ = _
    rw [e, Nat.succ_mul]
    omega
include A in
/-- lengths grow evenly -/
theorem Again.even (hl : ∀ n ∈ regsOf W, n ∈ regs) (hn : (regsOf W).Nodup) : ∃ c G : Nat, (∀ k, (wr W (Hn R h0 (k + 1))).length = c + k * G) ∧ (G = 0 → ∀ k, wr W (Hn R h0 (k + 2)) = wr W (Hn R h0 2)) := by
  refine ⟨rowLen W + smF (fun n => rowLen (R n)) (regsOf W) + smF (fun n => (h0 n).length) (regsOfs R (regsOf W)), smF (fun n => rowLen (R n)) (regsOfs R (regsOf W)), fun k => ?_, fun z => ?_⟩
  · rw [wr_lens]
    have e := smF_ap R (Hn R h0 k) (regsOf W)
    have p := A.pre h0 hl hn k
    show rowLen W + smF (fun n => (ap R (Hn R h0 k) n).length) (regsOf W) = _
    rw [e, p]
    omega
  · have zr := smF_zero z
    -- nothing comes to it: it is empty
    have emp : ∀ m ∈ regsOfs R (regsOf W), regsOf (R m) = [] → ∀ k, cds (Hn R h0 (k + 1) m) = [] := fun m hm e k => by
      show cds (wr (R m) (Hn R h0 k)) = []
      rw [wr_zero _ (zr m hm), e]
      rfl
    have key : ∀ m ∈ regsOfs R (regsOf W), ∀ k, cds (Hn R h0 (k + 2) m) = cds (Hn R h0 (k + 1) m) := fun m hm k => by
      by_cases q : regsOf (R m) = []
      · rw [emp m hm q (k + 1), emp m hm q k]
      · have hmr := A.sub hl m hm
        obtain ⟨j, hj⟩ := List.exists_mem_of_ne_nil _ q
        have ej := (A.to m hmr j).mp hj
        have uj := A.uu j
        rw [ej] at uj
        have um : u m = some m := uj
        obtain ⟨x, hx, hux⟩ := (A.in hl).mp hm
        rw [um] at hux
        cases hux
        have hmm : m ∈ regsOf (R m) := (A.to m hmr m).mpr um
        show cds (wr (R m) (Hn R h0 (k + 1))) = _
        rw [wr_zero _ (zr m hm)]
        have hnd := flat_each A.li.1 hmr
        have oth : ∀ i ∈ regsOf (R m), i ≠ m → cds (Hn R h0 (k + 1) i) = [] := fun i hi ne => by
          have ei := (A.to m hmr i).mp hi
          have hiz : i ∈ regsOfs R (regsOf W) := (A.in hl).mpr ⟨m, hx, ei⟩
          refine emp i hiz ?_ k
          apply Classical.byContradiction
          intro qi
          obtain ⟨y, hy⟩ := List.exists_mem_of_ne_nil _ qi
          have ey := (A.to i (A.sub hl i hiz) y).mp hy
          have uy := A.uu y
          rw [ey] at uy
          have uy : u i = some i := uy
          rw [ei] at uy
          cases uy
          exact ne rfl
        clear q hj
        generalize regsOf (R m) = l at hmm hnd oth
        induction l with
        | nil => cases hmm
        | cons a l ih =>
          obtain ⟨h1, h2⟩ := List.nodup_cons.mp hnd
          rw [List.flatMap_cons]
          by_cases e : a = m
          · have rest : (l.flatMap fun n => cds (Hn R h0 (k + 1) n)) = [] := by
              refine List.flatMap_eq_nil_iff.mpr fun i hi => oth i (List.mem_cons_of_mem _ hi) fun z => ?_
              rw [z, ← e] at hi
              exact h1 hi
            rw [rest, List.append_nil, e]
          · rw [oth a List.mem_cons_self e, List.nil_append]
            exact ih ((List.mem_cons.mp hmm).resolve_left fun z => e z.symm) h2 fun i hi => oth i (List.mem_cons_of_mem _ hi)
    have step : ∀ k, wr W (Hn R h0 (k + 3)) = wr W (Hn R h0 (k + 2)) := fun k => by
      apply cds_inj
      refine wr_congr fun x hx => cds_inj ?_
      show cds (wr (R x) (Hn R h0 (k + 2))) = cds (wr (R x) (Hn R h0 (k + 1)))
      refine wr_congr fun j hj => cds_inj (key j ?_ k)
      exact List.mem_flatMap.mpr ⟨x, hx, hj⟩
    intro k
    induction k with
    | zero => rfl
    | succ k ih => rw [← ih]; exact step k
end

/-! ### two registers at most: done twice, it is done again -/
def toF (regs : List Str) (R : Str → List Itm) (m : Str) : Option Str := regs.find? fun k => decide (m ∈ regsOf (R k))
theorem toF_some {regs : List Str} {R : Str → List Itm} {m x : Str} (e : toF regs R m = some x) : x ∈ regs ∧ m ∈ regsOf (R x) := by
  unfold toF at e
  have h := List.find?_some (p := fun k => decide (m ∈ regsOf (R k))) e
  exact ⟨List.mem_of_find?_eq_some e, of_decide_eq_true h⟩
theorem toF_iff {regs : List Str} {R : Str → List Itm} (h : LinN regs R) {m x : Str} (hx : x ∈ regs) : m ∈ regsOf (R x) ↔ toF regs R m = some x := by
  constructor
  · intro hm
    cases e : toF regs R m with
    | none =>
      have := List.find?_eq_none.mp e x hx
      simp [hm] at this
    | some y =>
      obtain ⟨hy, hmy⟩ := toF_some e
      rw [flat_one h.1 hy hx hmy hm]
  · intro e
    exact (toF_some e).2
theorem toF_in {regs : List Str} {R : Str → List Itm} (h : LinN regs R) {m x : Str} (e : toF regs R m = some x) : m ∈ regs ∧ x ∈ regs := by
  obtain ⟨hx, hm⟩ := toF_some e
  exact ⟨h.2 x hx m hm, hx⟩
theorem two_of {l : List Str} (hl : l.length ≤ 2) {x y z : Str} (hx : x ∈ l) (hy : y ∈ l) (hz : z ∈ l) (h1 : x ≠ y) (h2 : y ≠ z) : z = x := by
  match l, hl with
  | [], _ => cases hx
  | [a], _ =>
    rw [List.mem_singleton.mp hx, List.mem_singleton.mp hy] at h1
    exact absurd rfl h1
  | [a, b], _ =>
    simp only [List.mem_cons, List.not_mem_nil, or_false] at hx hy hz
    rcases hx with rfl | rfl <;> rcases hy with rfl | rfl <;> rcases hz with rfl | rfl <;> first | rfl | exact absurd rfl h1 | exact absurd rfl h2
  | _ :: _ :: _ :: _, h => simp at h
theorem again_of {regs : List Str} {R : Str → List Itm} (hN : regs.Nodup) (h : LinN regs R) (h2 : regs.length ≤ 2) : Again regs (aft R R) (fun m => (toF regs R m).bind (toF regs R)) where
  rN := hN
  li := lin_aft h h
  to := fun x hx m => by
    show m ∈ regsOf (fil (R x) R) ↔ _
    rw [regsOf_fil, List.mem_flatMap]
    constructor
    · rintro ⟨k, hk, hm⟩
      have hkr := h.2 x hx k hk
      rw [(toF_iff h hkr).mp hm]
      exact (toF_iff h hx).mp hk
    · intro e
      obtain ⟨k, e1, e2⟩ := Option.bind_eq_some_iff.mp e
      exact ⟨k, (toF_iff h hx).mpr e2, (toF_iff h (toF_in h e1).2).mpr e1⟩
  uu := fun m => by
    cases e : toF regs R m with
    | none => rfl
    | some y =>
      show ((toF regs R y).bind fun m => (toF regs R m).bind (toF regs R)) = toF regs R y
      cases e2 : toF regs R y with
      | none => rfl
      | some z =>
        show (toF regs R z).bind (toF regs R) = some z
        obtain ⟨hm, hy⟩ := toF_in h e
        obtain ⟨_, hz⟩ := toF_in h e2
        by_cases q1 : m = y
        · subst q1
          rw [e] at e2
          cases e2
          rw [e]
          exact e
        · by_cases q2 : y = z
          · subst q2
            rw [e2]
            exact e2
          · have := two_of h2 hm hy hz q1 q2
            subst this
            rw [e]
            exact e2
end KX
end
section
set_option Elab.async false
set_option linter.all false
set_option maxRecDepth 100000
set_option maxHeartbeats 4000000
/-! M4: a word many times. -/
namespace KX
open PySem PySem.Spec PyProof.Rows L2 Evl

def pw (w : List Nat) (n : Nat) : List Nat := (List.replicate n w).flatten
theorem pw_zero (w : List Nat) : pw w 0 = [] := rfl
theorem pw_succ (w : List Nat) (n : Nat) : pw w (n + 1) = w ++ pw w n := rfl
theorem pw_add (w : List Nat) (a b : Nat) : pw w (a + b) = pw w a ++ pw w b := by
  unfold pw
  rw [← List.replicate_append_replicate, List.flatten_append]
theorem pw_one (w : List Nat) : pw w 1 = w := by
  rw [pw_succ, pw_zero, List.append_nil]
theorem pw_snoc (w : List Nat) (n : Nat) : pw w (n + 1) = pw w n ++ w := by rw [pw_add, pw_one]
theorem pw_twice (w : List Nat) (n : Nat) : pw (pw w 2) n = pw w (2 * n) := by
  induction n with
  | zero => rfl
  | succ n ih => rw [pw_succ, ih, Nat.mul_succ, Nat.add_comm, pw_add]
theorem pw_mem {w : List Nat} {n c : Nat} (h : c ∈ pw w n) : c ∈ w := by
  unfold pw at h
  obtain ⟨l, hl, hc⟩ := List.mem_flatten.mp h
  rw [List.eq_of_mem_replicate hl] at hc
  exact hc
theorem pw_len (w : List Nat) (n : Nat) : (pw w n).length = n * w.length := by
  induction n with
  | zero => rw [pw_zero, Nat.zero_mul]; rfl
  | succ n ih => rw [pw_succ, List.length_append, ih, Nat.succ_mul, Nat.add_comm]
/-- where a word leads, and its rows -/
abbrev nx (g : Pg) (w : List Nat) (s : Int) : Int := (rwG g s w).1
abbrev ro (g : Pg) (w : List Nat) (s : Int) : Str → List Itm := (rwG g s w).2
/-- behind a word so many times -/
def ag (g : Pg) (s : Int) (h : Str → Str) (w : List Nat) (n : Nat) : Int × (Str → Str) := runS g s h (pw w n)
theorem ag_succ (g : Pg) (s : Int) (h : Str → Str) (w : List Nat) (n : Nat) : ag g s h w (n + 1) = (nx g w (ag g s h w n).1, ap (ro g w (ag g s h w n).1) (ag g s h w n).2) := by
  unfold ag
  rw [pw_snoc, runS_app, rwG_run]
theorem ag_add (g : Pg) (s : Int) (h : Str → Str) (w : List Nat) (a b : Nat) : ag g s h w (a + b) = ag g (ag g s h w a).1 (ag g s h w a).2 w b := by
  unfold ag
  rw [pw_add, runS_app]
theorem ag_in {g : Pg} {B : Nat} (T : Thin g B) {w : List Nat} (hw : ∀ c ∈ w, c ∈ cds g.L) {s : Int} {h : Str → Str} (h0 : 0 ≤ s) (h1 : s < g.n) : ∀ n, 0 ≤ (ag g s h w n).1 ∧ (ag g s h w n).1 < g.n
  | 0 => ⟨h0, h1⟩
  | n + 1 => by
    have := ag_in T hw h0 h1 (h := h) n
    rw [ag_succ]
    exact (rwG_ok T hw this.1 this.2).1
theorem two_int {n x y z : Int} (hn : n ≤ 2) (hx : 0 ≤ x ∧ x < n) (hy : 0 ≤ y ∧ y < n) (hz : 0 ≤ z ∧ z < n) (h1 : x ≠ y) (h2 : y ≠ z) : z = x := by omega
/-- two states at most: every second time it is where it was -/
theorem ag_per {g : Pg} {B : Nat} (T : Thin g B) (hn : g.n ≤ 2) {w : List Nat} (hw : ∀ c ∈ w, c ∈ cds g.L) {s : Int} {h : Str → Str} (h0 : 0 ≤ s) (h1 : s < g.n) (m : Nat) (hm : 1 ≤ m) : (ag g s h w (m + 2)).1 = (ag g s h w m).1 := by
  obtain ⟨m, rfl⟩ : ∃ k, m = k + 1 := ⟨m - 1, by omega⟩
  have a := ag_in T hw h0 h1 (h := h) m
  have b := ag_in T hw h0 h1 (h := h) (m + 1)
  have c := ag_in T hw h0 h1 (h := h) (m + 2)
  have eb : (ag g s h w (m + 1)).1 = nx g w (ag g s h w m).1 := by rw [ag_succ]
  have ec : (ag g s h w (m + 2)).1 = nx g w (ag g s h w (m + 1)).1 := by rw [ag_succ g s h w (m + 1)]
  have ed : (ag g s h w (m + 1 + 2)).1 = nx g w (ag g s h w (m + 2)).1 := by
    have : m + 1 + 2 = (m + 2) + 1 := by omega
    rw [this, ag_succ g s h w (m + 2)]
  rw [ed]
  by_cases q1 : (ag g s h w m).1 = (ag g s h w (m + 1)).1
  · have : (ag g s h w (m + 2)).1 = (ag g s h w (m + 1)).1 := by rw [ec, ← q1, ← eb]; exact q1.symm ▸ rfl
    rw [this, ← ec, this]
  · by_cases q2 : (ag g s h w (m + 1)).1 = (ag g s h w (m + 2)).1
    · rw [← q2, ← ec, ← q2]
    · rw [two_int hn a b c q1 q2, ← eb]
theorem ag_four {g : Pg} {B : Nat} (T : Thin g B) (hn : g.n ≤ 2) {w : List Nat} (hw : ∀ c ∈ w, c ∈ cds g.L) {s : Int} {h : Str → Str} (h0 : 0 ≤ s) (h1 : s < g.n) (m : Nat) (hm : 1 ≤ m) :
    ag g s h w (m + 4) = ((ag g s h w m).1, ap (aft (aft (ro g w (ag g s h w m).1) (ro g w (nx g w (ag g s h w m).1))) (aft (ro g w (ag g s h w m).1) (ro g w (nx g w (ag g s h w m).1)))) (ag g s h w m).2) := by
  have two : ∀ m, ag g s h w (m + 2) = (nx g w (nx g w (ag g s h w m).1), ap (aft (ro g w (ag g s h w m).1) (ro g w (nx g w (ag g s h w m).1))) (ag g s h w m).2) := fun m => by
    rw [ag_succ g s h w (m + 1), ag_succ g s h w m, ap_aft]
  have p1 := ag_per T hn hw h0 h1 (h := h) m hm
  have e : ag g s h w (m + 4) = ag g s h w ((m + 2) + 2) := rfl
  have p2 := ag_per T hn hw h0 h1 (h := h) (m + 2) (by omega)
  have t := two (m + 2)
  rw [p1] at t
  rw [e]
  refine Prod.ext (by rw [p2, p1]) ?_
  rw [t, two m]
  exact (ap_aft _ _ _).symm
theorem ag_fours {g : Pg} {B : Nat} (T : Thin g B) (hn : g.n ≤ 2) {w : List Nat} (hw : ∀ c ∈ w, c ∈ cds g.L) {s : Int} {h : Str → Str} (h0 : 0 ≤ s) (h1 : s < g.n) (m : Nat) (hm : 1 ≤ m) :
    ∀ k, ag g s h w (m + 4 * k) = ((ag g s h w m).1, Hn (aft (aft (ro g w (ag g s h w m).1) (ro g w (nx g w (ag g s h w m).1))) (aft (ro g w (ag g s h w m).1) (ro g w (nx g w (ag g s h w m).1)))) (ag g s h w m).2 k)
  | 0 => rfl
  | k + 1 => by
    have ih := ag_fours T hn hw h0 h1 (h := h) m hm k
    have e : m + 4 * (k + 1) = (m + 4 * k) + 4 := by omega
    rw [e, ag_four T hn hw h0 h1 (m + 4 * k) (by omega), ih]
    rfl
/-- what is written for a text, a word so many times, a text -/
def Wn (g : Pg) (a w b : List Nat) (n : Nat) : Option Str := wrG g (a ++ pw w n ++ b)
theorem Wn_eq (g : Pg) (a w b : List Nat) (n : Nat) : Wn g a w b n = (g.fin (nx g b (ag g (runG g a).1 (runG g a).2 w n).1)).map fun row => wr (fil row (ro g b (ag g (runG g a).1 (runG g a).2 w n).1)) (ag g (runG g a).1 (runG g a).2 w n).2 := by
  have e : runG g (a ++ pw w n ++ b) = (nx g b (ag g (runG g a).1 (runG g a).2 w n).1, ap (ro g b (ag g (runG g a).1 (runG g a).2 w n).1) (ag g (runG g a).1 (runG g a).2 w n).2) := by
    rw [runG_S, runS_app, runS_app, rwG_run]
    rfl
  unfold Wn wrG
  rw [e]
  show (g.fin _).map _ = (g.fin _).map _
  congr 1
  funext row
  rw [wr_fil]
  rfl
/-- lengths grow evenly, every fourth time -/
theorem Wn_grow {g : Pg} {B : Nat} (T : Thin g B) (hn : g.n ≤ 2) (hr : g.regs.length ≤ 2) {a w b : List Nat} (ha : ∀ c ∈ a, c ∈ cds g.L) (hw : ∀ c ∈ w, c ∈ cds g.L) (hb : ∀ c ∈ b, c ∈ cds g.L) (m : Nat) (hm : 1 ≤ m) :
    (∀ k, Wn g a w b (m + 4 * k) = none) ∨ ∃ (c G : Nat) (t : Nat → Str), (∀ k, Wn g a w b (m + 4 * k) = some (t k)) ∧ (∀ k, (t (k + 1)).length = c + k * G) ∧ (G = 0 → ∀ k, t (k + 2) = t 2) := by
  have z0 : 0 ≤ (runG g a).1 ∧ (runG g a).1 < g.n := by
    rw [runG_S, rwG_run]
    exact (rwG_ok T ha (Int.le_refl _) (by have := T.n1; omega)).1
  have fours := ag_fours T hn hw z0.1 z0.2 (h := (runG g a).2) m hm
  have hs := ag_in T hw z0.1 z0.2 (h := (runG g a).2) m
  generalize (ag g (runG g a).1 (runG g a).2 w m).1 = s at fours hs
  generalize (ag g (runG g a).1 (runG g a).2 w m).2 = h at fours
  have o1 := rwG_ok T hw hs.1 hs.2
  have o2 := rwG_ok T hw o1.1.1 o1.1.2
  have ob := rwG_ok T hb hs.1 hs.2
  have A := again_of T.rN (lin_aft o1.2.1 o2.2.1) hr
  have e : ∀ k, Wn g a w b (m + 4 * k) = (g.fin (nx g b s)).map fun row => wr (fil row (ro g b s)) (Hn (aft (aft (ro g w s) (ro g w (nx g w s))) (aft (ro g w s) (ro g w (nx g w s)))) h k) := fun k => by
    rw [Wn_eq, fours k]
  cases hf : g.fin (nx g b s) with
  | none =>
    left
    intro k
    rw [e, hf]
    rfl
  | some row =>
    right
    obtain ⟨f1, f2, _⟩ := T.fi _ _ hf
    have r1 : regsOf (fil row (ro g b s)) = (regsOf row).flatMap fun n => regsOf (ro g b s n) := regsOf_fil _ _
    obtain ⟨c, G, g1, g2⟩ := A.even (W := fil row (ro g b s)) h (fun n hn => by
      rw [r1] at hn
      obtain ⟨x, hx, hnx⟩ := List.mem_flatMap.mp hn
      exact ob.2.1.2 x (f2 x hx) n hnx) (by
      rw [r1]
      exact flat_sub ob.2.1.1 f1 f2)
    refine ⟨c, G, fun k => wr (fil row (ro g b s)) (Hn (aft (aft (ro g w s) (ro g w (nx g w s))) (aft (ro g w s) (ro g w (nx g w s)))) h k), fun k => ?_, g1, g2⟩
    rw [e, hf]
    rfl
end KX
end
section
set_option Elab.async false
set_option linter.all false
set_option maxRecDepth 100000
set_option maxHeartbeats 8000000
/-! Py1: rows put into rows, a word's rows. -/
namespace KX
open PySem PySem.Spec PyProof.Rows L2 Evl

/-- over the pairs of two lists -/
theorem s_forZ {K : PySem.W.Frag} {σ : L2.St} {H : Hp} {tb : TS} {D : Ends} {ta : TA} {a b : Addr} {xs ys : List V} {g : TG} (h : EvA ta σ H [.ref a, .ref b]) (ha : SqL K H a xs) (hb : SqL K H b ys) (hl : xs.length = ys.length) (Pv : Nat → L2.St → Hp → Prop) (h0 : ∀ H1, Ex H H1 → Pv 0 σ H1)
    (hG : ∀ i σ' H', i ≤ xs.length → Pv i σ' H' → SqL K H' a xs ∧ SqL K H' b ys)
    (hs : ∀ (i : Nat) x y T σ' H', xs[i]? = some x → ys[i]? = some y → Pv i σ' H' → H' T = none → g (.ref T) σ' (upd H' T (.tup [x, y])) fun σ2 H2 => tb { D with nx := Pv (i + 1), ct := Pv (i + 1), bk := D.nx } σ2 H2) (hd : ∀ σ' H', Pv xs.length σ' H' → D.nx σ' H') : tFor (iZip K ta) g tb D σ H :=
  h H (Ex.refl H) _ fun H1 e => ⟨a, b, xs, ys, rfl, ex_l e ha, ex_l e hb, for_it (walk_zip (n := xs.length) (by omega)) Pv (h0 H1 e) hG (fun i x σ' H' H'' _ p y => by
    obtain ⟨T, x, z, rfl, hT, rfl, hx, hz⟩ := y
    exact hs i x z T σ' H' hx hz p hT) hd⟩
/-- a list of items -/
def LowAt (H : Hp) (a : Addr) (row : List Itm) : Prop := ∃ xs, H a = some (.lst xs) ∧ ItsAt H xs row
def sp_row_ofL : Sp := spE (fun (x : Addr × List Itm) vs H => vs = [.ref x.1] ∧ LowAt H x.1 x.2 ∧ x.2.length ≤ 1000 ∧ rowLen x.2 ≤ 100000) (fun x v H => ∃ b, v = .ref b ∧ RowAt H b (nrm x.2))
def sp_filled : Sp := spE (fun (x : Addr × Addr × List Itm × List Str × (Str → List Itm)) vs H => vs = [.ref x.1, .ref x.2.1] ∧ RowAt H x.1 x.2.2.1 ∧ RowsN x.2.2.2.1 x.2.2.2.2 H x.2.1 ∧ (∀ m ∈ regsOf x.2.2.1, m ∈ x.2.2.2.1) ∧ (sub x.2.2.1 x.2.2.2.2).length ≤ 1000 ∧ rowLen (sub x.2.2.1 x.2.2.2.2) ≤ 100000)
  (fun x v H => ∃ b, v = .ref b ∧ RowAt H b (fil x.2.2.1 x.2.2.2.2))
/-- xs.extend(a tuple) -/
theorem s_extT {K : PySem.W.Frag} {σ : L2.St} {H : Hp} {D : Ends} {ta te : TE} {l b : Addr} {xs zs : List V} (hl : H l = some (.lst xs)) (hb : H b = some (.tup zs)) (ha : Ev ta σ H (.ref l)) (h : Ev te σ H (.ref b)) (hz : xs.length + zs.length ≤ 100000)
    (k : ∀ H1, Ex H H1 → D.nx σ (upd H1 l (.lst (xs ++ zs)))) : tDrop (tBM K "list" rExtendT ta (tCons te tNil)) D σ H := ha H (Ex.refl H) _ fun H1 e1 =>
  ⟨Or.inl ⟨rfl, xs, sq_of (e1 l _ hl)⟩, h H1 e1 _ fun H2 e2 => ⟨l, b, xs, zs, rfl, rfl, e2 l _ (e1 l _ hl), e2 b _ (e1 b _ hb), sz_of hz, k H2 (e1.trans e2)⟩⟩
theorem sub_snoc (row : List Itm) (t : Itm) (R : Str → List Itm) : sub (row ++ [t]) R = sub row R ++ sbt R t := by
  unfold sub
  rw [List.flatMap_append]
  show _ ++ (sbt R t ++ []) = _
  rw [List.append_nil]
theorem sub_take_le (row : List Itm) (R : Str → List Itm) (i : Nat) : (sub (row.take i) R).length ≤ (sub row R).length := by
  have : sub row R = sub (row.take i) R ++ sub (row.drop i) R := by
    unfold sub
    rw [← List.flatMap_append, List.take_append_drop]
  rw [this, List.length_append]
  omega
theorem regsOf_mem' {m : Str} : ∀ {row : List Itm}, Itm.r m ∈ row → m ∈ regsOf row
  | .t s :: r, h => by
    rcases List.mem_cons.mp h with e | h
    · cases e
    · exact regsOf_mem' (row := r) h
  | .r n :: r, h => by
    rcases List.mem_cons.mp h with e | h
    · cases e
      exact List.mem_cons_self
    · exact List.mem_cons_of_mem _ (regsOf_mem' (row := r) h)
theorem RowsN.get {ns : List Str} {R : Str → List Itm} {H : Hp} {d : Addr} (h : RowsN ns R H d) {n : Str} (hn : n ∈ ns) : ∃ kvs a, H d = some (.dK kvs) ∧ valV kvs (.inr n) = some (.ref a) ∧ RowAt H a (R n) := by
  obtain ⟨kvs, h1, h2, h3⟩ := h
  obtain ⟨v, hv, hm⟩ := valV_key (kvs := kvs) (k := .inr n) (by rw [h2]; exact List.mem_map_of_mem hn)
  obtain ⟨a, rfl, hA⟩ := h3 n v hm
  exact ⟨kvs, a, h1, hv, hA⟩
section
variable {P : Program} {w : World} {K : PySem.W.Frag} {mg : Str → Option Value} {base : Heap} {C : Addr} {f : Addr} {fd : FuncData}
theorem ok_row_ofL (F : Fun K "row_of" "row_of" s_row_of f fd) (Z : Zs mg C) (G_put_text : Has P w K mg base "put_text" 1 ["row", "texts"] sp_put_text) : FnOk P w K mg base CX0 2 f fd ["items"] sp_row_ofL := by
  refine F.ok sc_row_of (fun vs H Q E h => ?_) (fun cdv A outer s H vs Q E hr h => ?_)
  · obtain ⟨i, ⟨rfl, _⟩, _⟩ := h
    rfl
  · obtain ⟨⟨a, row⟩, ⟨rfl, ⟨xs, hx, hI⟩, hz, hs⟩, k⟩ := h
    have hz : row.length ≤ 1000 := hz
    have hs : rowLen row ≤ 100000 := hs
    have hI : ItsAt H xs row := hI
    refine ⟨_, (pss_cons (ps_set (i := 1) sc_row_of.nd rfl (Or.inl rfl) (pe_lst pa_nil)) 
    (pss_cons (ps_set (i := 2) sc_row_of.nd rfl (Or.inl rfl) (pe_lst pa_nil)) 
    (pss_cons (ps_for PassesOwn.never rfl (pi_list (pv 0)) (pg_name (i := 3) sc_row_of.nd rfl (Or.inl rfl)) 
     (pss_one (ps_if (pt_val (pe_callB (cIsi (K := K)) (by rfl) Z.z_isinstance (by decide +kernel) (pa_cons (pv 3) (pa_cons (pe_bltn (by rfl) Z.z_str (by decide +kernel) (show RelV (.ty "str") _ from rfl)) pa_nil)))) 
      (pss_one (ps_expr (pe_bm PySem.F.plainAttrs_list PySem.F.slot_list_append PySem.F.type_list_append mt_append (pv 2) (pa_cons (pv 3) pa_nil)))) 
      (pss_cons (ps_if (pt_truth (pv 2) (by intro _; rfl)) 
       (pss_cons (ps_expr (pe_use G_put_text (hr.mono (by decide)) (pa_cons (pv 1) (pa_cons (pv 2) pa_nil)))) 
       (pss_one (ps_set (i := 2) sc_row_of.nd rfl (Or.inl rfl) (pe_lst pa_nil)))) pss_nil) 
      (pss_one (ps_expr (pe_bm PySem.F.plainAttrs_list PySem.F.slot_list_append PySem.F.type_list_append mt_append (pv 1) (pa_cons (pv 3) pa_nil)))))))) 
    (pss_cons (ps_if (pt_truth (pv 2) (by intro _; rfl)) 
     (pss_one (ps_expr (pe_use G_put_text (hr.mono (by decide)) (pa_cons (pv 1) (pa_cons (pv 2) pa_nil))))) pss_nil) 
    (pss_one (ps_ret (pe_callTy (cTup (K := K)) (by rfl) Z.z_tuple (by decide +kernel) (pa_cons (pv 1) pa_nil)))))))), ?_⟩
    refine q_asgL (el_lst ea_nil (Nat.zero_le _)) fun l H1 hl e1 h1 => ?_
    refine q_asgL (el_lst ea_nil (Nat.zero_le _)) fun t0 H2 ht e2 h2 => ?_
    refine q_forL (K := K) (ev_var rfl) (sq_of ((e1.trans e2) _ _ hx)) (fun i σ' H' => ∃ (t : Addr) (ys : List V) (acc : List Itm) (ts : List Str) (v : Option V), σ' = [some (.ref a), some (.ref l), some (.ref t), v] ∧ Ex H H' ∧ H t = none ∧ l ≠ t ∧
      H' l = some (.lst ys) ∧ ItsAt H' ys acc ∧ ys.length ≤ 2 * i ∧ H' t = some (.lst (ts.map V.str)) ∧ ts.length ≤ i ∧ (ts.map (·.length)).sum + rowLen (row.drop i) ≤ 100000 ∧ nrmGo (row.drop i) acc ts = nrm row) ?_ ?_ ?_ ?_
    · intro H3 e3
      have nlt : l ≠ t0 := ne_of_none h1 ht
      exact ⟨t0, [], [], [], none, rfl, (e1.trans e2).trans e3, fresh_back e1 ht, nlt, e3 _ _ (e2 _ _ h1), ItsAt.nil, Nat.zero_le _, e3 _ _ h2, Nat.zero_le _, by simpa using hs, rfl⟩
    · rintro i σ' H' hi ⟨t, ys, acc, ts, v, rfl, ex, _⟩
      exact ex_l ex (sq_of hx)
    · rintro i x σ' H' hxi ⟨t, ys, acc, ts, v, rfl, ex, ht, nlt, hl', hys, hyl, ht', htl, hsum, hnrm⟩
      have hi1 : i < xs.length := (List.getElem?_eq_some_iff.mp hxi).1
      have hil : i < row.length := by rw [← hI.1]; exact hi1
      have hti : row[i]? = some row[i] := List.getElem?_eq_getElem hil
      have hit := (hI.2 i x _ hxi hti).le (Le.ex ex)
      rw [rowLen_drop hti] at hsum
      rw [nrmGo_drop hti] at hnrm
      cases htt : row[i] with
      | t s =>
        rw [htt] at hit hsum hnrm
        obtain rfl : x = .str s := hit
        refine s_if (b := true) (et_B (ev_isS (ev_var rfl) rfl)) (fun _ H3 e3 => ?_) (fun z => by cases z)
        refine s_app (e3 _ _ ht') (ev_var rfl) (ev_var rfl) (by rw [List.length_map]; omega) fun H4 e4 => ?_
        have e34 := e3.trans e4
        refine ⟨t, ys, acc, ts ++ [s], _, rfl, Ex.mut (ex.trans e34) ht, ht, nlt, by rw [upd_ne nlt]; exact e34 _ _ hl', (hys.le (Le.ex e34)).up (e34 _ _ ht'), by omega, by rw [upd_same, List.map_append]; rfl, by rw [List.length_append]; exact Nat.succ_le_succ htl, ?_, hnrm⟩
        have : tLen (.t s) = s.length := rfl
        rw [List.map_append, List.sum_append]
        simp
        omega
      | r n =>
        rw [htt] at hit hsum hnrm
        obtain ⟨b, rfl, hb⟩ := hit
        refine s_if (b := false) (et_B (ev_isU (ev_var rfl) hb rfl)) (fun z => by cases z) fun _ H3 e3 => ?_
        have hsum' : (ts.map (·.length)).sum ≤ 100000 := by omega
        have hlf : H l = none := hl
        have hn2 : nrmGo (row.drop (i + 1)) (acc ++ (oneS ts).map Itm.t ++ [Itm.r n]) [] = nrm row := hnrm
        have h3l := e3 _ _ hl'
        have h3b := e3 _ _ hb
        have hbl : b ≠ l := fun z => by
          subst z
          rw [h3b] at h3l
          cases h3l
        refine q_if (b := !(ts.map V.str).isEmpty) (et_L rfl (e3 _ _ ht')) (fun hne H4 e4 => ?_) (fun he H4 e4 => ?_)
        · have e34 := e3.trans e4
          refine q_put rfl rfl (e34 _ _ hl') (e34 _ _ ht') (by omega) hsum' fun H5 e5 => ?_
          have e35 := e34.trans e5
          have h5l : H5 l = some (.lst ys) := e35 _ _ hl'
          refine s_asgL (el_lst ea_nil (Nat.zero_le _)) fun t1 H6 ht1 e6 h6 => ?_
          have ht1' : H5 t1 = none := by
            by_cases z : t1 = l
            · subst z
              rw [upd_same] at ht1
              cases ht1
            · rw [upd_ne z] at ht1
              exact ht1
          have nlt1 : l ≠ t1 := ne_of_none h5l ht1'
          have h6l : H6 l = some (.lst (ys ++ (oneS ts).map V.str)) := e6 _ _ upd_same
          refine s_app h6l (ev_var rfl) (ev_var rfl) (by
            rw [List.length_append, List.length_map]
            have := oneS_len ts
            omega) fun H7 e7 => ?_
          have h7l := e7 _ _ h6l
          have exf : Ex H (upd H7 l (.lst (ys ++ (oneS ts).map V.str ++ [.ref b]))) := Ex.mut (((Ex.mut (ex.trans e35) hlf).trans e6).trans e7) hlf
          refine ⟨t1, ys ++ (oneS ts).map V.str ++ [.ref b], acc ++ (oneS ts).map .t ++ [.r n], [], _, rfl, exf, fresh_back (ex.trans e35) ht1', nlt1, upd_same, ?_, ?_, ?_, Nat.zero_le _, ?_, hn2⟩
          · refine ItsAt.up ?_ h7l
            refine ItsAt.append (ItsAt.append ?_ (ItsAt.texts _)) (ItsAt.one ?_)
            · exact (((hys.le (Le.ex e35)).up h5l).le (Le.ex e6)).le (Le.ex e7)
            · exact ⟨b, rfl, e7 _ _ (e6 _ _ (by
                rw [upd_ne hbl]
                exact e35 _ _ hb))⟩
          · rw [List.length_append, List.length_append, List.length_map]
            have := oneS_len ts
            show ys.length + (oneS ts).length + 1 ≤ 2 * (i + 1)
            omega
          · rw [upd_ne nlt1.symm]
            exact e7 _ _ h6
          · simp
            omega
        · have hts : ts = [] := by
            cases ts with
            | nil => rfl
            | cons a r => simp at he
          subst hts
          have e34 := e3.trans e4
          have h4l := e34 _ _ hl'
          refine s_app h4l (ev_var rfl) (ev_var rfl) (by omega) fun H5 e5 => ?_
          have e35 := e34.trans e5
          have h5l := e35 _ _ hl'
          have exf : Ex H (upd H5 l (.lst (ys ++ [.ref b]))) := Ex.mut (ex.trans e35) hlf
          refine ⟨t, ys ++ [.ref b], acc ++ [.r n], [], _, rfl, exf, ht, nlt, upd_same, ?_, ?_, ?_, Nat.zero_le _, ?_, ?_⟩
          · refine ItsAt.up ?_ h5l
            exact ItsAt.append (hys.le (Le.ex e35)) (ItsAt.one ⟨b, rfl, e35 _ _ hb⟩)
          · rw [List.length_append]
            show ys.length + 1 ≤ 2 * (i + 1)
            omega
          · rw [upd_ne nlt.symm]
            exact e35 _ _ ht'
          · simp
            simp at hsum
            omega
          · rw [oneS_nil] at hn2
            simpa using hn2
    · rintro σ' H' ⟨t, ys, acc, ts, v, rfl, ex, ht, nlt, hl', hys, hyl, ht', htl, hsum, hnrm⟩
      have hd : row.drop xs.length = [] := by rw [hI.1]; exact List.drop_length
      rw [hd] at hsum hnrm
      have hlf : H l = none := hl
      have hfin : nrm row = acc ++ (oneS ts).map Itm.t := hnrm.symm
      refine q_if (b := !(ts.map V.str).isEmpty) (et_L rfl ht') (fun hne H3 e3 => ?_) (fun he H4 e4 => ?_)
      · refine q_put rfl rfl (e3 _ _ hl') (e3 _ _ ht') (by have := hI.1; omega) (by omega) fun H4 e34 => ?_
        have e4 := e3.trans e34
        have h4l := e4 _ _ hl'
        refine s_retP (Pv := fun v H' => ∃ b, v = .ref b ∧ RowAt H' b (nrm row)) (fun H5 e5 Q q => ⟨_, rfl, l, _, rfl, .inl ⟨sq_of (e5 _ _ upd_same), fun b hb => q (.ref b) _ (Ex.new hb) ⟨b, rfl, ys ++ (oneS ts).map V.str, upd_same, ?_⟩⟩⟩) fun v H5 e5 p => k _ H5 ((Ex.mut (ex.trans e4) hlf).trans e5) p
        rw [hfin]
        exact (((hys.le (Le.ex e4)).append (ItsAt.texts _)).up h4l).le (Le.ex (e5.trans (Ex.new hb)))
      · have hts : ts = [] := by
          cases ts with
          | nil => rfl
          | cons a r => simp at he
        have h4l := e4 _ _ hl'
        have hself : H4 = upd H4 l (.lst (ys ++ (oneS ts).map V.str)) := by
          rw [hts, oneS_nil]
          exact (upd_self (by rw [h4l]; simp)).symm
        rw [hself]
        show tRet (tCB (rTupOf K) (tCons (tVar 1) tNil)) { nx := fun _ H' => Q .non H', rt := Q } _ _
        refine s_retP (Pv := fun v H' => ∃ b, v = .ref b ∧ RowAt H' b (nrm row)) (fun H5 e5 Q q => ⟨_, rfl, l, _, rfl, .inl ⟨sq_of (e5 _ _ upd_same), fun b hb => q (.ref b) _ (Ex.new hb) ⟨b, rfl, ys ++ (oneS ts).map V.str, upd_same, ?_⟩⟩⟩) fun v H5 e5 p => k _ H5 ((Ex.mut (ex.trans e4) hlf).trans e5) p
        rw [hfin]
        exact (((hys.le (Le.ex e4)).append (ItsAt.texts _)).up h4l).le (Le.ex (e5.trans (Ex.new hb)))
theorem ok_filled (F : Fun K "filled" "filled" s_filled f fd) (Z : Zs mg C) (G_row_of : Has P w K mg base "row_of" 2 ["items"] sp_row_ofL) : FnOk P w K mg base CX0 3 f fd ["row", "rows"] sp_filled := by
  refine F.ok sc_filled (fun vs H Q E h => ?_) (fun cdv A outer s H vs Q E hr h => ?_)
  · obtain ⟨i, ⟨rfl, _⟩, _⟩ := h
    rfl
  · obtain ⟨⟨a, d, row, ns, R⟩, ⟨rfl, ⟨xs, hx, hI⟩, hR, hrg, hz, hs⟩, k⟩ := h
    dsimp only at hx hI hR hrg hz hs k
    have hu := hu_of hr
    refine ⟨_, (pss_cons (ps_set (i := 2) sc_filled.nd rfl (Or.inl rfl) (pe_lst pa_nil)) 
    (pss_cons (ps_for PassesOwn.never rfl (pi_tup (pv 0)) (pg_name (i := 3) sc_filled.nd rfl (Or.inl rfl)) 
     (pss_one (ps_if (pt_val (pe_callB (cIsi (K := K)) (by rfl) Z.z_isinstance (by decide +kernel) (pa_cons (pv 3) (pa_cons (pe_bltn (by rfl) Z.z_str (by decide +kernel) (show RelV (.ty "str") _ from rfl)) pa_nil)))) 
      (pss_one (ps_expr (pe_bm PySem.F.plainAttrs_list PySem.F.slot_list_append PySem.F.type_list_append mt_append (pv 2) (pa_cons (pv 3) pa_nil)))) 
      (pss_one (ps_expr (pe_bm PySem.F.plainAttrs_list PySem.F.slot_list_extend PySem.F.type_list_extend mt_extendT (pv 2) (pa_cons (pe_dget hu (pv 1) (pe_ix (ixT (K := K)) (pv 3) pe_int (fun _ _ => rfl)) (fun _ _ => rfl)) pa_nil))))))) 
    (pss_one (ps_ret (pe_use G_row_of (hr.mono (by decide)) (pa_cons (pv 2) pa_nil)))))), ?_⟩
    refine q_asgL (el_lst ea_nil (Nat.zero_le _)) fun l H1 hl e1 h1 => ?_
    refine q_forT (K := K) (ev_var rfl) (st_of (e1 _ _ hx)) (fun i σ' H' => ∃ (ys : List V) (v : Option V), σ' = [some (.ref a), some (.ref d), some (.ref l), v] ∧ Ex H H' ∧ H' l = some (.lst ys) ∧ ItsAt H' ys (sub (row.take i) R)) ?_ ?_ ?_ ?_
    · intro H2 e2
      exact ⟨[], none, rfl, e1.trans e2, e2 _ _ h1, ItsAt.nil⟩
    · rintro i σ' H' hi ⟨ys, v, rfl, ex, _⟩
      exact ex_t ex (st_of hx)
    · rintro i x σ' H' hxi ⟨ys, v, rfl, ex, hl', hys⟩
      have hi1 : i < xs.length := (List.getElem?_eq_some_iff.mp hxi).1
      have hil : i < row.length := by rw [← hI.1]; exact hi1
      have hti : row[i]? = some row[i] := List.getElem?_eq_getElem hil
      have hit := (hI.2 i x _ hxi hti).le (Le.ex ex)
      have htk : row.take (i + 1) = row.take i ++ [row[i]] := by rw [List.take_succ, hti]; rfl
      have hle := sub_take_le row R (i + 1)
      have hyl := hys.1
      have hmem : row[i] ∈ row := List.getElem_mem hil
      rw [htk, sub_snoc, List.length_append] at hle
      have hnext : ∀ H2 zs, Ex H H2 → H2 l = some (.lst (ys ++ zs)) → ItsAt H2 (ys ++ zs) (sub (row.take i) R ++ sbt R row[i]) → ∃ (ys : List V) (v : Option V), [some (V.ref a), some (.ref d), some (.ref l), some x] = [some (V.ref a), some (.ref d), some (.ref l), v] ∧ Ex H H2 ∧ H2 l = some (.lst ys) ∧ ItsAt H2 ys (sub (row.take (i + 1)) R) := fun H2 zs a1 a2 a3 => ⟨ys ++ zs, _, rfl, a1, a2, by rw [htk, sub_snoc]; exact a3⟩
      generalize row[i] = t at hit hle hmem hnext
      cases t with
      | t s =>
        obtain rfl : x = .str s := hit
        refine s_if (b := true) (et_B (ev_isS (ev_var rfl) rfl)) (fun _ H3 e3 => ?_) (fun z => by cases z)
        refine s_app (e3 _ _ hl') (ev_var rfl) (ev_var rfl) (by omega) fun H4 e4 => ?_
        have e34 := e3.trans e4
        exact hnext _ [.str s] (Ex.mut (ex.trans e34) hl) upd_same (((hys.le (Le.ex e34)).append (ItsAt.one (t := .t s) rfl)).up (e34 _ _ hl'))
      | r m =>
        obtain ⟨b, rfl, hb⟩ := hit
        refine s_if (b := false) (et_B (ev_isU (ev_var rfl) hb rfl)) (fun z => by cases z) fun _ H3 e3 => ?_
        have ex3 := ex.trans e3
        obtain ⟨kvs, b2, g1, g2, zs, g3, g4⟩ := (hR.ex ex3).get (hrg m (regsOf_mem' hmem))
        have g5 : sbt R (.r m) = R m := rfl
        rw [g5] at hle
        have hzl := g4.1
        refine s_extT (e3 _ _ hl') g3 (ev_var rfl) (ev_get (k := .inr m) (ev_var rfl) (ev_ixU (K := K) (i := 0) (ev_var rfl) ev_c (e3 _ _ hb) rfl) rfl (.inl g1) g2) (by omega) fun H4 e4 => ?_
        have e34 := e3.trans e4
        exact hnext _ zs (Ex.mut (ex.trans e34) hl) upd_same (((hys.le (Le.ex e34)).append (g4.le (Le.ex e4))).up (e34 _ _ hl'))
    · rintro σ' H' ⟨ys, v, rfl, ex, hl', hys⟩
      have hd : row.take xs.length = row := by rw [hI.1]; exact List.take_length
      rw [hd] at hys
      exact s_retP (ep_use (ea_cons (ev_var rfl) ea_nil) (spE_P (l, sub row R) (fun H2 e2 => ⟨rfl, ⟨ys, e2 _ _ hl', hys.le (Le.ex e2)⟩, hz, hs⟩) fun v H2 _ p => p)) fun v H2 e2 p => k v H2 (ex.trans e2) p
end
end KX
end
section
set_option Elab.async false
set_option linter.all false
set_option maxRecDepth 100000
set_option maxHeartbeats 8000000
/-! Py2: a word's rows; rows one behind the other. -/
namespace KX
open PySem PySem.Spec PyProof.Rows L2 Evl

/-- {name: te for name in names}: rows -/
theorem new_dpR {wi : TI} {tv : TE} {σ : L2.St} {H : Hp} {j : Nat} {ws : List Nat} {ns : List Str} {R : Str → List Itm} (S : Src wi σ H ns.length (fun i x _ => (ns.map V.str)[i]? = some x)) (hz : ns.length ≤ 1000) (hw : ∀ x, wipe ((wipe σ ws).set j (some x)) ws = wipe σ ws) (hj : ∀ x : V, ((wipe σ ws).set j (some x))[j]? = some (some x)) (hN : ns.Nodup)
    (he : ∀ n ∈ ns, ∀ H', Ex H H' → EvP tv ((wipe σ ws).set j (some (.str n))) H' (fun v H2 => ∃ b, v = .ref b ∧ RowAt H2 b (R n))) :
    New (tDp (.dK []) wi (gName j) tYes (tVar j) tv ws) σ H (fun o H2 => ∃ l : List (Key × V), o = .dK l ∧ l.map (·.1) = ns.map Sum.inr ∧ ∀ n v, (Sum.inr n, v) ∈ l → ∃ a, v = .ref a ∧ RowAt H2 a (R n)) := by
  refine (new_dpK S (by omega) hw (ns.map Sum.inr) (by simp) (List.Pairwise.map Sum.inr (fun a b h q => h (Sum.inr.inj q)) hN)
    (fun i v H' => ∀ n, ns[i]? = some n → ∃ a, v = .ref a ∧ RowAt H' a (R n)) (fun i v => stab_all fun n => stab_imp fun _ => stab_ex fun a => stab_and stab_pure (stab_row (fun _ => rfl))) ?_ ?_ (fun _ _ _ _ _ h => h)).imp fun o H2 _ ⟨l, eo, hk, hv⟩ => ⟨l, eo, hk, fun n v hm => ?_⟩
  · intro i x k H' e hk hx
    rw [List.getElem?_map] at hk hx
    cases hr : ns[i]? with
    | none => rw [hr] at hk; cases hk
    | some s =>
      rw [hr] at hk hx
      cases hk
      cases hx
      exact ev_var (hj _)
  · intro i x H' e hil hxi
    rw [List.getElem?_map] at hxi
    cases hr : ns[i]? with
    | none => rw [hr] at hxi; cases hxi
    | some n =>
      rw [hr] at hxi
      obtain rfl : V.str n = x := Option.some.inj hxi
      refine (he n (List.mem_of_getElem? hr) H' e).imp fun v H2 _ p m hm => ?_
      obtain rfl : n = m := Option.some.inj hm
      exact p
  · obtain ⟨i, hi⟩ := List.mem_iff_getElem?.mp hm
    refine hv i _ hi n ?_
    have h2 := congrArg (fun z : List Key => z[i]?) hk
    simp only [List.getElem?_map, hi, Option.map_some] at h2
    cases hr : ns[i]? with
    | none => rw [hr] at h2; cases h2
    | some m =>
      rw [hr] at h2
      have : (Sum.inr n : Key) = Sum.inr m := Option.some.inj h2
      rw [Sum.inr.inj this]
/-- ((name,),) -/
theorem ep_id {σ : L2.St} {H : Hp} {j : Nat} {n : Str} (h : σ[j]? = some (some (.str n))) : EvP (tTup (tCons (tTup (tCons (tVar j) tNil)) tNil)) σ H (fun v H2 => ∃ b, v = .ref b ∧ RowAt H2 b (idR n)) :=
  ((new_tup (pa1 (Pr := fun vs _ => vs = []) (P := fun v H2 => ∃ b, v = .ref b ∧ H2 b = some (.tup [.str n])) (fun v H H' e ⟨b, h1, h2⟩ => ⟨b, h1, e _ _ h2⟩) (((New.ofU (eu_tup (ea_cons (ev_var h) ea_nil) (by show 1 ≤ 100000; decide))).evP).imp fun v H2 _ ⟨p, o, h1, h2, h3⟩ => ⟨p, h1, by rw [h2, h3]⟩) pa0) (fun vs H2 ⟨v, r, h1, h2, h3⟩ => by rw [h1, h3]; show 1 ≤ 1000; decide) (fun vs H H' e ⟨v, r, h1, ⟨b, h2, h3⟩, h4⟩ => ⟨v, r, h1, ⟨b, h2, e _ _ h3⟩, h4⟩)).evP).imp fun v H2 _ ⟨p, o, h1, h2, vs, h3, y, r, h4, ⟨b, h5, h6⟩, h7⟩ => ⟨p, h1, [.ref b], by rw [h2, h3, h4, h5, h7], ItsAt.one ⟨b, rfl, h6⟩⟩
def sp_once : Sp := spE (fun (x : Addr × List Str) vs H => vs = [.ref x.1] ∧ H x.1 = some (.lst (x.2.map V.str)) ∧ x.2.Nodup ∧ x.2.length ≤ 1000) (fun x v H => ∃ l, v = .ref l ∧ H l = some (.lst (x.2.map V.str)))
/-- the rows of moves, one behind the other -/
def sp_through : Sp := spE (fun (x : Addr × Addr × List Str × List Addr × List (Str → List Itm)) vs H => vs = [.ref x.1, .ref x.2.1] ∧ H x.1 = some (.lst (x.2.2.2.1.map V.ref)) ∧ H x.2.1 = some (.lst (x.2.2.1.map V.str)) ∧ x.2.2.1.Nodup ∧ x.2.2.1.length ≤ 4 ∧ x.2.2.2.1.length = x.2.2.2.2.length ∧ x.2.2.2.2.length ≤ 10 ∧
    (∀ (i : Nat) d m, x.2.2.2.1[i]? = some d → x.2.2.2.2[i]? = some m → RowsN x.2.2.1 m H d ∧ LinN x.2.2.1 m ∧ Nrm m ∧ tl x.2.2.1 m ≤ 1000))
  (fun x v H => ∃ d, v = .ref d ∧ RowsN x.2.2.1 (thr x.2.2.2.2) H d)
/-- a word's rows -/
def sp_behind_word (C : Addr) : Sp := spE (fun (x : Addr × Int × Str × Addr × Pg × Nat) vs H => vs = [.ref x.1, .int x.2.1, .str x.2.2.1, .ref x.2.2.2.1] ∧ PgAt C H x.1 x.2.2.2.2.1 ∧ Thin x.2.2.2.2.1 x.2.2.2.2.2 ∧ 0 ≤ x.2.1 ∧ x.2.1 < x.2.2.2.2.1.n ∧ (∀ c ∈ cds x.2.2.1, c ∈ cds x.2.2.2.2.1.L) ∧ (cds x.2.2.1).length ≤ 10 ∧ H x.2.2.2.1 = some (.lst (x.2.2.2.2.1.regs.map V.str)))
  (fun x v H => ∃ b d, v = .ref b ∧ H b = some (.tup [.int (rwG x.2.2.2.2.1 x.2.1 (cds x.2.2.1)).1, .ref d]) ∧ RowsN x.2.2.2.2.1.regs (rwG x.2.2.2.2.1 x.2.1 (cds x.2.2.1)).2 H d)
section
variable {P : Program} {w : World} {K : PySem.W.Frag} {mg : Str → Option Value} {base : Heap} {C : Addr} {f : Addr} {fd : FuncData}
theorem ok_once (F : Fun K "once" "once" s_once f fd) (Z : Zs mg C) : FnOk P w K mg base CX0 1 f fd ["names"] sp_once := by
  refine F.ok sc_once (fun vs H Q E h => ?_) (fun cdv A outer s H vs Q E hr h => ?_)
  · obtain ⟨i, ⟨rfl, _⟩, _⟩ := h
    rfl
  · obtain ⟨⟨a, ns⟩, ⟨rfl, hx, hN, hz⟩, k⟩ := h
    dsimp only at hx hN hz k
    have hu := hu_of hr
    have hu0 := Nat.lt_of_succ_lt hu
    refine ⟨_, (pss_one (ps_ret (pe_callTy (call_list_dK rfl) (by rfl) Z.z_list (by decide +kernel) (pa_cons (pe_dp IsNil.k hu0 (own := [(("name" : Str), 1)]) (g := gName 1) rfl sc_once.nd (pi_list (pv 0)) (blkOk_by (own := [(("name" : Str), 1)]) (N := n_once) (sc := defScope s_once) (by decide +kernel)) (fun _ _ _ _ _ => (pg_name (i := 1) sc_once.nd rfl (Or.inl rfl))) (fun _ _ _ _ _ => pts_nil) (fun _ _ _ _ _ => (pv 1)) (fun _ _ _ _ _ => pe_bl)) pa_nil)))), ?_⟩
    refine s_retP (Pv := fun v H' => ∃ l, v = .ref l ∧ H' l = some (.lst (ns.map V.str))) ?_ fun v H1 e1 p => k v H1 e1 p
    intro H1 e1 Q' q
    show tDp (.dK []) (iList K (tVar 0)) (gName 1) tYes (tVar 1) (tC (.bl true)) [1] [some (.ref a), none] H1 (fun v H2 => rListD [v] H2 Q')
    refine new_dpK (wi := iList K (tVar 0)) (tk := tVar 1) (tv := tC (.bl true)) (σ := [some (.ref a), none]) (H := H1) (j := 1) (ws := [1]) (src_list (K := K) (ev_var rfl) (sq_of (e1 _ _ hx))) (by rw [List.length_map]; omega) (fun x => rfl) (ns.map Sum.inr) (by simp) (List.Pairwise.map Sum.inr (fun a b h q => h (Sum.inr.inj q)) hN) (fun _ _ _ => True) (fun _ _ => stab_pure) ?_ ?_ (fun _ _ _ _ _ h => h) H1 (Ex.refl _) _ fun d o H2 hd e2 h2 ⟨l, eo, hk, _⟩ => ?_
    · intro i x kk H' e hk hx
      rw [List.getElem?_map] at hk hx
      cases hr : ns[i]? with
      | none => rw [hr] at hk; cases hk
      | some s =>
        rw [hr] at hk hx
        cases hk
        cases hx
        exact ev_var rfl
    · intro i x H' e hil hxi
      exact EvP.imp (EvP.of (ev_c (v := .bl true))) fun _ _ _ _ => trivial
    · subst eo
      refine ⟨d, l, rfl, h2, fun q' hq => q _ _ (e2.trans (Ex.new hq)) ⟨q', rfl, ?_⟩⟩
      rw [upd_same]
      have e : (l.map fun kv => kV kv.1) = ns.map V.str := by
        have : (l.map fun kv => kV kv.1) = (l.map (·.1)).map kV := by rw [List.map_map]; rfl
        rw [this, hk, List.map_map]
        rfl
      rw [e]
theorem ok_through (F : Fun K "through" "through" s_through f fd) (Z : Zs mg C) (G_filled : Has P w K mg base "filled" 3 ["row", "rows"] sp_filled) : FnOk P w K mg base CX0 4 f fd ["moves", "names"] sp_through := by
  refine F.ok sc_through (fun vs H Q E h => ?_) (fun cdv A outer s H vs Q E hr h => ?_)
  · obtain ⟨i, ⟨rfl, _⟩, _⟩ := h
    rfl
  · obtain ⟨⟨ml, nl, ns, ds, ms⟩, ⟨rfl, hm, hn, hN, h4, hl, h10, hR⟩, k⟩ := h
    dsimp only at hm hn hN h4 hl h10 hR k
    have hu := hu_of hr
    have hu0 := Nat.lt_of_succ_lt hu
    refine ⟨_, (pss_cons (ps_set (i := 2) sc_through.nd rfl (Or.inr rfl) (pe_dp IsNil.k hu0 (own := [(("name" : Str), 4)]) (g := gName 4) rfl sc_through.nd (pi_list (pv 1)) (blkOk_by (own := [(("name" : Str), 4)]) (N := n_through) (sc := defScope s_through) (by decide +kernel)) (fun _ _ _ _ _ => (pg_name (i := 4) sc_through.nd rfl (Or.inl rfl))) (fun _ _ _ _ _ => pts_nil) (fun _ _ _ _ _ => (pv 4)) (fun _ _ _ _ _ => (pe_tup (pa_cons (pe_tup (pa_cons (pv 4) pa_nil)) pa_nil))))) 
    (pss_cons (ps_for PassesOwn.never rfl (pi_list (pv 0)) (pg_name (i := 3) sc_through.nd rfl (Or.inr rfl)) 
     (pss_one (ps_set (i := 2) sc_through.nd rfl (Or.inr rfl) (pe_dp IsNil.k hu0 (own := [(("name" : Str), 4)]) (g := gName 4) rfl sc_through.nd (pi_list (pv 1)) (blkOk_by (own := [(("name" : Str), 4)]) (N := n_through) (sc := defScope s_through) (by decide +kernel)) (fun _ _ _ _ _ => (pg_name (i := 4) sc_through.nd rfl (Or.inl rfl))) (fun _ _ _ _ _ => pts_nil) (fun _ _ _ _ _ => (pv 4)) (fun _ _ _ _ _ => (pe_use G_filled (hr.mono (by decide)) (pa_cons (pe_dget hu (pv 3) (pv 4) (fun _ _ => rfl)) (pa_cons (pv 2) pa_nil)))))))) 
    (pss_one (ps_ret (pv 2))))), ?_⟩
    refine q_new (new_dpR (R := idR) (by have := src_list (K := K) (σ := [some (V.ref ml), some (.ref nl), none, none, none]) (tl := tVar 1) (ev_var rfl) (sq_of hn); rw [List.length_map] at this; exact this) (by omega) (fun x => rfl) (fun x => rfl) hN fun n hn' H' e => ep_id rfl) fun d o H1 hd e1 h1 ⟨l, eo, hk, hv⟩ => ?_
    subst eo
    refine q_forL (K := K) (ev_var rfl) (sq_of (e1 _ _ hm)) (fun i σ' H' => ∃ d v3, σ' = [some (.ref ml), some (.ref nl), some (.ref d), v3, none] ∧ Ex H H' ∧ RowsN ns (thr (ms.take i)) H' d) (fun H2 e2 => ⟨d, none, rfl, e1.trans e2, RowsN.ex e2 ⟨l, h1, hk, hv⟩⟩) ?_ ?_ ?_
    · rintro i σ' H' hi ⟨d, v3, rfl, ex, _⟩
      exact ex_l ex (sq_of hm)
    · rintro i x σ' H' hxi ⟨d, v3, rfl, ex, hd⟩
      rw [List.getElem?_map] at hxi
      obtain ⟨a, ha, rfl⟩ := Option.map_eq_some_iff.mp hxi
      have hil : i < ds.length := (List.getElem?_eq_some_iff.mp ha).1
      have hti : ms[i]? = some ms[i] := List.getElem?_eq_getElem (by omega)
      have htk : ms.take (i + 1) = ms.take i ++ [ms[i]] := by rw [List.take_succ, hti]; rfl
      obtain ⟨r1, r2, r3, r4⟩ := hR i a _ ha hti
      have tok := thr_ok (B := 1000) (ms.take i) idR 0 (lin_id hN) (by rw [tl_id]; exact Nat.le_refl _) fun m hm => by
        obtain ⟨q, hq⟩ := List.mem_iff_getElem?.mp (List.mem_of_mem_take hm)
        have hql : q < ms.length := (List.getElem?_eq_some_iff.mp hq).1
        have := hR q ds[q] m (List.getElem?_eq_getElem (by omega)) hq
        exact ⟨this.2.1, this.2.2.2⟩
      have tn : Nrm (thr (ms.take i)) := by
        rcases List.eq_nil_or_concat (ms.take i) with e | ⟨l, c, e⟩
        · rw [e]
          exact nrm_id
        · rw [e, List.concat_eq_append, thr_snoc]
          exact nrm_aft _ _
      have t2 : tl ns (thr (ms.take i)) ≤ 10000 := by
        have h1 := tok.2
        rw [List.length_take] at h1
        have e : thr (ms.take i) = (ms.take i).foldl aft idR := rfl
        rw [e]
        omega
      rw [htk, thr_snoc]
      generalize ms[i] = m at r1 r2 r3 r4
      have r1 := r1.ex ex
      show (tAsg _ _) _ _ _
      refine s_new (new_dpR (R := aft (thr (ms.take i)) m) (by have := src_list (K := K) (σ := [some (V.ref ml), some (.ref nl), some (.ref d), some (.ref a), none]) (tl := tVar 1) (ev_var rfl) (sq_of (ex _ _ hn)); rw [List.length_map] at this; exact this) (by omega) (fun x => rfl) (fun x => rfl) hN fun n hn' H2 e2 => ?_) fun d2 o H2 hd2 e2 h2 ⟨l2, eo, hk2, hv2⟩ => ?_
      · obtain ⟨kvs, b, g1, g2, g3⟩ := (r1.ex e2).get hn'
        have so := sub_ok (k := 100000) h4 tok.1 tn (row := m n) (by have := lin_len r2 hn'; have := r3 n; omega) (flat_each r2.1 hn') (fun q hq => r2.2 n hn' q hq) (by have := le_tl (R := m) hn'; have e : thr (ms.take i) = (ms.take i).foldl aft idR := rfl; rw [e] at t2; omega)
        refine ep_use (ea_cons (ev_get (k := .inr n) (ev_var rfl) (ev_var rfl) rfl (.inl g1) g2) (ea_cons (ev_var rfl) ea_nil)) (spE_P (b, d, m n, ns, thr (ms.take i)) (fun H3 e3 => ⟨rfl, g3.le (Le.ex e3), hd.ex (e2.trans e3), fun q hq => r2.2 n hn' q hq, so.1, so.2⟩) fun v H3 _ p => p)
      · subst eo
        exact ⟨d2, some (.ref a), rfl, ex.trans e2, l2, h2, hk2, hv2⟩
    · rintro σ' H' ⟨d, v3, rfl, ex, hd⟩
      rw [List.length_map, hl, List.take_length] at hd
      exact s_ret (v := .ref d) (ev_var rfl) fun H2 e2 => k _ H2 (ex.trans e2) ⟨d, rfl, hd.ex e2⟩
end
end KX
end
section
set_option Elab.async false
set_option linter.all false
set_option maxRecDepth 100000
set_option maxHeartbeats 8000000
/-! Py3: a word's rows. -/
namespace KX
open PySem PySem.Spec PyProof.Rows L2 Evl

/-- the state ahead of the i-th letter, the rows of its step -/
abbrev stW (g : Pg) (s : Int) (w : List Nat) (i : Nat) : Int := (rwG g s (w.take i)).1
abbrev rfW (g : Pg) (s : Int) (w : List Nat) (i : Nat) : Str → List Itm := g.row (stW g s w i) (w.getD i 0)
/-- the names that are needed k letters ahead of the end -/
def ndW (g : Pg) (s : Int) (w : List Nat) : Nat → List Str
  | 0 => g.regs
  | k + 1 => regsOfs (rfW g s w (w.length - 1 - k)) (ndW g s w k)
theorem rwG_take {g : Pg} {s : Int} {w : List Nat} {i : Nat} (hi : i < w.length) : rwG g s (w.take (i + 1)) = (g.goal (stW g s w i) (w.getD i 0), aft (rwG g s (w.take i)).2 (rfW g s w i)) := by
  have e : w.take (i + 1) = w.take i ++ [w.getD i 0] := by
    rw [List.take_succ, List.getElem?_eq_getElem hi, List.getD_eq_getElem?_getD, List.getElem?_eq_getElem hi]
    rfl
  rw [e]
  show (w.take i ++ [w.getD i 0]).foldl (rwStp g) (s, idR) = _
  rw [List.foldl_append]
  rfl
theorem stW_in {g : Pg} {B : Nat} (T : Thin g B) {s : Int} {w : List Nat} (h0 : 0 ≤ s) (h1 : s < g.n) (hw : ∀ c ∈ w, c ∈ cds g.L) (i : Nat) : 0 ≤ stW g s w i ∧ stW g s w i < g.n := (rwG_ok T (w := w.take i) (fun c hc => hw c (List.mem_of_mem_take hc)) h0 h1).1
theorem slW {g : Pg} {B : Nat} (T : Thin g B) {s : Int} {w : List Nat} (h0 : 0 ≤ s) (h1 : s < g.n) (hw : ∀ c ∈ w, c ∈ cds g.L) {i : Nat} (hi : i < w.length) : SL g.L g.n (stW g s w i) (w.getD i 0) := by
  have := stW_in T h0 h1 hw i
  refine ⟨this.1, this.2, hw _ ?_⟩
  rw [List.getD_eq_getElem?_getD, List.getElem?_eq_getElem hi]
  exact List.getElem_mem hi
theorem ndW_ok {g : Pg} {B : Nat} (T : Thin g B) {s : Int} {w : List Nat} (h0 : 0 ≤ s) (h1 : s < g.n) (hw : ∀ c ∈ w, c ∈ cds g.L) : ∀ k, k ≤ w.length → (ndW g s w k).Nodup ∧ ∀ n ∈ ndW g s w k, n ∈ g.regs
  | 0, _ => ⟨T.rN, fun n h => h⟩
  | k + 1, hk => by
    have ih := ndW_ok T h0 h1 hw k (by omega)
    have l := (T.li _ _ (slW T h0 h1 hw (i := w.length - 1 - k) (by omega))).1
    refine ⟨flat_sub l.1 ih.1 ih.2, fun n hn => ?_⟩
    obtain ⟨x, hx, hnx⟩ := List.mem_flatMap.mp hn
    exact l.2 x (ih.2 x hx) n hnx
theorem last_of {α : Type} {l : List α} {i : Nat} {x : α} (hl : l.length = i + 1) (hx : l[i]? = some x) : l = l.take i ++ [x] := by
  have h : l.take (i + 1) = l.take i ++ [x] := by
    rw [List.take_succ, hx]
    rfl
  rw [← hl, List.take_length] at h
  exact h
/-- over the pairs of a list and a new one -/
theorem q_forZN {K : PySem.W.Frag} {σ : L2.St} {H : Hp} {tb tz : TS} {D : Ends} {ta : TA} {a : Addr} {xs ys : List V} {g : TG} (h : ∀ H1, Ex H H1 → ∀ Q : List V → Hp → Prop, (∀ b H2, H1 b = none → Ex H1 H2 → H2 b = some (.lst ys) → Q [.ref a, .ref b] H2) → ta σ H1 Q) (ha : SqL K H a xs) (hl : xs.length = ys.length) (Pv : Addr → Nat → L2.St → Hp → Prop) (h0 : ∀ b H1, H b = none → Ex H H1 → H1 b = some (.lst ys) → Pv b 0 σ H1)
    (hG : ∀ b i σ' H', i ≤ xs.length → Pv b i σ' H' → SqL K H' a xs ∧ SqL K H' b ys)
    (hs : ∀ b (i : Nat) x y T σ' H', xs[i]? = some x → ys[i]? = some y → Pv b i σ' H' → H' T = none → g (.ref T) σ' (upd H' T (.tup [x, y])) fun σ2 H2 => tb { D with nx := Pv b (i + 1), ct := Pv b (i + 1), bk := tz D } σ2 H2) (hd : ∀ b σ' H', Pv b xs.length σ' H' → tz D σ' H') : tSeq (tFor (iZip K ta) g tb) tz D σ H :=
  h H (Ex.refl H) _ fun b H1 hb e hy => ⟨a, b, xs, ys, rfl, ex_l e ha, sq_of hy, for_it (D := { D with nx := tz D }) (walk_zip (n := xs.length) (by omega)) (Pv b) (h0 b H1 hb e hy) (hG b) (fun i x σ' H' H'' _ p y => by
    obtain ⟨T, x, z, rfl, hT, rfl, hx, hz⟩ := y
    exact hs b i x z T σ' H' hx hz p hT) (hd b)⟩
/-- xs.append(e) -/
theorem s_appP {K : PySem.W.Frag} {σ : L2.St} {H : Hp} {D : Ends} {ta te : TE} {l : Addr} {xs : List V} {Pv : V → Hp → Prop} (hl : H l = some (.lst xs)) (ha : Ev ta σ H (.ref l)) (h : EvP te σ H Pv) (hz : xs.length < 100000) (k : ∀ v H1, Ex H H1 → Pv v H1 → D.nx σ (upd H1 l (.lst (xs ++ [v])))) :
    tDrop (tBM K "list" rAppend ta (tCons te tNil)) D σ H := ha H (Ex.refl H) _ fun H1 e1 =>
  ⟨Or.inl ⟨rfl, xs, sq_of (e1 l _ hl)⟩, h H1 e1 _ fun v H2 e2 p => ⟨l, xs, v, rfl, rfl, e2 l _ (e1 l _ hl), sz_lt hz, k v H2 (e1.trans e2) p⟩⟩
/-- xs.reverse() -/
theorem q_rev {K : PySem.W.Frag} {σ : L2.St} {H : Hp} {D : Ends} {tz : TS} {ta : TE} {l : Addr} {xs : List V} (hl : H l = some (.lst xs)) (ha : Ev ta σ H (.ref l)) (k : ∀ H1, Ex H H1 → tz D σ (upd H1 l (.lst xs.reverse))) : tSeq (tDrop (tBM0 K "list" rReverse ta)) tz D σ H := ha H (Ex.refl H) _ fun H1 e1 =>
  ⟨Or.inl ⟨rfl, xs, sq_of (e1 l _ hl)⟩, ⟨l, xs, rfl, rfl, e1 l _ hl, k H1 e1⟩⟩
/-- a call of one argument that is not told exactly -/
theorem ep_use1 {σ : L2.St} {H : Hp} {sp : Sp} {E : XK} {te : TE} {Pa Pv : V → Hp → Prop} (h : EvP te σ H Pa) (hs : ∀ v H1, Ex H H1 → Pa v H1 → SpP sp [v] H1 Pv) : EvP (tCall sp [] E (tCons te tNil)) σ H Pv := fun H1 e Q q =>
  h H1 e _ fun v H2 e2 p => hs v H2 (e.trans e2) p H2 (Ex.refl _) Q (fun v H3 e3 pv => q v H3 (e2.trans e3) pv) E
section
variable {P : Program} {w : World} {K : PySem.W.Frag} {mg : Str → Option Value} {base : Heap} {C : Addr} {f : Addr} {fd : FuncData}
theorem ok_behind_word (F : Fun K "behind_word" "behind_word" s_behind_word f fd) (Z : Zs mg C) (PC : PgC K C) (G_filled : Has P w K mg base "filled" 3 ["row", "rows"] sp_filled) (G_once : Has P w K mg base "once" 1 ["names"] sp_once) (G_names_in_rows : Has P w K mg base "names_in_rows" 2 ["rows", "names"] (sp_names_in_rows K)) : FnOk P w K mg base CX0 4 f fd ["program", "state", "word", "names"] (sp_behind_word C) := by
  refine F.ok sc_behind_word (fun vs H Q E h => ?_) (fun cdv A outer s H vs Q E hr h => ?_)
  · obtain ⟨i, ⟨rfl, _⟩, _⟩ := h
    rfl
  · obtain ⟨⟨p, s0, wd, ra, g, B⟩, ⟨rfl, hPA, T, z0, z1, hw, h10, hra⟩, k⟩ := h
    dsimp only at hPA T z0 z1 hw h10 hra k
    have hu := hu_of hr
    have hu0 := Nat.lt_of_succ_lt hu
    obtain ⟨dx, fs, ra', fa, sa, ea, hp, PF, PD⟩ := hPA
    obtain ⟨ks, hks, _, _, hkv, hkc⟩ := PD.s
    refine ⟨_, (pss_cons (ps_set (i := 4) sc_behind_word.nd rfl (Or.inl rfl) (pe_lst pa_nil)) 
    (pss_cons (ps_for PassesOwn.never rfl (pi_str (pv 2)) (pg_name (i := 5) sc_behind_word.nd rfl (Or.inl rfl)) 
     (pss_cons (ps_asg (pe_dget hu (pe_fldK (K := K) (pv 0) rfl) (pe_tup (pa_cons (pv 1) (pa_cons (pv 5) pa_nil))) (fun _ _ => rfl)) (pg_tup rfl (pgs_cons (pg_name (i := 1) sc_behind_word.nd rfl (Or.inl rfl)) (pgs_cons (pg_name (i := 6) sc_behind_word.nd rfl (Or.inr rfl)) pgs_nil)))) 
     (pss_one (ps_expr (pe_bm PySem.F.plainAttrs_list PySem.F.slot_list_append PySem.F.type_list_append mt_append (pv 4) (pa_cons (pv 6) pa_nil)))))) 
    (pss_cons (ps_set (i := 7) sc_behind_word.nd rfl (Or.inl rfl) (pe_lst (pa_cons (pe_callTy (cList (K := K)) (by rfl) Z.z_list (by decide +kernel) (pa_cons (pv 3) pa_nil)) pa_nil))) 
    (pss_cons (ps_for PassesOwn.never rfl (pi_list (pe_revL (pv 4))) (pg_name (i := 6) sc_behind_word.nd rfl (Or.inr rfl)) 
     (pss_one (ps_expr (pe_bm PySem.F.plainAttrs_list PySem.F.slot_list_append PySem.F.type_list_append mt_append (pv 7) (pa_cons (pe_use G_once (hr.mono (by decide)) (pa_cons (pe_use G_names_in_rows (hr.mono (by decide)) (pa_cons (pv 6) (pa_cons (pe_ix (ixL (K := K)) (pv 7) (pe_un un_neg pe_int) (fun _ _ => rfl)) pa_nil))) pa_nil)) pa_nil))))) 
    (pss_cons (ps_expr (pe_bm0 PySem.F.plainAttrs_list PySem.F.slot_list_reverse PySem.F.type_list_reverse mt_reverse (pv 7))) 
    (pss_cons (ps_set (i := 8) sc_behind_word.nd rfl (Or.inr rfl) (pe_dp IsNil.k hu0 (own := [(("name" : Str), 10)]) (g := gName 10) rfl sc_behind_word.nd (pi_list (pe_ix (ixL (K := K)) (pv 7) pe_int (fun _ _ => rfl))) (blkOk_by (own := [(("name" : Str), 10)]) (N := n_behind_word) (sc := defScope s_behind_word) (by decide +kernel)) (fun _ _ _ _ _ => (pg_name (i := 10) sc_behind_word.nd rfl (Or.inl rfl))) (fun _ _ _ _ _ => pts_nil) (fun _ _ _ _ _ => (pv 10)) (fun _ _ _ _ _ => (pe_tup (pa_cons (pe_tup (pa_cons (pv 10) pa_nil)) pa_nil))))) 
    (pss_cons (ps_for PassesOwn.never rfl (pi_zip (by rfl) Z.z_zip (pa_cons (pv 4) (pa_cons (pe_slice sl_list (pv 7) (po_some pe_int) po_none) pa_nil))) (pg_tup rfl (pgs_cons (pg_name (i := 6) sc_behind_word.nd rfl (Or.inr rfl)) (pgs_cons (pg_name (i := 9) sc_behind_word.nd rfl (Or.inl rfl)) pgs_nil))) 
     (pss_one (ps_set (i := 8) sc_behind_word.nd rfl (Or.inr rfl) (pe_dp IsNil.k hu0 (own := [(("name" : Str), 10)]) (g := gName 10) rfl sc_behind_word.nd (pi_list (pv 9)) (blkOk_by (own := [(("name" : Str), 10)]) (N := n_behind_word) (sc := defScope s_behind_word) (by decide +kernel)) (fun _ _ _ _ _ => (pg_name (i := 10) sc_behind_word.nd rfl (Or.inl rfl))) (fun _ _ _ _ _ => pts_nil) (fun _ _ _ _ _ => (pv 10)) (fun _ _ _ _ _ => (pe_use G_filled (hr.mono (by decide)) (pa_cons (pe_dget hu (pv 6) (pv 10) (fun _ _ => rfl)) (pa_cons (pv 8) pa_nil)))))))) 
    (pss_one (ps_ret (pe_tup (pa_cons (pv 1) (pa_cons (pv 8) pa_nil)))))))))))), ?_⟩
    generalize hw0 : cds wd = W at hw h10 k
    have hWz : wd.cps.size = W.length := by rw [← hw0, Array.length_toList]
    -- the moves
    refine q_asgL (el_lst ea_nil (Nat.zero_le _)) fun ml H1 hml e1 h1 => ?_
    let Mv : Nat → List Addr → Hp → Prop := fun j ds H' => Ex H H' ∧ H' ml = some (.lst (ds.map V.ref)) ∧ ds.length = j ∧ ∀ (i : Nat) d, ds[i]? = some d → RowsN g.regs (rfW g s0 W i) H' d
    have Mv.ex : ∀ {j ds H' H''}, Ex H' H'' → Mv j ds H' → Mv j ds H'' := fun {j ds H' H''} e h => ⟨h.1.trans e, e _ _ h.2.1, h.2.2.1, fun i d hd => (h.2.2.2 i d hd).ex e⟩
    refine s_forS (D := _) (ev_var rfl) (fun j σ' H' => ∃ (ds : List Addr) (v5 v6 : Option V), σ' = [some (.ref p), some (.int (stW g s0 W j)), some (.str wd), some (.ref ra), some (.ref ml), v5, v6, none, none, none, none] ∧ Mv j ds H') (fun H2 e2 => ⟨[], none, none, rfl, e1.trans e2, e2 _ _ h1, rfl, fun i d hd => by simp at hd⟩) ?_ ?_
    · rintro j c σ' H' hj ⟨ds, v5, v6, rfl, M⟩
      have hjl : j < W.length := by
        rw [← hWz]
        exact (Array.getElem?_eq_some_iff.mp hj).1
      have hc : W.getD j 0 = c := by
        rw [List.getD_eq_getElem?_getD, ← hw0, Array.getElem?_toList, hj]
        rfl
      have hsl := slW T z0 z1 hw hjl
      have htk := rwG_take (g := g) (s := s0) hjl
      rw [hc] at hsl htk
      have hrf : rfW g s0 W j = g.row (stW g s0 W j) c := by
        show g.row _ (W.getD j 0) = _
        rw [hc]
      obtain ⟨v, hv, hm⟩ := valV_key (kvs := ks) (hkc _ c hsl)
      obtain ⟨s', c', b, r, hk1, _, rfl, hb, hR⟩ := hkv _ v hm
      obtain ⟨e1', e2'⟩ := pl_inj hk1
      subst e2'
      rw [← e1'] at hb hR
      show (tSeq _ _) _ _ _
      refine q_unpack2 (b := b) (ev_getU (k := [.inl (stW g s0 W j), .inr ⟨#[c]⟩]) (ev_fld (K := K) (ta := tVar 0) (ev_var rfl) (M.1 _ _ hp) PC.cl PC.s PF.s) (eu_tup (ea_cons (ev_var rfl) (ea_cons (ev_var rfl) ea_nil)) (by show 2 ≤ 100000; decide)) (.inl (M.1 _ _ hks)) hv) (M.1 _ _ hb) fun H4 e4 => ?_
      have M4 := Mv.ex e4 M
      refine s_app M4.2.1 (ev_var rfl) (ev_var rfl) (by rw [List.length_map]; have := M4.2.2.1; omega) fun H5 e5 => ?_
      have M5 := Mv.ex e5 M4
      refine ⟨ds ++ [r], some (.str ⟨#[c]⟩), some (.ref r), ?_, Ex.mut M5.1 hml, by rw [upd_same, List.map_append]; rfl, by rw [List.length_append, M5.2.2.1]; rfl, fun i d hd => ?_⟩
      · have : stW g s0 W (j + 1) = g.goal (stW g s0 W j) c := by
          show (rwG g s0 (W.take (j + 1))).1 = _
          rw [htk]
        rw [this]
        rfl
      · have up : ∀ {R d}, RowsN g.regs R H5 d → RowsN g.regs R (upd H5 ml (.lst (ds.map V.ref ++ [.ref r]))) d := fun {R d} h => by
          obtain ⟨l, a1, a2, a3⟩ := h
          refine ⟨l, ?_, a2, fun n v hm => ?_⟩
          · rw [upd_ne (fun z => by rw [z, M5.2.1] at a1; cases a1)]
            exact a1
          · obtain ⟨a, b1, b2⟩ := a3 n v hm
            exact ⟨a, b1, b2.upd M5.2.1 (fun xs q => by cases q)⟩
        rcases snoc_at hd with ⟨hd, _⟩ | ⟨hi, hd⟩
        · exact up (M5.2.2.2 i d hd)
        · subst hd
          have : i = j := by have := M5.2.2.1; omega
          subst this
          rw [hrf]
          exact up (hR.ex (M.1.trans (e4.trans e5)))
    · rintro σ' H' ⟨ds, v5, v6, rfl, M⟩
      rw [hWz] at M ⊢
      have hdl := M.2.2.1
      have hst : stW g s0 W W.length = (rwG g s0 W).1 := by
        show (rwG g s0 (W.take W.length)).1 = _
        rw [List.take_length]
      rw [hst]
      -- the names that are needed
      refine q_new (new_lst (pa1 (P := fun v H => ∃ l, v = .ref l ∧ H l = some (.lst (g.regs.map V.str))) (Pr := fun vs _ => vs = []) (fun v H H' e ⟨l, a1, a2⟩ => ⟨l, a1, e _ _ a2⟩) (((New.ofL (el_list (K := K) (ev_var rfl) (sq_of (M.1 _ _ hra)))).evP).imp fun v H2 _ ⟨q, o, a1, a2, a3⟩ => ⟨q, a1, by rw [a2, a3]⟩) pa0) (fun vs H2 ⟨v, r, a1, _, a3⟩ => by rw [a1, a3]; show 1 ≤ 1000; decide) (fun vs H H' e ⟨v, r, a1, ⟨l, a2, a3⟩, a4⟩ => ⟨v, r, a1, ⟨l, a2, e _ _ a3⟩, a4⟩)) fun nl o H2 hnl e2 h2 no => ?_
      obtain ⟨vs0, rfl, v0, r0, rfl, ⟨l0, rfl, hl0⟩, rfl⟩ := no
      have M2 := Mv.ex e2 M
      have nlm : nl ≠ ml := fun z => by
        rw [z, M.2.1] at hnl
        cases hnl
      -- xs: the lists so far
      let Nd : Nat → List Addr → Hp → Prop := fun k xs H' => Mv W.length ds H' ∧ H' nl = some (.lst (xs.map V.ref)) ∧ xs.length = k + 1 ∧ ∀ (i : Nat) l, xs[i]? = some l → l ≠ nl ∧ H' l = some (.lst ((ndW g s0 W i).map V.str))
      have Nd.ex : ∀ {k xs H' H''}, Ex H' H'' → Nd k xs H' → Nd k xs H'' := fun {k xs H' H''} e h => ⟨Mv.ex e h.1, e _ _ h.2.1, h.2.2.1, fun i l hl => ⟨(h.2.2.2 i l hl).1, e _ _ (h.2.2.2 i l hl).2⟩⟩
      have apart : ∀ {k xs H' l} {ns : List Str}, Nd k xs H' → H' l = some (.lst (ns.map V.str)) → l ≠ nl := fun {k xs H' l ns} h hl z => by
        rw [z, h.2.1] at hl
        have := h.2.2.1
        cases xs with
        | nil => simp at this
        | cons a r =>
          cases ns with
          | nil => simp at hl
          | cons b t => simp at hl
      have Mv.up : ∀ {H' : Hp} {o o' : HO}, Mv W.length ds H' → H' nl = some o → (∀ xs, o ≠ .tup xs) → (∀ l, o ≠ .dK l) → H nl = none → Mv W.length ds (upd H' nl o') := fun {H' o o'} h ho t1 t2 hn => ⟨Ex.mut h.1 hn, by rw [upd_ne nlm.symm]; exact h.2.1, h.2.2.1, fun i d hd => by
        obtain ⟨l, a1, a2, a3⟩ := h.2.2.2 i d hd
        refine ⟨l, ?_, a2, fun n v hm => ?_⟩
        · rw [upd_ne (fun z => by rw [z, ho] at a1; cases a1; exact t2 _ rfl)]
          exact a1
        · obtain ⟨a, b1, b2⟩ := a3 n v hm
          exact ⟨a, b1, b2.upd ho t1⟩⟩
      have hnlH : H nl = none := fresh_back M.1 hnl
      have revL : EvL (tRevL K (tVar 4)) [some (.ref p), some (.int (rwG g s0 W).1), some (.str wd), some (.ref ra), some (.ref ml), v5, v6, some (.ref nl), none, none, none] H2 (ds.reverse.map V.ref) := fun H3 e3 Q q => ⟨_, rfl, ml, _, rfl, sq_of (e3 _ _ M2.2.1), fun l hl => q l _ hl (Ex.new hl) (by rw [upd_same, List.map_reverse])⟩
      refine q_forNL (K := K) revL (fun rl i σ' H' => ∃ (xs : List Addr) (v6 : Option V), σ' = [some (.ref p), some (.int (rwG g s0 W).1), some (.str wd), some (.ref ra), some (.ref ml), v5, v6, some (.ref nl), none, none, none] ∧ Nd i xs H' ∧ rl ≠ nl ∧ H' rl = some (.lst (ds.reverse.map V.ref))) ?_ ?_ ?_ ?_
      · intro rl H3 hrl e3 h3
        refine ⟨[l0], v6, rfl, ⟨Mv.ex e3 M2, e3 _ _ h2, rfl, fun i l hl => ?_⟩, fun z => (by rw [z, h2] at hrl; cases hrl), h3⟩
        rcases snoc_at (l := []) (x := l0) hl with ⟨q, _⟩ | ⟨q, ql⟩
        · simp at q
        · have hi : i = 0 := q
          subst hi
          rw [ql]
          refine ⟨fun z => ?_, e3 _ _ hl0⟩
          rw [z, h2] at hl0
          have hl0 := HO.lst.inj (Option.some.inj hl0)
          have : V.ref l0 ∈ g.regs.map V.str := by rw [← hl0]; exact List.mem_cons_self
          obtain ⟨x, _, q⟩ := List.mem_map.mp this
          cases q
      · rintro rl i σ' H' hi ⟨xs, v6, rfl, N, hrl, h3⟩
        exact sq_of h3
      · rintro rl i x σ' H' hxi ⟨xs, v6, rfl, N, nrl, h3⟩
        rw [List.getElem?_map] at hxi
        obtain ⟨d, hd, rfl⟩ := Option.map_eq_some_iff.mp hxi
        have hil : i < W.length := by
          have := (List.getElem?_eq_some_iff.mp hd).1
          rw [List.length_reverse] at this
          omega
        have hd' : ds[W.length - 1 - i]? = some d := by
          rw [List.getElem?_reverse (by omega)] at hd
          rw [hdl] at hd
          exact hd
        have hxl : xs[i]? = some xs[i] := List.getElem?_eq_getElem (by have := N.2.2.1; omega)
        obtain ⟨hln, hll⟩ := N.2.2.2 i _ hxl
        have nok := ndW_ok T z0 z1 hw i (by omega)
        have nok1 := ndW_ok T z0 z1 hw (i + 1) (by omega)
        have hRd := N.1.2.2.2 _ d hd'
        have n4 : (ndW g s0 W i).length ≤ 4 := Nat.le_trans (List.Nodup.length_le_of_subset nok.1 nok.2) T.r4
        have n41 : (ndW g s0 W (i + 1)).length ≤ 4 := Nat.le_trans (List.Nodup.length_le_of_subset nok1.1 nok1.2) T.r4
        have hsl := slW T z0 z1 hw (i := W.length - 1 - i) (by omega)
        have hxs : xs.map V.ref = (xs.take i).map V.ref ++ [.ref xs[i]] := by
          have := congrArg (List.map V.ref) (last_of N.2.2.1 hxl)
          rw [List.map_append] at this
          exact this
        have hat : atI (xs.map V.ref) (-1) = some (.ref xs[i]) := by
          rw [hxs]
          exact atI_last _ _
        generalize xs[i] = lx at hxl hln hll hat
        refine s_appP (Pv := fun v H' => ∃ l, v = .ref l ∧ H' l = some (.lst ((ndW g s0 W (i + 1)).map V.str))) N.2.1 (ev_var rfl) (ep_use1 (Pa := fun v H' => ∃ l, v = .ref l ∧ H' l = some (.lst ((ndW g s0 W (i + 1)).map V.str))) (ep_use (ea_cons (ev_var rfl) (ea_cons (ev_op (ev_var (v := .ref nl) rfl) (ev_un ev_c ru_neg) (rv_ixL (K := K) (sq_of N.2.1) hat)) ea_nil)) (spE_P (d, lx, g.regs, rfW g s0 W (W.length - 1 - i), ndW g s0 W i) (fun H4 e4 => ⟨rfl, hRd.ex e4, sq_of (e4 _ _ hll), nok.2, Nat.le_trans n4 (by decide), fun n hn => Nat.le_trans (T.rl _ _ hsl n hn) (by decide)⟩) fun v H4 _ p => p)) fun v H4 e4 ⟨l, q1, q2⟩ => by
          subst q1
          exact spE_P (l, ndW g s0 W (i + 1)) (fun H5 e5 => ⟨rfl, e5 _ _ q2, nok1.1, Nat.le_trans n41 (by decide)⟩) fun v H5 _ p => p) (by rw [List.length_map]; have := N.2.2.1; omega) fun v H4 e4 ⟨l, q1, q2⟩ => ?_
        subst q1
        have N4 := Nd.ex e4 N
        have hlnl := apart N4 q2
        refine ⟨xs ++ [l], some (.ref d), rfl, ⟨Mv.up N4.1 N4.2.1 (fun _ q => by cases q) (fun _ q => by cases q) hnlH, by rw [upd_same, List.map_append]; rfl, by rw [List.length_append, N4.2.2.1]; rfl, fun q l' hl' => ?_⟩, nrl, by rw [upd_ne nrl]; exact e4 _ _ h3⟩
        rcases snoc_at hl' with ⟨hl', _⟩ | ⟨hq, rfl⟩
        · obtain ⟨a1, a2⟩ := N4.2.2.2 q l' hl'
          exact ⟨a1, by rw [upd_ne a1]; exact a2⟩
        · have : q = i + 1 := by have := N4.2.2.1; omega
          subst this
          exact ⟨hlnl, by rw [upd_ne hlnl]; exact q2⟩
      · rintro rl σ' H' ⟨xs, v6, rfl, N, nrl, h3⟩
        rw [List.length_map, List.length_reverse, hdl] at N
        have hxl := N.2.2.1
        refine q_rev N.2.1 (ev_var rfl) fun H4 e4 => ?_
        have N4 := Nd.ex e4 N
        -- turned about
        let Fn : Hp → Prop := fun H' => Mv W.length ds H' ∧ H' nl = some (.lst (xs.reverse.map V.ref)) ∧ ∀ (i : Nat) l, xs.reverse[i]? = some l → l ≠ nl ∧ H' l = some (.lst ((ndW g s0 W (W.length - i)).map V.str))
        have Fn.ex : ∀ {H' H''}, Ex H' H'' → Fn H' → Fn H'' := fun {H' H''} e h => ⟨Mv.ex e h.1, e _ _ h.2.1, fun i l hl => ⟨(h.2.2 i l hl).1, e _ _ (h.2.2 i l hl).2⟩⟩
        have F4 : Fn (upd H4 nl (.lst (xs.map V.ref).reverse)) := by
          refine ⟨Mv.up N4.1 N4.2.1 (fun _ q => by cases q) (fun _ q => by cases q) hnlH, by rw [upd_same, List.map_reverse], fun i l hl => ?_⟩
          have hil : i < xs.length := by
            have := (List.getElem?_eq_some_iff.mp hl).1
            rw [List.length_reverse] at this
            exact this
          rw [List.getElem?_reverse hil] at hl
          obtain ⟨a1, a2⟩ := N4.2.2.2 _ l hl
          have e : xs.length - 1 - i = W.length - i := by omega
          rw [e] at a2
          exact ⟨a1, by rw [upd_ne a1]; exact a2⟩
        generalize upd H4 nl (.lst (xs.map V.ref).reverse) = H5 at F4 ⊢
        have hx0 : xs.reverse[0]? = some (xs.reverse.getD 0 0) := by
          rw [List.getD_eq_getElem?_getD, List.getElem?_eq_getElem (by rw [List.length_reverse]; omega)]
          rfl
        obtain ⟨q0, q1⟩ := F4.2.2 0 _ hx0
        rw [Nat.sub_zero] at q1
        have nok0 := ndW_ok T z0 z1 hw W.length (Nat.le_refl _)
        have n40 : (ndW g s0 W W.length).length ≤ 4 := Nat.le_trans (List.Nodup.length_le_of_subset nok0.1 nok0.2) T.r4
        have hr0 : (xs.reverse.map V.ref)[0]? = some (.ref (xs.reverse.getD 0 0)) := by
          rw [List.getElem?_map, hx0]
          rfl
        generalize xs.reverse.getD 0 0 = x0 at hx0 q0 q1 hr0
        refine q_new (new_dpR (R := idR) (by
          have := src_list (K := K) (σ := [some (.ref p), some (.int (rwG g s0 W).1), some (.str wd), some (.ref ra), some (.ref ml), v5, v6, some (.ref nl), none, none, none]) (tl := tOp (rIxL K) (tVar 7) (tC (.int ((0 : Nat) : Int)))) (ev_op (ev_var (v := .ref nl) rfl) (ev_c (v := .int ((0 : Nat) : Int))) (rv_ixL (K := K) (sq_of F4.2.1) (atI_nat hr0))) (sq_of q1)
          rw [List.length_map] at this
          exact this) (by omega) (fun x => rfl) (fun x => rfl) nok0.1 fun n hn' H' e => ep_id rfl) fun d o H6 hd e6 h6 ⟨l, eo, hk, hv⟩ => ?_
        subst eo
        have F6 := Fn.ex e6 F4
        have hcut : cutV (xs.reverse.map V.ref) (some ((1 : Nat) : Int)) none = (xs.reverse.drop 1).map V.ref := by
          unfold cutV
          rw [HT.sIx_nat, HT.sIx_none, List.length_map, List.length_reverse, Nat.min_eq_left (by omega), ← List.map_drop, List.take_of_length_le (by rw [List.length_map, List.length_drop, List.length_reverse]; exact Nat.le_refl _)]
        refine q_forZN (K := K) (a := ml) (xs := ds.map V.ref) (ys := (xs.reverse.drop 1).map V.ref) ?_ (sq_of F6.1.2.1) (by rw [List.length_map, List.length_map, List.length_drop, List.length_reverse]; omega)
          (fun sl i σ' H' => ∃ (d : Addr) (v6 v9 : Option V), σ' = [some (.ref p), some (.int (rwG g s0 W).1), some (.str wd), some (.ref ra), some (.ref ml), v5, v6, some (.ref nl), some (.ref d), v9, none] ∧ Fn H' ∧ H' sl = some (.lst ((xs.reverse.drop 1).map V.ref)) ∧ RowsN (ndW g s0 W (W.length - i)) (rwG g s0 (W.take i)).2 H' d) ?_ ?_ ?_ ?_
        · intro H7 e7 Q q
          refine (ev_var (v := .ref ml) rfl : Ev _ _ H6 _) H7 e7 _ fun H8 e8 => ?_
          refine el_sl (K := K) (H := H6) (a := nl) (lo := some ((1 : Nat) : Int)) (hi := none) (ev_var rfl) (eo_some ev_c) eo_none (sq_of F6.2.1) H8 (e7.trans e8) _ fun b H9 hb e9 hb9 => ?_
          rw [hcut] at hb9
          exact q b H9 (fresh_back e8 hb) (e8.trans e9) hb9
        · intro sl H7 hsl e7 h7
          refine ⟨d, v6, none, rfl, Fn.ex e7 F6, h7, RowsN.ex e7 ?_⟩
          rw [Nat.sub_zero]
          exact ⟨l, h6, hk, hv⟩
        · rintro sl i σ' H' hi ⟨d, v6, v9, rfl, F, hsl, _⟩
          exact ⟨sq_of F.1.2.1, sq_of hsl⟩
        · rintro sl i x y T2 σ' H' hx hy ⟨d, v6, v9, rfl, F, hsl, hRd⟩ hT2
          rw [List.getElem?_map] at hx hy
          obtain ⟨da, hda, rfl⟩ := Option.map_eq_some_iff.mp hx
          obtain ⟨la, hla, rfl⟩ := Option.map_eq_some_iff.mp hy
          have hil : i < W.length := by
            have := (List.getElem?_eq_some_iff.mp hda).1
            omega
          rw [List.getElem?_drop, Nat.add_comm] at hla
          have eT : Ex H' (upd H' T2 (.tup [.ref da, .ref la])) := Ex.new hT2
          refine ⟨T2, _, rfl, st_of upd_same, rfl, ⟨_, _, rfl, ⟨_, _, rfl, ⟨rfl, ?_⟩⟩⟩⟩
          have F7 := Fn.ex eT F
          have hsl7 := eT _ _ hsl
          have hRd7 := hRd.ex eT
          generalize upd H' T2 (.tup [.ref da, .ref la]) = H7 at F7 hsl7 hRd7
          obtain ⟨b1, b2⟩ := F7.2.2 (i + 1) la hla
          have hRm := F7.1.2.2.2 i da hda
          have nok1 := ndW_ok T z0 z1 hw (W.length - (i + 1)) (by omega)
          have n41 : (ndW g s0 W (W.length - (i + 1))).length ≤ 4 := Nat.le_trans (List.Nodup.length_le_of_subset nok1.1 nok1.2) T.r4
          have hsl' := slW T z0 z1 hw hil
          have li := T.li _ _ hsl'
          have hnd : ndW g s0 W (W.length - i) = regsOfs (rfW g s0 W i) (ndW g s0 W (W.length - (i + 1))) := by
            have e : W.length - i = (W.length - (i + 1)) + 1 := by omega
            rw [e]
            show regsOfs (rfW g s0 W (W.length - 1 - (W.length - (i + 1)))) _ = _
            have e2 : W.length - 1 - (W.length - (i + 1)) = i := by omega
            rw [e2]
          have tok := rwG_ok T (w := W.take i) (fun c hc => hw c (List.mem_of_mem_take hc)) z0 z1
          have t2 : tl g.regs (rwG g s0 (W.take i)).2 ≤ 1000 := by
            have h1 := tok.2.2
            have h2 : (W.take i).length ≤ 10 := by rw [List.length_take]; omega
            have h3 : B * (W.take i).length ≤ 100 * 10 := Nat.mul_le_mul T.b h2
            omega
          rw [rwG_take hil]
          show (tAsg _ _) _ _ _
          refine s_new (new_dpR (R := aft (rwG g s0 (W.take i)).2 (rfW g s0 W i)) (ns := ndW g s0 W (W.length - (i + 1))) (by
            have := src_list (K := K) (σ := [some (.ref p), some (.int (rwG g s0 W).1), some (.str wd), some (.ref ra), some (.ref ml), v5, some (.ref da), some (.ref nl), some (.ref d), some (.ref la), none]) (tl := tVar 9) (ev_var rfl) (sq_of b2)
            rw [List.length_map] at this
            exact this) (by omega) (fun x => rfl) (fun x => rfl) nok1.1 fun n hn' H8 e8 => ?_) fun d2 o H8 hd2 e8 h8 ⟨l2, eo, hk2, hv2⟩ => ?_
          · have hnr := nok1.2 n hn'
            obtain ⟨kvs, b, g1, g2, g3⟩ := (hRm.ex e8).get hnr
            have rok := flat_each li.1.1 hnr
            have tln : rowLen (rfW g s0 W i n) ≤ 100 := by
              have h1 := le_tl (R := rfW g s0 W i) hnr
              have h2 : tl g.regs (rfW g s0 W i) ≤ B := li.2
              have h3 := T.b
              omega
            have so := sub_ok (k := 100000) T.r4 tok.2.1 (nrm_rw g s0 (W.take i)) (row := rfW g s0 W i n) (T.rl _ _ hsl' n hnr) rok (fun q hq => li.1.2 n hnr q hq) (by omega)
            refine ep_use (ea_cons (ev_get (k := .inr n) (ev_var rfl) (ev_var rfl) rfl (.inl g1) g2) (ea_cons (ev_var rfl) ea_nil)) (spE_P (b, d, rfW g s0 W i n, ndW g s0 W (W.length - i), (rwG g s0 (W.take i)).2) (fun H9 e9 => ⟨rfl, g3.le (Le.ex e9), hRd7.ex (e8.trans e9), fun q hq => ?_, so.1, so.2⟩) fun v H9 _ p => p)
            rw [hnd]
            exact List.mem_flatMap.mpr ⟨n, hn', hq⟩
          · subst eo
            exact ⟨d2, some (.ref da), some (.ref la), rfl, Fn.ex e8 F7, e8 _ _ hsl7, l2, h8, hk2, hv2⟩
        · rintro sl σ' H' ⟨d, v6, v9, rfl, F, hsl, hRd⟩
          rw [List.length_map, hdl, Nat.sub_self, List.take_length] at hRd
          refine s_retU (xs := [.int (rwG g s0 W).1, .ref d]) (eu_tup (ea_cons (ev_var rfl) (ea_cons (ev_var rfl) ea_nil)) (by show 2 ≤ 100000; decide)) fun b H7 hb e7 h7 => k _ H7 (F.1.1.trans e7) ⟨b, d, rfl, h7, hRd.ex e7⟩
end
end KX
end
section
set_option Elab.async false
set_option linter.all false
set_option maxRecDepth 100000
set_option maxHeartbeats 8000000
/-! Py4: rounds of a word. -/
namespace KX
open PySem PySem.Spec PyProof.Rows L2 Evl

/-! ### a field as a target -/
def gFld (K : PySem.W.Frag) (to : TE) (f : Str) : TG := fun v σ H Q => to σ H fun x H1 => ∃ a C dx fs, x = .ref a ∧ H1 a = some (.ins C dx fs) ∧ Cls K C ∧ NoAttr K C f ∧ fs.length < 1000 ∧ Q σ (upd H1 a (.ins C dx (putF f v fs)))
theorem pg_fld {X : Cx} {K : PySem.W.Frag} {o : Expr} {to : TE} {f : Str} {pos : Pos} (ho : PE X o to) (hK : X.K = K := by rfl) : PG X (.Attribute o f pos) (gFld K to f) := by
  subst hK
  refine ⟨fun pins s σ H v u Q I r h => ?_⟩
  rw [assign_Attribute]
  refine wpAny_bind (wpAny_holding (thn (ho.run pins s σ H _ I h) fun ov s1 ⟨x, H1, I1, r1, a, C, dx, fs, ex, ea, c, n, l, q⟩ => ?_))
  subst ex
  obtain rfl : ov = Value.ref a := r1
  refine wpAny_bind (wpAny_standAt (wpAny_bind (wpAny_holding (setattr_ok I1 ea c n l r fun s2 I2 => ?_))))
  exact wpAny_release ⟨σ, _, I2, q⟩

/-- d[y] = v -/
theorem q_dput {σ : L2.St} {H : Hp} {D : Ends} {tz : TS} {td ty tv : TE} {d : Addr} {kvs : List (Key × V)} {y v : V} {k : Key} (hd : H d = some (.dK kvs)) (hv : Ev tv σ H v) (ho : Ev td σ H (.ref d)) (hy : Ev ty σ H y) (ey : y = kV k) (hz : kvs.length < 100000) (kk : ∀ H1, Ex H H1 → tz D σ (upd H1 d (.dK (putK kvs k v)))) : tSeq (sDPut td ty tv) tz D σ H :=
  hv H (Ex.refl H) _ fun H1 e1 => ho H1 e1 _ fun H2 e2 => hy H2 (e1.trans e2) _ fun H3 e3 => by
    have e := (e1.trans e2).trans e3
    subst ey
    exact ⟨d, _, rfl, DPut.k (e _ _ hd) (sz_lt hz), kk H3 e⟩
/-! ### states behind a word again and again -/
def stR (g : Pg) (w : List Nat) (s : Int) : Nat → Int
  | 0 => s
  | i + 1 => nx g w (stR g w s i)
theorem stR_in {g : Pg} {B : Nat} (T : Thin g B) {w : List Nat} (hw : ∀ c ∈ w, c ∈ cds g.L) {s : Int} (h0 : 0 ≤ s) (h1 : s < g.n) : ∀ n, 0 ≤ stR g w s n ∧ stR g w s n < g.n
  | 0 => ⟨h0, h1⟩
  | n + 1 => (rwG_ok T hw (stR_in T hw h0 h1 n).1 (stR_in T hw h0 h1 n).2).1
/-- the states that were met, each with its number -/
def metL (g : Pg) (w : List Nat) (s : Int) (k : Nat) : List (Key × V) := (List.range k).map fun i => (Sum.inl (stR g w s i), V.int (i : Int))
theorem metL_in {g : Pg} {w : List Nat} {s q : Int} {k : Nat} {v : V} (h : valV (metL g w s k) (.inl q) = some v) : ∃ i, i < k ∧ stR g w s i = q ∧ v = .int (i : Int) := by
  obtain ⟨i, hi, e⟩ := List.mem_map.mp (valV_mem h)
  cases e
  exact ⟨i, List.mem_range.mp hi, rfl, rfl⟩
theorem metL_key {g : Pg} {w : List Nat} {s q : Int} {k i : Nat} (hi : i < k) (e : stR g w s i = q) : valV (metL g w s k) (.inl q) ≠ none := by
  obtain ⟨v, hv, _⟩ := valV_key (kvs := metL g w s k) (k := .inl q) (List.mem_map.mpr ⟨(.inl q, .int (i : Int)), List.mem_map.mpr ⟨i, List.mem_range.mpr hi, by rw [e]⟩, rfl⟩)
  rw [hv]
  exact fun z => by cases z
theorem metL_len (g : Pg) (w : List Nat) (s : Int) (k : Nat) : (metL g w s k).length = k := by
  unfold metL
  rw [List.length_map, List.length_range]
/-- all unlike: so many states at most -/
theorem met_few {g : Pg} {B : Nat} (T : Thin g B) {w : List Nat} (hw : ∀ c ∈ w, c ∈ cds g.L) {s : Int} (h0 : 0 ≤ s) (h1 : s < g.n) {k : Nat} (hd : ∀ i j, i < j → j < k → stR g w s i ≠ stR g w s j) : k ≤ g.n.toNat := by
  have hn : ((List.range k).map (stR g w s)).Nodup := by
    rw [List.nodup_iff_pairwise_ne]
    refine List.pairwise_map.mpr ?_
    refine List.Pairwise.imp_of_mem ?_ (List.pairwise_lt_range (n := k))
    intro a b ha hb hab
    exact hd a b hab (List.mem_range.mp hb)
  have hs : ∀ x ∈ (List.range k).map (stR g w s), x ∈ (List.range g.n.toNat).map (fun i : Nat => (i : Int)) := fun x hx => by
    obtain ⟨i, _, rfl⟩ := List.mem_map.mp hx
    have := stR_in T hw h0 h1 i
    exact List.mem_map.mpr ⟨(stR g w s i).toNat, List.mem_range.mpr (by omega), by omega⟩
  have := List.Nodup.length_le_of_subset hn hs
  simpa using this
/-- how often, from where on -/
structure RdM (g : Pg) (w : List Nat) (s : Int) (many N start turns rest : Nat) : Prop where
  n : start ≤ N
  m : many = start + (N - start) * turns + rest
  r : rest ≤ N - start
  z : start < N → stR g w s N = stR g w s start
  e : start = N → turns = 0
  few : N ≤ g.n.toNat
def rdN : List Str := ["states", "moves", "start", "turns", "rest"]
structure RdF (fs : List (Str × V)) (sl ml : Addr) (start turns rest : Nat) : Prop where
  s : fs.lookup ("states" : Str) = some (.ref sl)
  m : fs.lookup ("moves" : Str) = some (.ref ml)
  b : fs.lookup ("start" : Str) = some (.int (start : Int))
  t : fs.lookup ("turns" : Str) = some (.int (turns : Int))
  r : fs.lookup ("rest" : Str) = some (.int (rest : Int))
  o : OnlyF rdN fs
/-- rounds on the heap -/
def RdAt (CR : Addr) (H : Hp) (x : Addr) (g : Pg) (w : List Nat) (s : Int) (N start turns rest : Nat) : Prop := ∃ (dx : Addr) (fs : List (Str × V)) (sl ml : Addr) (ds : List Addr), H x = some (.ins CR dx fs) ∧ RdF fs sl ml start turns rest ∧ H sl = some (.lst ((List.range (N + 1)).map fun i => V.int (stR g w s i))) ∧
  H ml = some (.lst (ds.map V.ref)) ∧ ds.length = N ∧ ∀ (i : Nat) d, ds[i]? = some d → RowsN g.regs (ro g w (stR g w s i)) H d
theorem RdAt.ex {CR x : Addr} {H H' : Hp} {g : Pg} {w : List Nat} {s : Int} {N start turns rest : Nat} (e : Ex H H') (h : RdAt CR H x g w s N start turns rest) : RdAt CR H' x g w s N start turns rest := by
  obtain ⟨dx, fs, sl, ml, ds, h1, h2, h3, h4, h5, h6⟩ := h
  exact ⟨dx, fs, sl, ml, ds, e _ _ h1, h2, e _ _ h3, e _ _ h4, h5, fun i d hd => (h6 i d hd).ex e⟩
structure RdC (K : PySem.W.Frag) (CR : Addr) : Prop where
  cl : Cls K CR
  s : NoAttr K CR "states"
  m : NoAttr K CR "moves"
  b : NoAttr K CR "start"
  t : NoAttr K CR "turns"
  r : NoAttr K CR "rest"
def sp_Rounds_init (CR C : Addr) : Sp := fun vs H Q _ => ∃ (x p dx : Addr) (wd : Str) (s : Int) (many : Nat) (g : Pg) (B : Nat) (H0 : Hp), vs = [.ref x, .ref p, .str wd, .int s, .int (many : Int)] ∧ H x = some (.ins CR dx []) ∧ H0 x = none ∧ Ex H0 H ∧ PgAt C H0 p g ∧ Thin g B ∧ g.n ≤ 300 ∧ 0 ≤ s ∧ s < g.n ∧ (∀ c ∈ cds wd, c ∈ cds g.L) ∧ (cds wd).length ≤ 10 ∧ many ≤ 1000000000000 ∧
  ∀ H' N start turns rest, Ex H0 H' → RdAt CR H' x g (cds wd) s N start turns rest → RdM g (cds wd) s many N start turns rest → Q .non H'
section
variable {P : Program} {w : World} {K : PySem.W.Frag} {mg : Str → Option Value} {base : Heap} {C CR : Addr} {f : Addr} {fd : FuncData}
theorem ok_Rounds_init (F : Fun K "__init__" "Rounds.__init__" s_Rounds__init f fd) (Z : Zs mg C) (PC : PgC K C) (RC : RdC K CR) (G_behind_word : Has P w K mg base "behind_word" 4 ["program", "state", "word", "names"] (sp_behind_word C)) :
    FnOk P w K mg base CX0 5 f fd ["self", "program", "word", "state", "many"] (sp_Rounds_init CR C) := by
  refine F.ok sc_Rounds__init (fun vs H Q E h => ?_) (fun cdv A outer s H vs Q E hr h => ?_)
  · obtain ⟨x, p, dx, wd, s, many, g, B, H0, rfl, _⟩ := h
    rfl
  · obtain ⟨x, p, dx, wd, s0, many, g, B, H0, rfl, hx, hx0, e0, hPA, T, n300, z0, z1, hw, h10, hmany, k⟩ := h
    have hu := hu_of hr
    obtain ⟨dp, fp, ra, fa, sa, ea, hp, PF, PD⟩ := id hPA
    refine ⟨_, (pss_cons (ps_fld (pv 0) (pe_lst (pa_cons (pv 3) pa_nil)) rfl) 
    (pss_cons (ps_fld (pv 0) (pe_lst pa_nil) rfl) 
    (pss_cons (ps_set (i := 5) sc_Rounds__init.nd rfl (Or.inl rfl) pe_dnewK) 
    (pss_cons (ps_while PassesOwn.never (PW.pt (pw_and (pt_cmpR op_lt (pe_callB (cLenS (K := K)) (by rfl) Z.z_len PySem.boot_len (pa_cons (pe_fldK (K := K) (pv 0) rfl) pa_nil)) (pv 4) (nomark _)) (pw_and1 (pt_cmp (pc_dnotin hu (pe_ix (ixL (K := K)) (pe_fldK (K := K) (pv 0) rfl) (pe_un un_neg pe_int) (fun _ _ => rfl)) (pv 5)))))) 
     (pss_cons (ps_dput hu (pv 5) (pe_ix (ixL (K := K)) (pe_fldK (K := K) (pv 0) rfl) (pe_un un_neg pe_int) (fun _ _ => rfl)) (pe_callB (cLenS (K := K)) (by rfl) Z.z_len PySem.boot_len (pa_cons (pe_fldK (K := K) (pv 0) rfl) pa_nil)) rfl) 
     (pss_cons (ps_asg (pe_use G_behind_word (hr.mono (by decide)) (pa_cons (pv 1) (pa_cons (pe_ix (ixL (K := K)) (pe_fldK (K := K) (pv 0) rfl) (pe_un un_neg pe_int) (fun _ _ => rfl)) (pa_cons (pv 2) (pa_cons (pe_fldK (K := K) (pv 1) rfl) pa_nil))))) (pg_tup rfl (pgs_cons (pg_name (i := 6) sc_Rounds__init.nd rfl (Or.inl rfl)) (pgs_cons (pg_name (i := 7) sc_Rounds__init.nd rfl (Or.inl rfl)) pgs_nil)))) 
     (pss_cons (ps_expr (pe_bm PySem.F.plainAttrs_list PySem.F.slot_list_append PySem.F.type_list_append mt_append (pe_fldK (K := K) (pv 0) rfl) (pa_cons (pv 6) pa_nil))) 
     (pss_one (ps_expr (pe_bm PySem.F.plainAttrs_list PySem.F.slot_list_append PySem.F.type_list_append mt_append (pe_fldK (K := K) (pv 0) rfl) (pa_cons (pv 7) pa_nil)))))))) 
    (pss_cons (ps_fld (pv 0) (pe_dget2 hu (pv 5) (pe_ix (ixL (K := K)) (pe_fldK (K := K) (pv 0) rfl) (pe_un un_neg pe_int) (fun _ _ => rfl)) (pe_callB (cLenS (K := K)) (by rfl) Z.z_len PySem.boot_len (pa_cons (pe_fldK (K := K) (pv 0) rfl) pa_nil)) m2) rfl) 
    (pss_cons (ps_set (i := 8) sc_Rounds__init.nd rfl (Or.inl rfl) (pe_op op_sub (pe_callB (cLenS (K := K)) (by rfl) Z.z_len PySem.boot_len (pa_cons (pe_fldK (K := K) (pv 0) rfl) pa_nil)) (pe_fldK (K := K) (pv 0) rfl))) 
    (pss_one (ps_asg (pe_ifExp (pt_cmpR op_gt (pv 8) pe_int (nomark _)) (pe_callB call_divmodW (by rfl) Z.z_divmod (by decide +kernel) (pa_cons (pe_op op_sub (pv 4) (pe_fldK (K := K) (pv 0) rfl)) (pa_cons (pv 8) pa_nil))) (pe_tup (pa_cons pe_int (pa_cons pe_int pa_nil)))) (pg_tup rfl (pgs_cons (pg_fld (K := K) (pv 0)) (pgs_cons (pg_fld (K := K) (pv 0)) pgs_nil))))))))))), ?_⟩
    generalize hw0 : cds wd = W at hw h10 k
    have hne : ∀ {a : Addr} {o : HO} {H1 : Hp}, Ex H0 H1 → H0 a = some o → a ≠ x := fun {a o H1} _ h z => by
      rw [z, hx0] at h
      cases h
    refine q_fldN (K := K) (New.ofL (el_lst (vs := [.int s0]) (ea_cons (ev_var rfl) ea_nil) (by show 1 ≤ 100000; decide))) (ev_var rfl) hx RC.cl RC.s (by decide) (fun _ _ _ _ h => h) fun sl o H1 hsl e1 h1 n1 => ?_
    subst n1
    have hx1 := e1 _ _ hx
    have slx : sl ≠ x := fun z => by rw [z, hx] at hsl; cases hsl
    have hsl0 : H0 sl = none := fresh_back e0 hsl
    have E1 : Ex H0 (upd H1 x (.ins CR dx (putF "states" (.ref sl) []))) := Ex.mut (e0.trans e1) hx0
    have g1 : (upd H1 x (.ins CR dx (putF "states" (.ref sl) []))) sl = some (.lst [.int s0]) := by rw [upd_ne slx]; exact h1
    refine q_fldN (K := K) (New.ofL (el_lst (vs := []) ea_nil (Nat.zero_le _))) (ev_var rfl) upd_same RC.cl RC.m (by have := putF_len "states" (.ref sl) []; exact Nat.le_trans this (by decide)) (fun _ _ _ _ h => h) fun ml o H2 hml e2 h2 n2 => ?_
    subst n2
    have mlx : ml ≠ x := fun z => by rw [z, upd_same] at hml; cases hml
    have mlsl : ml ≠ sl := fun z => by rw [z, g1] at hml; cases hml
    have hml0 : H0 ml = none := fresh_back E1 hml
    let fs1 := putF "moves" (.ref ml) (putF "states" (.ref sl) [])
    have f1len : fs1.length ≤ 2 := by
      have a := putF_len "states" (.ref sl) []
      have b := putF_len "moves" (.ref ml) (putF "states" (.ref sl) [])
      show (putF "moves" (.ref ml) (putF "states" (.ref sl) [])).length ≤ 2
      have c : ([] : List (Str × V)).length = 0 := rfl
      omega
    have f1s : fs1.lookup ("states" : Str) = some (.ref sl) := by
      show (putF "moves" (.ref ml) (putF "states" (.ref sl) [])).lookup _ = _
      rw [lookup_putF, if_neg (by decide +kernel), lookup_putF, if_pos rfl]
    have f1m : fs1.lookup ("moves" : Str) = some (.ref ml) := by
      show (putF "moves" (.ref ml) (putF "states" (.ref sl) [])).lookup _ = _
      rw [lookup_putF, if_pos rfl]
    have E2 : Ex H0 (upd H2 x (.ins CR dx fs1)) := Ex.mut (E1.trans e2) hx0
    have g2 : (upd H2 x (.ins CR dx fs1)) sl = some (.lst [.int s0]) := by rw [upd_ne slx]; exact e2 _ _ g1
    have g3 : (upd H2 x (.ins CR dx fs1)) ml = some (.lst []) := by rw [upd_ne mlx]; exact h2
    have g4 : (upd H2 x (.ins CR dx fs1)) x = some (.ins CR dx fs1) := upd_same
    show (tSeq _ _) _ _ _
    generalize upd H2 x (.ins CR dx fs1) = H3 at E2 g2 g3 g4 ⊢
    refine q_new (N := fun o _ => o = .dK []) (fun H4 e4 Q q d hd => q d _ _ hd (Ex.new hd) upd_same rfl) fun md o H4 hmd e4 h4 n4 => ?_
    subst n4
    have mdx : md ≠ x := fun z => by rw [z, g4] at hmd; cases hmd
    have mdsl : md ≠ sl := fun z => by rw [z, g2] at hmd; cases hmd
    have mdml : md ≠ ml := fun z => by rw [z, g3] at hmd; cases hmd
    have hmd0 : H0 md = none := fresh_back E2 hmd
    -- the loop
    let Lp : Nat → List Addr → Hp → Prop := fun j ds H' => Ex H0 H' ∧ H' x = some (.ins CR dx fs1) ∧ H' sl = some (.lst ((List.range (j + 1)).map fun i => V.int (stR g W s0 i))) ∧ H' ml = some (.lst (ds.map V.ref)) ∧ ds.length = j ∧ (∀ (i : Nat) d, ds[i]? = some d → d ≠ md ∧ RowsN g.regs (ro g W (stR g W s0 i)) H' d) ∧ H' md = some (.dK (metL g W s0 j)) ∧ ∀ a b, a < b → b < j → stR g W s0 a ≠ stR g W s0 b
    have Lp.ex : ∀ {j ds H' H''}, Ex H' H'' → Lp j ds H' → Lp j ds H'' := fun {j ds H' H''} e h => ⟨h.1.trans e, e _ _ h.2.1, e _ _ h.2.2.1, e _ _ h.2.2.2.1, h.2.2.2.2.1, fun i d hd => ⟨(h.2.2.2.2.2.1 i d hd).1, (h.2.2.2.2.2.1 i d hd).2.ex e⟩, e _ _ h.2.2.2.2.2.2.1, h.2.2.2.2.2.2.2⟩
    have lastSt : ∀ j, atI ((List.range (j + 1)).map fun i => V.int (stR g W s0 i)) (-1) = some (.int (stR g W s0 j)) := fun j => by
      rw [List.range_succ, List.map_append]
      exact atI_last _ _
    have L0 : Lp 0 [] H4 := ⟨E2.trans e4, e4 _ _ g4, e4 _ _ g2, e4 _ _ g3, rfl, fun i d hd => by simp at hd, h4, fun a b _ hb => absurd hb (Nat.not_lt_zero _)⟩
    refine q_while (fun m σ' H' => ∃ (j : Nat) (ds : List Addr) (v6 v7 : Option V), σ' = [some (.ref x), some (.ref p), some (.str wd), some (.int s0), some (.int (many : Int)), some (.ref md), v6, v7, none] ∧ Lp j ds H' ∧ j ≤ many ∧ m + j = g.n.toNat + 1) (g.n.toNat + 1) ⟨0, [], none, none, rfl, L0, Nat.zero_le _, rfl⟩ ?_
    rintro m σ' H' ⟨j, ds, v6, v7, rfl, L, hjm, hm⟩
    have few := met_few T hw z0 z1 L.2.2.2.2.2.2.2
    have hlm : ∀ {H'}, Lp j ds H' → (ds.map V.ref).length = j := fun {H'} L => by rw [List.length_map]; exact L.2.2.2.2.1
    refine ⟨_, et_and (a := decide (((ds.map V.ref).length : Int) < (many : Int))) (et_test (ev_op (ev_len (ev_fld (K := K) (ev_var rfl) L.2.1 RC.cl RC.m f1m) (sq_of L.2.2.2.1)) (ev_var rfl) rv_I0)) (fun _ => et_B (ev_ni (k := .inl (stR g W s0 j)) (ev_op (ev_fld (K := K) (ev_var rfl) L.2.1 RC.cl RC.s f1s) (ev_un ev_c ru_neg) (rv_ixL (K := K) (sq_of L.2.2.1) (lastSt j))) rfl (ev_var rfl) (.inl L.2.2.2.2.2.2.1))), fun hb H5 e5 => ?_, fun hb H5 e5 => ?_⟩
    · have L5 := Lp.ex e5 L
      rw [hlm L, Bool.and_eq_true] at hb
      have hjl : j < many := by have := of_decide_eq_true hb.1; omega
      have hnone : valV (metL g W s0 j) (.inl (stR g W s0 j)) = none := by
        have := hb.2
        cases hv : valV (metL g W s0 j) (.inl (stR g W s0 j)) with
        | none => rfl
        | some v => rw [hv] at this; cases this
      have hd1 : ∀ a b, a < b → b < j + 1 → stR g W s0 a ≠ stR g W s0 b := fun a b hab hb' q => by
        by_cases e : b < j
        · exact L.2.2.2.2.2.2.2 a b hab e q
        · have : b = j := by omega
          subst this
          exact metL_key hab q hnone
      have few1 := met_few T hw z0 z1 hd1
      have hin := stR_in T hw z0 z1 j
      refine ⟨fun σ2 H2 => ∃ (ds : List Addr) (v6 v7 : Option V), σ2 = [some (.ref x), some (.ref p), some (.str wd), some (.int s0), some (.int (many : Int)), some (.ref md), v6, v7, none] ∧ Lp (j + 1) ds H2, fun σ2 H2 ⟨ds, v6, v7, a1, a2⟩ => ⟨m - 1, by omega, j + 1, ds, v6, v7, a1, a2, by omega, by omega⟩, ?_⟩
      have n60 : (metL g W s0 j).length < 100000 := by rw [metL_len]; omega
      show (tSeq _ _) _ _ _
      refine q_dput (k := .inl (stR g W s0 j)) (v := .int (j : Int)) L5.2.2.2.2.2.2.1 (ev_is (ev_len (ev_fld (K := K) (ev_var rfl) L5.2.1 RC.cl RC.m f1m) (sq_of L5.2.2.2.1)) (by rw [hlm L5])) (ev_var rfl) (ev_op (ev_fld (K := K) (ev_var rfl) L5.2.1 RC.cl RC.s f1s) (ev_un ev_c ru_neg) (rv_ixL (K := K) (sq_of L5.2.2.1) (lastSt j))) rfl n60 fun H6 e6 => ?_
      have eput : putK (metL g W s0 j) (.inl (stR g W s0 j)) (.int (j : Int)) = metL g W s0 (j + 1) := by
        rw [putK_new _ hnone]
        unfold metL
        rw [List.range_succ, List.map_append]
        rfl
      rw [eput]
      have L6 := Lp.ex e6 L5
      -- all but the dict of what was met
      have E7 : Ex H0 (upd H6 md (.dK (metL g W s0 (j + 1)))) := Ex.mut L6.1 hmd0
      have a1 : (upd H6 md (.dK (metL g W s0 (j + 1)))) x = some (.ins CR dx fs1) := by rw [upd_ne mdx.symm]; exact L6.2.1
      have a2 : (upd H6 md (.dK (metL g W s0 (j + 1)))) sl = some (.lst ((List.range (j + 1)).map fun i => V.int (stR g W s0 i))) := by rw [upd_ne mdsl.symm]; exact L6.2.2.1
      have a3 : (upd H6 md (.dK (metL g W s0 (j + 1)))) ml = some (.lst (ds.map V.ref)) := by rw [upd_ne mdml.symm]; exact L6.2.2.2.1
      have rowsUp : ∀ {R : Str → List Itm} {d a : Addr} {H' : Hp} {o o' : HO}, H' a = some o → (∀ xs, o ≠ .tup xs) → d ≠ a → RowsN g.regs R H' d → RowsN g.regs R (upd H' a o') d := fun {R d a H' o o'} ho t1 hda h => by
        obtain ⟨l, b1, b2, b3⟩ := h
        refine ⟨l, by rw [upd_ne hda]; exact b1, b2, fun n v hm => ?_⟩
        obtain ⟨c, c1, c2⟩ := b3 n v hm
        exact ⟨c, c1, c2.upd ho t1⟩
      have a4 : ∀ (i : Nat) d, ds[i]? = some d → d ≠ md ∧ RowsN g.regs (ro g W (stR g W s0 i)) (upd H6 md (.dK (metL g W s0 (j + 1)))) d := fun i d hd => ⟨(L6.2.2.2.2.2.1 i d hd).1, rowsUp L6.2.2.2.2.2.2.1 (fun xs q => by cases q) (L6.2.2.2.2.2.1 i d hd).1 (L6.2.2.2.2.2.1 i d hd).2⟩
      have a5 : (upd H6 md (.dK (metL g W s0 (j + 1)))) md = some (.dK (metL g W s0 (j + 1))) := upd_same
      have dl := L6.2.2.2.2.1
      show (tSeq _ _) _ _ _
      generalize upd H6 md (.dK (metL g W s0 (j + 1))) = H7 at E7 a1 a2 a3 a4 a5 ⊢
      refine q_unpackP (K := K) (Pz := fun y z H' => y = .int (nx g W (stR g W s0 j)) ∧ ∃ d, z = .ref d ∧ RowsN g.regs (ro g W (stR g W s0 j)) H' d)
        (ep_use (ea_cons (ev_var rfl) (ea_cons (ev_op (ev_fld (K := K) (ev_var rfl) a1 RC.cl RC.s f1s) (ev_un ev_c ru_neg) (rv_ixL (K := K) (sq_of a2) (lastSt j))) (ea_cons (ev_var rfl) (ea_cons (ev_fld (K := K) (ev_var rfl) (E7 _ _ hp) PC.cl PC.r PF.r) ea_nil)))) (spE_P (p, stR g W s0 j, wd, ra, g, B) (fun H8 e8 => ⟨rfl, hPA.ex (E7.trans e8), T, hin.1, hin.2, by show ∀ c ∈ cds wd, _; rw [hw0]; exact hw, by show (cds wd).length ≤ 10; rw [hw0]; exact h10, e8 _ _ (E7 _ _ PD.rS)⟩) fun v H8 _ ⟨b, d, q1, q2, q3⟩ => by
          rw [show cds wd = W from hw0] at q2 q3
          exact ⟨b, _, _, q1, q2, rfl, d, rfl, q3⟩)) ?_
      rintro y z H8 e8 ⟨rfl, d, rfl, hR⟩
      have b1 := e8 _ _ a1
      have b2 := e8 _ _ a2
      have b3 := e8 _ _ a3
      have b5 := e8 _ _ a5
      have hdmd : d ≠ md := fun z => by
        obtain ⟨l, c1, c2, _⟩ := hR
        rw [z, b5] at c1
        cases c1
        have := congrArg List.length c2
        rw [List.length_map, List.length_map, metL_len] at this
        have hh := congrArg (fun l : List Key => l[0]?) c2
        have e1 : (g.regs.map (Sum.inr : Str → Key))[0]? = some (.inr (g.regs.getD 0 "")) := by
          rw [List.getElem?_map, List.getD_eq_getElem?_getD, List.getElem?_eq_getElem (by omega)]
          rfl
        simp only [e1] at hh
        obtain ⟨q, hq, e⟩ := List.mem_map.mp (List.mem_of_getElem? hh)
        obtain ⟨r, _, e2⟩ := List.mem_map.mp hq
        rw [← e2] at e
        cases e
      have hmap : (List.range (j + 1 + 1)).map (fun i => V.int (stR g W s0 i)) = (List.range (j + 1)).map (fun i => V.int (stR g W s0 i)) ++ [.int (nx g W (stR g W s0 j))] := by
        rw [List.range_succ, List.map_append]
        rfl
      refine q_app b2 (ev_fld (K := K) (ev_var rfl) b1 RC.cl RC.s f1s) (ev_var rfl) (by rw [List.length_map, List.length_range]; omega) fun H9 e9 => ?_
      rw [← hmap]
      have E9 : Ex H0 (upd H9 sl (.lst ((List.range (j + 1 + 1)).map fun i => V.int (stR g W s0 i)))) := Ex.mut ((E7.trans e8).trans e9) hsl0
      have c1 : (upd H9 sl (.lst ((List.range (j + 1 + 1)).map fun i => V.int (stR g W s0 i)))) x = some (.ins CR dx fs1) := by rw [upd_ne slx.symm]; exact e9 _ _ b1
      have c2 : (upd H9 sl (.lst ((List.range (j + 1 + 1)).map fun i => V.int (stR g W s0 i)))) sl = some (.lst ((List.range (j + 1 + 1)).map fun i => V.int (stR g W s0 i))) := upd_same
      have c3 : (upd H9 sl (.lst ((List.range (j + 1 + 1)).map fun i => V.int (stR g W s0 i)))) ml = some (.lst (ds.map V.ref)) := by rw [upd_ne mlsl]; exact e9 _ _ b3
      have c5 : (upd H9 sl (.lst ((List.range (j + 1 + 1)).map fun i => V.int (stR g W s0 i)))) md = some (.dK (metL g W s0 (j + 1))) := by rw [upd_ne mdsl]; exact e9 _ _ b5
      have notL : ∀ {R : Str → List Itm} {d a : Addr} {H' : Hp} {xs : List V}, H' a = some (.lst xs) → RowsN g.regs R H' d → d ≠ a := fun {R d a H' xs} ha ⟨l, c1, _⟩ z => by
        rw [z, ha] at c1
        cases c1
      have c4 : ∀ (i : Nat) d', (ds ++ [d])[i]? = some d' → d' ≠ md ∧ RowsN g.regs (ro g W (stR g W s0 i)) (upd H9 sl (.lst ((List.range (j + 1 + 1)).map fun i => V.int (stR g W s0 i)))) d' := fun i d' hd => by
        have base : d' ≠ md ∧ RowsN g.regs (ro g W (stR g W s0 i)) H9 d' := by
          rcases snoc_at hd with ⟨hd, _⟩ | ⟨hi, rfl⟩
          · exact ⟨(a4 i d' hd).1, (a4 i d' hd).2.ex (e8.trans e9)⟩
          · rw [hi, dl]
            exact ⟨hdmd, hR.ex e9⟩
        exact ⟨base.1, rowsUp (e9 _ _ b2) (fun xs q => by cases q) (notL (e9 _ _ b2) base.2) base.2⟩
      show (tDrop _) _ _ _
      generalize upd H9 sl (.lst ((List.range (j + 1 + 1)).map fun i => V.int (stR g W s0 i))) = H10 at E9 c1 c2 c3 c4 c5 ⊢
      refine s_app c3 (ev_fld (K := K) (ev_var rfl) c1 RC.cl RC.m f1m) (ev_var rfl) (by rw [List.length_map, dl]; omega) fun H11 e11 => ?_
      refine ⟨ds ++ [d], _, _, rfl, Ex.mut (E9.trans e11) hml0, by rw [upd_ne mlx.symm]; exact e11 _ _ c1, by rw [upd_ne mlsl.symm]; exact e11 _ _ c2, by rw [upd_same, List.map_append]; rfl, by rw [List.length_append, dl]; rfl, fun i d' hd => ?_, by rw [upd_ne mdml]; exact e11 _ _ c5, hd1⟩
      have base := c4 i d' hd
      exact ⟨base.1, rowsUp (e11 _ _ c3) (fun xs q => by cases q) (notL (e11 _ _ c3) (base.2.ex e11)) (base.2.ex e11)⟩
    · have L5 := Lp.ex e5 L
      rw [hlm L] at hb
      -- where it was met
      have hst : ∃ start : Nat, start ≤ j ∧ (valV (metL g W s0 j) (.inl (stR g W s0 j))).getD (.int (j : Int)) = .int (start : Int) ∧ (start < j → stR g W s0 j = stR g W s0 start) ∧ (start = j → j = many) := by
        cases hv : valV (metL g W s0 j) (.inl (stR g W s0 j)) with
        | none =>
          refine ⟨j, Nat.le_refl _, rfl, fun z => absurd z (Nat.lt_irrefl _), fun _ => ?_⟩
          rw [hv] at hb
          have : ¬ ((j : Int) < (many : Int)) := fun z => by
            rw [decide_eq_true z] at hb
            cases hb
          omega
        | some v =>
          obtain ⟨i, hi, e, rfl⟩ := metL_in hv
          exact ⟨i, by omega, rfl, fun _ => e.symm, fun z => by omega⟩
      obtain ⟨start, s1, s2, s3, s4⟩ := hst
      have j300 : j ≤ 300 := by omega
      show (tSeq _ _) _ _ _
      refine q_fld (K := K) (v := .int (start : Int)) (ev_is (ev_get2 (k := .inl (stR g W s0 j)) (ev_var rfl) (ev_op (ev_fld (K := K) (ev_var rfl) L5.2.1 RC.cl RC.s f1s) (ev_un ev_c ru_neg) (rv_ixL (K := K) (sq_of L5.2.2.1) (lastSt j))) rfl (ev_len (ev_fld (K := K) (ev_var rfl) L5.2.1 RC.cl RC.m f1m) (sq_of L5.2.2.2.1)) L5.2.2.2.2.2.2.1) (by rw [hlm L5]; exact s2)) (ev_var rfl) L5.2.1 RC.cl RC.b (by omega) fun H6 e6 => ?_
      have L6 := Lp.ex e6 L5
      let fs2 := putF "start" (.int (start : Int)) fs1
      have f2len : fs2.length ≤ 3 := by
        have := putF_len "start" (.int (start : Int)) fs1
        show (putF "start" (.int (start : Int)) fs1).length ≤ 3
        omega
      have look2 : ∀ n : Str, n ≠ "start" → fs2.lookup n = fs1.lookup n := fun n hn => by
        show (putF "start" _ fs1).lookup n = _
        rw [lookup_putF, if_neg hn]
      have E7 : Ex H0 (upd H6 x (.ins CR dx fs2)) := Ex.mut L6.1 hx0
      have a1 : (upd H6 x (.ins CR dx fs2)) x = some (.ins CR dx fs2) := upd_same
      have a2 : (upd H6 x (.ins CR dx fs2)) sl = some (.lst ((List.range (j + 1)).map fun i => V.int (stR g W s0 i))) := by rw [upd_ne slx]; exact L6.2.2.1
      have a3 : (upd H6 x (.ins CR dx fs2)) ml = some (.lst (ds.map V.ref)) := by rw [upd_ne mlx]; exact L6.2.2.2.1
      have rowsX : ∀ {R : Str → List Itm} {d : Addr} {H' : Hp} {fa fb : List (Str × V)}, H' x = some (.ins CR dx fa) → RowsN g.regs R H' d → RowsN g.regs R (upd H' x (.ins CR dx fb)) d := fun {R d H' fa fb} ho h => by
        obtain ⟨l, b1, b2, b3⟩ := h
        refine ⟨l, by rw [upd_ne (fun z => by rw [z, ho] at b1; cases b1)]; exact b1, b2, fun n v hm => ?_⟩
        obtain ⟨c, c1, c2⟩ := b3 n v hm
        exact ⟨c, c1, c2.upd ho (fun xs q => by cases q)⟩
      have a4 : ∀ (i : Nat) d, ds[i]? = some d → RowsN g.regs (ro g W (stR g W s0 i)) (upd H6 x (.ins CR dx fs2)) d := fun i d hd => rowsX L6.2.1 (L6.2.2.2.2.2.1 i d hd).2
      have dl := L6.2.2.2.2.1
      have f2b : fs2.lookup ("start" : Str) = some (.int (start : Int)) := by
        show (putF "start" _ fs1).lookup _ = _
        rw [lookup_putF, if_pos rfl]
      have f2m : fs2.lookup ("moves" : Str) = some (.ref ml) := by rw [look2 _ (by decide +kernel)]; exact f1m
      have f2s : fs2.lookup ("states" : Str) = some (.ref sl) := by rw [look2 _ (by decide +kernel)]; exact f1s
      show (tSeq _ _) _ _ _
      generalize upd H6 x (.ins CR dx fs2) = H7 at E7 a1 a2 a3 a4 ⊢
      refine q_asg (v := .int ((j - start : Nat) : Int)) (ev_is (ev_op (ev_len (ev_fld (K := K) (ev_var rfl) a1 RC.cl RC.m f2m) (sq_of a3)) (ev_fld (K := K) (ev_var rfl) a1 RC.cl RC.b f2b) rv_I0) (by rw [List.length_map, dl]; congr 1; omega)) fun H8 e8 => ?_
      have b1 := e8 _ _ a1
      -- how often, and what is left
      have htr : ∃ turns rest : Nat, many = start + (j - start) * turns + rest ∧ rest ≤ j - start ∧ (start = j → turns = 0) ∧
          ((0 < j - start ∧ turns = (many - start) / (j - start) ∧ rest = (many - start) % (j - start)) ∨ (j - start = 0 ∧ turns = 0 ∧ rest = 0)) := by
        by_cases hz : 0 < j - start
        · have hd := Nat.div_add_mod (many - start) (j - start)
          have hlt := Nat.mod_lt (many - start) hz
          exact ⟨_, _, by omega, Nat.le_of_lt hlt, fun z => by omega, .inl ⟨hz, rfl, rfl⟩⟩
        · have e := s4 (by omega)
          exact ⟨0, 0, by omega, Nat.zero_le _, fun _ => rfl, .inr ⟨by omega, rfl, rfl⟩⟩
      obtain ⟨turns, rest, t1, t2, t3, t4⟩ := htr
      have hpair : EvP (tIf (tTest (tOp (rI0 fun i j => .bl (decide (i > j))) (tVar 8) (tC (.int 0)))) (tCB (fun xs H Q => ∃ i j, xs = [V.int i, V.int j] ∧ CDivP i j ∧ ∀ p, H p = none → Q (.ref p) (upd H p (.tup [.int (i / j), .int (i % j)]))) (tCons (tOp (rI0 fun i j => .int (i - j)) (tVar 4) (tFld K (tVar 0) "start")) (tCons (tVar 8) tNil))) (tTup (tCons (tC (.int 0)) (tCons (tC (.int 0)) tNil)))) [some (.ref x), some (.ref p), some (.str wd), some (.int s0), some (.int (many : Int)), some (.ref md), v6, v7, some (.int ((j - start : Nat) : Int))] H8
          (fun v H' => ∃ b, v = .ref b ∧ H' b = some (.tup [.int (turns : Int), .int (rest : Int)])) := by
        refine ep_if (b := decide (((j - start : Nat) : Int) > 0)) (et_test (ev_op (ev_var rfl) ev_c rv_I0)) (fun hb => ?_) (fun hb => ?_)
        · have hz : 0 < j - start := by have := of_decide_eq_true hb; omega
          rcases t4 with ⟨_, q1, q2⟩ | ⟨q, _⟩
          · have ea : EvA (tCons (tOp (rI0 fun i j => .int (i - j)) (tVar 4) (tFld K (tVar 0) "start")) (tCons (tVar 8) tNil)) [some (.ref x), some (.ref p), some (.str wd), some (.int s0), some (.int (many : Int)), some (.ref md), v6, v7, some (.int ((j - start : Nat) : Int))] H8 [.int ((many - start : Nat) : Int), .int ((j - start : Nat) : Int)] :=
              ea_cons (ev_is (ev_op (ev_var rfl) (ev_fld (K := K) (ev_var rfl) b1 RC.cl RC.b f2b) rv_I0) (by congr 1; omega)) (ea_cons (ev_var rfl) ea_nil)
            intro H9 e9 Q' q
            refine ea H9 e9 _ fun H10 e10 => ⟨_, _, rfl, divp_ok (by omega) ?_, fun b hb => q _ _ (e10.trans (Ex.new hb)) ⟨b, rfl, ?_⟩⟩
            · have := PyProof.Rows.intBits_le (a := ((many - start : Nat) : Int)) (k := 64) (by rw [Int.natAbs_natCast]; have : (2 : Nat) ^ 64 = 18446744073709551616 := rfl; omega)
              omega
            · rw [upd_same, q1, q2]
              rfl
          · omega
        · have hz : j - start = 0 := by
            have := of_decide_eq_false hb
            omega
          rcases t4 with ⟨q, _⟩ | ⟨_, q1, q2⟩
          · omega
          · rw [q1, q2]
            exact ((New.ofU (eu_tup (ea_cons ev_c (ea_cons ev_c ea_nil)) (by show 2 ≤ 100000; decide))).evP).imp fun v H2 _ ⟨p, o, h1, h2, h3⟩ => ⟨p, h1, by rw [h2, h3]; rfl⟩
      show (tAsg _ _) _ _ _
      refine hpair H8 (Ex.refl _) _ fun v H9 e9 ⟨b, q1, q2⟩ => ?_
      subst q1
      have c1 := e9 _ _ b1
      have l3 := putF_len "turns" (.int (turns : Int)) fs2
      refine ⟨b, _, rfl, st_of q2, rfl, ⟨_, _, rfl, (ev_var (v := .ref x) rfl : Ev _ _ H9 _) H9 (Ex.refl _) _ fun H10 e10 => ⟨x, CR, dx, fs2, rfl, e10 _ _ c1, RC.cl, RC.t, by omega, ⟨_, _, rfl, (ev_var (v := .ref x) rfl : Ev _ _ (upd H10 x (.ins CR dx (putF "turns" (.int (turns : Int)) fs2))) _) _ (Ex.refl _) _ fun H11 e11 => ⟨x, CR, dx, putF "turns" (.int (turns : Int)) fs2, rfl, e11 _ _ upd_same, RC.cl, RC.r, by omega, ⟨rfl, ?_⟩⟩⟩⟩⟩⟩
      have d1 : (upd H10 x (.ins CR dx (putF "turns" (.int (turns : Int)) fs2))) x = some (.ins CR dx (putF "turns" (.int (turns : Int)) fs2)) := upd_same
      refine k _ j start turns rest (Ex.mut ((Ex.mut ((E7.trans e8).trans (e9.trans e10)) hx0).trans e11) hx0) ⟨dx, _, sl, ml, ds, upd_same, ⟨?_, ?_, ?_, ?_, ?_, OnlyF.put (OnlyF.put (OnlyF.put (OnlyF.put (OnlyF.put (fun m hm => absurd rfl hm) (by decide +kernel)) (by decide +kernel)) (by decide +kernel)) (by decide +kernel)) (by decide +kernel)⟩, ?_, ?_, dl, fun i d hd => ?_⟩ ⟨s1, t1, t2, s3, t3, few⟩
      · rw [lookup_putF, if_neg (by decide +kernel), lookup_putF, if_neg (by decide +kernel)]
        exact f2s
      · rw [lookup_putF, if_neg (by decide +kernel), lookup_putF, if_neg (by decide +kernel)]
        exact f2m
      · rw [lookup_putF, if_neg (by decide +kernel), lookup_putF, if_neg (by decide +kernel)]
        exact f2b
      · rw [lookup_putF, if_neg (by decide +kernel), lookup_putF, if_pos rfl]
      · rw [lookup_putF, if_pos rfl]
      · rw [upd_ne slx]
        refine e11 _ _ ?_
        rw [upd_ne slx]
        exact e10 _ _ (e9 _ _ (e8 _ _ a2))
      · rw [upd_ne mlx]
        refine e11 _ _ ?_
        rw [upd_ne mlx]
        exact e10 _ _ (e9 _ _ (e8 _ _ a3))
      · exact rowsX (e11 _ _ d1) ((rowsX (e10 _ _ c1) ((a4 i d hd).ex ((e8.trans e9).trans e10))).ex e11)
end
end KX
end
section
set_option Elab.async false
set_option linter.all false
set_option maxRecDepth 100000
set_option maxHeartbeats 8000000
/-! Py5: pieces on the heap: made, a text, several joined. -/
namespace KX
open PySem PySem.Spec PyProof.Rows L2 Evl

/-- all but what stands at two places stays -/
def ExP (tl sl : Addr) (H H' : Hp) : Prop := ∀ a o, a ≠ tl → a ≠ sl → H a = some o → H' a = some o
theorem ExP.refl (tl sl : Addr) (H : Hp) : ExP tl sl H H := fun _ _ _ _ h => h
theorem ExP.trans {tl sl : Addr} {H H1 H2 : Hp} (a : ExP tl sl H H1) (b : ExP tl sl H1 H2) : ExP tl sl H H2 := fun x o n m h => b x o n m (a x o n m h)
theorem ExP.of {tl sl : Addr} {H H' : Hp} (e : Ex H H') : ExP tl sl H H' := fun a o _ _ h => e a o h
theorem ExP.t {tl sl : Addr} {H : Hp} {o : HO} : ExP tl sl H (upd H tl o) := fun a u n _ h => by rw [upd_ne n]; exact h
theorem ExP.s {tl sl : Addr} {H : Hp} {o : HO} : ExP tl sl H (upd H sl o) := fun a u _ m h => by rw [upd_ne m]; exact h
theorem ExP.ex {tl sl : Addr} {H0 H H' : Hp} (e : Ex H0 H) (n : H0 tl = none) (m : H0 sl = none) (b : ExP tl sl H H') : Ex H0 H' := fun a o h => b a o (ne_of_none h n) (ne_of_none h m) (e a o h)
/-- a piece -/
def PcA (H : Hp) : Pc → V → Prop
  | .t s, v => v = .str s
  | .j a b, v => ∃ p, v = .ref p ∧ H p = some (.tup [.int (a : Int), .int (b : Int)])
def pcN : List Str := ["told", "sizes"]
def szs (vs : List (List Nat)) : List V := vs.map fun v => V.int (v.length : Int)
structure PcAt (CP : Addr) (H : Hp) (p tl sl : Addr) (ps : List Pc) (vs : List (List Nat)) : Prop where
  o : ∃ dx fs, H p = some (.ins CP dx fs) ∧ fs.lookup ("told" : Str) = some (.ref tl) ∧ fs.lookup ("sizes" : Str) = some (.ref sl) ∧ OnlyF pcN fs
  t : ∃ xs : List V, H tl = some (.lst xs) ∧ xs.length = ps.length ∧ ∀ (i : Nat) x c, xs[i]? = some x → ps[i]? = some c → PcA H c x
  s : H sl = some (.lst (szs vs))
  v : PcV ps vs
  ne : tl ≠ sl
theorem PcA.ex {H H' : Hp} {c : Pc} {x : V} (e : Ex H H') (h : PcA H c x) : PcA H' c x := by
  cases c with
  | t s => exact h
  | j a b =>
    obtain ⟨p, h1, h2⟩ := h
    exact ⟨p, h1, e _ _ h2⟩
theorem PcA.upd {H : Hp} {c : Pc} {x : V} {a : Addr} {o o' : HO} (ho : H a = some o) (t : ∀ xs, o ≠ .tup xs) (h : PcA H c x) : PcA (upd H a o') c x := by
  cases c with
  | t s => exact h
  | j i b =>
    obtain ⟨p, h1, h2⟩ := h
    refine ⟨p, h1, ?_⟩
    rw [upd_ne (fun z => by rw [z, ho] at h2; cases h2; exact t _ rfl)]
    exact h2
theorem PcAt.ex {CP p tl sl : Addr} {H H' : Hp} {ps : List Pc} {vs : List (List Nat)} (e : Ex H H') (h : PcAt CP H p tl sl ps vs) : PcAt CP H' p tl sl ps vs where
  o := by
    obtain ⟨dx, fs, h1, h2⟩ := h.o
    exact ⟨dx, fs, e _ _ h1, h2⟩
  t := by
    obtain ⟨xs, h1, h2, h3⟩ := h.t
    exact ⟨xs, e _ _ h1, h2, fun i x c a b => (h3 i x c a b).ex e⟩
  s := e _ _ h.s
  v := h.v
  ne := h.ne
theorem szs_at {vs : List (List Nat)} {i : Nat} (hi : i < vs.length) : (szs vs)[i]? = some (.int ((vAt vs i).length : Int)) := by
  unfold szs
  rw [List.getElem?_map, List.getElem?_eq_getElem hi]
  show some _ = some (V.int (((vs.getD i []).length : Nat) : Int))
  rw [List.getD_eq_getElem?_getD, List.getElem?_eq_getElem hi]
  rfl
/-- what has grown -/
structure Gr (CP : Addr) (H H' : Hp) (p tl sl : Addr) (ps : List Pc) (vs : List (List Nat)) (k : Nat) (ps' : List Pc) (vs' : List (List Nat)) : Prop where
  e : ExP tl sl H H'
  a : PcAt CP H' p tl sl ps' vs'
  w : ∃ ws, vs' = vs ++ ws
  z : ps'.length ≤ ps.length + k
theorem Gr.refl {CP p tl sl : Addr} {H : Hp} {ps : List Pc} {vs : List (List Nat)} (h : PcAt CP H p tl sl ps vs) (k : Nat) : Gr CP H H p tl sl ps vs k ps vs := ⟨ExP.refl _ _ _, h, ⟨[], (List.append_nil _).symm⟩, Nat.le_add_right _ _⟩
theorem Gr.trans {CP p tl sl : Addr} {H H1 H2 : Hp} {ps ps1 ps2 : List Pc} {vs vs1 vs2 : List (List Nat)} {k l : Nat} (a : Gr CP H H1 p tl sl ps vs k ps1 vs1) (b : Gr CP H1 H2 p tl sl ps1 vs1 l ps2 vs2) : Gr CP H H2 p tl sl ps vs (k + l) ps2 vs2 := by
  obtain ⟨w1, e1⟩ := a.w
  obtain ⟨w2, e2⟩ := b.w
  exact ⟨a.e.trans b.e, b.a, ⟨w1 ++ w2, by rw [e2, e1, List.append_assoc]⟩, by have := a.z; have := b.z; omega⟩
theorem Gr.le {CP p tl sl : Addr} {H H' : Hp} {ps ps' : List Pc} {vs vs' : List (List Nat)} {k l : Nat} (a : Gr CP H H' p tl sl ps vs k ps' vs') (h : k ≤ l) : Gr CP H H' p tl sl ps vs l ps' vs' := ⟨a.e, a.a, a.w, by have := a.z; omega⟩
theorem Gr.ex {CP p tl sl : Addr} {H H' H'' : Hp} {ps ps' : List Pc} {vs vs' : List (List Nat)} {k : Nat} (a : Gr CP H H' p tl sl ps vs k ps' vs') (e : Ex H' H'') : Gr CP H H'' p tl sl ps vs k ps' vs' := ⟨a.e.trans (ExP.of e), a.a.ex e, a.w, a.z⟩
theorem Gr.at {CP p tl sl : Addr} {H H' : Hp} {ps ps' : List Pc} {vs vs' : List (List Nat)} {k i : Nat} (a : Gr CP H H' p tl sl ps vs k ps' vs') (hi : i < vs.length) : vAt vs' i = vAt vs i := by
  obtain ⟨w, e⟩ := a.w
  rw [e]
  exact vAt_app hi
theorem Gr.len {CP p tl sl : Addr} {H H' : Hp} {ps ps' : List Pc} {vs vs' : List (List Nat)} {k : Nat} (a : Gr CP H H' p tl sl ps vs k ps' vs') : vs.length ≤ vs'.length := by
  obtain ⟨w, e⟩ := a.w
  rw [e, List.length_append]
  omega
structure PcC (K : PySem.W.Frag) (CP : Addr) : Prop where
  cl : Cls K CP
  t : NoAttr K CP "told"
  s : NoAttr K CP "sizes"
def sp_Pieces_init (CP : Addr) : Sp := fun vs H Q _ => ∃ (x dx : Addr) (H0 : Hp), vs = [.ref x] ∧ H x = some (.ins CP dx []) ∧ H0 x = none ∧ Ex H0 H ∧ ∀ H' tl sl, Ex H0 H' → PcAt CP H' x tl sl [] [] → H0 tl = none → H0 sl = none → Q .non H'
def sp_Pieces_text (CP : Addr) : Sp := fun vs H Q _ => ∃ (p tl sl : Addr) (ps : List Pc) (vals : List (List Nat)) (z : Str), vs = [.ref p, .str z] ∧ PcAt CP H p tl sl ps vals ∧ ps.length < 50000 ∧ z.length ≤ 100000 ∧ ∀ H', Gr CP H H' p tl sl ps vals 1 (ps ++ [.t z]) (vals ++ [cds z]) → Q (.int (vals.length : Int)) H'
/-- what numbers stand for, one behind the other -/
def cvs (vs : List (List Nat)) (ns : List Nat) : List Nat := ns.flatMap (vAt vs)
def sp_Pieces_joined (CP : Addr) : Sp := fun vs H Q _ => ∃ (p tl sl l : Addr) (ps : List Pc) (vals : List (List Nat)) (ns : List Nat), vs = [.ref p, .ref l] ∧ PcAt CP H p tl sl ps vals ∧ H l = some (.lst (ns.map fun n : Nat => V.int (n : Int))) ∧ l ≠ tl ∧ l ≠ sl ∧ (∀ n ∈ ns, n < vals.length) ∧ ps.length + ns.length < 50000 ∧
  ∀ H' ps' vals' k, Gr CP H H' p tl sl ps vals (ns.length + 1) ps' vals' → k < vals'.length → vAt vals' k = cvs vals ns → Q (.int (k : Int)) H'
def sp_is_held_p : Sp := spE (fun (x : V) vs H => vs = [x] ∧ ((∃ i, x = .int i) ∨ ∃ b m, x = .ref b ∧ H b = some (.tup [.str m]))) (fun x v _ => v = .bl (match x with | .ref _ => true | _ => false))
section
variable {K : PySem.W.Frag} {σ : L2.St} {H : Hp} {ta tb te : TE} {p tl sl CP : Addr} {ps : List Pc} {vs : List (List Nat)}
theorem ev_told (C : PcC K CP) (h : Ev ta σ H (.ref p)) (A : PcAt CP H p tl sl ps vs) : Ev (tFld K ta "told") σ H (.ref tl) := by
  obtain ⟨dx, fs, h1, h2, _, _⟩ := A.o
  exact ev_fld (K := K) h h1 C.cl C.t h2
theorem ev_sizes (C : PcC K CP) (h : Ev ta σ H (.ref p)) (A : PcAt CP H p tl sl ps vs) : Ev (tFld K ta "sizes") σ H (.ref sl) := by
  obtain ⟨dx, fs, h1, _, h3, _⟩ := A.o
  exact ev_fld (K := K) h h1 C.cl C.s h3
theorem ev_size (C : PcC K CP) (h : Ev ta σ H (.ref p)) (A : PcAt CP H p tl sl ps vs) {i : Nat} (hi : Ev tb σ H (.int (i : Int))) (hl : i < vs.length) : Ev (tOp (rIxL K) (tFld K ta "sizes") tb) σ H (.int ((vAt vs i).length : Int)) :=
  ev_op (ev_sizes C h A) hi (rv_ixL (K := K) (sq_of A.s) (atI_nat (szs_at hl)))
end
section
variable {P : Program} {w : World} {K : PySem.W.Frag} {mg : Str → Option Value} {base : Heap} {C CP : Addr} {f : Addr} {fd : FuncData}
theorem ok_is_held_pieces (F : Fun K "is_held" "is_held" s_is_held_pieces f fd) (Z : Zs mg C) : FnOk P w K mg base CX0 1 f fd ["item"] sp_is_held_p := by
  refine F.ok sc_is_held_pieces (fun vs H Q E h => ?_) (fun cdv A outer s H vs Q E hr h => ?_)
  · obtain ⟨i, ⟨rfl, _⟩, _⟩ := h
    rfl
  · obtain ⟨v, ⟨rfl, hv⟩, k⟩ := h
    refine ⟨_, (pss_one (ps_ret (pe_callB (cIsi (K := K)) (by rfl) Z.z_isinstance (by decide +kernel) (pa_cons (pv 0) (pa_cons (pe_bltn (by rfl) Z.z_tuple (by decide +kernel) (show RelV (.ty "tuple") _ from rfl)) pa_nil))))), ?_⟩
    rcases hv with ⟨i, rfl⟩ | ⟨b, m, rfl, hb⟩
    · exact s_ret (v := .bl false) (ev_isI (b := false) (ev_var rfl) rfl) fun H1 e1 => k _ H1 e1 rfl
    · exact s_ret (v := .bl true) (ev_isU (b := true) (ev_var rfl) hb rfl) fun H1 e1 => k _ H1 e1 rfl
theorem ok_Pieces_init (F : Fun K "__init__" "Pieces.__init__" s_Pieces__init f fd) (Z : Zs mg C) (PC : PcC K CP) : FnOk P w K mg base CX0 1 f fd ["self"] (sp_Pieces_init CP) := by
  refine F.ok sc_Pieces__init (fun vs H Q E h => ?_) (fun cdv A outer s H vs Q E hr h => ?_)
  · obtain ⟨x, dx, H0, rfl, _⟩ := h
    rfl
  · obtain ⟨x, dx, H0, rfl, hx, hx0, e0, k⟩ := h
    refine ⟨_, (pss_cons (ps_fld (pv 0) (pe_lst pa_nil) rfl) 
    (pss_one (ps_fld (pv 0) (pe_lst pa_nil) rfl))), ?_⟩
    refine q_fldN (K := K) (New.ofL (el_lst (vs := []) ea_nil (Nat.zero_le _))) (ev_var rfl) hx PC.cl PC.t (by decide) (fun _ _ _ _ h => h) fun tl o H1 htl e1 h1 n1 => ?_
    subst n1
    have tlx : tl ≠ x := fun z => by rw [z, hx] at htl; cases htl
    refine s_fldN (K := K) (New.ofL (el_lst (vs := []) ea_nil (Nat.zero_le _))) (ev_var rfl) upd_same PC.cl PC.s (by have := putF_len "told" (.ref tl) []; exact Nat.le_trans this (by decide)) (fun _ _ _ _ h => h) fun sl o H2 hsl e2 h2 n2 => ?_
    subst n2
    have slx : sl ≠ x := fun z => by rw [z, upd_same] at hsl; cases hsl
    have g1 : (upd H1 x (.ins CP dx (putF "told" (.ref tl) []))) tl = some (.lst []) := by rw [upd_ne tlx]; exact h1
    have sltl : sl ≠ tl := fun z => by rw [z, g1] at hsl; cases hsl
    have E1 : Ex H0 (upd H1 x (.ins CP dx (putF "told" (.ref tl) []))) := Ex.mut (e0.trans e1) hx0
    refine k _ tl sl (Ex.mut (E1.trans e2) hx0) ⟨⟨dx, _, upd_same, ?_, ?_, OnlyF.put (OnlyF.put (fun m hm => absurd rfl hm) (by decide +kernel)) (by decide +kernel)⟩, ⟨[], by rw [upd_ne tlx]; exact e2 _ _ g1, rfl, fun i x c h => by simp at h⟩, by rw [upd_ne slx]; exact h2, .nil, sltl.symm⟩ (fresh_back e0 htl) (fresh_back E1 hsl)
    · rw [lookup_putF, if_neg (by decide +kernel), lookup_putF, if_pos rfl]
    · rw [lookup_putF, if_pos rfl]
theorem ok_Pieces_text (F : Fun K "text" "Pieces.text" s_Pieces_text f fd) (Z : Zs mg C) (PC : PcC K CP) : FnOk P w K mg base CX0 1 f fd ["self", "text"] (sp_Pieces_text CP) := by
  refine F.ok sc_Pieces_text (fun vs H Q E h => ?_) (fun cdv A outer s H vs Q E hr h => ?_)
  · obtain ⟨p, tl, sl, ps, vals, z, rfl, _⟩ := h
    rfl
  · obtain ⟨p, tl, sl, ps, vals, z, rfl, A0, hz, hzl, k⟩ := h
    refine ⟨_, (pss_cons (ps_expr (pe_bm PySem.F.plainAttrs_list PySem.F.slot_list_append PySem.F.type_list_append mt_append (pe_fldK (K := K) (pv 0) rfl) (pa_cons (pv 1) pa_nil))) 
    (pss_cons (ps_expr (pe_bm PySem.F.plainAttrs_list PySem.F.slot_list_append PySem.F.type_list_append mt_append (pe_fldK (K := K) (pv 0) rfl) (pa_cons (pe_callB call_len_str (by rfl) Z.z_len PySem.boot_len (pa_cons (pv 1) pa_nil)) pa_nil))) 
    (pss_one (ps_ret (pe_op op_sub (pe_callB (cLenS (K := K)) (by rfl) Z.z_len PySem.boot_len (pa_cons (pe_fldK (K := K) (pv 0) rfl) pa_nil)) pe_int))))), ?_⟩
    obtain ⟨xs, hxs, hxl, hxi⟩ := A0.t
    obtain ⟨dx, fs, hp, ft, fz, fo⟩ := A0.o
    have hvl := A0.v.len
    refine q_app hxs (ev_told PC (ev_var rfl) A0) (ev_var rfl) (by omega) fun H1 e1 => ?_
    have ptl : p ≠ tl := fun q => by rw [q, hxs] at hp; cases hp
    have psl : p ≠ sl := fun q => by rw [q, A0.s] at hp; cases hp
    have a1 : (upd H1 tl (.lst (xs ++ [.str z]))) p = some (.ins CP dx fs) := by rw [upd_ne ptl]; exact e1 _ _ hp
    have a2 : (upd H1 tl (.lst (xs ++ [.str z]))) sl = some (.lst (szs vals)) := by rw [upd_ne A0.ne.symm]; exact e1 _ _ A0.s
    have a3 : (upd H1 tl (.lst (xs ++ [.str z]))) tl = some (.lst (xs ++ [.str z])) := upd_same
    have x1 : ExP tl sl H (upd H1 tl (.lst (xs ++ [.str z]))) := (ExP.of e1).trans ExP.t
    have a4 : ∀ (i : Nat) x c, (xs ++ [V.str z])[i]? = some x → (ps ++ [Pc.t z])[i]? = some c → PcA (upd H1 tl (.lst (xs ++ [.str z]))) c x := fun i x c hx hc => by
      rcases snoc_at hx with ⟨hx, hi⟩ | ⟨hi, rfl⟩ <;> rcases snoc_at hc with ⟨hc, hi'⟩ | ⟨hi', rfl⟩
      · exact ((hxi i x c hx hc).ex e1).upd (e1 _ _ hxs) (fun _ q => by cases q)
      · omega
      · omega
      · rfl
    show (tSeq _ _) _ _ _
    generalize upd H1 tl (.lst (xs ++ [.str z])) = H2 at a1 a2 a3 a4 x1 ⊢
    refine q_app a2 (ev_fld (K := K) (ev_var rfl) a1 PC.cl PC.s fz) (ev_lenS (ev_var rfl) hzl) (by unfold szs; rw [List.length_map]; omega) fun H3 e3 => ?_
    have hsz : szs vals ++ [.int (z.length : Int)] = szs (vals ++ [cds z]) := by
      unfold szs
      rw [List.map_append, len_cds]
      rfl
    rw [hsz]
    have b1 : (upd H3 sl (.lst (szs (vals ++ [cds z])))) p = some (.ins CP dx fs) := by rw [upd_ne psl]; exact e3 _ _ a1
    have b3 : (upd H3 sl (.lst (szs (vals ++ [cds z])))) tl = some (.lst (xs ++ [.str z])) := by rw [upd_ne A0.ne]; exact e3 _ _ a3
    have G : Gr CP H (upd H3 sl (.lst (szs (vals ++ [cds z])))) p tl sl ps vals 1 (ps ++ [.t z]) (vals ++ [cds z]) :=
      ⟨(x1.trans (ExP.of e3)).trans ExP.s, ⟨⟨dx, fs, b1, ft, fz, fo⟩, ⟨_, b3, by rw [List.length_append, List.length_append, hxl]; rfl, fun i x c hx hc => ((a4 i x c hx hc).ex e3).upd (e3 _ _ a2) (fun _ q => by cases q)⟩, upd_same, .text z hzl A0.v, A0.ne⟩, ⟨_, rfl⟩, by rw [List.length_append]; exact Nat.le_refl _⟩
    show (tRet _) _ _ _
    generalize upd H3 sl (.lst (szs (vals ++ [cds z]))) = H4 at b1 b3 G ⊢
    exact s_ret (v := .int (vals.length : Int)) (ev_is (ev_op (ev_len (ev_fld (K := K) (ev_var rfl) b1 PC.cl PC.t ft) (sq_of b3)) ev_c rv_I0) (by rw [List.length_append, hxl, hvl]; congr 1; show ((vals.length + 1 : Nat) : Int) - 1 = _; omega)) fun H5 e5 => k _ (G.ex e5)
end
end KX
end
section
set_option Elab.async false
set_option linter.all false
set_option maxRecDepth 100000
set_option maxHeartbeats 8000000
/-! Py6: pieces joined. -/
namespace KX
open PySem PySem.Spec PyProof.Rows L2 Evl

theorem rv_isN {x : V} {H : Hp} : RV (fun x y H Q => y = .non ∧ Q (.bl (decide (x = .non))) H) x .non H (.bl (decide (x = .non))) := fun H1 _ _ q => ⟨rfl, q H1 (Ex.refl H1)⟩
theorem cvs_snoc (vs : List (List Nat)) (ns : List Nat) (n : Nat) : cvs vs (ns ++ [n]) = cvs vs ns ++ vAt vs n := by
  unfold cvs
  rw [List.flatMap_append]
  show _ ++ (vAt vs n ++ []) = _
  rw [List.append_nil]
section
variable {P : Program} {w : World} {K : PySem.W.Frag} {mg : Str → Option Value} {base : Heap} {C CP : Addr} {f : Addr} {fd : FuncData}
theorem ok_Pieces_joined (F : Fun K "joined" "Pieces.joined" s_Pieces_joined f fd) (Z : Zs mg C) (PC : PcC K CP) {f_Pieces_text : Addr} {fd_Pieces_text : FuncData} (G_Pieces_text : HasM P w K mg base CP "text" 1 f_Pieces_text fd_Pieces_text ["self", "text"] (sp_Pieces_text CP)) : FnOk P w K mg base CX0 2 f fd ["self", "numbers"] (sp_Pieces_joined CP) := by
  refine F.ok sc_Pieces_joined (fun vs H Q E h => ?_) (fun cdv A outer s H vs Q E hr h => ?_)
  · obtain ⟨p, tl, sl, l, ps, vals, ns, rfl, _⟩ := h
    rfl
  · obtain ⟨p, tl, sl, l, ps, vals, ns, rfl, A0, hl, ltl, lsl, hns, hz, k⟩ := h
    refine ⟨_, (pss_cons (ps_set (i := 2) sc_Pieces_joined.nd rfl (Or.inl rfl) pe_non) 
    (pss_cons (ps_for PassesOwn.never rfl (pi_list (pv 1)) (pg_name (i := 3) sc_Pieces_joined.nd rfl (Or.inl rfl)) 
     (pss_one (ps_if (PW.pt (pw_or (pt_cmpR op_isN (pv 2) pe_non (nomark _)) (pw_or1 (pt_cmpR op_eq (pe_ix (ixL (K := K)) (pe_fldK (K := K) (pv 0) rfl) (pv 2) (fun _ _ => rfl)) pe_int (nomark _))))) 
      (pss_one (ps_set (i := 2) sc_Pieces_joined.nd rfl (Or.inl rfl) (pv 3))) 
      (pss_one (ps_if (pt_cmpR op_gt (pe_ix (ixL (K := K)) (pe_fldK (K := K) (pv 0) rfl) (pv 3) (fun _ _ => rfl)) pe_int (nomark _)) 
       (pss_cons (ps_expr (pe_bm PySem.F.plainAttrs_list PySem.F.slot_list_append PySem.F.type_list_append mt_append (pe_fldK (K := K) (pv 0) rfl) (pa_cons (pe_tup (pa_cons (pv 2) (pa_cons (pv 3) pa_nil))) pa_nil))) 
       (pss_cons (ps_expr (pe_bm PySem.F.plainAttrs_list PySem.F.slot_list_append PySem.F.type_list_append mt_append (pe_fldK (K := K) (pv 0) rfl) (pa_cons (pe_op op_add (pe_ix (ixL (K := K)) (pe_fldK (K := K) (pv 0) rfl) (pv 2) (fun _ _ => rfl)) (pe_ix (ixL (K := K)) (pe_fldK (K := K) (pv 0) rfl) (pv 3) (fun _ _ => rfl))) pa_nil))) 
       (pss_one (ps_set (i := 2) sc_Pieces_joined.nd rfl (Or.inl rfl) (pe_op op_sub (pe_callB (cLenS (K := K)) (by rfl) Z.z_len PySem.boot_len (pa_cons (pe_fldK (K := K) (pv 0) rfl) pa_nil)) pe_int))))) pss_nil))))) 
    (pss_one (ps_ret (pe_ifExp (pt_cmpR op_isN (pv 2) pe_non (nomark _)) (pe_meth (pv 0) G_Pieces_text.cl G_Pieces_text.me G_Pieces_text.ok (hr.mono (by decide)) G_Pieces_text.b .nil pass0 (pa_cons pe_str pa_nil)) (pv 2)))))), ?_⟩
    refine q_asg (v := .non) ev_c fun H1 e1 => ?_
    refine q_forL (K := K) (ev_var rfl) (sq_of (e1 _ _ hl)) (fun i σ' H' => ∃ (wv : V) (v3 : Option V) (ps' : List Pc) (vals' : List (List Nat)), σ' = [some (.ref p), some (.ref l), some wv, v3] ∧ Gr CP H H' p tl sl ps vals i ps' vals' ∧ ((i = 0 ∧ wv = .non) ∨ (0 < i ∧ ∃ k : Nat, wv = .int (k : Int) ∧ k < vals'.length ∧ vAt vals' k = cvs vals (ns.take i)))) ?_ ?_ ?_ ?_
    · intro H2 e2
      exact ⟨.non, none, ps, vals, rfl, (Gr.refl A0 0).ex (e1.trans e2), .inl ⟨rfl, rfl⟩⟩
    · rintro i σ' H' hi ⟨wv, v3, ps', vals', rfl, G, _⟩
      exact sq_of (G.e _ _ ltl lsl hl)
    · rintro i x σ' H' hxi ⟨wv, v3, ps', vals', rfl, G, hw⟩
      rw [List.getElem?_map] at hxi
      obtain ⟨n, hn, rfl⟩ := Option.map_eq_some_iff.mp hxi
      have hnm := hns n (List.mem_of_getElem? hn)
      have hil : i < ns.length := (List.getElem?_eq_some_iff.mp hn).1
      have hnl : n < vals'.length := Nat.lt_of_lt_of_le hnm G.len
      have hnv := G.at hnm
      have htk : ns.take (i + 1) = ns.take i ++ [n] := by rw [List.take_succ, hn]; rfl
      rw [htk, cvs_snoc]
      have grow := G.z
      rcases hw with ⟨hi0, rfl⟩ | ⟨hi0, kw, rfl, hkw, hkv⟩
      · subst hi0
        refine s_if (b := true || false) (et_or (a := true) (b := false) (et_test (ev_op (ev_var rfl) ev_c rv_isN)) (fun z => by cases z)) (fun _ H2 e2 => ?_) (fun z => by cases z)
        refine s_asg (v := .int (n : Int)) (ev_var rfl) fun H3 e3 => ⟨_, _, ps', vals', rfl, (G.ex (e2.trans e3)).le (Nat.zero_le _), .inr ⟨Nat.succ_pos _, n, rfl, hnl, ?_⟩⟩
        rw [hnv]
        rfl
      · have A := G.a
        refine s_if (b := false || decide (V.int ((vAt vals' kw).length : Int) = V.int 0)) (et_or (a := false) (et_test (ev_op (ev_var (v := .int (kw : Int)) rfl) ev_c rv_isN)) (fun _ => et_test (ev_op (ev_size PC (ev_var rfl) A (ev_var rfl) hkw) ev_c (rv_eq rfl)))) (fun hb H2 e2 => ?_) (fun hb H2 e2 => ?_)
        · have hz0 : (vAt vals' kw).length = 0 := by
            have : V.int ((vAt vals' kw).length : Int) = V.int 0 := of_decide_eq_true (by simpa using hb)
            have := V.int.inj this
            omega
          refine s_asg (v := .int (n : Int)) (ev_var rfl) fun H3 e3 => ⟨_, _, ps', vals', rfl, (G.ex (e2.trans e3)).le (Nat.le_succ _), .inr ⟨Nat.succ_pos _, n, rfl, hnl, ?_⟩⟩
          rw [hnv, ← hkv, List.eq_nil_of_length_eq_zero hz0, List.nil_append]
        · have hpos : 0 < (vAt vals' kw).length := by
            rcases Nat.eq_zero_or_pos (vAt vals' kw).length with z | z
            · rw [z] at hb
              simp at hb
            · exact z
          refine s_when (b := decide (((vAt vals' n).length : Int) > 0)) (et_test (ev_op (ev_size PC (ev_var rfl) (A.ex e2) (ev_var rfl) hnl) ev_c rv_I0)) (fun hb2 H3 e3 => ?_) (fun hb2 H3 e3 => ?_)
          · have hnpos : 0 < (vAt vals' n).length := by have := of_decide_eq_true hb2; omega
            have G3 := G.ex (e2.trans e3)
            have A3 := G3.a
            obtain ⟨xs, hxs, hxl, hxi'⟩ := A3.t
            obtain ⟨dx, fs, hp, ft, fz, fo⟩ := A3.o
            have hvl := A3.v.len
            show (tSeq _ _) _ _ _
            refine q_appU hxs (ev_told PC (ev_var rfl) A3) (eu_tup (ea_cons (ev_var (v := .int (kw : Int)) rfl) (ea_cons (ev_var rfl) ea_nil)) (by show 2 ≤ 100000; decide)) (by omega) fun q H4 hq e4 h4 => ?_
            have ptl : p ≠ tl := fun z => by rw [z, hxs] at hp; cases hp
            have psl : p ≠ sl := fun z => by rw [z, A3.s] at hp; cases hp
            have qtl : q ≠ tl := fun z => by rw [z, hxs] at hq; cases hq
            have a1 : (upd H4 tl (.lst (xs ++ [.ref q]))) p = some (.ins CP dx fs) := by rw [upd_ne ptl]; exact e4 _ _ hp
            have a2 : (upd H4 tl (.lst (xs ++ [.ref q]))) sl = some (.lst (szs vals')) := by rw [upd_ne A3.ne.symm]; exact e4 _ _ A3.s
            have a3 : (upd H4 tl (.lst (xs ++ [.ref q]))) tl = some (.lst (xs ++ [.ref q])) := upd_same
            have x1 : ExP tl sl H (upd H4 tl (.lst (xs ++ [.ref q]))) := (G3.e.trans (ExP.of e4)).trans ExP.t
            have a4 : ∀ (i : Nat) x c, (xs ++ [V.ref q])[i]? = some x → (ps' ++ [Pc.j kw n])[i]? = some c → PcA (upd H4 tl (.lst (xs ++ [.ref q]))) c x := fun i x c hx hc => by
              rcases snoc_at hx with ⟨hx, hi⟩ | ⟨hi, rfl⟩ <;> rcases snoc_at hc with ⟨hc, hi'⟩ | ⟨hi', rfl⟩
              · exact ((hxi' i x c hx hc).ex e4).upd (e4 _ _ hxs) (fun _ q => by cases q)
              · omega
              · omega
              · exact ⟨q, rfl, by rw [upd_ne qtl]; exact h4⟩
            show (tSeq _ _) _ _ _
            generalize upd H4 tl (.lst (xs ++ [.ref q])) = H5 at a1 a2 a3 a4 x1 ⊢
            have sz5 : ∀ {σ' : L2.St} {tb : TE} {j : Nat}, Ev tb σ' H5 (.int (j : Int)) → j < vals'.length → σ'[0]? = some (some (.ref p)) → Ev (tOp (rIxL K) (tFld K (tVar 0) "sizes") tb) σ' H5 (.int ((vAt vals' j).length : Int)) := fun {σ' tb j} hj hl h0 => ev_op (ev_fld (K := K) (ev_var h0) a1 PC.cl PC.s fz) hj (rv_ixL (K := K) (sq_of a2) (atI_nat (szs_at hl)))
            refine q_app a2 (ev_fld (K := K) (ev_var rfl) a1 PC.cl PC.s fz) (ev_op (sz5 (ev_var rfl) hkw rfl) (sz5 (ev_var rfl) hnl rfl) rv_I0) (by unfold szs; rw [List.length_map]; omega) fun H6 e6 => ?_
            have hsz : szs vals' ++ [.int (((vAt vals' kw).length : Int) + ((vAt vals' n).length : Int))] = szs (vals' ++ [vAt vals' kw ++ vAt vals' n]) := by
              unfold szs
              rw [List.map_append]
              show _ = _ ++ [V.int (((vAt vals' kw ++ vAt vals' n).length : Nat) : Int)]
              rw [List.length_append, Int.natCast_add]
            rw [hsz]
            have b1 : (upd H6 sl (.lst (szs (vals' ++ [vAt vals' kw ++ vAt vals' n])))) p = some (.ins CP dx fs) := by rw [upd_ne psl]; exact e6 _ _ a1
            have b3 : (upd H6 sl (.lst (szs (vals' ++ [vAt vals' kw ++ vAt vals' n])))) tl = some (.lst (xs ++ [.ref q])) := by rw [upd_ne A3.ne]; exact e6 _ _ a3
            obtain ⟨ws, ews⟩ := G3.w
            have G6 : Gr CP H (upd H6 sl (.lst (szs (vals' ++ [vAt vals' kw ++ vAt vals' n])))) p tl sl ps vals (i + 1) (ps' ++ [.j kw n]) (vals' ++ [vAt vals' kw ++ vAt vals' n]) :=
              ⟨(x1.trans (ExP.of e6)).trans ExP.s, ⟨⟨dx, fs, b1, ft, fz, fo⟩, ⟨_, b3, by rw [List.length_append, List.length_append, hxl]; rfl, fun i x c hx hc => ((a4 i x c hx hc).ex e6).upd (e6 _ _ a2) (fun _ q => by cases q)⟩, upd_same, .join kw n A3.v hkw hnl hpos hnpos, A3.ne⟩, ⟨ws ++ [vAt vals' kw ++ vAt vals' n], by rw [ews, List.append_assoc]⟩, by rw [List.length_append]; show ps'.length + 1 ≤ _; omega⟩
            show (tAsg _ _) _ _ _
            generalize upd H6 sl (.lst (szs (vals' ++ [vAt vals' kw ++ vAt vals' n]))) = H7 at b1 b3 G6 ⊢
            refine s_asg (v := .int (vals'.length : Int)) (ev_is (ev_op (ev_len (ev_fld (K := K) (ev_var rfl) b1 PC.cl PC.t ft) (sq_of b3)) ev_c rv_I0) (by rw [List.length_append, hxl, hvl]; congr 1; show ((vals'.length + 1 : Nat) : Int) - 1 = _; omega)) fun H8 e8 => ⟨_, _, _, _, rfl, G6.ex e8, .inr ⟨Nat.succ_pos _, vals'.length, rfl, by rw [List.length_append]; exact Nat.lt_succ_self _, ?_⟩⟩
            rw [vAt_last, hkv, hnv]
          · have hn0 : (vAt vals' n).length = 0 := by
              have := of_decide_eq_false hb2
              omega
            refine ⟨_, _, ps', vals', rfl, (G.ex (e2.trans e3)).le (Nat.le_succ _), .inr ⟨Nat.succ_pos _, kw, rfl, hkw, ?_⟩⟩
            rw [hkv, ← hnv, List.eq_nil_of_length_eq_zero hn0, List.append_nil]
    · rintro σ' H' ⟨wv, v3, ps', vals', rfl, G, hw⟩
      rw [List.length_map] at G hw
      rw [List.take_length] at hw
      show tRet _ _ _ _
      rcases hw with ⟨hi0, rfl⟩ | ⟨hi0, kw, rfl, hkw, hkv⟩
      · obtain ⟨dx, fs, hp, ft, fz, fo⟩ := G.a.o
        have grow := G.z
        refine (et_test (ev_op (ev_var rfl) ev_c rv_isN) : EvT _ _ _ (decide (V.non = V.non))) H' (Ex.refl _) _ fun H2 e2 => ?_
        rw [if_pos (decide_eq_true rfl)]
        have G2 := G.ex e2
        refine ⟨_, rfl, p, dx, fs, rfl, e2 _ _ hp, fo.no (by decide +kernel), ⟨p, tl, sl, ps', vals', "", rfl, G2.a, by omega, by decide, fun H3 G3 => ?_⟩⟩
        have G4 := G2.trans G3
        refine k H3 _ _ vals'.length G4 (by rw [List.length_append]; exact Nat.lt_succ_self _) ?_
        rw [vAt_last, List.eq_nil_of_length_eq_zero hi0]
        rfl
      · refine s_ret (v := .int (kw : Int)) ?_ fun H2 e2 => k H2 ps' vals' kw ((G.ex e2).le (Nat.le_succ _)) hkw hkv
        intro H2 e2 Q' q
        exact (et_test (ev_op (ev_var (v := .int (kw : Int)) rfl) ev_c rv_isN) : EvT _ _ _ (decide (V.int (kw : Int) = V.non))) H2 e2 _ fun H3 e3 => (ev_var (v := .int (kw : Int)) rfl : Ev (tVar 2) _ H3 _) H3 (Ex.refl _) _ fun H4 e4 => q H4 (e3.trans e4)
end
end KX
end
section
set_option Elab.async false
set_option linter.all false
set_option maxRecDepth 100000
set_option maxHeartbeats 8000000
/-! Py7: rows with numbers on the heap; comprehensions that change what stands. -/
namespace KX
open PySem PySem.Spec PyProof.Rows L2 Evl

/-! ### comprehensions that change what stands -/
section
variable {K : PySem.W.Frag} {σ : L2.St} {H : Hp} {te tv : TE} {j i : Nat} {ws : List Nat} {Q : VK}
/-- [te for j in a tuple] -/
theorem lcX_tup {a : Addr} {xs : List V} (hi : σ[i]? = some (some (.ref a))) (hx : H a = some (.tup xs)) (hw : ∀ x, wipe ((wipe σ ws).set j (some x)) ws = wipe σ ws) (Pv : Addr → Nat → Hp → Prop) (h0 : ∀ D, H D = none → Pv D 0 (upd H D (.lst [])))
    (hG : ∀ D k H', Pv D k H' → H' a = some (.tup xs))
    (hs : ∀ D k x H', xs[k]? = some x → Pv D k H' → te ((wipe σ ws).set j (some x)) H' fun y H4 => ∃ acc, H4 D = some (.lst acc) ∧ acc.length < sizeLine ∧ Pv D (k + 1) (upd H4 D (.lst (acc ++ [y]))))
    (hd : ∀ D H', Pv D xs.length H' → Q (.ref D) H') : tLc (iTup K (tVar i)) (gName j) tYes te ws σ H Q :=
  ⟨_, hi, a, rfl, ⟨xs, st_of hx⟩, fun D hD => lc_it walk_tup (Pv D) (h0 D hD) (fun k H' _ p => st_of (hG D k H' p)) (fun k x H' H'' hk p y => by
    obtain ⟨rfl, hxk⟩ := y
    refine ⟨hw x, ?_⟩
    unfold tYes
    refine iteT ?_
    exact hs D k x H'' hxk p) fun H' p => hd D H' p⟩
/-- {j: tv for j in a dict}, the dict locked -/
theorem dpX_keys {d : Addr} {l : List (Key × V)} {od : Obj} {ns : List Str} (hi : σ[i]? = some (some (.ref d))) (hx : H d = some (.frz od (.dK l))) (hl : l.map (·.1) = ns.map Sum.inr) (hw : ∀ x, wipe ((wipe σ ws).set j (some x)) ws = wipe σ ws) (hj : ∀ x : V, ((wipe σ ws).set j (some x))[j]? = some (some x))
    (Pv : Addr → Nat → Hp → Prop) (h0 : ∀ D, H D = none → Pv D 0 (upd H D (.dK [])))
    (hG : ∀ D k H', Pv D k H' → H' d = some (.frz od (.dK l)))
    (hs : ∀ D k n H', ns[k]? = some n → Pv D k H' → tv ((wipe σ ws).set j (some (.str n))) H' fun z H5 => ∃ H6, DPut H5 D (.str n) z H6 ∧ Pv D (k + 1) H6)
    (hd : ∀ D H', Pv D ns.length H' → Q (.ref D) H') : tDp (.dK []) (iKeys (tVar i)) (gName j) tYes (tVar j) tv ws σ H Q := by
  have hll : l.length = ns.length := by simpa using congrArg List.length hl
  refine ⟨_, hi, d, od, rfl, .inl ⟨l, hx, fun D hD => dp_it walk_keys (Pv D) (h0 D hD) (fun k H' _ p => hG D k H' p) (fun k x H' H'' hk p y => ?_) fun H' p => hd D H' (by rw [← hll]; exact p)⟩⟩
  obtain ⟨rfl, kk, v, hkv, rfl⟩ := y
  have hnk : ns[k]? = some ns[k] := List.getElem?_eq_getElem (by omega)
  have e : kk = .inr ns[k] := by
    have h2 := congrArg (fun z : List Key => z[k]?) hl
    simp only [List.getElem?_map, hkv, hnk, Option.map_some] at h2
    exact Option.some.inj h2
  subst e
  refine ⟨hw _, ?_⟩
  unfold tYes
  refine iteT ?_
  exact ⟨_, hj _, hs D k ns[k] H'' hnk p⟩
end
theorem dpX_put {ns : List Str} {k : Nat} {n : Str} {kvs : List (Key × V)} {H5 : Hp} {D : Addr} {z : V} {R : Hp → Prop} (hN : ns.Nodup) (hk : ns[k]? = some n) (hz : ns.length ≤ 1000) (g3 : kvs.map (·.1) = (ns.take k).map Sum.inr) (h : H5 D = some (.dK kvs)) (r : R (upd H5 D (.dK (kvs ++ [(.inr n, z)])))) : ∃ H6, DPut H5 D (.str n) z H6 ∧ R H6 := by
  have hnew : valV kvs (.inr n) = none := by
    cases hv : valV kvs (.inr n) with
    | none => rfl
    | some z =>
      have hm := List.mem_map_of_mem (f := (·.1)) (valV_mem hv)
      rw [g3] at hm
      obtain ⟨m, hm1, hm2⟩ := List.mem_map.mp hm
      cases hm2
      obtain ⟨q, hq⟩ := List.mem_iff_getElem?.mp hm1
      have hql : q < k := by
        have := (List.getElem?_eq_some_iff.mp hq).1
        rw [List.length_take] at this
        omega
      rw [List.getElem?_take_of_lt hql] at hq
      have := nodup_ix' hN hq hk
      omega
  have hkl : kvs.length < 100000 := by
    have := congrArg List.length g3
    rw [List.length_map, List.length_map, List.length_take] at this
    omega
  have := DPut.k (v := z) (k := .inr n) h (sz_lt hkl)
  rw [putK_new _ hnew] at this
  exact ⟨_, this, r⟩

/-! ### rows with numbers -/
def NtA (H : Hp) : Nit → V → Prop
  | .n i, v => v = .int (i : Int)
  | .r m, v => ∃ b, v = .ref b ∧ H b = some (.tup [.str m])
def NtsA (H : Hp) (xs : List V) (row : List Nit) : Prop := xs.length = row.length ∧ ∀ (i : Nat) x t, xs[i]? = some x → row[i]? = some t → NtA H t x
def NRow (tl sl : Addr) (H : Hp) (a : Addr) (row : List Nit) : Prop := a ≠ tl ∧ a ≠ sl ∧ ∃ xs, H a = some (.lst xs) ∧ NtsA H xs row
/-- tuples stay, and what stands at a -/
theorem NtsA.tup {H H' : Hp} {xs : List V} {row : List Nit} (e : ∀ b ys, H b = some (.tup ys) → H' b = some (.tup ys)) (h : NtsA H xs row) : NtsA H' xs row := ⟨h.1, fun i x t a b => by
  have := h.2 i x t a b
  cases t with
  | n i => exact this
  | r m =>
    obtain ⟨c, c1, c2⟩ := this
    exact ⟨c, c1, e _ _ c2⟩⟩
theorem ExP.tups {CP p tl sl : Addr} {H H' : Hp} {ps : List Pc} {vs : List (List Nat)} (A : PcAt CP H p tl sl ps vs) (e : ExP tl sl H H') : ∀ b ys, H b = some (.tup ys) → H' b = some (.tup ys) := fun b ys h => by
  obtain ⟨xs, h1, _⟩ := A.t
  exact e b _ (fun z => by rw [z, h1] at h; cases h) (fun z => by rw [z, A.s] at h; cases h) h
theorem NRow.exP {CP p tl sl : Addr} {H H' : Hp} {ps : List Pc} {vs : List (List Nat)} {a : Addr} {row : List Nit} (A : PcAt CP H p tl sl ps vs) (e : ExP tl sl H H') (h : NRow tl sl H a row) : NRow tl sl H' a row := by
  obtain ⟨h1, h2, xs, h3, h4⟩ := h
  exact ⟨h1, h2, xs, e _ _ h1 h2 h3, h4.tup (ExP.tups A e)⟩
theorem NRow.ex {tl sl : Addr} {H H' : Hp} {a : Addr} {row : List Nit} (e : Ex H H') (h : NRow tl sl H a row) : NRow tl sl H' a row := by
  obtain ⟨h1, h2, xs, h3, h4⟩ := h
  exact ⟨h1, h2, xs, e _ _ h3, h4.tup fun b ys q => e _ _ q⟩
theorem NtsA.append {H : Hp} {xs ys : List V} {row row2 : List Nit} (h : NtsA H xs row) (h2 : NtsA H ys row2) : NtsA H (xs ++ ys) (row ++ row2) := by
  refine ⟨by rw [List.length_append, List.length_append, h.1, h2.1], fun i x t a b => ?_⟩
  by_cases hi : i < xs.length
  · rw [List.getElem?_append_left hi] at a
    rw [List.getElem?_append_left (by rw [← h.1]; exact hi)] at b
    exact h.2 i x t a b
  · rw [List.getElem?_append_right (by omega)] at a
    rw [List.getElem?_append_right (by rw [← h.1]; omega)] at b
    rw [← h.1] at b
    exact h2.2 _ x t a b
theorem NtsA.one {H : Hp} {x : V} {t : Nit} (h : NtA H t x) : NtsA H [x] [t] := by
  refine ⟨rfl, fun i y u a b => ?_⟩
  have hi : i = 0 := by
    have := (List.getElem?_eq_some_iff.mp a).1
    have e : [x].length = 1 := rfl
    omega
  subst hi
  cases a
  cases b
  exact h
theorem NtsA.nil {H : Hp} : NtsA H [] [] := ⟨rfl, fun i x t a => by simp at a⟩
/-- another thing is changed -/
theorem PcAt.chg {CP p tl sl D : Addr} {H : Hp} {ps : List Pc} {vs : List (List Nat)} {o o' : HO} (h : PcAt CP H p tl sl ps vs) (ho : H D = some o) (t : ∀ xs, o ≠ .tup xs) (ti : ∀ c dx fs, o ≠ .ins c dx fs) (n1 : D ≠ tl) (n2 : D ≠ sl) : PcAt CP (upd H D o') p tl sl ps vs where
  o := by
    obtain ⟨dx, fs, h1, h2⟩ := h.o
    exact ⟨dx, fs, by rw [upd_ne (fun z => by rw [z, ho] at h1; cases h1; exact ti _ _ _ rfl)]; exact h1, h2⟩
  t := by
    obtain ⟨xs, h1, h2, h3⟩ := h.t
    exact ⟨xs, by rw [upd_ne n1.symm]; exact h1, h2, fun i x c a b => (h3 i x c a b).upd ho t⟩
  s := by rw [upd_ne n2.symm]; exact h.s
  v := h.v
  ne := h.ne
/-- what is new changes -/
theorem Gr.chg {CP p tl sl D : Addr} {H H' : Hp} {ps ps' : List Pc} {vs vs' : List (List Nat)} {k : Nat} {o o' : HO} (g : Gr CP H H' p tl sl ps vs k ps' vs') (hD : H D = none) (ho : H' D = some o) (t : ∀ xs, o ≠ .tup xs) (ti : ∀ c dx fs, o ≠ .ins c dx fs) (n1 : D ≠ tl) (n2 : D ≠ sl) : Gr CP H (upd H' D o') p tl sl ps vs k ps' vs' :=
  ⟨fun a u q1 q2 h => by rw [upd_ne (ne_of_none h hD)]; exact g.e a u q1 q2 h, g.a.chg ho t ti n1 n2, g.w, g.z⟩
theorem Gr.new {CP p tl sl D : Addr} {H H' : Hp} {ps ps' : List Pc} {vs vs' : List (List Nat)} {k : Nat} {o : HO} (g : Gr CP H H' p tl sl ps vs k ps' vs') (hD : H' D = none) : Gr CP H (upd H' D o) p tl sl ps vs k ps' vs' := g.ex (Ex.new hD)
/-- the text of a row, told by codes -/
def cwr (row : List Itm) (h : Str → List Nat) : List Nat := row.flatMap fun t => match t with
  | .t s => cds s
  | .r m => h m
theorem cwr_wr (h : Str → Str) : ∀ row : List Itm, cds (wr row h) = cwr row fun m => cds (h m)
  | [] => cds_wr_nil h
  | .t s :: r => by rw [cds_wr_cons, cwr_wr h r]; rfl
  | .r m :: r => by rw [cds_wr_cons, cwr_wr h r]; rfl
theorem cwr_snoc (row : List Itm) (t : Itm) (h : Str → List Nat) : cwr (row ++ [t]) h = cwr row h ++ (match t with | .t s => cds s | .r m => h m) := by
  unfold cwr
  rw [List.flatMap_append]
  show _ ++ (_ ++ []) = _
  rw [List.append_nil]
def sp_Pieces_row_of (CP : Addr) : Sp := fun vs H Q _ => ∃ (p tl sl a : Addr) (ps : List Pc) (vals : List (List Nat)) (row : List Itm), vs = [.ref p, .ref a] ∧ PcAt CP H p tl sl ps vals ∧ RowAt H a row ∧ row.length ≤ 1000 ∧ rowLen row ≤ 100000 ∧ ps.length + row.length < 50000 ∧
  ∀ H' ps' vals' D nrow, Gr CP H H' p tl sl ps vals row.length ps' vals' → H D = none → NRow tl sl H' D nrow → NIn vals'.length nrow → nregs nrow = regsOf row → nrow.length = row.length → (∀ h, nwr vals' nrow h = cwr row h) → Q (.ref D) H'
section
variable {P : Program} {w : World} {K : PySem.W.Frag} {mg : Str → Option Value} {base : Heap} {C CP : Addr} {f : Addr} {fd : FuncData}
theorem ok_Pieces_row_of (F : Fun K "row_of" "Pieces.row_of" s_Pieces_row_of f fd) (Z : Zs mg C) (PC : PcC K CP) {f_Pieces_text : Addr} {fd_Pieces_text : FuncData} (G_Pieces_text : HasM P w K mg base CP "text" 1 f_Pieces_text fd_Pieces_text ["self", "text"] (sp_Pieces_text CP)) : FnOk P w K mg base CX0 2 f fd ["self", "row"] (sp_Pieces_row_of CP) := by
  refine F.ok sc_Pieces_row_of (fun vs H Q E h => ?_) (fun cdv A outer s H vs Q E hr h => ?_)
  · obtain ⟨p, tl, sl, a, ps, vals, row, rfl, _⟩ := h
    rfl
  · obtain ⟨p, tl, sl, a, ps, vals, row, rfl, A0, ⟨xs, hx, hI⟩, hz, hrl, hz2, k⟩ := h
    refine ⟨_, (pss_one (ps_ret (pe_lc (own := [(("item" : Str), 2)]) (g := gName 2) rfl sc_Pieces_row_of.nd (pi_tup (pv 1)) (blkOk_by (own := [(("item" : Str), 2)]) (N := n_Pieces_row_of) (sc := defScope s_Pieces_row_of) (by decide +kernel)) (fun _ _ _ _ _ => (pg_name (i := 2) sc_Pieces_row_of.nd rfl (Or.inl rfl))) (fun _ _ _ _ _ => pts_nil) (fun _ _ _ _ _ => (pe_ifExp (pt_val (pe_callB (cIsi (K := K)) (by rfl) Z.z_isinstance (by decide +kernel) (pa_cons (pv 2) (pa_cons (pe_bltn (by rfl) Z.z_str (by decide +kernel) (show RelV (.ty "str") _ from rfl)) pa_nil)))) (pe_meth (pv 0) G_Pieces_text.cl G_Pieces_text.me G_Pieces_text.ok (hr.mono (by decide)) G_Pieces_text.b .nil pass0 (pa_cons (pv 2) pa_nil)) (pv 2)))))), ?_⟩
    obtain ⟨dx, fs, hp, ft, fz, fo⟩ := A0.o
    show tLc (iTup K (tVar 1)) (gName 2) tYes _ [2] [some (.ref p), some (.ref a), none] H _
    refine lcX_tup (K := K) rfl hx (fun x => rfl) (fun D i H' => H D = none ∧ D ≠ tl ∧ D ≠ sl ∧ ∃ ps' vals' acc nrow, Gr CP H H' p tl sl ps vals i ps' vals' ∧ H' D = some (.lst acc) ∧ acc.length = i ∧ NtsA H' acc nrow ∧ NIn vals'.length nrow ∧ nregs nrow = regsOf (row.take i) ∧ ∀ h, nwr vals' nrow h = cwr (row.take i) h) ?_ ?_ ?_ ?_
    · intro D hD
      obtain ⟨ts, hts, _⟩ := A0.t
      exact ⟨hD, fun z => (by rw [z, hts] at hD; cases hD), fun z => (by rw [z, A0.s] at hD; cases hD), ps, vals, [], [], (Gr.refl A0 0).new hD, upd_same, rfl, NtsA.nil, fun t ht => (by cases ht), rfl, fun h => rfl⟩
    · rintro D i H' ⟨hD, n1, n2, ps', vals', acc, nrow, G, _⟩
      exact ExP.tups A0 G.e _ _ hx
    · rintro D i x H' hxi ⟨hD, n1, n2, ps', vals', acc, nrow, G, hacc, hal, hnt, hin, hrg, hw⟩
      have hil : i < row.length := by rw [← hI.1]; exact (List.getElem?_eq_some_iff.mp hxi).1
      have hti : row[i]? = some row[i] := List.getElem?_eq_getElem hil
      have hit := hI.2 i x _ hxi hti
      have htk : row.take (i + 1) = row.take i ++ [row[i]] := by rw [List.take_succ, hti]; rfl
      have hz3 : tLen row[i] ≤ 100000 := by
        have h1 := rowLen_drop hti
        have : rowLen (row.drop i) ≤ rowLen row := by
          have e := rowLen_app (row.take i) (row.drop i)
          rw [List.take_append_drop] at e
          omega
        omega
      have tup' := ExP.tups A0 G.e
      have gz := G.z
      rw [htk]
      generalize row[i] = t at hit hz3
      cases t with
      | t z =>
        obtain rfl : x = .str z := hit
        show tIf _ _ _ _ _ _
        refine (et_B (ev_isS (ev_var rfl) rfl) : EvT _ _ _ true) H' (Ex.refl _) _ fun H2 e2 => ?_
        rw [if_pos rfl]
        have G2 := G.ex e2
        refine ⟨_, rfl, p, dx, fs, rfl, e2 _ _ (G.e _ _ (fun z => by obtain ⟨ts, hts, _⟩ := A0.t; rw [z, hts] at hp; cases hp) (fun z => by rw [z, A0.s] at hp; cases hp) hp), fo.no (by decide +kernel), _, rfl, ⟨p, tl, sl, ps', vals', z, rfl, G2.a, by omega, hz3, fun H3 G3 => ⟨acc, G3.e _ _ n1 n2 (e2 _ _ hacc), sz_lt (by omega), hD, n1, n2, ps' ++ [.t z], vals' ++ [cds z], acc ++ [.int (vals'.length : Int)], nrow ++ [.n vals'.length], ?_, upd_same, by rw [List.length_append, hal]; rfl, ?_, ?_, ?_, fun h => ?_⟩⟩⟩
        · exact (G2.trans G3).chg hD (G3.e _ _ n1 n2 (e2 _ _ hacc)) (fun _ q => by cases q) (fun _ _ _ q => by cases q) n1 n2
        · have tt : ∀ b ys, H' b = some (.tup ys) → (upd H3 D (.lst (acc ++ [V.int (vals'.length : Int)]))) b = some (.tup ys) := fun b ys hb => by
            rw [upd_ne (fun z => by rw [z, hacc] at hb; cases hb)]
            exact ExP.tups G2.a G3.e _ _ (e2 _ _ hb)
          exact (hnt.tup tt).append (NtsA.one rfl)
        · intro u hu
          rcases List.mem_append.mp hu with hu | hu
          · exact (hin.mono (by rw [List.length_append]; omega)) u hu
          · rw [List.mem_singleton.mp hu]
            show vals'.length < (vals' ++ [cds z]).length
            rw [List.length_append]
            exact Nat.lt_succ_self _
        · rw [nregs_app, hrg, regsOf_append]
          rfl
        · rw [nwr_app, nwr_ext hin, hw, cwr_snoc]
          congr 1
          show vAt (vals' ++ [cds z]) vals'.length ++ [] = cds z
          rw [vAt_last, List.append_nil]
      | r m =>
        obtain ⟨b, rfl, hb⟩ := hit
        show tIf _ _ _ _ _ _
        refine (et_B (ev_isU (b := false) (ev_var rfl) (tup' _ _ hb) rfl) : EvT _ _ _ false) H' (Ex.refl _) _ fun H2 e2 => ?_
        rw [if_neg (by decide)]
        have G2 := G.ex e2
        refine ⟨_, rfl, acc, e2 _ _ hacc, sz_lt (by omega), hD, n1, n2, ps', vals', acc ++ [.ref b], nrow ++ [.r m], ?_, upd_same, by rw [List.length_append, hal]; rfl, ?_, ?_, ?_, fun h => ?_⟩
        · exact (G2.le (Nat.le_succ _)).chg hD (e2 _ _ hacc) (fun _ q => by cases q) (fun _ _ _ q => by cases q) n1 n2
        · have tt : ∀ c ys, H' c = some (.tup ys) → (upd H2 D (.lst (acc ++ [V.ref b]))) c = some (.tup ys) := fun c ys hc => by
            rw [upd_ne (fun z => by rw [z, hacc] at hc; cases hc)]
            exact e2 _ _ hc
          exact (hnt.tup tt).append (NtsA.one ⟨b, rfl, tt _ _ (tup' _ _ hb)⟩)
        · intro u hu
          rcases List.mem_append.mp hu with hu | hu
          · exact hin u hu
          · rw [List.mem_singleton.mp hu]
            trivial
        · rw [nregs_app, hrg, regsOf_append]
          rfl
        · rw [nwr_app, hw, cwr_snoc]
          congr 1
          show h m ++ [] = h m
          rw [List.append_nil]
    · rintro D H' ⟨hD, n1, n2, ps', vals', acc, nrow, G, hacc, hal, hnt, hin, hrg, hw⟩
      rw [hI.1] at G hal hrg hw
      rw [List.take_length] at hrg
      have hlen : nrow.length = row.length := by rw [← hnt.1, hal]
      exact k H' ps' vals' D nrow G hD ⟨n1, n2, acc, hacc, hnt⟩ hin hrg hlen fun h => by rw [hw, List.take_length]
end
end KX
end
section
set_option Elab.async false
set_option linter.all false
set_option maxRecDepth 100000
set_option maxHeartbeats 8000000
/-! Py8: what registers hold behind rows with numbers. -/
namespace KX
open PySem PySem.Spec PyProof.Rows L2 Evl

def NRowsN (tl sl : Addr) (ns : List Str) (R : Str → List Nit) (H : Hp) (d : Addr) : Prop := ∃ l : List (Key × V), Rd H d (.dK l) ∧ l.map (·.1) = ns.map Sum.inr ∧ ∀ n v, (Sum.inr n, v) ∈ l → ∃ a, v = .ref a ∧ NRow tl sl H a (R n)
def numD (ns : List Str) (num : Str → Nat) : List (Key × V) := ns.map fun n => (Sum.inr n, V.int (num n : Int))
theorem numD_at {ns : List Str} {num : Str → Nat} {n : Str} (hn : n ∈ ns) : valV (numD ns num) (.inr n) = some (.int (num n : Int)) := by
  obtain ⟨v, hv, hm⟩ := valV_key (kvs := numD ns num) (k := .inr n) (by unfold numD; rw [List.map_map]; exact List.mem_map.mpr ⟨n, hn, rfl⟩)
  obtain ⟨m, _, e⟩ := List.mem_map.mp hm
  cases e
  exact hv
/-- rows that may be put in: r registers at most -/
structure NOk (ns : List Str) (R : Str → List Nit) (k : Nat) : Prop where
  i : ∀ n ∈ ns, NIn k (R n)
  z : ∀ n ∈ ns, (R n).length ≤ 9
  r : ∀ n ∈ ns, (nregs (R n)).length ≤ 4 ∧ ∀ m ∈ nregs (R n), m ∈ ns
theorem NRowsN.get {tl sl : Addr} {ns : List Str} {R : Str → List Nit} {H : Hp} {d : Addr} (h : NRowsN tl sl ns R H d) {n : Str} (hn : n ∈ ns) : ∃ kvs a, Rd H d (.dK kvs) ∧ valV kvs (.inr n) = some (.ref a) ∧ NRow tl sl H a (R n) := by
  obtain ⟨kvs, h1, h2, h3⟩ := h
  obtain ⟨v, hv, hm⟩ := valV_key (kvs := kvs) (k := .inr n) (by rw [h2]; exact List.mem_map_of_mem hn)
  obtain ⟨a, rfl, hA⟩ := h3 n v hm
  exact ⟨kvs, a, h1, hv, hA⟩
/-- a dict is locked -/
theorem PcAt.lock {CP p tl sl d : Addr} {H : Hp} {ps : List Pc} {vs : List (List Nat)} {l : List (Key × V)} {o : HO} (h : PcAt CP H p tl sl ps vs) (hd : H d = some (.dK l)) : PcAt CP (upd H d o) p tl sl ps vs := by
  obtain ⟨xs, h1, _⟩ := h.t
  exact h.chg hd (fun _ q => by cases q) (fun _ _ _ q => by cases q) (fun z => by rw [z, h1] at hd; cases hd) (fun z => by rw [z, h.s] at hd; cases hd)
theorem NRow.lock {tl sl a d : Addr} {H : Hp} {row : List Nit} {l : List (Key × V)} {o : HO} (h : NRow tl sl H a row) (hd : H d = some (.dK l)) : NRow tl sl (upd H d o) a row := by
  obtain ⟨h1, h2, xs, h3, h4⟩ := h
  refine ⟨h1, h2, xs, by rw [upd_ne (fun z => by rw [z, hd] at h3; cases h3)]; exact h3, h4.tup fun b ys q => by
    rw [upd_ne (fun z => by rw [z, hd] at q; cases q)]
    exact q⟩
theorem NRowsN.lock {tl sl d : Addr} {ns : List Str} {R : Str → List Nit} {H : Hp} {l : List (Key × V)} {od : Obj} (hd : H d = some (.dK l)) (hk : l.map (·.1) = ns.map Sum.inr) (hv : ∀ n v, (Sum.inr n, v) ∈ l → ∃ a, v = .ref a ∧ NRow tl sl H a (R n)) : NRowsN tl sl ns R (upd H d (.frz od (.dK l))) d :=
  ⟨l, .inr ⟨od, upd_same⟩, hk, fun n v hm => by
    obtain ⟨a, h1, h2⟩ := hv n v hm
    exact ⟨a, h1, h2.lock hd⟩⟩
theorem NRowsN.exP {CP p tl sl d : Addr} {ns : List Str} {R : Str → List Nit} {H H' : Hp} {ps : List Pc} {vs : List (List Nat)} (A : PcAt CP H p tl sl ps vs) (e : ExP tl sl H H') (h : NRowsN tl sl ns R H d) : NRowsN tl sl ns R H' d := by
  obtain ⟨l, h1, h2, h3⟩ := h
  obtain ⟨xs, t1, _⟩ := A.t
  refine ⟨l, ?_, h2, fun n v hm => ?_⟩
  · have n1 : d ≠ tl := fun z => by
      rcases h1 with h1 | ⟨o, h1⟩ <;> rw [z, t1] at h1 <;> cases h1
    have n2 : d ≠ sl := fun z => by
      rcases h1 with h1 | ⟨o, h1⟩ <;> rw [z, A.s] at h1 <;> cases h1
    rcases h1 with h1 | ⟨o, h1⟩
    · exact .inl (e _ _ n1 n2 h1)
    · exact .inr ⟨o, e _ _ n1 n2 h1⟩
  · obtain ⟨a, a1, a2⟩ := h3 n v hm
    exact ⟨a, a1, a2.exP A e⟩
/-- locked and unlocked again -/
theorem Gr.unlock {CP p tl sl d : Addr} {H H' : Hp} {ps ps' : List Pc} {vs vs' : List (List Nat)} {k : Nat} {l : List (Key × V)} {od : Obj} (A : PcAt CP H p tl sl ps vs) (hd : H d = some (.dK l)) (g : Gr CP (upd H d (.frz od (.dK l))) H' p tl sl ps vs k ps' vs') (hf : H' d = some (.frz od (.dK l))) : Gr CP H (upd H' d (.dK l)) p tl sl ps vs k ps' vs' := by
  obtain ⟨xs, t1, _⟩ := A.t
  have n1 : d ≠ tl := fun z => by rw [z, t1] at hd; cases hd
  have n2 : d ≠ sl := fun z => by rw [z, A.s] at hd; cases hd
  refine ⟨fun a o q1 q2 h => ?_, g.a.chg hf (fun _ q => by cases q) (fun _ _ _ q => by cases q) n1 n2, g.w, g.z⟩
  by_cases z : a = d
  · subst z
    rw [hd] at h
    cases h
    exact upd_same
  · rw [upd_ne z]
    exact g.e a o q1 q2 (by rw [upd_ne z]; exact h)
def ixN' (num : Str → Nat) : Nit → Nat
  | .n i => i
  | .r m => num m
theorem cvs_ix {vs : List (List Nat)} {num : Str → Nat} : ∀ row : List Nit, cvs vs (row.map (ixN' num)) = nwr vs row fun m => vAt vs (num m)
  | [] => rfl
  | t :: r => by
    have ih := cvs_ix (vs := vs) (num := num) r
    show vAt vs (ixN' num t) ++ cvs vs (r.map (ixN' num)) = nv vs _ t ++ nwr vs r _
    rw [ih]
    cases t <;> rfl
theorem cvs_ext {vs ws : List (List Nat)} : ∀ {ns : List Nat}, (∀ n ∈ ns, n < vs.length) → cvs (vs ++ ws) ns = cvs vs ns
  | [], _ => rfl
  | n :: r, h => by
    show vAt (vs ++ ws) n ++ cvs (vs ++ ws) r = vAt vs n ++ cvs vs r
    rw [vAt_app (h n List.mem_cons_self), cvs_ext (ns := r) fun m hm => h m (List.mem_cons_of_mem _ hm)]
def sp_held_behind (CP : Addr) : Sp := fun vs H Q _ => ∃ (p tl sl d hd : Addr) (ps : List Pc) (vals : List (List Nat)) (ns : List Str) (R : Str → List Nit) (num : Str → Nat) (l : List (Key × V)), vs = [.ref p, .ref d, .ref hd] ∧ PcAt CP H p tl sl ps vals ∧ H d = some (.dK l) ∧ l.map (·.1) = ns.map Sum.inr ∧ (∀ n v, (Sum.inr n, v) ∈ l → ∃ a, v = .ref a ∧ NRow tl sl H a (R n)) ∧
  ns.Nodup ∧ ns.length ≤ 4 ∧ NOk ns R vals.length ∧ H hd = some (.dK (numD ns num)) ∧ (∀ n ∈ ns, num n < vals.length) ∧ ps.length + 200 < 50000 ∧
  ∀ H' ps' vals' dd num', Gr CP H H' p tl sl ps vals 60 ps' vals' → H' dd = some (.dK (numD ns num')) → (∀ n ∈ ns, num' n < vals'.length ∧ vAt vals' (num' n) = nwr vals (R n) fun m => vAt vals (num m)) → Q (.ref dd) H'
theorem lookup_relabel {env : Env} {x : Str} : ∀ {names : List (Str × NameKind)} {k : NameKind}, names.lookup x = some k → (k = .cell ∨ k = .free) →
    (names.map fun (n, k) => if (k == NameKind.free && env.scope.kind == .function && env.kindOf n == some .cell) then (n, NameKind.cell) else (n, k)).lookup x = some .cell ∨ (names.map fun (n, k) => if (k == NameKind.free && env.scope.kind == .function && env.kindOf n == some .cell) then (n, NameKind.cell) else (n, k)).lookup x = some .free
  | [], k, h, _ => by simp at h
  | (n, k') :: r, k, h, hk => by
    have ih := lookup_relabel (env := env) (x := x) (names := r) (k := k)
    simp only [List.map_cons]
    by_cases e : x = n
    · subst e
      have h : some k' = some k := by simpa [List.lookup] using h
      cases h
      split
      · exact .inl (by simp [List.lookup])
      · rcases hk with rfl | rfl
        · exact .inl (by simp [List.lookup])
        · exact .inr (by simp [List.lookup])
    · have e2 : (x == n) = false := by simpa using e
      have h2 : r.lookup x = some k := by simpa [List.lookup, e2] using h
      split <;> simpa [List.lookup, e2] using ih h2 hk
theorem blkOk_in {N : List Str} {SC scope : Scope} {env : Env} {own : List (Str × Nat)} (h : BlkOk N SC scope own) : BlkOk N (relabel SC env) scope own :=
  ⟨h.kind, h.uniq, h.ix, fun y hy e => (h.free y hy e).elim (fun q => lookup_relabel q (.inl rfl)) (fun q => lookup_relabel q (.inr rfl)), h.own⟩
/-- the scope of the comprehension around the inner one -/
abbrev scHB : Scope := { kind := .function, names := [(".0", .local), ("name", .local), ("held", .free), ("rows", .free), ("self", .free)], isGenerator := false, isCoroutine := false }
section
variable {P : Program} {w : World} {K : PySem.W.Frag} {mg : Str → Option Value} {base : Heap} {C CP : Addr} {f : Addr} {fd : FuncData}
theorem ok_held_behind (F : Fun K "held_behind" "Pieces.held_behind" s_Pieces_held_behind f fd) (Z : Zs mg C) (PC : PcC K CP) (G_is_held_pieces : Has P w K mg base "is_held_pieces" 1 ["item"] sp_is_held_p) {f_Pieces_joined : Addr} {fd_Pieces_joined : FuncData} (G_Pieces_joined : HasM P w K mg base CP "joined" 2 f_Pieces_joined fd_Pieces_joined ["self", "numbers"] (sp_Pieces_joined CP)) : FnOk P w K mg base CX0 3 f fd ["self", "rows", "held"] (sp_held_behind CP) := by
  refine F.ok sc_Pieces_held_behind (fun vs H Q E h => ?_) (fun cdv A outer s H vs Q E hr h => ?_)
  · obtain ⟨p, tl, sl, d, hd, ps, vals, ns, R, num, l, rfl, _⟩ := h
    rfl
  · obtain ⟨p, tl, sl, d, hd, ps, vals, ns, R, num, l, rfl, A0, hd0, hlk, hlv, hN, h4, NK, hnum, hnl, hz, k⟩ := h
    have hu := hu_of hr
    have hu0 := Nat.lt_of_succ_lt hu
    refine ⟨_, (pss_one (ps_ret (pe_lock (pe_dp IsNil.k hu0 (own := [(("name" : Str), 3)]) (g := gName 3) rfl sc_Pieces_held_behind.nd (pi_keys (pv 1)) (blkOk_by (own := [(("name" : Str), 3)]) (N := n_Pieces_held_behind) (sc := defScope s_Pieces_held_behind) (by decide +kernel)) (fun _ _ _ _ _ => (pg_name (i := 3) sc_Pieces_held_behind.nd rfl (Or.inl rfl))) (fun _ _ _ _ _ => pts_nil) (fun _ _ _ _ _ => (pv 3)) (fun _ _ _ _ _ => (pe_meth (pv 0) G_Pieces_joined.cl G_Pieces_joined.me G_Pieces_joined.ok (hr.mono (by decide)) G_Pieces_joined.b .nil pass0 (pa_cons (pe_lc (own := [(("item" : Str), 4)]) (g := gName 4) rfl sc_Pieces_held_behind.nd (pi_listK (K := K) (pe_dget hu (pv 1) (pv 3) (fun _ _ => rfl))) (blkOk_in (blkOk_by (own := [(("item" : Str), 4)]) (N := n_Pieces_held_behind) (sc := scHB) (by decide +kernel))) (fun _ _ _ _ _ => (pg_name (i := 4) sc_Pieces_held_behind.nd rfl (Or.inl rfl))) (fun _ _ _ _ _ => pts_nil) (fun _ _ _ _ _ => (pe_ifExp (pt_val (pe_use G_is_held_pieces (hr.mono (by decide)) (pa_cons (pv 4) pa_nil))) (pe_dget hu (pv 2) (pe_ix (ixT (K := K)) (pv 4) pe_int (fun _ _ => rfl)) (fun _ _ => rfl)) (pv 4)))) pa_nil))))))), ?_⟩
    obtain ⟨dx, fs, hp, ft, fz, fo⟩ := A0.o
    have pd : p ≠ d := fun z => by rw [z, hd0] at hp; cases hp
    show tLockE _ _ H _
    refine ⟨d, .dK l, hd0, trivial, fun od => ?_⟩
    have A1 : PcAt CP (upd H d (.frz od (.dK l))) p tl sl ps vals := A0.lock hd0
    have NR1 : NRowsN tl sl ns R (upd H d (.frz od (.dK l))) d := NRowsN.lock hd0 hlk hlv
    have hnum1 : Rd (upd H d (.frz od (.dK l))) hd (.dK (numD ns num)) := by
      by_cases z : hd = d
      · subst z
        rw [hd0] at hnum
        cases hnum
        exact .inr ⟨od, upd_same⟩
      · exact .inl (by rw [upd_ne z]; exact hnum)
    have hp1 : (upd H d (.frz od (.dK l))) p = some (.ins CP dx fs) := by rw [upd_ne pd]; exact hp
    have hd1 : (upd H d (.frz od (.dK l))) d = some (.frz od (.dK l)) := upd_same
    have unl : ∀ H' ps' vals' kk, Gr CP (upd H d (.frz od (.dK l))) H' p tl sl ps vals kk ps' vals' → H' d = some (.frz od (.dK l)) → Gr CP H (upd H' d (.dK l)) p tl sl ps vals kk ps' vals' := fun H' ps' vals' kk g hf => Gr.unlock A0 hd0 g hf
    clear hlv hp hnum
    generalize upd H d (.frz od (.dK l)) = H1 at A1 NR1 hnum1 hp1 hd1 unl ⊢
    obtain ⟨ts, t1, _⟩ := A1.t
    have ntl : ∀ {D : Addr}, H1 D = none → D ≠ tl ∧ D ≠ sl := fun {D} hD => ⟨fun z => (by rw [z, t1] at hD; cases hD), fun z => (by rw [z, A1.s] at hD; cases hD)⟩
    have n1 : d ≠ tl := fun z => by rw [z, t1] at hd1; cases hd1
    have n2 : d ≠ sl := fun z => by rw [z, A1.s] at hd1; cases hd1
    show tDp (.dK []) (iKeys (tVar 1)) (gName 3) tYes (tVar 3) _ [3] [some (.ref p), some (.ref d), some (.ref hd), none, none] H1 _
    refine dpX_keys (ns := ns) rfl hd1 hlk (fun x => rfl) (fun x => rfl) (fun D i H' => H1 D = none ∧ ∃ ps' vals' nf, Gr CP H1 H' p tl sl ps vals (15 * i) ps' vals' ∧ H' D = some (.dK (numD (ns.take i) nf)) ∧ ∀ n ∈ ns.take i, nf n < vals'.length ∧ vAt vals' (nf n) = nwr vals (R n) fun m => vAt vals (num m)) ?_ ?_ ?_ ?_
    · intro D hD
      exact ⟨hD, ps, vals, fun _ => 0, (Gr.refl A1 0).new hD, upd_same, fun n hn => by simp at hn⟩
    · rintro D i H' ⟨hD, ps', vals', nf, G, hDd, hnf⟩
      exact G.e _ _ n1 n2 hd1
    · rintro D i n H' hin ⟨hD, ps', vals', nf, G, hDd, hnf⟩
      have hnm := List.mem_of_getElem? hin
      obtain ⟨m1, m2⟩ := ntl hD
      have hil : i < ns.length := (List.getElem?_eq_some_iff.mp hin).1
      have htk : ns.take (i + 1) = ns.take i ++ [n] := by rw [List.take_succ, hin]; rfl
      have gz := G.z
      have tups := ExP.tups A1 G.e
      have NR2 := NR1.exP A1 G.e
      obtain ⟨kvs, a, q1, q2, q3, q4, xs, q5, q6⟩ := NR2.get hnm
      have hnum2 : Rd H' hd (.dK (numD ns num)) := by
        have k1 : hd ≠ tl := fun z => by rcases hnum1 with h | ⟨o, h⟩ <;> rw [z, t1] at h <;> cases h
        have k2 : hd ≠ sl := fun z => by rcases hnum1 with h | ⟨o, h⟩ <;> rw [z, A1.s] at h <;> cases h
        rcases hnum1 with h | ⟨o, h⟩
        · exact .inl (G.e _ _ k1 k2 h)
        · exact .inr ⟨o, G.e _ _ k1 k2 h⟩
      have hp2 : H' p = some (.ins CP dx fs) := G.e _ _ (fun z => by rw [z, t1] at hp1; cases hp1) (fun z => by rw [z, A1.s] at hp1; cases hp1) hp1
      have z9 := NK.z n hnm
      show tMeth CP "joined" _ _ _ _ _ [some (.ref p), some (.ref d), some (.ref hd), some (.str n), none] H' _
      refine ⟨_, rfl, p, dx, fs, rfl, hp2, fo.no (by decide +kernel), ?_⟩
      have inner : EvL (tLc (iList K (tDGet (tVar 1) (tVar 3))) (gName 4) tYes (tIf (tB (tCall sp_is_held_p [] E0 (tCons (tVar 4) tNil))) (tDGet (tVar 2) (tOp (rIxT K) (tVar 4) (tC (.int 0)))) (tVar 4)) [4]) [some (.ref p), some (.ref d), some (.ref hd), some (.str n), none] H' (((R n).map (ixN' num)).map fun i : Nat => V.int (i : Int)) := by
        refine el_lcW (src_list (K := K) (ev_get (k := .inr n) (ev_var rfl) (ev_var rfl) rfl q1 q2) (sq_of q5)) (by have := q6.1; omega) (fun x => rfl) _ (by rw [List.length_map, List.length_map]; exact q6.1.symm) ?_
        intro i x y H3 e3 hy hx
        rw [List.getElem?_map, List.getElem?_map] at hy
        have hxi : i < (R n).length := by rw [← q6.1]; exact (List.getElem?_eq_some_iff.mp hx).1
        have hti : (R n)[i]? = some (R n)[i] := List.getElem?_eq_getElem hxi
        have hnt := q6.2 i x _ hx hti
        rw [hti] at hy
        have hmem : (R n)[i] ∈ R n := List.getElem_mem hxi
        generalize (R n)[i] = t at hnt hy hmem
        cases t with
        | n i0 =>
          obtain rfl : x = .int (i0 : Int) := hnt
          obtain rfl : V.int (i0 : Int) = y := Option.some.inj hy
          exact Ev.of ((ep_if (b := false) (et_B (ev_use (ea_cons (ev_var rfl) ea_nil) (spE_V (.int (i0 : Int)) (fun _ _ => ⟨rfl, .inl ⟨_, rfl⟩⟩) fun v _ p => p))) (fun z => by cases z) (fun _ => EvP.of (ev_var rfl))))
        | r m =>
          obtain ⟨b, rfl, hb⟩ := hnt
          obtain rfl : V.int ((num m : Nat) : Int) = y := Option.some.inj hy
          have hmr : m ∈ ns := (NK.r n hnm).2 m (List.mem_filterMap.mpr ⟨.r m, hmem, rfl⟩)
          exact Ev.of ((ep_if (b := true) (et_B (ev_use (ea_cons (ev_var rfl) ea_nil) (spE_V (.ref b) (fun _ e => ⟨rfl, .inr ⟨b, m, rfl, e _ _ (e3 _ _ hb)⟩⟩) fun v _ p => p))) (fun _ => EvP.of (ev_get (k := .inr m) (ev_var rfl) (ev_ixU (K := K) (i := 0) (ev_var rfl) ev_c (e3 _ _ hb) rfl) rfl (ex_rd e3 hnum2) (numD_at hmr))) (fun z => by cases z)))
      refine inner H' (Ex.refl _) _ fun D2 H2 hD2 e2 h2 => ?_
      have G2 := G.ex e2
      have r2 : D2 ≠ tl ∧ D2 ≠ sl := by
        obtain ⟨xs2, t2, _⟩ := G.a.t
        exact ⟨fun z => (by rw [z, t2] at hD2; cases hD2), fun z => (by rw [z, G.a.s] at hD2; cases hD2)⟩
      have ixok : ∀ q ∈ (R n).map (ixN' num), q < vals'.length := fun q hq => by
        obtain ⟨t, ht, rfl⟩ := List.mem_map.mp hq
        have hi := NK.i n hnm t ht
        cases t with
        | n i0 => exact Nat.lt_of_lt_of_le hi G.len
        | r m => exact Nat.lt_of_lt_of_le (hnl m ((NK.r n hnm).2 m (List.mem_filterMap.mpr ⟨.r m, ht, rfl⟩))) G.len
      refine ⟨p, tl, sl, D2, ps', vals', (R n).map (ixN' num), rfl, G2.a, h2, r2.1, r2.2, ixok, by rw [List.length_map]; omega, fun H3 ps3 vals3 kk G3 hkk hkv => ?_⟩
      have h3D := G3.e _ _ m1 m2 (e2 _ _ hDd)
      refine dpX_put hN hin (by omega) (by unfold numD; rw [List.map_map]; rfl) h3D ⟨hD, ps3, vals3, fun x => if x = n then kk else nf x, ?_, ?_, fun x hx => ?_⟩
      · refine ((G2.trans G3).le ?_).chg hD h3D (fun _ q => by cases q) (fun _ _ _ q => by cases q) m1 m2
        rw [List.length_map]
        omega
      · rw [upd_same, htk]
        unfold numD
        rw [List.map_append]
        congr 3
        · refine List.map_congr_left fun x hx => ?_
          have : x ≠ n := fun z => by
            subst z
            obtain ⟨q, hq⟩ := List.mem_iff_getElem?.mp hx
            have hql : q < i := by
              have := (List.getElem?_eq_some_iff.mp hq).1
              rw [List.length_take] at this
              omega
            rw [List.getElem?_take_of_lt hql] at hq
            have := nodup_ix' hN hq hin
            omega
          show _ = (Sum.inr x, V.int ((if x = n then kk else nf x : Nat) : Int))
          rw [if_neg this]
        · show _ = [(Sum.inr n, V.int ((if n = n then kk else nf n : Nat) : Int))]
          rw [if_pos rfl]
      · by_cases e : x = n
        · subst e
          show (if x = x then kk else nf x) < vals3.length ∧ vAt vals3 (if x = x then kk else nf x) = _
          rw [if_pos rfl]
          refine ⟨hkk, ?_⟩
          rw [hkv]
          obtain ⟨ws, ew⟩ := G.w
          rw [ew, cvs_ext (fun q hq => ?_), cvs_ix]
          obtain ⟨t, ht, rfl⟩ := List.mem_map.mp hq
          have hi := NK.i x hnm t ht
          cases t with
          | n i0 => exact hi
          | r m => exact hnl m ((NK.r x hnm).2 m (List.mem_filterMap.mpr ⟨.r m, ht, rfl⟩))
        · show (if x = n then kk else nf x) < vals3.length ∧ vAt vals3 (if x = n then kk else nf x) = _
          rw [if_neg e]
          rw [htk] at hx
          obtain ⟨f1, f2⟩ := hnf x ((List.mem_append.mp hx).resolve_right fun z => e (List.mem_singleton.mp z))
          exact ⟨Nat.lt_of_lt_of_le f1 G3.len, by rw [G3.at f1]; exact f2⟩
    · rintro D H' ⟨hD, ps', vals', nf, G, hDd, hnf⟩
      rw [List.take_length] at hDd hnf
      have hf := G.e _ _ n1 n2 hd1
      have hDne : D ≠ d := fun z => by rw [z, hd1] at hD; cases hD
      exact ⟨hf, k _ ps' vals' D nf (unl H' ps' vals' 60 (G.le (by omega)) hf) (by rw [upd_ne hDne]; exact hDd) hnf⟩
end
end KX
end
section
set_option Elab.async false
set_option linter.all false
set_option maxRecDepth 100000
set_option maxHeartbeats 8000000
/-! Py9: rows with numbers put into rows with numbers. -/
namespace KX
open PySem PySem.Spec PyProof.Rows L2 Evl

def nprt (R : Str → List Nit) : Nit → List Nit
  | .n i => [.n i]
  | .r m => R m
def nparts (R : Str → List Nit) (row : List Nit) : List Nit := row.flatMap (nprt R)
theorem nparts_wr (vs : List (List Nat)) (R : Str → List Nit) (h : Str → List Nat) : ∀ row : List Nit, nwr vs (nparts R row) h = nwr vs row fun m => nwr vs (R m) h
  | [] => rfl
  | t :: r => by
    have e : nparts R (t :: r) = nprt R t ++ nparts R r := rfl
    rw [e, nwr_app, nparts_wr vs R h r]
    cases t with
    | n i =>
      show (vAt vs i ++ []) ++ _ = vAt vs i ++ _
      rw [List.append_nil]
      rfl
    | r m => rfl
theorem nparts_regs (R : Str → List Nit) : ∀ row : List Nit, nregs (nparts R row) = (nregs row).flatMap fun m => nregs (R m)
  | [] => rfl
  | t :: r => by
    have e : nparts R (t :: r) = nprt R t ++ nparts R r := rfl
    rw [e, nregs_app, nparts_regs R r]
    cases t with
    | n i => rfl
    | r m => rfl
theorem nparts_snoc (R : Str → List Nit) (row : List Nit) (t : Nit) : nparts R (row ++ [t]) = nparts R row ++ nprt R t := by
  unfold nparts
  rw [List.flatMap_append]
  show _ ++ (nprt R t ++ []) = _
  rw [List.append_nil]
theorem nparts_len (R : Str → List Nit) (hR : ∀ m, (R m).length ≤ 9) : ∀ row : List Nit, (nparts R row).length ≤ row.length + 9 * (nregs row).length
  | [] => Nat.zero_le _
  | t :: r => by
    have e : nparts R (t :: r) = nprt R t ++ nparts R r := rfl
    have ih := nparts_len R hR r
    rw [e, List.length_append]
    cases t with
    | n i =>
      have e2 : nregs (.n i :: r) = nregs r := rfl
      have e3 : (nprt R (.n i)).length = 1 := rfl
      have e4 : (Nit.n i :: r).length = r.length + 1 := rfl
      rw [e2]
      omega
    | r m =>
      have e2 : nregs (.r m :: r) = m :: nregs r := rfl
      have e3 : (nprt R (.r m)).length = (R m).length := rfl
      have e4 : (Nit.r m :: r).length = r.length + 1 := rfl
      have e5 : (m :: nregs r).length = (nregs r).length + 1 := rfl
      have := hR m
      rw [e2]
      omega
/-- how far: P put in, frow found, nums wait -/
structure WI (e : Nat) (vs : List (List Nat)) (frow : List Nit) (nums : List Nat) (P : List Nit) : Prop where
  i : NIn vs.length frow
  n : ∀ k ∈ nums, k < vs.length
  r : nregs frow = nregs P
  z : frow.length ≤ 2 * (nregs frow).length + e
  l : nums.length ≤ P.length
  w : ∀ h, nwr vs frow h ++ cvs vs nums = nwr vs P h
theorem WI.ext {e : Nat} {vs ws : List (List Nat)} {frow : List Nit} {nums : List Nat} {P : List Nit} (hP : NIn vs.length P) (h : WI e vs frow nums P) : WI e (vs ++ ws) frow nums P where
  i := h.i.mono (by rw [List.length_append]; omega)
  n := fun k hk => by have := h.n k hk; rw [List.length_append]; omega
  r := h.r
  z := h.z
  l := h.l
  w := fun q => by rw [nwr_ext h.i, cvs_ext h.n, nwr_ext hP]; exact h.w q
/-- the truth of a list at a slot -/
abbrev tTruL (K : PySem.W.Frag) (i : Nat) : TT := fun σ H Q => tVar i σ H fun x H' => ∃ k, TruV K x H' k ∧ Q k H'
def sp_within (CP : Addr) : Sp := fun vs H Q _ => ∃ (p tl sl a d : Addr) (ps : List Pc) (vals : List (List Nat)) (row : List Nit) (ns : List Str) (R : Str → List Nit), vs = [.ref p, .ref a, .ref d] ∧ PcAt CP H p tl sl ps vals ∧ NRow tl sl H a row ∧ NRowsN tl sl ns R H d ∧ NIn vals.length row ∧ row.length ≤ 9 ∧ (nregs row).length ≤ 4 ∧ (∀ m ∈ nregs row, m ∈ ns) ∧ NOk ns R vals.length ∧ ps.length + 200 < 50000 ∧
  ∀ H' ps' vals' D nrow, Gr CP H H' p tl sl ps vals 100 ps' vals' → H D = none → NRow tl sl H' D nrow → NIn vals'.length nrow → nregs nrow = ((nregs row).flatMap fun m => nregs (R m)) → nrow.length ≤ 2 * (nregs nrow).length + 1 → (∀ h, nwr vals' nrow h = nwr vals row fun m => nwr vals (R m) h) → Q (.ref D) H'
section
variable {K : PySem.W.Frag} {CP : Addr}
/-- found.extend([self.joined(numbers)] if numbers else []) -/
theorem s_flush {σ : L2.St} {H0 H : Hp} {D : Ends} {p tl sl fl nl : Addr} {ps ps' : List Pc} {vals vals' : List (List Nat)} {kk : Nat} {facc : List V} {frow : List Nit} {nums : List Nat} {P : List Nit}
    (v0 : σ[0]? = some (some (.ref p))) (v3 : σ[3]? = some (some (.ref fl))) (v4 : σ[4]? = some (some (.ref nl)))
    (G : Gr CP H0 H p tl sl ps vals kk ps' vals') (hf0 : H0 fl = none) (hf : H fl = some (.lst facc)) (f1 : fl ≠ tl) (f2 : fl ≠ sl) (fn : fl ≠ nl) (hn : H nl = some (.lst (nums.map fun n : Nat => V.int (n : Int)))) (n1 : nl ≠ tl) (n2 : nl ≠ sl)
    (hnt : NtsA H facc frow) (WI0 : WI 0 vals' frow nums P) (hP : NIn vals'.length P) (hz : ps'.length + nums.length + 1 < 50000) (hfl : facc.length ≤ 1000)
    (k : ∀ H2 ps2 vals2 facc2 frow2, Gr CP H0 H2 p tl sl ps vals (kk + nums.length + 1) ps2 vals2 → (ps2.length ≤ ps'.length + nums.length + 1) → (∃ ws, vals2 = vals' ++ ws) → H2 fl = some (.lst facc2) → NtsA H2 facc2 frow2 → WI 1 vals2 frow2 [] P → (nums = [] → frow2 = frow) → frow2.length ≤ frow.length + 1 →
      (∀ a o, a ≠ tl → a ≠ sl → a ≠ fl → H a = some o → H2 a = some o) → D.nx σ H2) :
    tDrop (tBM K "list" rExtend (tVar 3) (tCons (tIf (tTruL K 4) (tLst (tCons (tMeth CP "joined" (sp_Pieces_joined CP) [] E0 (tVar 0) (tCons (tVar 4) tNil)) tNil)) (tLst tNil)) tNil)) D σ H := by
  refine ⟨_, v3, .inl ⟨rfl, facc, sq_of hf⟩, ?_⟩
  obtain ⟨dx, fs, hp, ft, fz, fo⟩ := G.a.o
  show tIf _ _ _ _ _ _
  refine ⟨_, v4, _, .inl ⟨_, sq_of hn, rfl⟩, ?_⟩
  obtain ⟨xs, t1, _⟩ := G.a.t
  cases nums with
  | nil =>
    rw [if_neg (by simp)]
    refine ⟨Nat.zero_le _, fun z hz0 => ⟨fl, z, facc, [], rfl, rfl, ?_, upd_same, by rw [List.length_nil]; exact sz_of (by omega), ?_⟩⟩
    · rw [upd_ne (fun q => by rw [q, hz0] at hf; cases hf)]
      exact hf
    · rw [List.append_nil]
      have ztl : z ≠ tl := fun q => by rw [q, t1] at hz0; cases hz0
      have e0 : Ex H (upd H z (.lst [])) := Ex.new hz0
      have hf2 : (upd H z (.lst [])) fl = some (.lst facc) := e0 _ _ hf
      have e1 : Ex H (upd (upd H z (.lst [])) fl (.lst facc)) := by
        rw [upd_self hf2]
        exact e0
      exact k _ ps' vals' facc frow ((G.ex e1).le (by omega)) (by omega) ⟨[], (List.append_nil _).symm⟩ (e1 _ _ hf) (hnt.tup fun b ys q => e1 _ _ q) ⟨WI0.i, WI0.n, WI0.r, Nat.le_succ_of_le WI0.z, WI0.l, WI0.w⟩ (fun _ => rfl) (Nat.le_succ _) (fun a o _ _ _ h => e1 _ _ h)
  | cons n0 r0 =>
    rw [if_pos (by simp)]
    show tMeth CP "joined" _ _ _ _ _ σ H _
    refine ⟨_, v0, p, dx, fs, rfl, hp, fo.no (by decide +kernel), _, v4, ⟨p, tl, sl, nl, ps', vals', n0 :: r0, rfl, G.a, hn, n1, n2, WI0.n, by omega, fun H2 ps2 vals2 q G2 hq hqv => ?_⟩⟩
    refine ⟨by show 1 ≤ sizeLine; decide, fun z hz0 => ⟨fl, z, facc, [.int (q : Int)], rfl, rfl, ?_, upd_same, sz_of (by rw [List.length_singleton]; omega), ?_⟩⟩
    · rw [upd_ne (fun q => by
        have := G2.e _ _ f1 f2 hf
        rw [q, hz0] at this
        cases this)]
      exact G2.e _ _ f1 f2 hf
    · have e0 : Ex H2 (upd H2 z (.lst [.int (q : Int)])) := Ex.new hz0
      have hf2 : (upd H2 z (.lst [.int (q : Int)])) fl = some (.lst facc) := e0 _ _ (G2.e _ _ f1 f2 hf)
      have tt : ∀ b ys, H b = some (.tup ys) → (upd (upd H2 z (.lst [.int (q : Int)])) fl (.lst (facc ++ [.int (q : Int)]))) b = some (.tup ys) := fun b ys hb => by
        rw [upd_ne (fun w => by rw [w, hf] at hb; cases hb)]
        exact e0 _ _ (ExP.tups G.a G2.e _ _ hb)
      obtain ⟨ws, ew⟩ := G2.w
      have WI2 : WI 0 vals2 frow (n0 :: r0) P := by
        rw [ew]
        exact WI0.ext hP
      refine k _ ps2 vals2 (facc ++ [.int (q : Int)]) (frow ++ [.n q]) ?_ (by have := G2.z; exact this) ⟨ws, ew⟩ upd_same ((hnt.tup tt).append (NtsA.one (t := .n q) rfl)) ⟨?_, fun k hk => (by cases hk), ?_, ?_, Nat.zero_le _, fun h => ?_⟩ (fun z => by cases z) (by rw [List.length_append]; exact Nat.le_refl _) ?_
      · exact (((G.trans G2).ex e0).chg hf0 hf2 (fun _ q => by cases q) (fun _ _ _ q => by cases q) f1 f2).le (by omega)
      · intro t ht
        rcases List.mem_append.mp ht with ht | ht
        · exact WI2.i t ht
        · rw [List.mem_singleton.mp ht]
          exact hq
      · rw [nregs_app, ← WI2.r]
        show nregs frow ++ [] = _
        rw [List.append_nil]
      · have := WI2.z
        rw [List.length_append, nregs_app]
        show frow.length + 1 ≤ 2 * (nregs frow ++ []).length + 1
        rw [List.append_nil]
        omega
      · have e1 : cvs vals2 (n0 :: r0) = cvs vals' (n0 :: r0) := by
          rw [ew]
          exact cvs_ext WI0.n
        rw [nwr_app, ← WI2.w h, e1, ← hqv]
        show _ ++ (vAt vals2 q ++ []) ++ [] = _
        rw [List.append_nil, List.append_nil]
      · intro a o q1 q2 q3 h
        rw [upd_ne q3]
        exact e0 _ _ (G2.e _ _ q1 q2 h)
end
end KX
end
section
set_option Elab.async false
set_option linter.all false
set_option maxRecDepth 100000
set_option maxHeartbeats 8000000
/-! Py10: within, twice. -/
namespace KX
open PySem PySem.Spec PyProof.Rows L2 Evl

structure WS (CP : Addr) (H H' : Hp) (p tl sl fl nl : Addr) (ps : List Pc) (vals : List (List Nat)) (P : List Nit) (facc : List V) (frow : List Nit) (nums : List Nat) (ps' : List Pc) (vals' : List (List Nat)) : Prop where
  nn : H nl = none
  fn : fl ≠ nl
  n1 : nl ≠ tl
  n2 : nl ≠ sl
  g : Gr CP H H' p tl sl ps vals (2 * P.length) ps' vals'
  b : ps'.length + nums.length ≤ ps.length + 2 * P.length
  f : H' fl = some (.lst facc)
  n : H' nl = some (.lst (nums.map fun n : Nat => V.int (n : Int)))
  t : NtsA H' facc frow
  w : WI 0 vals' frow nums P
theorem WS.ex {CP : Addr} {H H' H'' : Hp} {p tl sl fl nl : Addr} {ps : List Pc} {vals : List (List Nat)} {P : List Nit} {facc : List V} {frow : List Nit} {nums : List Nat} {ps' : List Pc} {vals' : List (List Nat)} (e : Ex H' H'') (h : WS CP H H' p tl sl fl nl ps vals P facc frow nums ps' vals') : WS CP H H'' p tl sl fl nl ps vals P facc frow nums ps' vals' :=
  ⟨h.nn, h.fn, h.n1, h.n2, h.g.ex e, h.b, e _ _ h.f, e _ _ h.n, h.t.tup fun b ys q => e _ _ q, h.w⟩
theorem nregs_len (row : List Nit) : (nregs row).length ≤ row.length := List.length_filterMap_le _ _

/-- what is put in next -/
abbrev tsItem (K : PySem.W.Frag) (CP : Addr) : TS := tIfS (tB (tCall sp_is_held_p [] E0 (tCons (tVar 6) tNil))) (tSeq (tDrop (tBM K "list" rExtend (tVar 3) (tCons (tIf (tTruL K 4) (tLst (tCons (tMeth CP "joined" (sp_Pieces_joined CP) [] E0 (tVar 0) (tCons (tVar 4) tNil)) tNil)) (tLst tNil)) tNil))) (tSeq (tAsg (tLst tNil) (gName 4)) (tDrop (tBM K "list" rAppend (tVar 3) (tCons (tVar 6) tNil))))) (tDrop (tBM K "list" rAppend (tVar 4) (tCons (tVar 6) tNil)))
theorem w_item {K : PySem.W.Frag} {CP p tl sl fl nl a d : Addr} {H H1 : Hp} {ps ps' : List Pc} {vals vals' : List (List Nat)} {P0 : List Nit} {facc : List V} {frow : List Nit} {nums : List Nat} {it : Nit} {y : V} {v5 : Option V} {D : Ends}
    (S : WS CP H H1 p tl sl fl nl ps vals P0 facc frow nums ps' vals') (hfl0 : H fl = none) (f1 : fl ≠ tl) (f2 : fl ≠ sl) (hy : NtA H1 it y) (hin : NIn vals.length (P0 ++ [it])) (hle : (P0 ++ [it]).length ≤ 45) (hz : ps.length + 200 < 50000)
    (k : ∀ nl2 facc2 frow2 nums2 ps2 vals2 H2, WS CP H H2 p tl sl fl nl2 ps vals (P0 ++ [it]) facc2 frow2 nums2 ps2 vals2 → (∀ q xs, q ≠ tl → q ≠ sl → q ≠ fl → q ≠ nl → H1 q = some (.lst xs) → H2 q = some (.lst xs) ∧ q ≠ nl2) → (∀ b ys, H1 b = some (.tup ys) → H2 b = some (.tup ys)) → D.nx [some (.ref p), some (.ref a), some (.ref d), some (.ref fl), some (.ref nl2), v5, some y] H2) :
    tsItem K CP D [some (.ref p), some (.ref a), some (.ref d), some (.ref fl), some (.ref nl), v5, some y] H1 := by
  rw [List.length_append] at hle
  have e1 : [it].length = 1 := rfl
  have hP : NIn vals.length P0 := fun t ht => hin t (List.mem_append_left _ ht)
  have hlen := S.g.len
  have hfz : facc.length ≤ 90 := by
    have h1 := S.t.1
    have h2 := S.w.z
    have h3 : (nregs frow).length ≤ P0.length := by rw [S.w.r]; exact nregs_len P0
    omega
  have hwl := S.w.l
  have hb := S.b
  cases it with
  | n i =>
    obtain rfl : y = .int (i : Int) := hy
    have hi : i < vals'.length := Nat.lt_of_lt_of_le (hin (.n i) (List.mem_append_right _ (by simp))) hlen
    refine s_if (b := false) (et_B (ev_use (ea_cons (ev_var rfl) ea_nil) (spE_V (.int (i : Int)) (fun _ _ => ⟨rfl, .inl ⟨_, rfl⟩⟩) fun v _ p => p))) (fun z => by cases z) fun _ H2 e2 => ?_
    refine s_app (e2 _ _ S.n) (ev_var rfl) (ev_var rfl) (by rw [List.length_map]; omega) fun H3 e3 => ?_
    have S3 := S.ex (e2.trans e3)
    have hnl3 := S3.n
    refine k nl facc frow (nums ++ [i]) ps' vals' _ ⟨S.nn, S.fn, S.n1, S.n2, ?_, ?_, ?_, ?_, ?_, ⟨S.w.i, ?_, ?_, S.w.z, ?_, ?_⟩⟩ ?_ ?_
    · exact (S3.g.le (by rw [List.length_append]; omega)).chg S.nn hnl3 (fun _ q => by cases q) (fun _ _ _ q => by cases q) S.n1 S.n2
    · rw [List.length_append, List.length_append, e1]
      show ps'.length + (nums.length + 1) ≤ _
      omega
    · rw [upd_ne S.fn]
      exact S3.f
    · rw [upd_same, List.map_append]
      rfl
    · exact S3.t.tup fun b ys q => by
        rw [upd_ne (fun z => by rw [z, hnl3] at q; cases q)]
        exact q
    · intro q hq
      rcases List.mem_append.mp hq with hq | hq
      · exact S.w.n q hq
      · rw [List.mem_singleton.mp hq]
        exact hi
    · rw [nregs_app, ← S.w.r]
      show _ = nregs frow ++ []
      rw [List.append_nil]
    · rw [List.length_append, List.length_append]
      exact Nat.add_le_add_right hwl 1
    · intro h
      rw [cvs_snoc, ← List.append_assoc, S.w.w h, nwr_app]
      show _ = _ ++ (vAt vals' i ++ [])
      rw [List.append_nil]
    · intro q xs q1 q2 q3 q4 hq
      exact ⟨by rw [upd_ne q4]; exact (e2.trans e3) _ _ hq, q4⟩
    · intro b ys hq
      have := (e2.trans e3) _ _ hq
      rw [upd_ne (fun z => by rw [z, hnl3] at this; cases this)]
      exact this
  | r m =>
    obtain ⟨b0, rfl, hb0⟩ := hy
    refine s_if (b := true) (et_B (ev_use (ea_cons (ev_var rfl) ea_nil) (spE_V (.ref b0) (fun _ e => ⟨rfl, .inr ⟨b0, m, rfl, e _ _ hb0⟩⟩) fun v _ p => p))) (fun _ H2 e2 => ?_) (fun z => by cases z)
    have S2 := S.ex e2
    have hPv : NIn vals'.length P0 := hP.mono hlen
    refine s_flush (D := { D with nx := tSeq (tAsg (tLst tNil) (gName 4)) (tDrop (tBM K "list" rAppend (tVar 3) (tCons (tVar 6) tNil))) D }) rfl rfl rfl S2.g hfl0 S2.f f1 f2 S.fn S2.n S.n1 S.n2 S2.t S.w hPv (by omega) (by omega) fun H3 ps3 vals3 facc3 frow3 G3 hg3 hw3 hf3 ht3 W3 hnn hfl3 hkeep => ?_
    show (tSeq _ _) D _ H3
    refine q_asgL (el_lst ea_nil (Nat.zero_le _)) fun nl2 H4 hnl2 e4 h4 => ?_
    have flnl2 : fl ≠ nl2 := fun z => by rw [← z, hf3] at hnl2; cases hnl2
    obtain ⟨xt, t1, _⟩ := G3.a.t
    have n1 : nl2 ≠ tl := fun z => by rw [z, t1] at hnl2; cases hnl2
    have n2 : nl2 ≠ sl := fun z => by rw [z, G3.a.s] at hnl2; cases hnl2
    have hf3l : facc3.length = frow3.length := ht3.1
    have hfr : frow.length ≤ 90 := by rw [← S.t.1]; exact hfz
    refine s_app (v := .ref b0) (e4 _ _ hf3) (ev_var rfl) (ev_var rfl) (by omega) fun H5 e5 => ?_
    have hnl2H : H nl2 = none := by
      cases hq : H nl2 with
      | none => rfl
      | some o =>
        rw [G3.e _ _ n1 n2 hq] at hnl2
        cases hnl2
    have E : Ex H3 H5 := e4.trans e5
    have hf5 := E _ _ hf3
    have tt : ∀ b ys, H3 b = some (.tup ys) → (upd H5 fl (.lst (facc3 ++ [V.ref b0]))) b = some (.tup ys) := fun b ys hb => by
      have := E _ _ hb
      rw [upd_ne (fun w => by rw [w, hf5] at this; cases this)]
      exact this
    have tups : ∀ b ys, H2 b = some (.tup ys) → H3 b = some (.tup ys) := fun b ys hb => by
      obtain ⟨xs2, t2, _⟩ := S2.g.a.t
      exact hkeep _ _ (fun z => by rw [z, t2] at hb; cases hb) (fun z => by rw [z, S2.g.a.s] at hb; cases hb) (fun z => by rw [z, S2.f] at hb; cases hb) hb
    have hvv : NIn vals3.length (P0 ++ [.r m]) := hin.mono G3.len
    refine k nl2 (facc3 ++ [.ref b0]) (frow3 ++ [.r m]) [] ps3 vals3 _ ⟨hnl2H, flnl2, n1, n2, ?_, ?_, upd_same, ?_, ?_, ⟨?_, fun q hq => (by cases hq), ?_, ?_, Nat.zero_le _, ?_⟩⟩ ?_ ?_
    · have G5 := (G3.ex E).chg hfl0 hf5 (o' := .lst (facc3 ++ [V.ref b0])) (fun _ q => by cases q) (fun _ _ _ q => by cases q) f1 f2
      exact ⟨G5.e, G5.a, G5.w, by rw [List.length_append, e1]; omega⟩
    · rw [List.length_append, e1]
      show ps3.length + 0 ≤ _
      omega
    · rw [upd_ne (fun z => flnl2 z.symm)]
      exact e5 _ _ h4
    · exact (ht3.tup tt).append (NtsA.one ⟨b0, rfl, tt _ _ (tups _ _ (e2 _ _ hb0))⟩)
    · intro t ht
      rcases List.mem_append.mp ht with ht | ht
      · exact W3.i t ht
      · rw [List.mem_singleton.mp ht]
        trivial
    · rw [nregs_app, nregs_app, W3.r]
    · have := W3.z
      rw [List.length_append, nregs_app, List.length_append]
      show frow3.length + 1 ≤ 2 * ((nregs frow3).length + 1) + 0
      omega
    · intro h
      have := W3.w h
      rw [nwr_app, nwr_app]
      have e0 : cvs vals3 [] = [] := rfl
      rw [e0, List.append_nil] at this ⊢
      rw [this]
    · intro q xs q1 q2 q3 q4 hq
      have h3 := hkeep _ _ q1 q2 q3 (e2 _ _ hq)
      exact ⟨by rw [upd_ne q3]; exact E _ _ h3, fun z => by rw [← z, h3] at hnl2; cases hnl2⟩
    · intro b ys hq
      exact tt _ _ (tups _ _ (e2 _ _ hq))
end KX
end
section
set_option Elab.async false
set_option linter.all false
set_option maxRecDepth 100000
set_option maxHeartbeats 8000000
/-! Py11: within. -/
namespace KX
open PySem PySem.Spec PyProof.Rows L2 Evl
theorem fm_congr {α β : Type} {f g : α → List β} : ∀ {l : List α}, (∀ x ∈ l, f x = g x) → l.flatMap f = l.flatMap g
  | [], _ => rfl
  | x :: r, h => by
    show f x ++ r.flatMap f = g x ++ r.flatMap g
    rw [h x List.mem_cons_self, fm_congr fun y hy => h y (List.mem_cons_of_mem _ hy)]
theorem nwr_congr {vs : List (List Nat)} {h g : Str → List Nat} : ∀ {row : List Nit}, (∀ m ∈ nregs row, h m = g m) → nwr vs row h = nwr vs row g
  | [], _ => rfl
  | .n i :: r, e => by
    show vAt vs i ++ nwr vs r h = vAt vs i ++ nwr vs r g
    rw [nwr_congr (row := r) e]
  | .r m :: r, e => by
    show h m ++ nwr vs r h = g m ++ nwr vs r g
    rw [e m List.mem_cons_self, nwr_congr (row := r) fun y hy => e y (List.mem_cons_of_mem _ hy)]
section
variable {P : Program} {w : World} {K : PySem.W.Frag} {mg : Str → Option Value} {base : Heap} {C CP : Addr} {f : Addr} {fd : FuncData}
theorem ok_within (F : Fun K "within" "Pieces.within" s_Pieces_within f fd) (Z : Zs mg C) (PC : PcC K CP) (G_is_held_pieces : Has P w K mg base "is_held_pieces" 1 ["item"] sp_is_held_p) {f_Pieces_joined : Addr} {fd_Pieces_joined : FuncData} (G_Pieces_joined : HasM P w K mg base CP "joined" 2 f_Pieces_joined fd_Pieces_joined ["self", "numbers"] (sp_Pieces_joined CP)) : FnOk P w K mg base CX0 3 f fd ["self", "row", "rows"] (sp_within CP) := by
  refine F.ok sc_Pieces_within (fun vs H Q E h => ?_) (fun cdv A outer s H vs Q E hr h => ?_)
  · obtain ⟨p, tl, sl, a, d, ps, vals, row, ns, R, rfl, _⟩ := h
    rfl
  · obtain ⟨p, tl, sl, a, d, ps, vals, row, ns, R0, rfl, A0, ⟨atl, asl, xs, hxs, hnt⟩, NR, hin, h9, hr4, hrns, NK0, hz, k⟩ := h
    have hu := hu_of hr
    refine ⟨_, (pss_cons (ps_set (i := 3) sc_Pieces_within.nd rfl (Or.inl rfl) (pe_lst pa_nil)) 
    (pss_cons (ps_set (i := 4) sc_Pieces_within.nd rfl (Or.inl rfl) (pe_lst pa_nil)) 
    (pss_cons (ps_for PassesOwn.never rfl (pi_list (pv 1)) (pg_name (i := 5) sc_Pieces_within.nd rfl (Or.inl rfl)) 
     (pss_one (ps_for PassesOwn.never rfl (pi_listK (K := K) (pe_ifExp (pt_val (pe_use G_is_held_pieces (hr.mono (by decide)) (pa_cons (pv 5) pa_nil))) (pe_dget hu (pv 2) (pe_ix (ixT (K := K)) (pv 5) pe_int (fun _ _ => rfl)) (fun _ _ => rfl)) (pe_lst (pa_cons (pv 5) pa_nil)))) (pg_name (i := 6) sc_Pieces_within.nd rfl (Or.inl rfl)) 
      (pss_one (ps_if (pt_val (pe_use G_is_held_pieces (hr.mono (by decide)) (pa_cons (pv 6) pa_nil))) 
       (pss_cons (ps_expr (pe_bm PySem.F.plainAttrs_list PySem.F.slot_list_extend PySem.F.type_list_extend mt_extend (pv 3) (pa_cons (pe_ifExp (pt_truth (pv 4) (by intro _; rfl)) (pe_lst (pa_cons (pe_meth (pv 0) G_Pieces_joined.cl G_Pieces_joined.me G_Pieces_joined.ok (hr.mono (by decide)) G_Pieces_joined.b .nil pass0 (pa_cons (pv 4) pa_nil)) pa_nil)) (pe_lst pa_nil)) pa_nil))) 
       (pss_cons (ps_set (i := 4) sc_Pieces_within.nd rfl (Or.inl rfl) (pe_lst pa_nil)) 
       (pss_one (ps_expr (pe_bm PySem.F.plainAttrs_list PySem.F.slot_list_append PySem.F.type_list_append mt_append (pv 3) (pa_cons (pv 6) pa_nil)))))) 
       (pss_one (ps_expr (pe_bm PySem.F.plainAttrs_list PySem.F.slot_list_append PySem.F.type_list_append mt_append (pv 4) (pa_cons (pv 6) pa_nil))))))))) 
    (pss_cons (ps_expr (pe_bm PySem.F.plainAttrs_list PySem.F.slot_list_extend PySem.F.type_list_extend mt_extend (pv 3) (pa_cons (pe_ifExp (pt_truth (pv 4) (by intro _; rfl)) (pe_lst (pa_cons (pe_meth (pv 0) G_Pieces_joined.cl G_Pieces_joined.me G_Pieces_joined.ok (hr.mono (by decide)) G_Pieces_joined.b .nil pass0 (pa_cons (pv 4) pa_nil)) pa_nil)) (pe_lst pa_nil)) pa_nil))) 
    (pss_one (ps_ret (pv 3))))))), ?_⟩
    -- rows of registers that are none are taken for empty
    let R : Str → List Nit := fun m => if m ∈ ns then R0 m else []
    have hRm : ∀ m ∈ ns, R m = R0 m := fun m hm => if_pos hm
    have hR9 : ∀ m, (R m).length ≤ 9 := fun m => by
      show (if m ∈ ns then R0 m else []).length ≤ 9
      split
      · exact NK0.z m (by assumption)
      · exact Nat.zero_le _
    have hPl := nparts_len R hR9 row
    have hP45 : (nparts R row).length ≤ 45 := by omega
    have hPin : ∀ i, NIn vals.length (nparts R (row.take i)) := fun i t ht => by
      obtain ⟨u, hu1, hu2⟩ := List.mem_flatMap.mp ht
      have hmem := List.mem_of_mem_take hu1
      cases u with
      | n i0 =>
        rw [List.mem_singleton.mp hu2]
        exact hin (.n i0) hmem
      | r m =>
        have hm : m ∈ ns := hrns m (List.mem_filterMap.mpr ⟨.r m, hmem, rfl⟩)
        have hu2 : t ∈ R m := hu2
        rw [hRm m hm] at hu2
        exact NK0.i m hm t hu2
    have hPle : ∀ i, (nparts R (row.take i)).length ≤ 45 := fun i => by
      have : nparts R row = nparts R (row.take i) ++ nparts R (row.drop i) := by
        unfold nparts
        rw [← List.flatMap_append, List.take_append_drop]
      rw [this, List.length_append] at hP45
      omega
    obtain ⟨ts, t1, _⟩ := A0.t
    refine q_asgL (el_lst ea_nil (Nat.zero_le _)) fun fl H1 hfl e1 h1 => ?_
    refine q_asgL (el_lst ea_nil (Nat.zero_le _)) fun nl0 H2 hnl0 e2 h2 => ?_
    have f1 : fl ≠ tl := fun z => by rw [z, t1] at hfl; cases hfl
    have f2 : fl ≠ sl := fun z => by rw [z, A0.s] at hfl; cases hfl
    have afl : a ≠ fl := fun z => by rw [← z, hxs] at hfl; cases hfl
    refine q_forL (K := K) (ev_var rfl) (sq_of (e2 _ _ (e1 _ _ hxs))) (fun i σ' H' => ∃ (nl : Addr) (facc : List V) (frow : List Nit) (nums : List Nat) (ps' : List Pc) (vals' : List (List Nat)) (v5 v6 : Option V), σ' = [some (.ref p), some (.ref a), some (.ref d), some (.ref fl), some (.ref nl), v5, v6] ∧ WS CP H H' p tl sl fl nl ps vals (nparts R (row.take i)) facc frow nums ps' vals') ?_ ?_ ?_ ?_
    · intro H3 e3
      refine ⟨nl0, [], [], [], ps, vals, none, none, rfl, ⟨fresh_back e1 hnl0, ne_of_none h1 hnl0, fun z => ?_, fun z => ?_, (Gr.refl A0 0).ex ((e1.trans e2).trans e3), Nat.le_add_right _ _, e3 _ _ (e2 _ _ h1), e3 _ _ h2, NtsA.nil, ⟨fun t ht => (by cases ht), fun k hk => (by cases hk), rfl, Nat.zero_le _, Nat.zero_le _, fun h => rfl⟩⟩⟩
      · rw [z, e1 _ _ t1] at hnl0
        cases hnl0
      · rw [z, e1 _ _ A0.s] at hnl0
        cases hnl0
    · rintro i σ' H' hi ⟨nl, facc, frow, nums, ps', vals', v5, v6, rfl, S⟩
      exact sq_of (S.g.e _ _ atl asl hxs)
    · rintro i x σ' H' hxi ⟨nl, facc, frow, nums, ps', vals', v5, v6, rfl, S⟩
      have hil : i < row.length := by rw [← hnt.1]; exact (List.getElem?_eq_some_iff.mp hxi).1
      have hti : row[i]? = some row[i] := List.getElem?_eq_getElem hil
      have hit := (hnt.tup (ExP.tups A0 S.g.e)).2 i x _ hxi hti
      have htk : row.take (i + 1) = row.take i ++ [row[i]] := by rw [List.take_succ, hti]; rfl
      have hmem : row[i] ∈ row := List.getElem_mem hil
      have hle1 := hPle (i + 1)
      have hin1 := hPin (i + 1)
      rw [htk, nparts_snoc] at hle1 hin1 ⊢
      have hPi := hPin i
      generalize row[i] = it at hit hmem hle1 hin1
      generalize nparts R (row.take i) = P0 at S hle1 hin1 hPi
      -- the inner loop, over what stands at q
      have hPa : NIn vals.length P0 := hPi
      have step : ∀ (q : Addr) (xq : List V) (H3 : Hp), Ex H' H3 → H3 q = some (.lst xq) → q ≠ tl → q ≠ sl → q ≠ fl → q ≠ nl → NtsA H3 xq (nprt R it) →
          ∃ W : Nat → Nat → L2.St → Hp → Prop, (∃ m, W 0 m [some (.ref p), some (.ref a), some (.ref d), some (.ref fl), some (.ref nl), some x, v6] H3) ∧ ∀ j m σ2 H4, W j m σ2 H4 → ((Itl K q).stop j H4 ∧ (∃ (nl : Addr) (facc : List V) (frow : List Nit) (nums : List Nat) (ps' : List Pc) (vals' : List (List Nat)) (v5 v6 : Option V), σ2 = [some (.ref p), some (.ref a), some (.ref d), some (.ref fl), some (.ref nl), v5, v6] ∧ WS CP H H4 p tl sl fl nl ps vals (P0 ++ nprt R it) facc frow nums ps' vals')) ∨ ((Itl K q).go j H4 ∧ ∃ N : L2.St → Hp → Prop, (∀ σ3 H5, N σ3 H5 → ∃ m', m' < m ∧ W (j + 1) m' σ3 H5) ∧ ∀ y H5, (Itl K q).yld j H4 y H5 → gName 6 y σ2 H5 fun σ3 H6 => tsItem K CP { nx := N, ct := N, rt := Q, bk := fun σ2 H4 => (∃ (nl : Addr) (facc : List V) (frow : List Nit) (nums : List Nat) (ps' : List Pc) (vals' : List (List Nat)) (v5 v6 : Option V), σ2 = [some (.ref p), some (.ref a), some (.ref d), some (.ref fl), some (.ref nl), v5, v6] ∧ WS CP H H4 p tl sl fl nl ps vals (P0 ++ nprt R it) facc frow nums ps' vals') } σ3 H6) := by
        intro q xq H3 e3 hq q1 q2 q3 q4 hqt
        refine for_it (walk_list (K := K) (a := q) (xs := xq)) (g := gName 6) (tb := tsItem K CP) (D := { nx := fun σ2 H4 => (∃ (nl : Addr) (facc : List V) (frow : List Nit) (nums : List Nat) (ps' : List Pc) (vals' : List (List Nat)) (v5 v6 : Option V), σ2 = [some (.ref p), some (.ref a), some (.ref d), some (.ref fl), some (.ref nl), v5, v6] ∧ WS CP H H4 p tl sl fl nl ps vals (P0 ++ nprt R it) facc frow nums ps' vals'), ct := fun _ _ => True, rt := Q, bk := fun _ _ => True }) (fun j σ2 H2 => ∃ (nl : Addr) (facc : List V) (frow : List Nit) (nums : List Nat) (ps' : List Pc) (vals' : List (List Nat)) (v6 : Option V), σ2 = [some (.ref p), some (.ref a), some (.ref d), some (.ref fl), some (.ref nl), some x, v6] ∧ WS CP H H2 p tl sl fl nl ps vals (P0 ++ (nprt R it).take j) facc frow nums ps' vals' ∧ H2 q = some (.lst xq) ∧ q ≠ nl ∧ NtsA H2 xq (nprt R it)) ?_ ?_ ?_ ?_
        · refine ⟨nl, facc, frow, nums, ps', vals', v6, rfl, ?_, hq, q4, hqt⟩
          rw [List.take_zero, List.append_nil]
          exact S.ex e3
        · rintro j σ2 H2 hj ⟨nl, facc, frow, nums, ps', vals', v6, rfl, S, hq, _⟩
          exact sq_of hq
        · rintro j y σ2 H2 H2' hj ⟨nl, facc, frow, nums, ps', vals', v6, rfl, S, hq, q4, hqt⟩ hy
          obtain ⟨rfl, hyj⟩ := hy
          have hjl : j < (nprt R it).length := by rw [← hqt.1]; exact hj
          have htj : (nprt R it)[j]? = some (nprt R it)[j] := List.getElem?_eq_getElem hjl
          have hyt := hqt.2 j y _ hyj htj
          have htk2 : (nprt R it).take (j + 1) = (nprt R it).take j ++ [(nprt R it)[j]] := by rw [List.take_succ, htj]; rfl
          have hsub : P0 ++ nprt R it = (P0 ++ ((nprt R it).take j ++ [(nprt R it)[j]])) ++ (nprt R it).drop (j + 1) := by
            rw [← htk2, List.append_assoc, List.take_append_drop]
          have hin2 : NIn vals.length ((P0 ++ (nprt R it).take j) ++ [(nprt R it)[j]]) := fun t ht => hin1 t (by
            rw [hsub]
            rw [List.append_assoc] at ht
            exact List.mem_append_left _ ht)
          have hle2 : ((P0 ++ (nprt R it).take j) ++ [(nprt R it)[j]]).length ≤ 45 := by
            have := congrArg List.length hsub
            rw [List.length_append (as := _ ++ _) (bs := List.drop _ _)] at this
            rw [List.append_assoc]
            omega
          rw [htk2]
          generalize (nprt R it)[j] = t at hyt hin2 hle2
          show tsItem K CP _ [some (.ref p), some (.ref a), some (.ref d), some (.ref fl), some (.ref nl), some x, some y] H2'
          refine w_item S hfl f1 f2 hyt hin2 hle2 hz fun nl2 facc2 frow2 nums2 ps2 vals2 H5 S2 hk ht => ?_
          obtain ⟨hq5, q45⟩ := hk q xq q1 q2 q3 q4 hq
          exact ⟨nl2, facc2, frow2, nums2, ps2, vals2, some y, rfl, by rw [← List.append_assoc]; exact S2, hq5, q45, hqt.tup ht⟩
        · rintro σ2 H2 ⟨nl, facc, frow, nums, ps', vals', v6, rfl, S, hq, _⟩
          rw [hqt.1, List.take_length] at S
          exact ⟨nl, facc, frow, nums, ps', vals', some x, v6, rfl, S⟩
      show tFor (iList K (tIf (tB (tCall sp_is_held_p [] E0 (tCons (tVar 5) tNil))) (tDGet (tVar 2) (tOp (rIxT K) (tVar 5) (tC (.int 0)))) (tLst (tCons (tVar 5) tNil)))) (gName 6) (tsItem K CP) _ [some (.ref p), some (.ref a), some (.ref d), some (.ref fl), some (.ref nl), some x, v6] H'
      have S0 := S
      obtain ⟨us, u1, _⟩ := S0.g.a.t
      cases it with
      | n i0 =>
        obtain rfl : x = .int (i0 : Int) := hit
        show tIf _ _ _ _ _ _
        refine (et_B (ev_use (ea_cons (ev_var rfl) ea_nil) (spE_V (.int (i0 : Int)) (fun _ _ => ⟨rfl, .inl ⟨_, rfl⟩⟩) fun v _ p => p)) : EvT _ _ _ false) H' (Ex.refl _) _ fun H2 e2 => ?_
        rw [if_neg (by decide)]
        refine (el_lst (ea_cons (ev_var (v := .int (i0 : Int)) rfl) ea_nil) (by show 1 ≤ 100000; decide) : EvL _ _ H2 _) H2 (Ex.refl _) _ fun q H3 hq0 e3 hq => ⟨q, rfl, ⟨_, sq_of hq⟩, ?_⟩
        have live : ∀ c o, H' c = some o → q ≠ c := fun c o hc z => by rw [z, e2 _ _ hc] at hq0; cases hq0
        exact step q _ H3 (e2.trans e3) hq (live _ _ u1) (live _ _ S0.g.a.s) (live _ _ S0.f) (live _ _ S0.n) (NtsA.one rfl)
      | r m =>
        obtain ⟨b0, rfl, hb0⟩ := hit
        have hm : m ∈ ns := hrns m (List.mem_filterMap.mpr ⟨.r m, hmem, rfl⟩)
        obtain ⟨kvs, c, r1, r2, c1, c2, xq, r3, r4⟩ := NR.get hm
        have hrd : Rd H' d (.dK kvs) := by
          have k1 : d ≠ tl := fun z => by rcases r1 with h | ⟨o, h⟩ <;> rw [z, t1] at h <;> cases h
          have k2 : d ≠ sl := fun z => by rcases r1 with h | ⟨o, h⟩ <;> rw [z, A0.s] at h <;> cases h
          rcases r1 with h | ⟨o, h⟩
          · exact .inl (S0.g.e _ _ k1 k2 h)
          · exact .inr ⟨o, S0.g.e _ _ k1 k2 h⟩
        have r4' := r4.tup (ExP.tups A0 S0.g.e)
        show tIf _ _ _ _ _ _
        refine (et_B (ev_use (ea_cons (ev_var rfl) ea_nil) (spE_V (.ref b0) (fun _ e => ⟨rfl, .inr ⟨b0, m, rfl, e _ _ hb0⟩⟩) fun v _ p => p)) : EvT _ _ _ true) H' (Ex.refl _) _ fun H2 e2 => ?_
        rw [if_pos rfl]
        refine (ev_get (k := .inr m) (ev_var rfl) (ev_ixU (K := K) (i := 0) (ev_var rfl) ev_c (e2 _ _ hb0) rfl) rfl (ex_rd e2 hrd) r2 : Ev _ _ H2 _) H2 (Ex.refl _) _ fun H3 e3 => ?_
        have hq3 := (e2.trans e3) _ _ (S0.g.e _ _ c1 c2 r3)
        refine ⟨c, rfl, ⟨_, sq_of hq3⟩, step c xq H3 (e2.trans e3) hq3 c1 c2 (fun z => ?_) (fun z => ?_) ?_⟩
        · rw [z, hfl] at r3
          cases r3
        · rw [z, S0.nn] at r3
          cases r3
        · show NtsA H3 xq (R m)
          rw [hRm m hm]
          exact r4'.tup fun b ys q => (e2.trans e3) _ _ q
    · rintro σ' H' ⟨nl, facc, frow, nums, ps', vals', v5, v6, rfl, S⟩
      rw [hnt.1, List.take_length] at S
      have hb := S.b
      have hwl := S.w.l
      have hP := hPin row.length
      rw [List.take_length] at hP
      have hfz : facc.length ≤ 90 := by
        have h1 := S.t.1
        have h2 := S.w.z
        have h3 : (nregs frow).length ≤ (nparts R row).length := by rw [S.w.r]; exact nregs_len _
        omega
      refine s_flush (D := { nx := tRet (tVar 3) _, ct := _, rt := Q, bk := _ }) rfl rfl rfl S.g hfl S.f f1 f2 S.fn S.n S.n1 S.n2 S.t S.w (hP.mono S.g.len) (by omega) (by omega) fun H3 ps3 vals3 facc3 frow3 G3 hg3 hw3 hf3 ht3 W3 hnn hfl3 hkeep => ?_
      show tRet (tVar 3) { nx := fun _ H' => Q V.non H', rt := Q } _ H3
      refine s_ret (v := .ref fl) (ev_var rfl) fun H4 e4 => ?_
      have G4 := G3.ex e4
      have hRR : ∀ h : Str → List Nat, nwr vals row (fun m => nwr vals (R m) h) = nwr vals row fun m => nwr vals (R0 m) h := fun h => nwr_congr fun m hm => by rw [hRm m (hrns m hm)]
      refine k H4 ps3 vals3 fl frow3 ⟨G4.e, G4.a, G4.w, by omega⟩ hfl ⟨f1, f2, _, e4 _ _ hf3, ht3.tup fun b ys q => e4 _ _ q⟩ W3.i ?_ W3.z fun h => ?_
      · rw [W3.r, nparts_regs]
        exact fm_congr fun m hm => by rw [hRm m (hrns m hm)]
      · obtain ⟨ws, ew⟩ := G4.w
        have := W3.w h
        have e0 : cvs vals3 [] = [] := rfl
        rw [e0, List.append_nil] at this
        rw [this, ew, nwr_ext hP, nparts_wr, hRR]
end
end KX
end
section
set_option Elab.async false
set_option linter.all false
set_option maxRecDepth 100000
set_option maxHeartbeats 8000000
/-! Py12: rows with numbers for twice as many rounds. -/
namespace KX
open PySem PySem.Spec PyProof.Rows L2 Evl

theorem NOk.mono {ns : List Str} {R : Str → List Nit} {k k' : Nat} (h : NOk ns R k) (e : k ≤ k') : NOk ns R k' := ⟨fun n hn => (h.i n hn).mono e, h.z, h.r⟩
/-- a row put in by rows -/
structure Tw (vs vs' : List (List Nat)) (R : Str → List Nit) (n : Str) (row : List Nit) : Prop where
  i : NIn vs'.length row
  r : nregs row = (nregs (R n)).flatMap fun m => nregs (R m)
  z : row.length ≤ 2 * (nregs row).length + 1
  w : ∀ h, nwr vs' row h = nwr vs (R n) fun m => nwr vs (R m) h
theorem Tw.ext {vs vs' ws : List (List Nat)} {R : Str → List Nit} {n : Str} {row : List Nit} (h : Tw vs vs' R n row) : Tw vs (vs' ++ ws) R n row :=
  ⟨h.i.mono (by rw [List.length_append]; omega), h.r, h.z, fun q => by rw [nwr_ext h.i]; exact h.w q⟩
theorem NRow.frz {tl sl a d : Addr} {H : Hp} {row : List Nit} {od : Obj} {x o : HO} (h : NRow tl sl H a row) (hd : H d = some (.frz od x)) : NRow tl sl (upd H d o) a row := by
  obtain ⟨h1, h2, xs, h3, h4⟩ := h
  refine ⟨h1, h2, xs, by rw [upd_ne (fun z => by rw [z, hd] at h3; cases h3)]; exact h3, h4.tup fun b ys q => by
    rw [upd_ne (fun z => by rw [z, hd] at q; cases q)]
    exact q⟩
/-- a dict of rows with numbers, as told -/
def NDict (tl sl : Addr) (ns : List Str) (R : Str → List Nit) (H : Hp) (d : Addr) : Prop := ∃ l : List (Key × V), H d = some (.dK l) ∧ l.map (·.1) = ns.map Sum.inr ∧ ∀ n v, (Sum.inr n, v) ∈ l → ∃ a, v = .ref a ∧ NRow tl sl H a (R n)
def sp_twice (CP : Addr) : Sp := fun vs H Q _ => ∃ (p tl sl d : Addr) (ps : List Pc) (vals : List (List Nat)) (ns : List Str) (R : Str → List Nit), vs = [.ref p, .ref d] ∧ PcAt CP H p tl sl ps vals ∧ NDict tl sl ns R H d ∧
  ns.Nodup ∧ ns.length ≤ 4 ∧ NOk ns R vals.length ∧ ps.length + 700 < 50000 ∧
  ∀ H' ps' vals' dd R', Gr CP H H' p tl sl ps vals 400 ps' vals' → H dd = none → NDict tl sl ns R' H' dd → (∀ n ∈ ns, Tw vals vals' R n (R' n)) → Q (.ref dd) H'
section
variable {P : Program} {w : World} {K : PySem.W.Frag} {mg : Str → Option Value} {base : Heap} {C CP : Addr} {f : Addr} {fd : FuncData}
theorem ok_twice (F : Fun K "twice" "Pieces.twice" s_Pieces_twice f fd) (Z : Zs mg C) (PC : PcC K CP) {f_Pieces_within : Addr} {fd_Pieces_within : FuncData} (G_Pieces_within : HasM P w K mg base CP "within" 3 f_Pieces_within fd_Pieces_within ["self", "row", "rows"] (sp_within CP)) : FnOk P w K mg base CX0 4 f fd ["self", "rows"] (sp_twice CP) := by
  refine F.ok sc_Pieces_twice (fun vs H Q E h => ?_) (fun cdv A outer s H vs Q E hr h => ?_)
  · obtain ⟨p, tl, sl, d, ps, vals, ns, R, rfl, _⟩ := h
    rfl
  · obtain ⟨p, tl, sl, d, ps, vals, ns, R, rfl, A0, ⟨l, hd0, hlk, hlv⟩, hN, h4, NK, hz, k⟩ := h
    have hu := hu_of hr
    have hu0 := Nat.lt_of_succ_lt hu
    refine ⟨_, (pss_one (ps_ret (pe_lock (pe_dp IsNil.k hu0 (own := [(("name" : Str), 2)]) (g := gName 2) rfl sc_Pieces_twice.nd (pi_keys (pv 1)) (blkOk_by (own := [(("name" : Str), 2)]) (N := n_Pieces_twice) (sc := defScope s_Pieces_twice) (by decide +kernel)) (fun _ _ _ _ _ => (pg_name (i := 2) sc_Pieces_twice.nd rfl (Or.inl rfl))) (fun _ _ _ _ _ => pts_nil) (fun _ _ _ _ _ => (pv 2)) (fun _ _ _ _ _ => (pe_meth (pv 0) G_Pieces_within.cl G_Pieces_within.me G_Pieces_within.ok (hr.mono (by decide)) G_Pieces_within.b .nil pass0 (pa_cons (pe_dget hu (pv 1) (pv 2) (fun _ _ => rfl)) (pa_cons (pv 1) pa_nil)))))))), ?_⟩
    obtain ⟨dx, fs, hp, ft, fz, fo⟩ := A0.o
    have pd : p ≠ d := fun z => by rw [z, hd0] at hp; cases hp
    show tLockE _ _ H _
    refine ⟨d, .dK l, hd0, trivial, fun od => ?_⟩
    have A1 : PcAt CP (upd H d (.frz od (.dK l))) p tl sl ps vals := A0.lock hd0
    have NR1 : NRowsN tl sl ns R (upd H d (.frz od (.dK l))) d := NRowsN.lock hd0 hlk hlv
    have hp1 : (upd H d (.frz od (.dK l))) p = some (.ins CP dx fs) := by rw [upd_ne pd]; exact hp
    have hd1 : (upd H d (.frz od (.dK l))) d = some (.frz od (.dK l)) := upd_same
    have unl : ∀ H' ps' vals' kk, Gr CP (upd H d (.frz od (.dK l))) H' p tl sl ps vals kk ps' vals' → H' d = some (.frz od (.dK l)) → Gr CP H (upd H' d (.dK l)) p tl sl ps vals kk ps' vals' := fun H' ps' vals' kk g hf => Gr.unlock A0 hd0 g hf
    have hnone : ∀ D, (upd H d (.frz od (.dK l))) D = none → H D = none := fun D hD => by
      by_cases z : D = d
      · rw [z, upd_same] at hD
        cases hD
      · rw [upd_ne z] at hD
        exact hD
    clear hlv hp
    generalize upd H d (.frz od (.dK l)) = H1 at A1 NR1 hp1 hd1 unl hnone ⊢
    obtain ⟨ts, t1, _⟩ := A1.t
    have ntl : ∀ {D : Addr}, H1 D = none → D ≠ tl ∧ D ≠ sl := fun {D} hD => ⟨fun z => (by rw [z, t1] at hD; cases hD), fun z => (by rw [z, A1.s] at hD; cases hD)⟩
    have n1 : d ≠ tl := fun z => by rw [z, t1] at hd1; cases hd1
    have n2 : d ≠ sl := fun z => by rw [z, A1.s] at hd1; cases hd1
    show tDp (.dK []) (iKeys (tVar 1)) (gName 2) tYes (tVar 2) _ [2] [some (.ref p), some (.ref d), none] H1 _
    refine dpX_keys (ns := ns) rfl hd1 hlk (fun x => rfl) (fun x => rfl) (fun D i H' => H1 D = none ∧ ∃ (ps' : List Pc) (vals' : List (List Nat)) (R' : Str → List Nit) (l' : List (Key × V)), Gr CP H1 H' p tl sl ps vals (100 * i) ps' vals' ∧ H' D = some (.dK l') ∧ l'.map (·.1) = (ns.take i).map Sum.inr ∧ (∀ n v, (Sum.inr n, v) ∈ l' → ∃ a, v = .ref a ∧ NRow tl sl H' a (R' n)) ∧ ∀ n ∈ ns.take i, Tw vals vals' R n (R' n)) ?_ ?_ ?_ ?_
    · intro D hD
      exact ⟨hD, ps, vals, fun _ => [], [], (Gr.refl A1 0).new hD, upd_same, rfl, fun n v h => (by cases h), fun n hn => by simp at hn⟩
    · rintro D i H' ⟨hD, ps', vals', R', l', G, _⟩
      exact G.e _ _ n1 n2 hd1
    · rintro D i n H' hin ⟨hD, ps', vals', R', l', G, hDd, hl', hrow, hnf⟩
      have hnm := List.mem_of_getElem? hin
      obtain ⟨m1, m2⟩ := ntl hD
      have hil : i < ns.length := (List.getElem?_eq_some_iff.mp hin).1
      have htk : ns.take (i + 1) = ns.take i ++ [n] := by rw [List.take_succ, hin]; rfl
      have gz := G.z
      have NR2 := NR1.exP A1 G.e
      obtain ⟨kvs, a, q1, q2, q3⟩ := NR2.get hnm
      have hp2 : H' p = some (.ins CP dx fs) := G.e _ _ (fun z => by rw [z, t1] at hp1; cases hp1) (fun z => by rw [z, A1.s] at hp1; cases hp1) hp1
      have z9 := NK.z n hnm
      show tMeth CP "within" _ _ _ _ _ [some (.ref p), some (.ref d), some (.str n)] H' _
      refine ⟨_, rfl, p, dx, fs, rfl, hp2, fo.no (by decide +kernel), ?_⟩
      refine (ev_get (k := .inr n) (ev_var rfl) (ev_var rfl) rfl q1 q2 : Ev _ _ H' _) H' (Ex.refl _) _ fun H2 e2 => ?_
      have G2 := G.ex e2
      have hlen := G2.len
      refine ⟨_, rfl, ⟨p, tl, sl, a, d, ps', vals', R n, ns, R, rfl, G2.a, q3.ex e2, NR1.exP A1 G2.e, (NK.i n hnm).mono hlen, z9, (NK.r n hnm).1, (NK.r n hnm).2, NK.mono hlen, by omega, fun H3 ps3 vals3 E3 nrow G3 hE hrow3 hin3 hrg3 hz3 hw3 => ?_⟩⟩
      have h3D := G3.e _ _ m1 m2 (e2 _ _ hDd)
      have hdD : D ≠ d := fun z => by rw [z, hd1] at hD; cases hD
      obtain ⟨xs3, x3, _⟩ := G3.a.t
      refine dpX_put hN hin (by omega) hl' h3D ⟨hD, ps3, vals3, fun x => if x = n then nrow else R' x, _, ?_, upd_same, ?_, ?_, fun x hx => ?_⟩
      · exact ((G2.trans G3).le (by omega)).chg hD h3D (fun _ q => by cases q) (fun _ _ _ q => by cases q) m1 m2
      · rw [List.map_append, hl', htk, List.map_append]
        rfl
      · have nrowK : ∀ {b : Addr} {row : List Nit}, NRow tl sl H3 b row → NRow tl sl (upd H3 D (.dK (l' ++ [(Sum.inr n, V.ref E3)]))) b row := fun {b row} h => h.lock h3D
        intro x v hm
        rcases List.mem_append.mp hm with hm1 | hm1
        · have hxn : x ≠ n := fun z => by
            subst z
            have hm2 : (Sum.inr x : Key) ∈ (ns.take i).map Sum.inr := by
              rw [← hl']
              exact List.mem_map_of_mem (f := (·.1)) hm1
            obtain ⟨y, hy, e⟩ := List.mem_map.mp hm2
            cases e
            obtain ⟨q, hq⟩ := List.mem_iff_getElem?.mp hy
            have hql : q < i := by
              have := (List.getElem?_eq_some_iff.mp hq).1
              rw [List.length_take] at this
              omega
            rw [List.getElem?_take_of_lt hql] at hq
            have := nodup_ix' hN hq hin
            omega
          obtain ⟨b, rfl, hb⟩ := hrow x v hm1
          refine ⟨b, rfl, nrowK ?_⟩
          show NRow tl sl H3 b (if x = n then nrow else R' x)
          rw [if_neg hxn]
          exact (hb.ex e2).exP G2.a G3.e
        · cases List.mem_singleton.mp hm1
          refine ⟨E3, rfl, nrowK ?_⟩
          show NRow tl sl H3 E3 (if n = n then nrow else R' n)
          rw [if_pos rfl]
          exact hrow3
      · by_cases e : x = n
        · subst e
          show Tw vals vals3 R x (if x = x then nrow else R' x)
          rw [if_pos rfl]
          refine ⟨hin3, hrg3, hz3, fun h => ?_⟩
          obtain ⟨ws, ew⟩ := G.w
          rw [hw3 h, ew, nwr_ext (NK.i x hnm)]
          exact nwr_congr fun m hm => nwr_ext (NK.i m ((NK.r x hnm).2 m hm))
        · show Tw vals vals3 R x (if x = n then nrow else R' x)
          rw [if_neg e]
          rw [htk] at hx
          obtain ⟨ws, ew⟩ := G3.w
          rw [ew]
          exact (hnf x ((List.mem_append.mp hx).resolve_right fun z => e (List.mem_singleton.mp z))).ext
    · rintro D H' ⟨hD, ps', vals', R', l', G, hDd, hl', hrow, hnf⟩
      rw [List.take_length] at hl' hnf
      have hf := G.e _ _ n1 n2 hd1
      have hDne : D ≠ d := fun z => by rw [z, hd1] at hD; cases hD
      exact ⟨hf, k _ ps' vals' D R' (unl H' ps' vals' 400 (G.le (by omega)) hf) (hnone D hD) ⟨l', by rw [upd_ne hDne]; exact hDd, hl', fun n v hm => by
        obtain ⟨b, rfl, hb⟩ := hrow n v hm
        exact ⟨b, rfl, hb.frz hf⟩⟩ hnf⟩
end
end KX
end
section
set_option Elab.async false
set_option linter.all false
set_option maxRecDepth 100000
set_option maxHeartbeats 8000000
/-! Py13: what is written, on the heap. -/
namespace KX
open PySem PySem.Spec PyProof.Rows L2 Evl

def wtN : List Str := ["told", "sizes", "number"]
/-- what is written, on the heap -/
def WtAt (CW : Addr) (H : Hp) (x : Addr) (ps : List Pc) (vs : List (List Nat)) (n : Nat) : Prop := ∃ (dx : Addr) (fs : List (Str × V)) (tl sl : Addr) (xs : List V), H x = some (.ins CW dx fs) ∧ fs.lookup ("told" : Str) = some (.ref tl) ∧ fs.lookup ("sizes" : Str) = some (.ref sl) ∧ fs.lookup ("number" : Str) = some (.int (n : Int)) ∧ OnlyF wtN fs ∧
  H tl = some (.lst xs) ∧ xs.length = ps.length ∧ (∀ (i : Nat) x c, xs[i]? = some x → ps[i]? = some c → PcA H c x) ∧ H sl = some (.lst (szs vs)) ∧ PcV ps vs ∧ n < vs.length
theorem WtAt.ex {CW x : Addr} {H H' : Hp} {ps : List Pc} {vs : List (List Nat)} {n : Nat} (e : Ex H H') (h : WtAt CW H x ps vs n) : WtAt CW H' x ps vs n := by
  obtain ⟨dx, fs, tl, sl, xs, h1, h2, h3, h4, h5, h6, h7, h8, h9, h10, h11⟩ := h
  exact ⟨dx, fs, tl, sl, xs, e _ _ h1, h2, h3, h4, h5, e _ _ h6, h7, fun i x c a b => (h8 i x c a b).ex e, e _ _ h9, h10, h11⟩
structure WtC (K : PySem.W.Frag) (CW : Addr) : Prop where
  cl : Cls K CW
  t : NoAttr K CW "told"
  s : NoAttr K CW "sizes"
  n : NoAttr K CW "number"
def sp_Written_init (CW CP : Addr) : Sp := fun vs H Q _ => ∃ (x p dx tl sl : Addr) (ps : List Pc) (vals : List (List Nat)) (n : Nat) (H0 : Hp), vs = [.ref x, .ref p, .int (n : Int)] ∧ H x = some (.ins CW dx []) ∧ H0 x = none ∧ Ex H0 H ∧ PcAt CP H0 p tl sl ps vals ∧ n < vals.length ∧ ∀ H', Ex H0 H' → WtAt CW H' x ps vals n → Q .non H'
def sp_Written_size (CW : Addr) : Sp := fun vs H Q _ => ∃ (x : Addr) (ps : List Pc) (vals : List (List Nat)) (n : Nat), vs = [.ref x] ∧ WtAt CW H x ps vals n ∧ ∀ H', Ex H H' → Q (.int ((vAt vals n).length : Int)) H'
section
variable {K : PySem.W.Frag} {σ : L2.St} {H : Hp} {D : Ends} {tv to : TE} {f : Str} {p C dx : Addr} {fs : List (Str × V)}
theorem s_fldV {v : V} (h : Ev tv σ H v) (ho : Ev to σ H (.ref p)) (hp : H p = some (.ins C dx fs)) (cl : Cls K C) (na : NoAttr K C f) (few : fs.length ≤ 200) (k : ∀ H1, Ex H H1 → D.nx σ (upd H1 p (.ins C dx (putF f v fs)))) : sFld K to tv f D σ H :=
  h H (Ex.refl H) _ fun H1 e1 => ho H1 e1 _ fun H2 e2 => ⟨p, C, dx, fs, rfl, (e1.trans e2) _ _ hp, cl, na, by omega, k H2 (e1.trans e2)⟩
end
section
variable {P : Program} {w : World} {K : PySem.W.Frag} {mg : Str → Option Value} {base : Heap} {C CP CW : Addr} {f : Addr} {fd : FuncData}
theorem ok_Written_init (F : Fun K "__init__" "Written.__init__" s_Written__init f fd) (Z : Zs mg C) (PC : PcC K CP) (WC : WtC K CW) : FnOk P w K mg base CX0 1 f fd ["self", "pieces", "number"] (sp_Written_init CW CP) := by
  refine F.ok sc_Written__init (fun vs H Q E h => ?_) (fun cdv A outer s H vs Q E hr h => ?_)
  · obtain ⟨x, p, dx, tl, sl, ps, vals, n, H0, rfl, _⟩ := h
    rfl
  · obtain ⟨x, p, dx, tl, sl, ps, vals, n, H0, rfl, hx, hx0, e0, A0, hn, k⟩ := h
    refine ⟨_, (pss_cons (ps_fld (pv 0) (pe_callTy (cList (K := K)) (by rfl) Z.z_list (by decide +kernel) (pa_cons (pe_fldK (K := K) (pv 1) rfl) pa_nil)) rfl) 
    (pss_cons (ps_fld (pv 0) (pe_callTy (cList (K := K)) (by rfl) Z.z_list (by decide +kernel) (pa_cons (pe_fldK (K := K) (pv 1) rfl) pa_nil)) rfl) 
    (pss_one (ps_fld (pv 0) (pv 2) rfl)))), ?_⟩
    obtain ⟨xs, t1, t2, t3⟩ := A0.t
    have live : ∀ {a : Addr} {o : HO}, H0 a = some o → a ≠ x := fun {a o} h z => by rw [z, hx0] at h; cases h
    refine q_fldN (K := K) (New.ofL (el_list (ev_told PC (ev_var rfl) (A0.ex e0)) (sq_of (e0 _ _ t1)))) (ev_var rfl) hx WC.cl WC.t (by decide) (fun _ _ _ _ h => h) fun t0 o H1 ht0 e1 h1 n1 => ?_
    subst n1
    have t0x : t0 ≠ x := fun z => by rw [z, hx] at ht0; cases ht0
    have E1 : Ex H0 (upd H1 x (.ins CW dx (putF "told" (.ref t0) []))) := Ex.mut (e0.trans e1) hx0
    have g1 : (upd H1 x (.ins CW dx (putF "told" (.ref t0) []))) t0 = some (.lst xs) := by rw [upd_ne t0x]; exact h1
    have g2 : (upd H1 x (.ins CW dx (putF "told" (.ref t0) []))) x = some (.ins CW dx (putF "told" (.ref t0) [])) := upd_same
    have l1 := putF_len "told" (.ref t0) []
    have z0 : ([] : List (Str × V)).length = 0 := rfl
    show (tSeq _ _) _ _ _
    generalize upd H1 x (.ins CW dx (putF "told" (.ref t0) [])) = H2 at E1 g1 g2 ⊢
    refine q_fldN (K := K) (New.ofL (el_list (ev_sizes PC (ev_var rfl) (A0.ex E1)) (sq_of (E1 _ _ A0.s)))) (ev_var rfl) g2 WC.cl WC.s (by omega) (fun _ _ _ _ h => h) fun s0 o H3 hs0 e3 h3 n3 => ?_
    subst n3
    have s0x : s0 ≠ x := fun z => by rw [z, g2] at hs0; cases hs0
    have s0t : s0 ≠ t0 := fun z => by rw [z, g1] at hs0; cases hs0
    let fs2 := putF "sizes" (.ref s0) (putF "told" (.ref t0) [])
    have E2 : Ex H0 (upd H3 x (.ins CW dx fs2)) := Ex.mut (E1.trans e3) hx0
    have a1 : (upd H3 x (.ins CW dx fs2)) t0 = some (.lst xs) := by rw [upd_ne t0x]; exact e3 _ _ g1
    have a2 : (upd H3 x (.ins CW dx fs2)) x = some (.ins CW dx fs2) := upd_same
    have a3 : (upd H3 x (.ins CW dx fs2)) s0 = some (.lst (szs vals)) := by rw [upd_ne s0x]; exact h3
    have l2 := putF_len "sizes" (.ref s0) (putF "told" (.ref t0) [])
    have l3 : fs2.length ≤ 2 := by
      show (putF "sizes" (.ref s0) (putF "told" (.ref t0) [])).length ≤ 2
      omega
    show sFld _ _ _ _ _ _ (upd H3 x (.ins CW dx fs2))
    generalize upd H3 x (.ins CW dx fs2) = H4 at E2 a1 a2 a3 ⊢
    refine s_fldV (K := K) (v := .int (n : Int)) (ev_var rfl) (ev_var rfl) a2 WC.cl WC.n (by omega) fun H5 e5 => ?_
    have E5 : Ex H0 (upd H5 x (.ins CW dx (putF "number" (.int (n : Int)) fs2))) := Ex.mut (E2.trans e5) hx0
    refine k _ E5 ⟨dx, _, t0, s0, xs, upd_same, ?_, ?_, ?_, OnlyF.put (OnlyF.put (OnlyF.put (fun m hm => absurd rfl hm) (by decide +kernel)) (by decide +kernel)) (by decide +kernel), by rw [upd_ne t0x]; exact e5 _ _ a1, t2, fun i y c hy hc => (t3 i y c hy hc).ex E5, by rw [upd_ne s0x]; exact e5 _ _ a3, A0.v, hn⟩
    · show List.lookup _ (putF "number" _ (putF "sizes" _ (putF "told" _ []))) = _
      rw [lookup_putF, if_neg (by decide +kernel), lookup_putF, if_neg (by decide +kernel), lookup_putF, if_pos rfl]
    · show List.lookup _ (putF "number" _ (putF "sizes" _ (putF "told" _ []))) = _
      rw [lookup_putF, if_neg (by decide +kernel), lookup_putF, if_pos rfl]
    · rw [lookup_putF, if_pos rfl]
theorem ok_Written_size (F : Fun K "size" "Written.size" s_Written_size f fd) (Z : Zs mg C) (WC : WtC K CW) : FnOk P w K mg base CX0 1 f fd ["self"] (sp_Written_size CW) := by
  refine F.ok sc_Written_size (fun vs H Q E h => ?_) (fun cdv A outer s H vs Q E hr h => ?_)
  · obtain ⟨x, ps, vals, n, rfl, _⟩ := h
    rfl
  · obtain ⟨x, ps, vals, n, rfl, ⟨dx, fs, tl, sl, xs, h1, h2, h3, h4, h5, h6, h7, h8, h9, h10, h11⟩, k⟩ := h
    refine ⟨_, (pss_one (ps_ret (pe_ix (ixL (K := K)) (pe_fldK (K := K) (pv 0) rfl) (pe_fldK (K := K) (pv 0) rfl) (fun _ _ => rfl)))), ?_⟩
    exact s_ret (v := .int ((vAt vals n).length : Int)) (ev_op (ev_fld (K := K) (ev_var rfl) h1 WC.cl WC.s h3) (ev_fld (K := K) (ev_var rfl) h1 WC.cl WC.n h4) (rv_ixL (K := K) (sq_of h9) (atI_nat (szs_at h11)))) fun H1 e1 => k H1 e1
end
end KX
end
section
set_option Elab.async false
set_option linter.all false
set_option maxRecDepth 100000
set_option maxHeartbeats 8000000
/-! Py14: rounds again and again, told by codes; numbers and rows put down. -/
namespace KX
open PySem PySem.Spec PyProof.Rows L2 Evl

/-! ### rounds again and again -/
def cstep (R : Str → List Itm) (g : Str → List Nat) : Str → List Nat := fun m => cwr (R m) g
def itc (R : Str → List Itm) : Nat → (Str → List Nat) → Str → List Nat
  | 0, g => g
  | n + 1, g => itc R n (cstep R g)
theorem itc_add (R : Str → List Itm) (a : Nat) : ∀ (b : Nat) (g : Str → List Nat), itc R (a + b) g = itc R a (itc R b g)
  | 0, g => rfl
  | b + 1, g => itc_add R a b (cstep R g)
theorem cwr_congr {g h : Str → List Nat} : ∀ {row : List Itm}, (∀ m ∈ regsOf row, g m = h m) → cwr row g = cwr row h
  | [], _ => rfl
  | .t s :: r, e => by
    show cds s ++ cwr r g = cds s ++ cwr r h
    rw [cwr_congr (row := r) e]
  | .r m :: r, e => by
    show g m ++ cwr r g = h m ++ cwr r h
    rw [e m List.mem_cons_self, cwr_congr (row := r) fun y hy => e y (List.mem_cons_of_mem _ hy)]
theorem itc_congr {ns : List Str} {R : Str → List Itm} (hR : ∀ n ∈ ns, ∀ m ∈ regsOf (R n), m ∈ ns) : ∀ (k : Nat) {g h : Str → List Nat}, (∀ m ∈ ns, g m = h m) → ∀ m ∈ ns, itc R k g m = itc R k h m
  | 0, g, h, e, m, hm => e m hm
  | k + 1, g, h, e, m, hm => itc_congr hR k (fun n hn => cwr_congr fun q hq => e q (hR n hn q hq)) m hm
/-- each register once, all known -/
def LinF (ns : List Str) (f : Str → List Str) : Prop := (ns.flatMap f).Nodup ∧ ∀ n ∈ ns, ∀ m ∈ f n, m ∈ ns
theorem fm_fm {α β γ : Type} (f : α → List β) (g : β → List γ) : ∀ l : List α, (l.flatMap f).flatMap g = l.flatMap fun x => (f x).flatMap g
  | [] => rfl
  | x :: r => by
    show (f x ++ r.flatMap f).flatMap g = (f x).flatMap g ++ r.flatMap _
    rw [List.flatMap_append, fm_fm f g r]
theorem LinF.twice {ns : List Str} {f : Str → List Str} (h : LinF ns f) : LinF ns fun n => (f n).flatMap f := by
  refine ⟨?_, fun n hn m hm => ?_⟩
  · rw [← fm_fm]
    exact flat_sub h.1 h.1 fun m hm => by
      obtain ⟨n, hn, h2⟩ := List.mem_flatMap.mp hm
      exact h.2 n hn m h2
  · obtain ⟨x, hx, h2⟩ := List.mem_flatMap.mp hm
    exact h.2 x (h.2 n hn x hx) m h2
theorem LinF.congr {ns : List Str} {f g : Str → List Str} (h : LinF ns f) (e : ∀ n ∈ ns, g n = f n) : LinF ns g :=
  ⟨by rw [fm_congr e]; exact h.1, fun n hn m hm => h.2 n hn m (by rw [← e n hn]; exact hm)⟩
theorem LinF.len {ns : List Str} {f : Str → List Str} (h : LinF ns f) {n : Str} (hn : n ∈ ns) : (f n).length ≤ ns.length := List.Nodup.length_le_of_subset (flat_each h.1 hn) fun m hm => h.2 n hn m hm
theorem lin_F {ns : List Str} {R : Str → List Itm} (h : LinN ns R) : LinF ns fun n => regsOf (R n) := h
/-- rows with numbers that do so many rounds -/
structure NPw (ns : List Str) (R : Str → List Itm) (vs : List (List Nat)) (Rk : Str → List Nit) (q : Nat) : Prop where
  i : ∀ n ∈ ns, NIn vs.length (Rk n)
  z : ∀ n ∈ ns, (Rk n).length ≤ 2 * (nregs (Rk n)).length + 1
  l : LinF ns fun n => nregs (Rk n)
  w : ∀ n ∈ ns, ∀ h, nwr vs (Rk n) h = itc R q h n
theorem NPw.ok {ns : List Str} {R : Str → List Itm} {vs : List (List Nat)} {Rk : Str → List Nit} {q : Nat} (h : NPw ns R vs Rk q) (h4 : ns.length ≤ 4) : NOk ns Rk vs.length :=
  ⟨h.i, fun n hn => by have := h.z n hn; have := h.l.len hn; omega, fun n hn => ⟨by have := h.l.len hn; omega, h.l.2 n hn⟩⟩
theorem NPw.ext {ns : List Str} {R : Str → List Itm} {vs ws : List (List Nat)} {Rk : Str → List Nit} {q : Nat} (h : NPw ns R vs Rk q) : NPw ns R (vs ++ ws) Rk q :=
  ⟨fun n hn => (h.i n hn).mono (by rw [List.length_append]; omega), h.z, h.l, fun n hn g => by rw [nwr_ext (h.i n hn)]; exact h.w n hn g⟩
theorem NPw.twice {ns : List Str} {R : Str → List Itm} {vs vs' : List (List Nat)} {Rk R' : Str → List Nit} {q : Nat} (hR : ∀ n ∈ ns, ∀ m ∈ regsOf (R n), m ∈ ns) (h : NPw ns R vs Rk q) (t : ∀ n ∈ ns, Tw vs vs' Rk n (R' n)) : NPw ns R vs' R' (q + q) :=
  ⟨fun n hn => (t n hn).i, fun n hn => (t n hn).z, h.l.twice.congr fun n hn => (t n hn).r, fun n hn g => by
    rw [(t n hn).w, h.w n hn, itc_add]
    exact itc_congr hR q (fun m hm => h.w m hm g) n hn⟩
section
variable {K : PySem.W.Frag} {CP : Addr}
theorem e_numbers {p tl sl a hd d : Addr} {H : Hp} {ps : List Pc} {vals : List (List Nat)} {ns : List Str} {hold : Str → Str} {t : V} {od : Obj} {Q : VK} (A0 : PcAt CP H p tl sl ps vals) (hh : H hd = some (.frz od (.dK (hk ns hold)))) (hN : ns.Nodup) (h4 : ns.length ≤ 4) (hz : ps.length + 4 < 50000) (hl : ∀ n ∈ ns, (hold n).length ≤ 100000)
    (k : ∀ D H' ps' vals' num, H D = none → Gr CP H H' p tl sl ps vals 4 ps' vals' → H' D = some (.dK (numD ns num)) → (∀ n ∈ ns, num n < vals'.length ∧ vAt vals' (num n) = cds (hold n)) → Q (.ref D) H') :
    tDp (.dK []) (iKeys (tVar 1)) (gName 8) tYes (tVar 8) (tMeth CP "text" (sp_Pieces_text CP) [] E0 (tVar 4) (tCons (tDGet (tVar 1) (tVar 8)) tNil)) [8] [some (.ref a), some (.ref hd), some (.ref d), some t, some (.ref p), none, none, none, none, none] H Q := by
  obtain ⟨ts, t1, _⟩ := A0.t
  obtain ⟨dx, fs, hp, ft, fz, fo⟩ := A0.o
  have n1 : hd ≠ tl := fun z => by rw [z, t1] at hh; cases hh
  have n2 : hd ≠ sl := fun z => by rw [z, A0.s] at hh; cases hh
  refine dpX_keys (ns := ns) rfl hh (by unfold hk; rw [List.map_map]; rfl) (fun x => rfl) (fun x => rfl) (fun D i H' => H D = none ∧ ∃ (ps' : List Pc) (vals' : List (List Nat)) (nf : Str → Nat), Gr CP H H' p tl sl ps vals i ps' vals' ∧ H' D = some (.dK (numD (ns.take i) nf)) ∧ ∀ n ∈ ns.take i, nf n < vals'.length ∧ vAt vals' (nf n) = cds (hold n)) ?_ ?_ ?_ ?_
  · intro D hD
    exact ⟨hD, ps, vals, fun _ => 0, (Gr.refl A0 0).new hD, upd_same, fun n hn => by simp at hn⟩
  · rintro D i H' ⟨hD, ps', vals', nf, G, _⟩
    exact G.e _ _ n1 n2 hh
  · rintro D i n H' hin ⟨hD, ps', vals', nf, G, hDd, hnf⟩
    have hnm := List.mem_of_getElem? hin
    have hil : i < ns.length := (List.getElem?_eq_some_iff.mp hin).1
    have htk : ns.take (i + 1) = ns.take i ++ [n] := by rw [List.take_succ, hin]; rfl
    have gz := G.z
    have m1 : D ≠ tl := fun z => by rw [z, t1] at hD; cases hD
    have m2 : D ≠ sl := fun z => by rw [z, A0.s] at hD; cases hD
    have hp2 : H' p = some (.ins CP dx fs) := G.e _ _ (fun z => by rw [z, t1] at hp; cases hp) (fun z => by rw [z, A0.s] at hp; cases hp) hp
    have hh2 := G.e _ _ n1 n2 hh
    show tMeth CP "text" _ _ _ _ _ [some (.ref a), some (.ref hd), some (.ref d), some t, some (.ref p), none, none, none, some (.str n), none] H' _
    refine ⟨_, rfl, p, dx, fs, rfl, hp2, fo.no (by decide +kernel), ?_⟩
    refine (ev_get (k := .inr n) (ev_var rfl) (ev_var rfl) rfl (.inr ⟨od, hh2⟩) (hk_at hnm) : Ev _ _ H' _) H' (Ex.refl _) _ fun H2 e2 => ?_
    have G2 := G.ex e2
    refine ⟨p, tl, sl, ps', vals', hold n, rfl, G2.a, by omega, hl n hnm, fun H3 G3 => ?_⟩
    have h3D := G3.e _ _ m1 m2 (e2 _ _ hDd)
    refine dpX_put hN hin (by omega) (by unfold numD; rw [List.map_map]; rfl) h3D ⟨hD, ps' ++ [.t (hold n)], vals' ++ [cds (hold n)], fun x => if x = n then vals'.length else nf x, ?_, ?_, fun x hx => ?_⟩
    · exact ((G2.trans G3).le (Nat.le_refl _)).chg hD h3D (fun _ q => by cases q) (fun _ _ _ q => by cases q) m1 m2
    · rw [upd_same, htk]
      unfold numD
      rw [List.map_append]
      congr 3
      · refine List.map_congr_left fun x hx => ?_
        have : x ≠ n := fun z => by
          subst z
          obtain ⟨q, hq⟩ := List.mem_iff_getElem?.mp hx
          have hql : q < i := by
            have := (List.getElem?_eq_some_iff.mp hq).1
            rw [List.length_take] at this
            omega
          rw [List.getElem?_take_of_lt hql] at hq
          have := nodup_ix' hN hq hin
          omega
        show _ = (Sum.inr x, V.int ((if x = n then vals'.length else nf x : Nat) : Int))
        rw [if_neg this]
      · show _ = [(Sum.inr n, V.int ((if n = n then vals'.length else nf n : Nat) : Int))]
        rw [if_pos rfl]
    · by_cases e : x = n
      · subst e
        show (if x = x then vals'.length else nf x) < (vals' ++ [cds (hold x)]).length ∧ vAt (vals' ++ [cds (hold x)]) (if x = x then vals'.length else nf x) = _
        rw [if_pos rfl, vAt_last, List.length_append]
        exact ⟨Nat.lt_succ_self _, rfl⟩
      · show (if x = n then vals'.length else nf x) < (vals' ++ [cds (hold n)]).length ∧ vAt (vals' ++ [cds (hold n)]) (if x = n then vals'.length else nf x) = _
        rw [if_neg e]
        rw [htk] at hx
        obtain ⟨f1, f2⟩ := hnf x ((List.mem_append.mp hx).resolve_right fun z => e (List.mem_singleton.mp z))
        exact ⟨by rw [List.length_append]; omega, by rw [vAt_app f1]; exact f2⟩
  · rintro D H' ⟨hD, ps', vals', nf, G, hDd, hnf⟩
    rw [List.take_length] at hDd hnf
    exact k D H' ps' vals' nf hD (G.le h4) hDd hnf
/-- a row put down -/
structure Ti (vs : List (List Nat)) (R : Str → List Itm) (n : Str) (row : List Nit) : Prop where
  i : NIn vs.length row
  r : nregs row = regsOf (R n)
  z : row.length = (R n).length
  w : ∀ h, nwr vs row h = cwr (R n) h
theorem Ti.ext {vs ws : List (List Nat)} {R : Str → List Itm} {n : Str} {row : List Nit} (h : Ti vs R n row) : Ti (vs ++ ws) R n row :=
  ⟨h.i.mono (by rw [List.length_append]; omega), h.r, h.z, fun q => by rw [nwr_ext h.i]; exact h.w q⟩
theorem e_rows {p tl sl a hd d nd : Addr} {H : Hp} {ps : List Pc} {vals : List (List Nat)} {ns : List Str} {R : Str → List Itm} {t : V} {od : Obj} {l : List (Key × V)} {Q : VK} (A0 : PcAt CP H p tl sl ps vals) (hh : H d = some (.frz od (.dK l))) (hlk : l.map (·.1) = ns.map Sum.inr) (hlv : ∀ n v, (Sum.inr n, v) ∈ l → ∃ a, v = .ref a ∧ RowAt H a (R n)) (hN : ns.Nodup) (h4 : ns.length ≤ 4) (hz : ps.length + 100 < 50000) (h9 : ∀ n ∈ ns, (R n).length ≤ 9) (hl : ∀ n ∈ ns, rowLen (R n) ≤ 100000)
    (k : ∀ D H' ps' vals' Rk, H D = none → Gr CP H H' p tl sl ps vals 36 ps' vals' → NDict tl sl ns Rk H' D → (∀ n ∈ ns, Ti vals' R n (Rk n)) → Q (.ref D) H') :
    tDp (.dK []) (iKeys (tVar 2)) (gName 8) tYes (tVar 8) (tMeth CP "row_of" (sp_Pieces_row_of CP) [] E0 (tVar 4) (tCons (tDGet (tVar 2) (tVar 8)) tNil)) [8] [some (.ref a), some (.ref hd), some (.ref d), some t, some (.ref p), some (.ref nd), none, none, none, none] H Q := by
  obtain ⟨ts, t1, _⟩ := A0.t
  obtain ⟨dx, fs, hp, ft, fz, fo⟩ := A0.o
  have n1 : d ≠ tl := fun z => by rw [z, t1] at hh; cases hh
  have n2 : d ≠ sl := fun z => by rw [z, A0.s] at hh; cases hh
  refine dpX_keys (ns := ns) rfl hh hlk (fun x => rfl) (fun x => rfl) (fun D i H' => H D = none ∧ ∃ (ps' : List Pc) (vals' : List (List Nat)) (R' : Str → List Nit) (l' : List (Key × V)), Gr CP H H' p tl sl ps vals (9 * i) ps' vals' ∧ H' D = some (.dK l') ∧ l'.map (·.1) = (ns.take i).map Sum.inr ∧ (∀ n v, (Sum.inr n, v) ∈ l' → ∃ a, v = .ref a ∧ NRow tl sl H' a (R' n)) ∧ ∀ n ∈ ns.take i, Ti vals' R n (R' n)) ?_ ?_ ?_ ?_
  · intro D hD
    exact ⟨hD, ps, vals, fun _ => [], [], (Gr.refl A0 0).new hD, upd_same, rfl, fun n v h => (by cases h), fun n hn => by simp at hn⟩
  · rintro D i H' ⟨hD, ps', vals', R', l', G, _⟩
    exact G.e _ _ n1 n2 hh
  · rintro D i n H' hin ⟨hD, ps', vals', R', l', G, hDd, hl', hrow, hnf⟩
    have hnm := List.mem_of_getElem? hin
    have hil : i < ns.length := (List.getElem?_eq_some_iff.mp hin).1
    have htk : ns.take (i + 1) = ns.take i ++ [n] := by rw [List.take_succ, hin]; rfl
    have gz := G.z
    have m1 : D ≠ tl := fun z => by rw [z, t1] at hD; cases hD
    have m2 : D ≠ sl := fun z => by rw [z, A0.s] at hD; cases hD
    have hp2 : H' p = some (.ins CP dx fs) := G.e _ _ (fun z => by rw [z, t1] at hp; cases hp) (fun z => by rw [z, A0.s] at hp; cases hp) hp
    have hh2 := G.e _ _ n1 n2 hh
    obtain ⟨v, hv, hvm⟩ := valV_key (kvs := l) (k := .inr n) (by rw [hlk]; exact List.mem_map_of_mem hnm)
    obtain ⟨b, rfl, xs, hb1, hb2⟩ := hlv n v hvm
    have tups := ExP.tups A0 G.e
    have hb : RowAt H' b (R n) := ⟨xs, tups _ _ hb1, hb2.1, fun i x t a b => by
      have := hb2.2 i x t a b
      cases t with
      | t s => exact this
      | r s => exact this.imp fun c ⟨e1, h1⟩ => ⟨e1, tups _ _ h1⟩⟩
    have z9 := h9 n hnm
    show tMeth CP "row_of" _ _ _ _ _ [some (.ref a), some (.ref hd), some (.ref d), some t, some (.ref p), some (.ref nd), none, none, some (.str n), none] H' _
    refine ⟨_, rfl, p, dx, fs, rfl, hp2, fo.no (by decide +kernel), ?_⟩
    refine (ev_get (k := .inr n) (ev_var rfl) (ev_var rfl) rfl (.inr ⟨od, hh2⟩) hv : Ev _ _ H' _) H' (Ex.refl _) _ fun H2 e2 => ?_
    have G2 := G.ex e2
    refine ⟨p, tl, sl, b, ps', vals', R n, rfl, G2.a, hb.le (Le.ex e2), by omega, hl n hnm, by omega, fun H3 ps3 vals3 E3 nrow G3 hE hrow3 hin3 hrg3 hz3 hw3 => ?_⟩
    have h3D := G3.e _ _ m1 m2 (e2 _ _ hDd)
    refine dpX_put hN hin (by omega) hl' h3D ⟨hD, ps3, vals3, fun x => if x = n then nrow else R' x, _, ?_, upd_same, ?_, ?_, fun x hx => ?_⟩
    · exact ((G2.trans G3).le (by omega)).chg hD h3D (fun _ q => by cases q) (fun _ _ _ q => by cases q) m1 m2
    · rw [List.map_append, hl', htk, List.map_append]
      rfl
    · have nrowK : ∀ {b : Addr} {row : List Nit}, NRow tl sl H3 b row → NRow tl sl (upd H3 D (.dK (l' ++ [(Sum.inr n, V.ref E3)]))) b row := fun {b row} h => h.lock h3D
      intro x v hm
      rcases List.mem_append.mp hm with hm1 | hm1
      · have hxn : x ≠ n := fun z => by
          subst z
          have hm2 : (Sum.inr x : Key) ∈ (ns.take i).map Sum.inr := by
            rw [← hl']
            exact List.mem_map_of_mem (f := (·.1)) hm1
          obtain ⟨y, hy, e⟩ := List.mem_map.mp hm2
          cases e
          obtain ⟨q, hq⟩ := List.mem_iff_getElem?.mp hy
          have hql : q < i := by
            have := (List.getElem?_eq_some_iff.mp hq).1
            rw [List.length_take] at this
            omega
          rw [List.getElem?_take_of_lt hql] at hq
          have := nodup_ix' hN hq hin
          omega
        obtain ⟨b, rfl, hb⟩ := hrow x v hm1
        refine ⟨b, rfl, nrowK ?_⟩
        show NRow tl sl H3 b (if x = n then nrow else R' x)
        rw [if_neg hxn]
        exact (hb.ex e2).exP G2.a G3.e
      · cases List.mem_singleton.mp hm1
        refine ⟨E3, rfl, nrowK ?_⟩
        show NRow tl sl H3 E3 (if n = n then nrow else R' n)
        rw [if_pos rfl]
        exact hrow3
    · by_cases e : x = n
      · subst e
        show Ti vals3 R x (if x = x then nrow else R' x)
        rw [if_pos rfl]
        exact ⟨hin3, hrg3, hz3, hw3⟩
      · show Ti vals3 R x (if x = n then nrow else R' x)
        rw [if_neg e]
        rw [htk] at hx
        obtain ⟨ws, ew⟩ := G3.w
        rw [ew]
        exact (hnf x ((List.mem_append.mp hx).resolve_right fun z => e (List.mem_singleton.mp z))).ext
  · rintro D H' ⟨hD, ps', vals', R', l', G, hDd, hl', hrow, hnf⟩
    rw [List.take_length] at hl' hnf
    exact k D H' ps' vals' R' hD (G.le (by omega)) ⟨l', hDd, hl', hrow⟩ hnf
end
end KX
end
section
set_option Elab.async false
set_option linter.all false
set_option maxRecDepth 100000
set_option maxHeartbeats 8000000
/-! Py15: a row put together behind so many turns of a ring. -/
namespace KX
open PySem PySem.Spec PyProof.Rows L2 Evl

theorem pe_mk0 {X : Cx} {x : Str} {k : Nat} {ps : List Str} {sp : Sp} {p pos : Pos} {C : Addr} (h : HasC X.prog X.w X.K X.mg X.base x C k ps sp) (hr : Room (k + 1) X.A) (hg : Gl X x := by rfl) (hdb : (x == ("__debug__" : Str)) = false := by decide) :
    PE X (.Call (.Name x p) [] [] pos) (tMake C sp [] E0 tNil) := by
  obtain ⟨hm, f, fd, F, M, hb⟩ := h
  exact pe_make0 M F hr hg hm hb .nil pass0 hdb
theorem RowAt.exP {CP p tl sl : Addr} {H H' : Hp} {ps : List Pc} {vs : List (List Nat)} {b : Addr} {row : List Itm} (A : PcAt CP H p tl sl ps vs) (e : ExP tl sl H H') (h : RowAt H b row) : RowAt H' b row := by
  obtain ⟨xs, h1, h2⟩ := h
  have tups := ExP.tups A e
  exact ⟨xs, tups _ _ h1, h2.1, fun i x t a b => by
    have := h2.2 i x t a b
    cases t with
    | t s => exact this
    | r s => exact this.imp fun c ⟨e1, h1⟩ => ⟨e1, tups _ _ h1⟩⟩
theorem NDict.exP {CP p tl sl d : Addr} {ns : List Str} {R : Str → List Nit} {H H' : Hp} {ps : List Pc} {vs : List (List Nat)} (A : PcAt CP H p tl sl ps vs) (e : ExP tl sl H H') (h : NDict tl sl ns R H d) : NDict tl sl ns R H' d := by
  obtain ⟨l, h1, h2, h3⟩ := h
  obtain ⟨xs, t1, _⟩ := A.t
  refine ⟨l, e _ _ (fun z => by rw [z, t1] at h1; cases h1) (fun z => by rw [z, A.s] at h1; cases h1) h1, h2, fun n v hm => ?_⟩
  obtain ⟨a, a1, a2⟩ := h3 n v hm
  exact ⟨a, a1, a2.exP A e⟩
theorem numD_exP {CP p tl sl d : Addr} {H H' : Hp} {ps : List Pc} {vs : List (List Nat)} {l : List (Key × V)} (A : PcAt CP H p tl sl ps vs) (e : ExP tl sl H H') (h : H d = some (.dK l)) : H' d = some (.dK l) := by
  obtain ⟨xs, t1, _⟩ := A.t
  exact e _ _ (fun z => by rw [z, t1] at h; cases h) (fun z => by rw [z, A.s] at h; cases h) h
def sp_put_together (CP CW : Addr) : Sp := fun vs H Q _ => ∃ (a hd d : Addr) (row : List Itm) (ns : List Str) (R : Str → List Itm) (hold : Str → Str) (T : Nat), vs = [.ref a, .ref hd, .ref d, .int (T : Int)] ∧ RowAt H a row ∧ row.length ≤ 100 ∧ rowLen row ≤ 100000 ∧ (∀ m ∈ regsOf row, m ∈ ns) ∧ H hd = some (.dK (hk ns hold)) ∧ RowsN ns R H d ∧ ns.Nodup ∧ ns.length ≤ 4 ∧ LinN ns R ∧ Nrm R ∧
  (∀ n ∈ ns, rowLen (R n) ≤ 100000) ∧ (∀ n ∈ ns, (hold n).length ≤ 100000) ∧ T < 2 ^ 41 ∧
  ∀ H' x ps vals n, Ex H H' → WtAt CW H' x ps vals n → ps.length ≤ 40000 → vAt vals n = cwr row (itc R T fun m => cds (hold m)) → Q (.ref x) H'
/-- what a turn of the loop finds -/
structure PT (CP : Addr) (H1 H' : Hp) (p tl sl nd rd : Addr) (ns : List Str) (R : Str → List Itm) (g0 : Str → List Nat) (T t d q : Nat) (ps' : List Pc) (vals' : List (List Nat)) (num : Str → Nat) (Rk : Str → List Nit) (m : Nat) : Prop where
  e : ExP tl sl H1 H'
  a : PcAt CP H' p tl sl ps' vals'
  n : H' nd = some (.dK (numD ns num))
  v : ∀ n ∈ ns, num n < vals'.length ∧ vAt vals' (num n) = itc R d g0 n
  r : 0 < t → NDict tl sl ns Rk H' rd ∧ NPw ns R vals' Rk q
  s : T = d + q * t
  b : t < 2 ^ m
  z : ps'.length + 460 * m ≤ 19000
theorem PT.ex {CP : Addr} {H1 H' H'' : Hp} {p tl sl nd rd : Addr} {ns : List Str} {R : Str → List Itm} {g0 : Str → List Nat} {T t d q : Nat} {ps' : List Pc} {vals' : List (List Nat)} {num : Str → Nat} {Rk : Str → List Nit} {m : Nat} (e : Ex H' H'') (h : PT CP H1 H' p tl sl nd rd ns R g0 T t d q ps' vals' num Rk m) : PT CP H1 H'' p tl sl nd rd ns R g0 T t d q ps' vals' num Rk m :=
  ⟨h.e.trans (ExP.of e), h.a.ex e, e _ _ h.n, h.v, fun z => ⟨(h.r z).1.exP h.a (ExP.of e), (h.r z).2⟩, h.s, h.b, h.z⟩
section
variable {P : Program} {w : World} {K : PySem.W.Frag} {mg : Str → Option Value} {base : Heap} {C CP CW : Addr} {f : Addr} {fd : FuncData}
/-- a turn -/
theorem s_turn {H1 H' : Hp} {p tl sl nd rd a hd d0 : Addr} {ns : List Str} {R : Str → List Itm} {g0 : Str → List Nat} {T t d q : Nat} {ps' : List Pc} {vals' : List (List Nat)} {num : Str → Nat} {Rk : Str → List Nit} {m : Nat} {D : Ends}
    (hR : ∀ n ∈ ns, ∀ m ∈ regsOf (R n), m ∈ ns) (hN : ns.Nodup) (h4 : ns.length ≤ 4) (S : PT CP H1 H' p tl sl nd rd ns R g0 T t d q ps' vals' num Rk m) (ht : 0 < t)
    (k : ∀ H2 nd2 rd2 d2 q2 ps2 vals2 num2 Rk2 m2, m2 < m → PT CP H1 H2 p tl sl nd2 rd2 ns R g0 T (t / 2) d2 q2 ps2 vals2 num2 Rk2 m2 → D.nx [some (.ref a), some (.ref hd), some (.ref d0), some (.int ((t / 2 : Nat) : Int)), some (.ref p), some (.ref nd2), some (.ref rd2), none, none, none] H2) :
    tSeq (tIfS (tTest (tOp rEq (tOp (rI (fun _ j => j ≠ 0) fun i j => .int (i.fmod j)) (tVar 3) (tC (.int 2))) (tC (.int 1)))) (tAsg (tMeth CP "held_behind" (sp_held_behind CP) [] E0 (tVar 4) (tCons (tVar 6) (tCons (tVar 5) tNil))) (gName 5)) tNext)
     (tSeq (tAsg (tOp (fun x y H Q => ∃ n m : Nat, x = .int (n : Int) ∧ y = .int (m : Int) ∧ (1 ≤ m ∧ m < 1073741824) ∧ Q (.int ((n / m : Nat) : Int)) H) (tVar 3) (tC (.int 2))) (gName 3))
      (tIfS (tTest (tOp (rI0 fun i j => .bl (decide (i > j))) (tVar 3) (tC (.int 0)))) (tAsg (tMeth CP "twice" (sp_twice CP) [] E0 (tVar 4) (tCons (tVar 6) tNil)) (gName 6)) tNext)) D [some (.ref a), some (.ref hd), some (.ref d0), some (.int (t : Int)), some (.ref p), some (.ref nd), some (.ref rd), none, none, none] H' := by
  obtain ⟨m', rfl⟩ : ∃ m', m = m' + 1 := ⟨m - 1, by
    have := S.b
    cases m with
    | zero => rw [Nat.pow_zero] at this; omega
    | succ m => rfl⟩
  have hz := S.z
  have hb := S.b
  rw [Nat.pow_succ] at hb
  -- behind the first if
  have cont : ∀ H2 nd2 d2 ps2 vals2 num2, ExP tl sl H1 H2 → PcAt CP H2 p tl sl ps2 vals2 → H2 nd2 = some (.dK (numD ns num2)) → (∀ n ∈ ns, num2 n < vals2.length ∧ vAt vals2 (num2 n) = itc R d2 g0 n) → NDict tl sl ns Rk H2 rd → NPw ns R vals2 Rk q → T = d2 + q * (2 * (t / 2)) → ps2.length ≤ ps'.length + 60 →
      (tSeq (tAsg (tOp (fun x y H Q => ∃ n m : Nat, x = .int (n : Int) ∧ y = .int (m : Int) ∧ (1 ≤ m ∧ m < 1073741824) ∧ Q (.int ((n / m : Nat) : Int)) H) (tVar 3) (tC (.int 2))) (gName 3))
      (tIfS (tTest (tOp (rI0 fun i j => .bl (decide (i > j))) (tVar 3) (tC (.int 0)))) (tAsg (tMeth CP "twice" (sp_twice CP) [] E0 (tVar 4) (tCons (tVar 6) tNil)) (gName 6)) tNext)) D [some (.ref a), some (.ref hd), some (.ref d0), some (.int (t : Int)), some (.ref p), some (.ref nd2), some (.ref rd), none, none, none] H2 := by
    intro H2 nd2 d2 ps2 vals2 num2 x1 A2 hn2 hv2 ND NP hs hl
    refine q_asg (v := .int ((t / 2 : Nat) : Int)) (ev_op (ev_var rfl) ev_c (fun H3 e3 Q q => ⟨t, 2, rfl, rfl, ⟨by decide, by decide⟩, q H3 (Ex.refl H3)⟩)) fun H3 e3 => ?_
    have A3 := A2.ex e3
    refine s_when (b := decide (((t / 2 : Nat) : Int) > 0)) (et_test (ev_op (ev_var rfl) ev_c rv_I0)) (fun hb2 H4 e4 => ?_) (fun hb2 H4 e4 => ?_)
    · have e34 := e3.trans e4
      have A4 := A2.ex e34
      obtain ⟨dx, fs, hp, ft, fz, fo⟩ := A4.o
      show tMeth CP "twice" _ _ _ _ _ _ H4 _
      refine ⟨_, rfl, p, dx, fs, rfl, hp, fo.no (by decide +kernel), ?_⟩
      refine (ea_cons (ev_var rfl) ea_nil : EvA _ _ H4 [.ref rd]) H4 (Ex.refl _) _ fun H5 e5 => ?_
      have A5 := A4.ex e5
      refine ⟨p, tl, sl, rd, ps2, vals2, ns, Rk, rfl, A5, ND.exP A2 (ExP.of (e34.trans e5)), hN, h4, NP.ok h4, by omega, fun H6 ps6 vals6 rd6 R6 G6 hrd6 ND6 T6 => ?_⟩
      obtain ⟨ws, ew⟩ := G6.w
      have gz := G6.z
      exact k H6 nd2 rd6 d2 (q + q) ps6 vals6 num2 R6 m' (Nat.lt_succ_self _) ⟨x1.trans ((ExP.of (e34.trans e5)).trans G6.e), G6.a, numD_exP A5 G6.e ((e34.trans e5) _ _ hn2), fun n hn => ⟨by have := (hv2 n hn).1; have := G6.len; omega, by rw [G6.at (hv2 n hn).1]; exact (hv2 n hn).2⟩, fun _ => ⟨ND6, NP.twice hR T6⟩, by rw [hs, ← Nat.mul_assoc]; congr 1; rw [Nat.mul_two], by omega, by omega⟩
    · have h0 : t / 2 = 0 := by
        have := of_decide_eq_false hb2
        omega
      have e34 := e3.trans e4
      exact k H4 nd2 rd d2 q ps2 vals2 num2 Rk m' (Nat.lt_succ_self _) ⟨x1.trans (ExP.of e34), A2.ex e34, e34 _ _ hn2, hv2, fun z => by omega, by rw [hs, h0], by omega, by omega⟩
  have hfm : ((t : Int).fmod 2) = ((t % 2 : Nat) : Int) := by
    rw [Int.fmod_eq_emod_of_nonneg _ (by decide)]
    rfl
  obtain ⟨ND, NP⟩ := S.r ht
  refine q_when (b := decide (V.int ((t : Int).fmod 2) = V.int 1)) (et_test (ev_op (ev_op (ev_var rfl) ev_c (rv_I (by decide))) ev_c (rv_eq rfl))) (fun hb2 H2 e2 => ?_) (fun hb2 H2 e2 => ?_)
  · have h1 : t % 2 = 1 := by
      have := V.int.inj (of_decide_eq_true hb2)
      rw [hfm] at this
      omega
    have A2 := S.a.ex e2
    obtain ⟨dx, fs, hp, ft, fz, fo⟩ := A2.o
    obtain ⟨l, l1, l2, l3⟩ := ND
    show tMeth CP "held_behind" _ _ _ _ _ _ H2 _
    refine ⟨_, rfl, p, dx, fs, rfl, hp, fo.no (by decide +kernel), ?_⟩
    refine (ea_cons (ev_var rfl) (ea_cons (ev_var rfl) ea_nil) : EvA _ _ H2 [.ref rd, .ref nd]) H2 (Ex.refl _) _ fun H3 e3 => ?_
    have e23 := e2.trans e3
    refine ⟨p, tl, sl, rd, nd, ps', vals', ns, Rk, num, l, rfl, S.a.ex e23, e23 _ _ l1, l2, fun n v hm => ?_, hN, h4, NP.ok h4, e23 _ _ S.n, fun n hn => (S.v n hn).1, by omega, fun H4 ps4 vals4 nd4 num4 G4 hn4 hv4 => ?_⟩
    · obtain ⟨b, b1, b2⟩ := l3 n v hm
      exact ⟨b, b1, b2.ex e23⟩
    · obtain ⟨ws, ew⟩ := G4.w
      have gz := G4.z
      refine cont H4 nd4 (q + d) ps4 vals4 num4 (S.e.trans ((ExP.of e23).trans G4.e)) G4.a hn4 (fun n hn => ⟨(hv4 n hn).1, ?_⟩) ((NDict.exP S.a (ExP.of e23) ⟨l, l1, l2, l3⟩).exP (S.a.ex e23) G4.e) (by rw [ew]; exact NP.ext) ?_ gz
      · rw [(hv4 n hn).2, NP.w n hn, itc_add]
        exact itc_congr hR q (fun m hm => (S.v m hm).2) n hn
      · have := S.s
        have e : t = 2 * (t / 2) + 1 := by omega
        rw [this]
        conv => lhs; rw [e]
        rw [Nat.mul_add]
        omega
  · have h0 : t % 2 = 0 := by
      have h1 : ¬ t % 2 = 1 := fun z => by
        have : V.int ((t : Int).fmod 2) = V.int 1 := by rw [hfm, z]; rfl
        rw [decide_eq_true this] at hb2
        cases hb2
      omega
    have A2 := S.a.ex e2
    refine cont H2 nd d ps' vals' num (S.e.trans (ExP.of e2)) A2 (e2 _ _ S.n) S.v (ND.exP S.a (ExP.of e2)) NP ?_ (Nat.le_add_right _ _)
    have e : t = 2 * (t / 2) := by omega
    rw [← e]
    exact S.s
end
end KX
end
section
set_option Elab.async false
set_option linter.all false
set_option maxRecDepth 100000
set_option maxHeartbeats 8000000
/-! Py16: put_together. -/
namespace KX
open PySem PySem.Spec PyProof.Rows L2 Evl
section
variable {P : Program} {w : World} {K : PySem.W.Frag} {mg : Str → Option Value} {base : Heap} {C CP CW : Addr} {f : Addr} {fd : FuncData}
theorem ok_put_together (F : Fun K "put_together" "put_together" s_put_together f fd) (Z : Zs mg C) (PC : PcC K CP) (G_Pieces__init : HasC P w K mg base "Pieces" CP 1 ["self"] (sp_Pieces_init CP)) (G_Written__init : HasC P w K mg base "Written" CW 1 ["self", "pieces", "number"] (sp_Written_init CW CP))
    {f_text : Addr} {fd_text : FuncData} (G_Pieces_text : HasM P w K mg base CP "text" 1 f_text fd_text ["self", "text"] (sp_Pieces_text CP)) {f_row_of : Addr} {fd_row_of : FuncData} (G_Pieces_row_of : HasM P w K mg base CP "row_of" 2 f_row_of fd_row_of ["self", "row"] (sp_Pieces_row_of CP))
    {f_hb : Addr} {fd_hb : FuncData} (G_Pieces_held_behind : HasM P w K mg base CP "held_behind" 3 f_hb fd_hb ["self", "rows", "held"] (sp_held_behind CP)) {f_tw : Addr} {fd_tw : FuncData} (G_Pieces_twice : HasM P w K mg base CP "twice" 4 f_tw fd_tw ["self", "rows"] (sp_twice CP))
    {f_j : Addr} {fd_j : FuncData} (G_Pieces_joined : HasM P w K mg base CP "joined" 2 f_j fd_j ["self", "numbers"] (sp_Pieces_joined CP)) : FnOk P w K mg base CX0 5 f fd ["row", "held", "ring", "turns"] (sp_put_together CP CW) := by
  refine F.ok sc_put_together (fun vs H Q E h => ?_) (fun cdv A outer s H vs Q E hr h => ?_)
  · obtain ⟨a, hd, d, row, ns, R, hold, T, rfl, _⟩ := h
    rfl
  · obtain ⟨a, hd, d, row, ns, R, hold, T, rfl, hrow, h100, hrl, hrn, hhd, ⟨l, hl1, hl2, hl3⟩, hN, h4, L, N, hRl, hhl, hT, k⟩ := h
    have hu := hu_of hr
    have hu0 := Nat.lt_of_succ_lt hu
    refine ⟨_, (pss_cons (ps_set (i := 4) sc_put_together.nd rfl (Or.inr rfl) (pe_mk0 G_Pieces__init (hr.mono (by decide)))) 
    (pss_cons (ps_set (i := 5) sc_put_together.nd rfl (Or.inr rfl) (pe_lock (pe_dp IsNil.k hu0 (own := [(("name" : Str), 8)]) (g := gName 8) rfl sc_put_together.nd (pi_keys (pv 1)) (blkOk_by (own := [(("name" : Str), 8)]) (N := n_put_together) (sc := defScope s_put_together) (by decide +kernel)) (fun _ _ _ _ _ => (pg_name (i := 8) sc_put_together.nd rfl (Or.inl rfl))) (fun _ _ _ _ _ => pts_nil) (fun _ _ _ _ _ => (pv 8)) (fun _ _ _ _ _ => (pe_meth (pv 4) G_Pieces_text.cl G_Pieces_text.me G_Pieces_text.ok (hr.mono (by decide)) G_Pieces_text.b .nil pass0 (pa_cons (pe_dget hu (pv 1) (pv 8) (fun _ _ => rfl)) pa_nil)))))) 
    (pss_cons (ps_lock (ps_setDp (i := 6) (own := [(("name" : Str), 8)]) (g := gName 8) IsNil.k hu0 rfl sc_put_together.nd rfl rfl (sw_trueD rfl rfl rfl (by decide +kernel)) (pi_keys (pv 2)) (blkOk_by (own := [(("name" : Str), 8)]) (N := n_put_together) (sc := defScope s_put_together) (by decide +kernel)) (fun _ _ _ _ _ => (pg_name (i := 8) sc_put_together.nd rfl (Or.inl rfl))) (fun _ _ _ _ _ => pts_nil) (fun _ _ _ _ _ => (pv 8)) (fun _ _ _ _ _ => (pe_meth (pv 4) G_Pieces_row_of.cl G_Pieces_row_of.me G_Pieces_row_of.ok (hr.mono (by decide)) G_Pieces_row_of.b .nil pass0 (pa_cons (pe_dget hu (pv 2) (pv 8) (fun _ _ => rfl)) pa_nil))))) 
    (pss_cons (ps_while PassesOwn.never (pt_cmpR op_gt (pv 3) pe_int (nomark _)) 
     (pss_cons (ps_if (pt_cmpR op_eq (pe_op op_modN (pv 3) pe_int) pe_int (nomark _)) 
      (pss_one (ps_set (i := 5) sc_put_together.nd rfl (Or.inr rfl) (pe_meth (pv 4) G_Pieces_held_behind.cl G_Pieces_held_behind.me G_Pieces_held_behind.ok (hr.mono (by decide)) G_Pieces_held_behind.b .nil pass0 (pa_cons (pv 6) (pa_cons (pv 5) pa_nil))))) pss_nil) 
     (pss_cons (ps_set (i := 3) sc_put_together.nd rfl (Or.inl rfl) (pe_op op_fdivNN (pv 3) pe_int)) 
     (pss_one (ps_if (pt_cmpR op_gt (pv 3) pe_int (nomark _)) 
      (pss_one (ps_set (i := 6) sc_put_together.nd rfl (Or.inl rfl) (pe_meth (pv 4) G_Pieces_twice.cl G_Pieces_twice.me G_Pieces_twice.ok (hr.mono (by decide)) G_Pieces_twice.b .nil pass0 (pa_cons (pv 6) pa_nil)))) pss_nil))))) 
    (pss_cons (ps_setLc (i := 7) (own := [(("item" : Str), 9)]) (g := gName 9) rfl sc_put_together.nd rfl rfl (sw_true rfl rfl rfl (by decide +kernel)) (pi_listK (K := K) (pe_meth (pv 4) G_Pieces_row_of.cl G_Pieces_row_of.me G_Pieces_row_of.ok (hr.mono (by decide)) G_Pieces_row_of.b .nil pass0 (pa_cons (pv 0) pa_nil))) (blkOk_by (own := [(("item" : Str), 9)]) (N := n_put_together) (sc := defScope s_put_together) (by decide +kernel)) (fun _ _ _ _ _ => (pg_name (i := 9) sc_put_together.nd rfl (Or.inl rfl))) (fun _ _ _ _ _ => pts_nil) (fun _ _ _ _ _ => (pe_ifExp (pt_val (pe_callB (cIsi (K := K)) (by rfl) Z.z_isinstance (by decide +kernel) (pa_cons (pv 9) (pa_cons (pe_bltn (by rfl) Z.z_tuple (by decide +kernel) (show RelV (.ty "tuple") _ from rfl)) pa_nil)))) (pe_dget hu (pv 5) (pe_ix (ixT (K := K)) (pv 9) pe_int (fun _ _ => rfl)) (fun _ _ => rfl)) (pv 9)))) 
    (pss_one (ps_ret (pe_mk G_Written__init (hr.mono (by decide)) (pa_cons (pv 4) (pa_cons (pe_meth (pv 4) G_Pieces_joined.cl G_Pieces_joined.me G_Pieces_joined.ok (hr.mono (by decide)) G_Pieces_joined.b .nil pass0 (pa_cons (pv 7) pa_nil)) pa_nil)))))))))), ?_⟩
    have hRin : ∀ n ∈ ns, ∀ m ∈ regsOf (R n), m ∈ ns := L.2
    have h9 : ∀ n ∈ ns, (R n).length ≤ 9 := fun n hn => by
      have := N n
      have := lin_len L hn
      omega
    -- the pieces
    intro p dx hp0 hdx0 hne
    have hdp : (upd H dx (.own p)) p = none := by rw [upd_ne hne.symm]; exact hp0
    refine ⟨p, dx, H, rfl, upd_same, hp0, (Ex.new hdx0).trans (Ex.new hdp), fun H1 tl sl e1 A1 htl hsl => ⟨rfl, ?_⟩⟩
    show (tSeq _ _) _ [some (.ref a), some (.ref hd), some (.ref d), some (.int (T : Int)), some (.ref p), none, none, none, none, none] H1
    -- what registers hold
    have hh1 := e1 _ _ hhd
    refine ⟨hd, .dK (hk ns hold), hh1, trivial, fun od => ?_⟩
    refine e_numbers (A1.lock hh1) upd_same hN h4 (by show 0 + 4 < 50000; decide) hhl fun nd H2 ps2 vals2 num hnd G2 h2 hv2 => ?_
    obtain ⟨xs1, t1, _⟩ := A1.t
    have hdtl : hd ≠ tl := fun z => by rw [z, t1] at hh1; cases hh1
    have hdsl : hd ≠ sl := fun z => by rw [z, A1.s] at hh1; cases hh1
    have hf2 := G2.e _ _ hdtl hdsl (upd_same (H := H1) (a := hd) (o := .frz od (.dK (hk ns hold))))
    have ndhd : nd ≠ hd := fun z => by rw [z, upd_same] at hnd; cases hnd
    refine ⟨hf2, ?_⟩
    have GA := Gr.unlock A1 hh1 G2 hf2
    have hn2 : (upd H2 hd (.dK (hk ns hold))) nd = some (.dK (numD ns num)) := by rw [upd_ne ndhd]; exact h2
    show (tSeq _ _) _ [some (.ref a), some (.ref hd), some (.ref d), some (.int (T : Int)), some (.ref p), some (.ref nd), none, none, none, none] _
    generalize upd H2 hd (.dK (hk ns hold)) = H3 at GA hn2 ⊢
    have z2 : ps2.length ≤ 4 := by have := GA.z; have e : ([] : List Pc).length = 0 := rfl; omega
    -- the rows
    have hd3 : H3 d = some (.dK l) := numD_exP A1 GA.e (e1 _ _ hl1)
    refine ⟨d, .dK l, hd3, trivial, fun od2 => ?_⟩
    have rows3 : ∀ n v, (Sum.inr n, v) ∈ l → ∃ b, v = .ref b ∧ RowAt (upd H3 d (.frz od2 (.dK l))) b (R n) := fun n v hm => by
      obtain ⟨b, b1, b2⟩ := hl3 n v hm
      refine ⟨b, b1, ?_⟩
      have b3 := (b2.le (Le.ex e1)).exP A1 GA.e
      exact b3.upd hd3 (fun xs q => by cases q)
    refine e_rows (GA.a.lock hd3) upd_same hl2 rows3 hN h4 (by omega) h9 hRl fun rd H4 ps4 vals4 Rk hrd G4 ND4 T4 => ?_
    obtain ⟨xs3, t3, _⟩ := GA.a.t
    have dtl : d ≠ tl := fun z => by rw [z, t3] at hd3; cases hd3
    have dsl : d ≠ sl := fun z => by rw [z, GA.a.s] at hd3; cases hd3
    have hf4 := G4.e _ _ dtl dsl (upd_same (H := H3) (a := d) (o := .frz od2 (.dK l)))
    refine ⟨hf4, ?_⟩
    have GB := Gr.unlock GA.a hd3 G4 hf4
    have ND5 : NDict tl sl ns Rk (upd H4 d (.dK l)) rd := by
      obtain ⟨l', c1, c2, c3⟩ := ND4
      have rdd : rd ≠ d := fun z => by rw [z, upd_same] at hrd; cases hrd
      exact ⟨l', by rw [upd_ne rdd]; exact c1, c2, fun n v hm => by
        obtain ⟨b, b1, b2⟩ := c3 n v hm
        exact ⟨b, b1, b2.frz hf4⟩⟩
    show (tSeq _ _) _ [some (.ref a), some (.ref hd), some (.ref d), some (.int (T : Int)), some (.ref p), some (.ref nd), some (.ref rd), none, none, none] _
    generalize upd H4 d (.dK l) = H5 at GB ND5 ⊢
    have z4 : ps4.length ≤ 40 := by have := GB.z; omega
    obtain ⟨ws4, ew4⟩ := GB.w
    let g0 : Str → List Nat := fun m => cds (hold m)
    have S0 : PT CP H1 H5 p tl sl nd rd ns R g0 T T 0 1 ps4 vals4 num Rk 41 :=
      ⟨GA.e.trans GB.e, GB.a, numD_exP GA.a GB.e hn2, fun n hn => ⟨by have := (hv2 n hn).1; have := GB.len; omega, by rw [GB.at (hv2 n hn).1]; exact (hv2 n hn).2⟩, fun _ => ⟨ND5, ⟨fun n hn => (T4 n hn).i, fun n hn => by rw [(T4 n hn).r, (T4 n hn).z]; exact N n, (lin_F L).congr fun n hn => (T4 n hn).r, fun n hn h => (T4 n hn).w h⟩⟩, by omega, hT, by omega⟩
    refine q_while (fun m σ' H' => ∃ (t dd q : Nat) (nd rd : Addr) (ps' : List Pc) (vals' : List (List Nat)) (num : Str → Nat) (Rk : Str → List Nit), σ' = [some (.ref a), some (.ref hd), some (.ref d), some (.int (t : Int)), some (.ref p), some (.ref nd), some (.ref rd), none, none, none] ∧ PT CP H1 H' p tl sl nd rd ns R g0 T t dd q ps' vals' num Rk m) 41 ⟨T, 0, 1, nd, rd, ps4, vals4, num, Rk, rfl, S0⟩ ?_
    rintro m σ' H' ⟨t, dd, q, nd, rd, ps', vals', num, Rk, rfl, S⟩
    refine ⟨decide ((t : Int) > 0), et_test (ev_op (ev_var rfl) ev_c rv_I0), fun hb H6 e6 => ⟨fun σ2 H2 => ∃ m2, m2 < m ∧ ∃ (t dd q : Nat) (nd rd : Addr) (ps' : List Pc) (vals' : List (List Nat)) (num : Str → Nat) (Rk : Str → List Nit), σ2 = [some (.ref a), some (.ref hd), some (.ref d), some (.int (t : Int)), some (.ref p), some (.ref nd), some (.ref rd), none, none, none] ∧ PT CP H1 H2 p tl sl nd rd ns R g0 T t dd q ps' vals' num Rk m2, fun σ2 H2 h => h, ?_⟩, fun hb H6 e6 => ?_⟩
    · have ht : 0 < t := by have := of_decide_eq_true hb; omega
      exact s_turn hRin hN h4 (S.ex e6) ht fun H2 nd2 rd2 d2 q2 ps2 vals2 num2 Rk2 m2 hm2 S2 => ⟨m2, hm2, t / 2, d2, q2, nd2, rd2, ps2, vals2, num2, Rk2, rfl, S2⟩
    · have ht : t = 0 := by have := of_decide_eq_false hb; omega
      subst ht
      have S6 := S.ex e6
      have hTd : T = dd := by have := S.s; omega
      have z6 := S6.z
      obtain ⟨dx6, fs6, hp6, ft6, fz6, fo6⟩ := S6.a.o
      have row6 : RowAt H6 a row := (hrow.le (Le.ex e1)).exP A1 S6.e
      -- the row, put down
      show tSeq (tAsg (tLc (iList K (tMeth CP "row_of" (sp_Pieces_row_of CP) [] E0 (tVar 4) (tCons (tVar 0) tNil))) (gName 9) tYes _ [9]) (gName 7)) _ _ [some (.ref a), some (.ref hd), some (.ref d), some (.int ((0 : Nat) : Int)), some (.ref p), some (.ref nd), some (.ref rd), none, none, none] H6
      refine ⟨_, rfl, p, dx6, fs6, rfl, hp6, fo6.no (by decide +kernel), _, rfl, ⟨p, tl, sl, a, ps', vals', row, rfl, S6.a, row6, by omega, hrl, by omega, fun H7 ps7 vals7 lr nrow G7 hlr hrow7 hin7 hrg7 hlen7 hw7 => ?_⟩⟩
      obtain ⟨x71, x72, xs, x73, x74⟩ := hrow7
      have hn7 := numD_exP S6.a G7.e S6.n
      have gz7 := G7.z
      have num7 : ∀ n ∈ ns, num n < vals7.length ∧ vAt vals7 (num n) = itc R T g0 n := fun n hn => ⟨by have := (S6.v n hn).1; have := G7.len; omega, by rw [G7.at (S6.v n hn).1, hTd]; exact (S6.v n hn).2⟩
      have comp : EvL (tLc (iList K (tC (.ref lr))) (gName 9) tYes (tIf (tB (tCB (rIsi K) (tCons (tVar 9) (tCons (tC (.ty "tuple")) tNil)))) (tDGet (tVar 5) (tOp (rIxT K) (tVar 9) (tC (.int 0)))) (tVar 9)) [9]) [some (.ref a), some (.ref hd), some (.ref d), some (.int ((0 : Nat) : Int)), some (.ref p), some (.ref nd), some (.ref rd), none, none, none] H7 ((nrow.map (ixN' num)).map fun i : Nat => V.int (i : Int)) := by
        refine el_lcW (src_list (K := K) (ev_c (v := .ref lr)) (sq_of x73)) (by have := x74.1; omega) (fun x => rfl) _ (by rw [List.length_map, List.length_map]; exact x74.1.symm) ?_
        intro i x y H8 e8 hy hx
        rw [List.getElem?_map, List.getElem?_map] at hy
        have hxi : i < nrow.length := by rw [← x74.1]; exact (List.getElem?_eq_some_iff.mp hx).1
        have hti : nrow[i]? = some nrow[i] := List.getElem?_eq_getElem hxi
        have hnt := x74.2 i x _ hx hti
        rw [hti] at hy
        have hmem : nrow[i] ∈ nrow := List.getElem_mem hxi
        generalize nrow[i] = t at hnt hy hmem
        cases t with
        | n i0 =>
          obtain rfl : x = .int (i0 : Int) := hnt
          obtain rfl : V.int (i0 : Int) = y := Option.some.inj hy
          exact Ev.of ((ep_if (b := false) (et_B (ev_isI (b := false) (ev_var rfl) rfl)) (fun z => by cases z) (fun _ => EvP.of (ev_var rfl))))
        | r m =>
          obtain ⟨b, rfl, hb⟩ := hnt
          obtain rfl : V.int ((num m : Nat) : Int) = y := Option.some.inj hy
          have hmr : m ∈ ns := hrn m (by rw [← hrg7]; exact List.mem_filterMap.mpr ⟨.r m, hmem, rfl⟩)
          exact Ev.of ((ep_if (b := true) (et_B (ev_isU (b := true) (ev_var rfl) (e8 _ _ hb) rfl)) (fun _ => EvP.of (ev_get (k := .inr m) (ev_var rfl) (ev_ixU (K := K) (i := 0) (ev_var rfl) ev_c (e8 _ _ hb) rfl) rfl (.inl (e8 _ _ hn7)) (numD_at hmr))) (fun z => by cases z)))
      show tSeq (tAsg (tLc (iList K (tC (.ref lr))) (gName 9) tYes (tIf (tB (tCB (rIsi K) (tCons (tVar 9) (tCons (tC (.ty "tuple")) tNil)))) (tDGet (tVar 5) (tOp (rIxT K) (tVar 9) (tC (.int 0)))) (tVar 9)) [9]) (gName 7)) (tRet (tMake CW (sp_Written_init CW CP) [] E0 (tCons (tVar 4) (tCons (tMeth CP "joined" (sp_Pieces_joined CP) [] E0 (tVar 4) (tCons (tVar 7) tNil)) tNil)))) { nx := fun _ H' => Q V.non H', rt := Q } [some (.ref a), some (.ref hd), some (.ref d), some (.int ((0 : Nat) : Int)), some (.ref p), some (.ref nd), some (.ref rd), none, none, none] H7
      refine q_asgL comp fun pl H8 hpl e8 h8 => ?_
      have A8 := G7.a.ex e8
      obtain ⟨xs8, t8, _⟩ := A8.t
      have pltl : pl ≠ tl := fun z => by
        obtain ⟨xs9, t9, _⟩ := G7.a.t
        rw [z, t9] at hpl
        cases hpl
      have plsl : pl ≠ sl := fun z => by rw [z, G7.a.s] at hpl; cases hpl
      have ixok : ∀ q ∈ nrow.map (ixN' num), q < vals7.length := fun q hq => by
        obtain ⟨t, ht, rfl⟩ := List.mem_map.mp hq
        have hi := hin7 t ht
        cases t with
        | n i => exact hi
        | r m => exact (num7 m (hrn m (by rw [← hrg7]; exact List.mem_filterMap.mpr ⟨.r m, ht, rfl⟩))).1
      show tRet (tMake CW (sp_Written_init CW CP) [] E0 (tCons (tVar 4) (tCons (tMeth CP "joined" (sp_Pieces_joined CP) [] E0 (tVar 4) (tCons (tVar 7) tNil)) tNil))) _ [some (.ref a), some (.ref hd), some (.ref d), some (.int ((0 : Nat) : Int)), some (.ref p), some (.ref nd), some (.ref rd), some (.ref pl), none, none] H8
      obtain ⟨dx8, fs8, hp8, ft8, fz8, fo8⟩ := A8.o
      refine ⟨_, rfl, _, rfl, p, dx8, fs8, rfl, hp8, fo8.no (by decide +kernel), _, rfl, ⟨p, tl, sl, pl, ps7, vals7, nrow.map (ixN' num), rfl, A8, h8, pltl, plsl, ixok, by rw [List.length_map]; omega, fun H9 ps9 vals9 kk G9 hkk hkv => ?_⟩⟩
      intro x dx9 hx hdx hdxx
      have hdp9 : (upd H9 dx9 (.own x)) x = none := by rw [upd_ne hdxx.symm]; exact hx
      have gz9 := G9.z
      rw [List.length_map] at gz9
      refine ⟨x, p, dx9, tl, sl, ps9, vals9, kk, H9, rfl, upd_same, hx, (Ex.new hdx).trans (Ex.new hdp9), G9.a, hkk, fun H10 e10 W => ⟨rfl, ?_⟩⟩
      have XP : ExP tl sl H1 H9 := ((S6.e.trans G7.e).trans (ExP.of e8)).trans G9.e
      refine k H10 x ps9 vals9 kk ((ExP.ex e1 htl hsl XP).trans e10) W (by omega) ?_
      rw [hkv, cvs_ix, hw7]
      exact cwr_congr fun m hm => (num7 m (hrn m hm)).2
end
end KX
end
section
set_option Elab.async false
set_option linter.all false
set_option maxRecDepth 100000
set_option maxHeartbeats 8000000
/-! Py17: what rounds tell. -/
namespace KX
open PySem PySem.Spec PyProof.Rows L2 Evl

theorem cutV_at {α : Type} (f : α → V) (ds : List α) (lo : Nat) (hlo : lo ≤ ds.length) : cutV (ds.map f) (some (lo : Int)) none = (ds.drop lo).map f := by
  unfold cutV
  rw [HT.sIx_nat, HT.sIx_none, List.length_map, Nat.min_eq_left hlo, ← List.map_drop, List.take_of_length_le (by rw [List.length_map, List.length_drop]; omega)]
theorem cutV_upto {α : Type} (f : α → V) (ds : List α) (hi : Nat) (hhi : hi ≤ ds.length) : cutV (ds.map f) none (some (hi : Int)) = (ds.take hi).map f := by
  unfold cutV
  rw [HT.sIx_nat, HT.sIx_none, List.length_map, Nat.min_eq_left hhi, List.drop_zero, Nat.sub_zero, List.map_take]
theorem cutV_mid {α : Type} (f : α → V) (ds : List α) (lo hi : Nat) (h : lo ≤ hi) (hhi : hi ≤ ds.length) : cutV (ds.map f) (some (lo : Int)) (some (hi : Int)) = ((ds.drop lo).take (hi - lo)).map f := by
  unfold cutV
  rw [HT.sIx_nat, HT.sIx_nat, List.length_map, Nat.min_eq_left hhi, Nat.min_eq_left (by omega), ← List.map_drop, ← List.map_take]
/-- moves on the heap: k of them, from the state with a number on -/
def MvAt (H : Hp) (l : Addr) (g : Pg) (w : List Nat) (s : Int) (i0 k : Nat) : Prop := ∃ ds : List Addr, H l = some (.lst (ds.map V.ref)) ∧ ds.length = k ∧ ∀ (i : Nat) d, ds[i]? = some d → RowsN g.regs (ro g w (stR g w s (i0 + i))) H d
theorem MvAt.ex {H H' : Hp} {l : Addr} {g : Pg} {w : List Nat} {s : Int} {i0 k : Nat} (e : Ex H H') (h : MvAt H l g w s i0 k) : MvAt H' l g w s i0 k := by
  obtain ⟨ds, h1, h2, h3⟩ := h
  exact ⟨ds, e _ _ h1, h2, fun i d hd => (h3 i d hd).ex e⟩
abbrev RdX := Addr × Pg × List Nat × Int × Nat × Nat × Nat × Nat
def RdPre (CR : Addr) (x : RdX) (vs : List V) (H : Hp) : Prop := vs = [.ref x.1] ∧ RdAt CR H x.1 x.2.1 x.2.2.1 x.2.2.2.1 x.2.2.2.2.1 x.2.2.2.2.2.1 x.2.2.2.2.2.2.1 x.2.2.2.2.2.2.2 ∧ x.2.2.2.2.2.1 ≤ x.2.2.2.2.1 ∧ x.2.2.2.2.2.2.2 ≤ x.2.2.2.2.1 - x.2.2.2.2.2.1 ∧ x.2.2.2.2.1 ≤ 1000
def sp_Rounds_last (CR : Addr) : Sp := spE (RdPre CR) (fun x v _ => v = .int (stR x.2.1 x.2.2.1 x.2.2.2.1 (x.2.2.2.2.2.1 + x.2.2.2.2.2.2.2)))
def sp_Rounds_ahead (CR : Addr) : Sp := spE (RdPre CR) (fun x v H => ∃ l, v = .ref l ∧ MvAt H l x.2.1 x.2.2.1 x.2.2.2.1 0 x.2.2.2.2.2.1)
def sp_Rounds_ring (CR : Addr) : Sp := spE (RdPre CR) (fun x v H => ∃ l, v = .ref l ∧ MvAt H l x.2.1 x.2.2.1 x.2.2.2.1 x.2.2.2.2.2.1 (x.2.2.2.2.1 - x.2.2.2.2.2.1))
def sp_Rounds_behind (CR : Addr) : Sp := spE (RdPre CR) (fun x v H => ∃ l, v = .ref l ∧ MvAt H l x.2.1 x.2.2.1 x.2.2.2.1 x.2.2.2.2.2.1 x.2.2.2.2.2.2.2)
section
variable {P : Program} {w : World} {K : PySem.W.Frag} {mg : Str → Option Value} {base : Heap} {C CR : Addr} {f : Addr} {fd : FuncData}
theorem ok_Rounds_last (F : Fun K "last_state" "Rounds.last_state" s_Rounds_last_state f fd) (Z : Zs mg C) (RC : RdC K CR) : FnOk P w K mg base CX0 1 f fd ["self"] (sp_Rounds_last CR) := by
  refine F.ok sc_Rounds_last_state (fun vs H Q E h => ?_) (fun cdv A outer s H vs Q E hr h => ?_)
  · obtain ⟨i, ⟨rfl, _⟩, _⟩ := h
    rfl
  · obtain ⟨⟨x, g, W, s0, N, start, turns, rest⟩, ⟨rfl, ⟨dx, fs, sl, ml, ds, h1, hf, h3, h4, h5, h6⟩, n1, n2, n3⟩, k⟩ := h
    dsimp only at h1 hf h3 h4 h5 h6 n1 n2 n3 k
    refine ⟨_, (pss_one (ps_ret (pe_ix (ixL (K := K)) (pe_fldK (K := K) (pv 0) rfl) (pe_op op_add (pe_fldK (K := K) (pv 0) rfl) (pe_fldK (K := K) (pv 0) rfl)) (fun _ _ => rfl)))), ?_⟩
    refine s_ret (v := .int (stR g W s0 (start + rest))) (ev_op (ev_fld (K := K) (ev_var rfl) h1 RC.cl RC.s hf.s) (ev_is (w := .int ((start + rest : Nat) : Int)) (ev_op (ev_fld (K := K) (ev_var rfl) h1 RC.cl RC.b hf.b) (ev_fld (K := K) (ev_var rfl) h1 RC.cl RC.r hf.r) rv_I0) (by congr 1)) (rv_ixL (K := K) (sq_of h3) (atI_nat ?_))) fun H1 e1 => k _ H1 e1 rfl
    rw [List.getElem?_map, List.getElem?_range (by omega)]
    rfl
theorem ok_Rounds_ahead (F : Fun K "moves_ahead" "Rounds.moves_ahead" s_Rounds_moves_ahead f fd) (Z : Zs mg C) (RC : RdC K CR) : FnOk P w K mg base CX0 1 f fd ["self"] (sp_Rounds_ahead CR) := by
  refine F.ok sc_Rounds_moves_ahead (fun vs H Q E h => ?_) (fun cdv A outer s H vs Q E hr h => ?_)
  · obtain ⟨i, ⟨rfl, _⟩, _⟩ := h
    rfl
  · obtain ⟨⟨x, g, W, s0, N, start, turns, rest⟩, ⟨rfl, ⟨dx, fs, sl, ml, ds, h1, hf, h3, h4, h5, h6⟩, n1, n2, n3⟩, k⟩ := h
    dsimp only at h1 hf h3 h4 h5 h6 n1 n2 n3 k
    refine ⟨_, (pss_one (ps_ret (pe_slice sl_list (pe_fldK (K := K) (pv 0) rfl) po_none (po_some (pe_fldK (K := K) (pv 0) rfl))))), ?_⟩
    refine s_retL (el_sl (ev_fld (K := K) (ev_var rfl) h1 RC.cl RC.m hf.m) eo_none (eo_some (ev_fld (K := K) (ev_var rfl) h1 RC.cl RC.b hf.b)) (sq_of h4)) fun l H1 hl e1 h => k _ H1 e1 ⟨l, rfl, ds.take start, ?_, by rw [List.length_take]; omega, fun i d hd => ?_⟩
    · rw [h, cutV_upto _ _ _ (by omega)]
    · rw [List.getElem?_take] at hd
      split at hd
      · rw [Nat.zero_add]
        exact (h6 i d hd).ex e1
      · cases hd
theorem ok_Rounds_ring (F : Fun K "moves_of_ring" "Rounds.moves_of_ring" s_Rounds_moves_of_ring f fd) (Z : Zs mg C) (RC : RdC K CR) : FnOk P w K mg base CX0 1 f fd ["self"] (sp_Rounds_ring CR) := by
  refine F.ok sc_Rounds_moves_of_ring (fun vs H Q E h => ?_) (fun cdv A outer s H vs Q E hr h => ?_)
  · obtain ⟨i, ⟨rfl, _⟩, _⟩ := h
    rfl
  · obtain ⟨⟨x, g, W, s0, N, start, turns, rest⟩, ⟨rfl, ⟨dx, fs, sl, ml, ds, h1, hf, h3, h4, h5, h6⟩, n1, n2, n3⟩, k⟩ := h
    dsimp only at h1 hf h3 h4 h5 h6 n1 n2 n3 k
    refine ⟨_, (pss_one (ps_ret (pe_slice sl_list (pe_fldK (K := K) (pv 0) rfl) (po_some (pe_fldK (K := K) (pv 0) rfl)) po_none))), ?_⟩
    refine s_retL (el_sl (ev_fld (K := K) (ev_var rfl) h1 RC.cl RC.m hf.m) (eo_some (ev_fld (K := K) (ev_var rfl) h1 RC.cl RC.b hf.b)) eo_none (sq_of h4)) fun l H1 hl e1 h => k _ H1 e1 ⟨l, rfl, ds.drop start, ?_, by rw [List.length_drop, h5], fun i d hd => ?_⟩
    · rw [h, cutV_at _ _ _ (by omega)]
    · rw [List.getElem?_drop] at hd
      exact (h6 _ d hd).ex e1
theorem ok_Rounds_behind (F : Fun K "moves_behind" "Rounds.moves_behind" s_Rounds_moves_behind f fd) (Z : Zs mg C) (RC : RdC K CR) : FnOk P w K mg base CX0 1 f fd ["self"] (sp_Rounds_behind CR) := by
  refine F.ok sc_Rounds_moves_behind (fun vs H Q E h => ?_) (fun cdv A outer s H vs Q E hr h => ?_)
  · obtain ⟨i, ⟨rfl, _⟩, _⟩ := h
    rfl
  · obtain ⟨⟨x, g, W, s0, N, start, turns, rest⟩, ⟨rfl, ⟨dx, fs, sl, ml, ds, h1, hf, h3, h4, h5, h6⟩, n1, n2, n3⟩, k⟩ := h
    dsimp only at h1 hf h3 h4 h5 h6 n1 n2 n3 k
    refine ⟨_, (pss_one (ps_ret (pe_slice sl_list (pe_fldK (K := K) (pv 0) rfl) (po_some (pe_fldK (K := K) (pv 0) rfl)) (po_some (pe_op op_add (pe_fldK (K := K) (pv 0) rfl) (pe_fldK (K := K) (pv 0) rfl)))))), ?_⟩
    refine s_retL (el_sl (ev_fld (K := K) (ev_var rfl) h1 RC.cl RC.m hf.m) (eo_some (ev_fld (K := K) (ev_var rfl) h1 RC.cl RC.b hf.b)) (eo_some (i := ((start + rest : Nat) : Int)) (ev_is (ev_op (ev_fld (K := K) (ev_var rfl) h1 RC.cl RC.b hf.b) (ev_fld (K := K) (ev_var rfl) h1 RC.cl RC.r hf.r) rv_I0) (by congr 1))) (sq_of h4)) fun l H1 hl e1 h => k _ H1 e1 ⟨l, rfl, (ds.drop start).take rest, ?_, by rw [List.length_take, List.length_drop]; omega, fun i d hd => ?_⟩
    · rw [h, cutV_mid _ _ _ _ (by omega) (by omega), show start + rest - start = rest by omega]
    · rw [List.getElem?_take] at hd
      split at hd
      · rw [List.getElem?_drop] at hd
        exact (h6 _ d hd).ex e1
      · cases hd
end
end KX
end
section
set_option Elab.async false
set_option linter.all false
set_option maxRecDepth 100000
set_option maxHeartbeats 8000000
/-! Py18: a word again and again: what is written. -/
namespace KX
open PySem PySem.Spec PyProof.Rows L2 Evl

def hol (g : Pg) (s : Int) (h : Str → Str) (w : List Nat) (n : Nat) : Str → Str := (ag g s h w n).2
theorem ag_st (g : Pg) (s : Int) (h : Str → Str) (w : List Nat) : ∀ n, (ag g s h w n).1 = stR g w s n
  | 0 => rfl
  | n + 1 => by
    rw [ag_succ, ag_st g s h w n]
    rfl
theorem hol_zero (g : Pg) (s : Int) (h : Str → Str) (w : List Nat) : hol g s h w 0 = h := rfl
theorem hol_succ (g : Pg) (s : Int) (h : Str → Str) (w : List Nat) (n : Nat) : hol g s h w (n + 1) = ap (ro g w (stR g w s n)) (hol g s h w n) := by
  unfold hol
  rw [ag_succ, ag_st]
theorem cstep_cds (R : Str → List Itm) (h : Str → Str) : cstep R (fun m => cds (h m)) = fun m => cds (ap R h m) := by
  funext m
  exact (cwr_wr h (R m)).symm
/-- moves from the state with a number on -/
def mvs (g : Pg) (w : List Nat) (s : Int) (i0 k : Nat) : List (Str → List Itm) := (List.range k).map fun i => ro g w (stR g w s (i0 + i))
theorem mvs_len (g : Pg) (w : List Nat) (s : Int) (i0 k : Nat) : (mvs g w s i0 k).length = k := by
  unfold mvs
  rw [List.length_map, List.length_range]
theorem mvs_snoc (g : Pg) (w : List Nat) (s : Int) (i0 k : Nat) : mvs g w s i0 (k + 1) = mvs g w s i0 k ++ [ro g w (stR g w s (i0 + k))] := by
  unfold mvs
  rw [List.range_succ, List.map_append]
  rfl
theorem mvs_at {g : Pg} {w : List Nat} {s : Int} {i0 k i : Nat} {m : Str → List Itm} (h : (mvs g w s i0 k)[i]? = some m) : m = ro g w (stR g w s (i0 + i)) := by
  unfold mvs at h
  rw [List.getElem?_map] at h
  obtain ⟨j, hj, e⟩ := Option.map_eq_some_iff.mp h
  obtain ⟨hl, e2⟩ := List.getElem?_eq_some_iff.mp hj
  rw [List.getElem_range] at e2
  rw [← e, e2]
theorem fold_hol (g : Pg) (w : List Nat) (s : Int) (h : Str → Str) (a b : Nat) : ∀ k, (∀ i, i < k → stR g w s (a + i) = stR g w s (b + i)) → (mvs g w s b k).foldl (fun h m => ap m h) (hol g s h w a) = hol g s h w (a + k)
  | 0, _ => rfl
  | k + 1, e => by
    rw [mvs_snoc, List.foldl_append, fold_hol g w s h a b k fun i hi => e i (by omega)]
    show ap (ro g w (stR g w s (b + k))) (hol g s h w (a + k)) = hol g s h w (a + k + 1)
    rw [hol_succ, e k (Nat.lt_succ_self _)]
theorem per_one {g : Pg} {w : List Nat} {s : Int} {start N : Nat} (hN : start ≤ N) (z : stR g w s N = stR g w s start) : ∀ i, stR g w s (start + (N - start) + i) = stR g w s (start + i)
  | 0 => by
    rw [show start + (N - start) + 0 = N by omega]
    exact z
  | i + 1 => by
    show nx g w (stR g w s (start + (N - start) + i)) = nx g w (stR g w s (start + i))
    rw [per_one hN z i]
theorem per_all {g : Pg} {w : List Nat} {s : Int} {start N : Nat} (hN : start ≤ N) (z : start < N → stR g w s N = stR g w s start) : ∀ j i, stR g w s (start + (N - start) * j + i) = stR g w s (start + i)
  | 0, i => by rw [Nat.mul_zero]; rfl
  | j + 1, i => by
    by_cases h : start < N
    · rw [show start + (N - start) * (j + 1) + i = start + (N - start) + ((N - start) * j + i) by rw [Nat.mul_succ]; omega, per_one hN (z h), ← Nat.add_assoc]
      exact per_all hN z j i
    · rw [show N - start = 0 by omega, Nat.zero_mul]
      rfl
theorem ring_turns {g : Pg} {w : List Nat} {s : Int} {h : Str → Str} {start N : Nat} (hN : start ≤ N) (z : start < N → stR g w s N = stR g w s start) : ∀ (j i : Nat), itc (thr (mvs g w s start (N - start))) j (fun m => cds (hol g s h w (start + (N - start) * i) m)) = fun m => cds (hol g s h w (start + (N - start) * (i + j)) m)
  | 0, i => rfl
  | j + 1, i => by
    show itc _ j (cstep _ _) = _
    rw [cstep_cds, ap_thr0, fold_hol g w s h _ start _ fun k _ => per_all hN z i k]
    have := ring_turns (h := h) hN z j (i + 1)
    rw [show start + (N - start) * i + (N - start) = start + (N - start) * (i + 1) by rw [Nat.mul_succ]; omega, this, show i + 1 + j = i + (j + 1) by omega]
/-- what is written behind rounds -/
theorem round_text {g : Pg} {w b : List Nat} {s : Int} {h : Str → Str} {many N start turns rest : Nat} {row : List Itm} (M : RdM g w s many N start turns rest) :
    cwr (fil row (thr (mvs g w s start rest ++ [ro g b (stR g w s (start + rest))]))) (itc (thr (mvs g w s start (N - start))) turns fun m => cds (hol g s h w start m)) = cds (wr (fil row (ro g b (stR g w s many))) (hol g s h w many)) := by
  have e := ring_turns (h := h) M.n M.z turns 0
  rw [Nat.mul_zero, Nat.add_zero, Nat.zero_add] at e
  have e1 := per_all M.n M.z turns rest
  rw [e, ← cwr_wr, wr_fil, wr_fil]
  have e2 : (fun n => wr (thr (mvs g w s start rest ++ [ro g b (stR g w s (start + rest))]) n) (hol g s h w (start + (N - start) * turns))) = fun n => wr (ro g b (stR g w s many) n) (hol g s h w many) := by
    show ap (thr _) _ = ap _ _
    rw [ap_thr0, List.foldl_append, fold_hol g w s h _ start rest fun k _ => per_all M.n M.z turns k]
    show ap (ro g b (stR g w s (start + rest))) _ = _
    rw [← e1, ← M.m]
  rw [e2]
theorem Wn_rounds {g : Pg} {a w b : List Nat} {many : Nat} : Wn g a w b many = (g.fin (nx g b (stR g w (runG g a).1 many))).map fun row => wr (fil row (ro g b (stR g w (runG g a).1 many))) (hol g (runG g a).1 (runG g a).2 w many) := by
  rw [Wn_eq, ag_st]
  rfl
/-- how long registers are in all -/
def hsum (regs : List Str) (h : Str → Str) : Nat := smF (fun n => (h n).length) regs
theorem hsum_ap {regs : List Str} {R : Str → List Itm} {h : Str → Str} (L : LinN regs R) : hsum regs (ap R h) ≤ tl regs R + hsum regs h := by
  unfold hsum
  rw [smF_ap]
  have := smF_sub (f := fun n => (h n).length) L.1 (fun m hm => by
    obtain ⟨n, hn, h2⟩ := List.mem_flatMap.mp hm
    exact L.2 n hn m h2)
  exact Nat.add_le_add_left this _
theorem le_hsum {regs : List Str} {h : Str → Str} {n : Str} (hn : n ∈ regs) : (h n).length ≤ hsum regs h := by
  have : ∀ {l : List Str}, n ∈ l → (h n).length ≤ smF (fun n => (h n).length) l := fun {l} => by
    induction l with
    | nil => intro z; cases z
    | cons x r ih =>
      intro hm
      have e : smF (fun n => (h n).length) (x :: r) = (h x).length + smF (fun n => (h n).length) r := by unfold smF; simp
      rw [e]
      rcases List.mem_cons.mp hm with rfl | hm
      · omega
      · have := ih hm
        omega
  exact this hn
theorem hsum_hol {g : Pg} {B : Nat} (T : Thin g B) {w : List Nat} (hw : ∀ c ∈ w, c ∈ cds g.L) {s : Int} {h : Str → Str} (h0 : 0 ≤ s) (h1 : s < g.n) : ∀ n, hsum g.regs (hol g s h w n) ≤ hsum g.regs h + n * (B * w.length)
  | 0 => by rw [hol_zero]; omega
  | n + 1 => by
    have i := stR_in T hw h0 h1 n
    obtain ⟨_, L, t⟩ := rwG_ok T hw i.1 i.2
    have := hsum_ap (h := hol g s h w n) L
    have := hsum_hol T hw (h := h) h0 h1 n
    rw [hol_succ, Nat.succ_mul]
    have e : ro g w (stR g w s n) = (rwG g (stR g w s n) w).2 := rfl
    rw [e]
    omega
theorem hsum_runG {g : Pg} {B : Nat} (T : Thin g B) {w : List Nat} (hw : ∀ c ∈ w, c ∈ cds g.L) : hsum g.regs (runG g w).2 ≤ hsum g.regs g.fst + B * w.length := by
  have n1 := T.n1
  obtain ⟨_, L, t⟩ := rwG_ok T (s := 0) hw (by omega) (by omega)
  have e : runG g w = ((rwG g 0 w).1, ap (rwG g 0 w).2 g.fst) := by rw [runG_S, rwG_run]
  rw [e]
  have := hsum_ap (h := g.fst) L
  show hsum g.regs (ap (rwG g 0 w).2 g.fst) ≤ _
  omega
end KX
end
section
set_option Elab.async false
set_option linter.all false
set_option maxRecDepth 100000
set_option maxHeartbeats 8000000
/-! Py19: what registers hold behind moves; loops over new tuples and lists. -/
namespace KX
open PySem PySem.Spec PyProof.Rows L2 Evl

theorem Ex.unl {H H' : Hp} {d : Addr} {o o2 : HO} (hd : H d = some o) (e : Ex (upd H d o2) H') : Ex H (upd H' d o) := fun a u h => by
  by_cases z : a = d
  · subst z
    rw [hd] at h
    cases h
    exact upd_same
  · rw [upd_ne z]
    exact e a u (by rw [upd_ne z]; exact h)
theorem goOk_thin {g : Pg} {B : Nat} (T : Thin g B) : GoOk g :=
  ⟨T.n1, T.rN, by have := T.r4; omega, T.go, fun s c h n hn => ⟨by have := T.rl s c h n hn; omega, fun m hm => (T.li s c h).1.2 n hn m (regsOf_mem.mpr hm)⟩, fun s row h => ⟨by have := T.fl s row h; omega, fun m hm => (T.fi s row h).2.1 m (regsOf_mem.mpr hm)⟩⟩
theorem plain_thin {g : Pg} {B : Nat} (T : Thin g B) : Plain g := ⟨fun s c h => (T.li s c h).1.1, fun s row h => (T.fi s row h).1⟩
theorem fit_thin {g : Pg} {B : Nat} (T : Thin g B) {w : List Nat} (hw : ∀ c ∈ w, c ∈ cds g.L) (h10 : w.length ≤ 10) (hh : hsum g.regs g.fst ≤ 1000) : Fit g w := fun i hi n hn => by
  have h1 := hsum_runG T (w := w.take i) (fun c hc => hw c (List.mem_of_mem_take hc))
  have h2 := le_hsum (h := (runG g (w.take i)).2) hn
  have h3 : (w.take i).length ≤ 10 := by rw [List.length_take]; omega
  have h4 := T.b
  have h5 : B * (w.take i).length ≤ 100 * 10 := Nat.mul_le_mul h4 h3
  unfold big
  omega
section
variable {K : PySem.W.Frag} {σ : L2.St} {H : Hp} {tb tz : TS} {D : Ends} {te : TE} {g : TG}
/-- over a new tuple -/
theorem q_forNU {xs : List V} (h : EvU te σ H xs) (Pv : Addr → Nat → L2.St → Hp → Prop) (h0 : ∀ p H1, H p = none → Ex H H1 → H1 p = some (.tup xs) → Pv p 0 σ H1) (hG : ∀ p i σ' H', i ≤ xs.length → Pv p i σ' H' → SqT K H' p xs)
    (hs : ∀ p i x σ' H', xs[i]? = some x → Pv p i σ' H' → g x σ' H' fun σ2 H2 => tb { D with nx := Pv p (i + 1), ct := Pv p (i + 1), bk := tz D } σ2 H2) (hd : ∀ p σ' H', Pv p xs.length σ' H' → tz D σ' H') : tSeq (tFor (iTup K te) g tb) tz D σ H :=
  h H (Ex.refl H) _ fun p H1 hp e hy => ⟨p, rfl, ⟨xs, st_of hy⟩, for_it (D := { D with nx := tz D }) (walk_tup (K := K) (a := p) (xs := xs)) (Pv p) (h0 p H1 hp e hy) (hG p) (fun i x σ' H' H'' _ q y => by
    obtain ⟨rfl, hx⟩ := y
    exact hs p i x σ' _ hx q) (hd p)⟩
/-- over a list that is not told exactly -/
theorem q_forLP {Pa : Addr → List V → Hp → Prop} (h : EvP te σ H (fun v H' => ∃ a xs, v = .ref a ∧ H' a = some (.lst xs) ∧ Pa a xs H')) (Pv : Addr → List V → Nat → L2.St → Hp → Prop) (h0 : ∀ a xs H1, Ex H H1 → H1 a = some (.lst xs) → Pa a xs H1 → Pv a xs 0 σ H1) (hG : ∀ a xs i σ' H', i ≤ xs.length → Pv a xs i σ' H' → SqL K H' a xs)
    (hs : ∀ a xs i x σ' H', xs[i]? = some x → Pv a xs i σ' H' → g x σ' H' fun σ2 H2 => tb { D with nx := Pv a xs (i + 1), ct := Pv a xs (i + 1), bk := tz D } σ2 H2) (hd : ∀ a xs σ' H', Pv a xs xs.length σ' H' → tz D σ' H') : tSeq (tFor (iList K te) g tb) tz D σ H :=
  h H (Ex.refl H) _ fun v H1 e ⟨a, xs, ev, hy, p⟩ => ⟨a, ev, ⟨xs, sq_of hy⟩, for_it (D := { D with nx := tz D }) (walk_list (K := K) (a := a) (xs := xs)) (Pv a xs) (h0 a xs H1 e hy p) (hG a xs) (fun i x σ' H' H'' _ q y => by
    obtain ⟨rfl, hx⟩ := y
    exact hs a xs i x σ' _ hx q) (hd a xs)⟩
/-- what registers hold behind a move -/
theorem e_held {σ : L2.St} {H : Hp} {d hd : Addr} {ns : List Str} {R : Str → List Itm} {h : Str → Str} {od : Obj} {l : List (Key × V)} {Q : VK} (hw : ∀ x, wipe ((wipe σ [13]).set 13 (some x)) [13] = wipe σ [13]) (hj : ∀ x : V, ((wipe σ [13]).set 13 (some x))[13]? = some (some x)) (v12 : ∀ x : V, ((wipe σ [13]).set 13 (some x))[12]? = some (some (.ref d))) (v7 : ∀ x : V, ((wipe σ [13]).set 13 (some x))[7]? = some (some (.ref hd))) (s12 : σ[12]? = some (some (.ref d)))
    (hh : H d = some (.frz od (.dK l))) (hlk : l.map (·.1) = ns.map Sum.inr) (hlv : ∀ n v, (Sum.inr n, v) ∈ l → ∃ a, v = .ref a ∧ RowAt H a (R n)) (hN : ns.Nodup) (h4 : ns.length ≤ 4) (h9 : ∀ n ∈ ns, (R n).length ≤ 1000) (hR : ∀ n ∈ ns, ∀ m ∈ regsOf (R n), m ∈ ns) (hhd : Rd H hd (.dK (hk ns h))) (hz : ∀ n ∈ ns, (ap R h n).length ≤ 16000000)
    (k : ∀ D H', H D = none → Ex H H' → H' D = some (.dK (hk ns (ap R h))) → Q (.ref D) H') :
    tDp (.dK []) (iKeys (tVar 12)) (gName 13) tYes (tVar 13) (tCall sp_text_of [] E0 (tCons (tDGet (tVar 12) (tVar 13)) (tCons (tVar 7) tNil))) [13] σ H Q := by
  refine dpX_keys (ns := ns) s12 hh hlk hw hj (fun D i H' => H D = none ∧ Ex H H' ∧ H' D = some (.dK (hk (ns.take i) (ap R h)))) ?_ ?_ ?_ ?_
  · intro D hD
    exact ⟨hD, Ex.new hD, upd_same⟩
  · rintro D i H' ⟨hD, ex, _⟩
    exact ex _ _ hh
  · rintro D i n H' hin ⟨hD, ex, hDd⟩
    have hnm := List.mem_of_getElem? hin
    obtain ⟨v, hv, hvm⟩ := valV_key (kvs := l) (k := .inr n) (by rw [hlk]; exact List.mem_map_of_mem hnm)
    obtain ⟨b, rfl, hb⟩ := hlv n v hvm
    refine (ev_use (ea_cons (ev_get (k := .inr n) (ev_var (v12 _)) (ev_var (hj _)) rfl (.inr ⟨od, ex _ _ hh⟩) hv) (ea_cons (ev_var (v7 _)) ea_nil)) (spE_V (b, hd, R n, ns, h) (fun H2 e2 => ⟨rfl, hb.le (Le.ex (ex.trans e2)), h9 n hnm, fun m hm => hR n hnm m (regsOf_mem.mpr hm), ex_rd (ex.trans e2) hhd, hz n hnm⟩) fun v _ p => p) : Ev _ _ H' (.str (wr (R n) h))) H' (Ex.refl _) _ fun H2 e2 => ?_
    have htk : ns.take (i + 1) = ns.take i ++ [n] := by rw [List.take_succ, hin]; rfl
    refine dpX_put hN hin (by omega) (by unfold hk; rw [List.map_map]; rfl) (e2 _ _ hDd) ⟨hD, Ex.mut (ex.trans e2) hD, ?_⟩
    rw [upd_same, htk]
    unfold hk
    rw [List.map_append]
    rfl
  · rintro D H' ⟨hD, ex, hDd⟩
    rw [List.take_length] at hDd
    exact k D H' hD ex hDd
end
end KX
end
section
set_option Elab.async false
set_option linter.all false
set_option maxRecDepth 100000
set_option maxHeartbeats 8000000
/-! Py20: what is written for a text, a word so many times, and a text. -/
namespace KX
open PySem PySem.Spec PyProof.Rows L2 Evl

/-- moves on the heap -/
def MsAt (H : Hp) (l : Addr) (regs : List Str) (ms : List (Str → List Itm)) : Prop := ∃ ds : List Addr, H l = some (.lst (ds.map V.ref)) ∧ ds.length = ms.length ∧ ∀ (i : Nat) d m, ds[i]? = some d → ms[i]? = some m → RowsN regs m H d
theorem MsAt.ex {H H' : Hp} {l : Addr} {regs : List Str} {ms : List (Str → List Itm)} (e : Ex H H') (h : MsAt H l regs ms) : MsAt H' l regs ms := by
  obtain ⟨ds, h1, h2, h3⟩ := h
  exact ⟨ds, e _ _ h1, h2, fun i d m a b => (h3 i d m a b).ex e⟩
theorem MvAt.ms {H : Hp} {l : Addr} {g : Pg} {w : List Nat} {s : Int} {i0 k : Nat} (h : MvAt H l g w s i0 k) : MsAt H l g.regs (mvs g w s i0 k) := by
  obtain ⟨ds, h1, h2, h3⟩ := h
  exact ⟨ds, h1, by rw [mvs_len, h2], fun i d m a b => by rw [mvs_at b]; exact h3 i d a⟩
/-- moves that may be put one behind the other -/
def MsOk (regs : List Str) (ms : List (Str → List Itm)) : Prop := ∀ m ∈ ms, LinN regs m ∧ Nrm m ∧ tl regs m ≤ 1000
theorem MsOk.mvs {g : Pg} {B : Nat} (T : Thin g B) {w : List Nat} (hw : ∀ c ∈ w, c ∈ cds g.L) (h10 : w.length ≤ 10) {s : Int} (h0 : 0 ≤ s) (h1 : s < g.n) (i0 k : Nat) : MsOk g.regs (mvs g w s i0 k) := fun m hm => by
  obtain ⟨i, hi⟩ := List.mem_iff_getElem?.mp hm
  rw [mvs_at hi]
  have hin := stR_in T hw h0 h1 (i0 + i)
  obtain ⟨_, L, t⟩ := rwG_ok T hw hin.1 hin.2
  have : B * w.length ≤ 100 * 10 := Nat.mul_le_mul T.b h10
  exact ⟨L, nrm_rw g _ w, by show tl g.regs (rwG g _ w).2 ≤ 1000; omega⟩
theorem MsOk.snoc {regs : List Str} {ms : List (Str → List Itm)} {m : Str → List Itm} (h : MsOk regs ms) (hm : LinN regs m ∧ Nrm m ∧ tl regs m ≤ 1000) : MsOk regs (ms ++ [m]) := fun x hx => by
  rcases List.mem_append.mp hx with hx | hx
  · exact h x hx
  · rw [List.mem_singleton.mp hx]
    exact hm
theorem MsOk.thr {regs : List Str} (hN : regs.Nodup) {ms : List (Str → List Itm)} (h : MsOk regs ms) (h10 : ms.length ≤ 10) : LinN regs (thr ms) ∧ Nrm (thr ms) ∧ tl regs (thr ms) ≤ 10000 := by
  have tok := thr_ok (B := 1000) ms idR 0 (lin_id hN) (by rw [tl_id]; exact Nat.le_refl _) fun m hm => ⟨(h m hm).1, (h m hm).2.2⟩
  refine ⟨tok.1, ?_, ?_⟩
  · rcases List.eq_nil_or_concat ms with e | ⟨l, c, e⟩
    · rw [e]
      exact nrm_id
    · rw [e, List.concat_eq_append, thr_snoc]
      exact nrm_aft _ _
  · have h1 := tok.2
    have e : KX.thr ms = ms.foldl aft idR := rfl
    rw [e]
    omega
section
variable {K : PySem.W.Frag} {σ : L2.St} {H : Hp} {ta tb : TE} {E : XK}
theorem ep_through {regs : List Str} {ra : Addr} {ms : List (Str → List Itm)} (ha : EvP ta σ H (fun v H2 => ∃ l, v = .ref l ∧ MsAt H2 l regs ms)) (hb : Ev tb σ H (.ref ra)) (hra : H ra = some (.lst (regs.map V.str))) (hN : regs.Nodup) (h4 : regs.length ≤ 4) (ok : MsOk regs ms) (h10 : ms.length ≤ 10) :
    EvP (tCall sp_through [] E (tCons ta (tCons tb tNil))) σ H (fun v H2 => ∃ d, v = .ref d ∧ RowsN regs (thr ms) H2 d) :=
  call_P (Pa := fun vs H2 => ∃ l, vs = [.ref l, .ref ra] ∧ MsAt H2 l regs ms) (fun H1 e Q q => ha H1 e _ fun v H2 e2 ⟨l, ev, M⟩ => hb H2 (e.trans e2) _ fun H3 e3 => q _ H3 (e2.trans e3) ⟨l, by rw [ev], M.ex e3⟩)
    fun vs H1 e ⟨l, ev, ds, M1, M2, M3⟩ => spE_P (l, ra, regs, ds, ms) (fun H2 e2 => ⟨ev, e2 _ _ M1, (e.trans e2) _ _ hra, hN, h4, M2, h10, fun i d m a b => by
      have := ok m (List.mem_of_getElem? b)
      exact ⟨(M3 i d m a b).ex e2, this.1, this.2.1, this.2.2⟩⟩) fun v H2 _ p => p
theorem ep_cat1 {regs : List Str} {d : Addr} {m : Str → List Itm} {ms : List (Str → List Itm)} (ha : EvP ta σ H (fun v H2 => ∃ l, v = .ref l ∧ MsAt H2 l regs ms)) (hb : Ev tb σ H (.ref d)) (hd : RowsN regs m H d) (hz : ms.length ≤ 100) :
    EvP (tOp rCat ta (tLst (tCons tb tNil))) σ H (fun v H2 => ∃ l, v = .ref l ∧ MsAt H2 l regs (ms ++ [m])) := fun H1 e Q q =>
  ha H1 e _ fun v H2 e2 ⟨l, ev, ds, M1, M2, M3⟩ => (el_lst (ea_cons hb ea_nil) (by show 1 ≤ 100000; decide) : EvL _ σ H _) H2 (e.trans e2) _ fun b H3 hb3 e3 h3 =>
    ⟨l, b, _, _, ev, rfl, e3 _ _ M1, h3, sz_of (by rw [List.length_map]; show ds.length + 1 ≤ 100000; omega), fun p hp => q _ _ ((e2.trans e3).trans (Ex.new hp)) ⟨p, rfl, ds ++ [d], by rw [upd_same, List.map_append]; rfl, by rw [List.length_append, List.length_append, M2]; rfl, fun i d' m' x y => by
      rcases snoc_at x with ⟨x, hi⟩ | ⟨hi, rfl⟩ <;> rcases snoc_at y with ⟨y, hi'⟩ | ⟨hi', rfl⟩
      · exact (M3 i d' m' x y).ex (e3.trans (Ex.new hp))
      · omega
      · omega
      · exact hd.ex (((e.trans e2).trans e3).trans (Ex.new hp))⟩⟩
end
abbrev WfX := Addr × Str × Str × Nat × Str × Pg × Nat
def WfPost (CW : Addr) (o : Option Str) (v : V) (H : Hp) : Prop := match o with
  | none => v = .non
  | some t => ∃ y ps vals n, v = .ref y ∧ WtAt CW H y ps vals n ∧ ps.length ≤ 40000 ∧ vAt vals n = cds t
def sp_written_for (C CW : Addr) : Sp := spE (fun (x : WfX) vs H => vs = [.ref x.1, .str x.2.1, .str x.2.2.1, .int (x.2.2.2.1 : Int), .str x.2.2.2.2.1] ∧ PgAt C H x.1 x.2.2.2.2.2.1 ∧ Thin x.2.2.2.2.2.1 x.2.2.2.2.2.2 ∧ x.2.2.2.2.2.1.n ≤ 8 ∧ hsum x.2.2.2.2.2.1.regs x.2.2.2.2.2.1.fst ≤ 1000 ∧
   (∀ c ∈ cds x.2.1, c ∈ cds x.2.2.2.2.2.1.L) ∧ (∀ c ∈ cds x.2.2.1, c ∈ cds x.2.2.2.2.2.1.L) ∧ (∀ c ∈ cds x.2.2.2.2.1, c ∈ cds x.2.2.2.2.2.1.L) ∧ (cds x.2.1).length ≤ 10 ∧ (cds x.2.2.1).length ≤ 10 ∧ (cds x.2.2.2.2.1).length ≤ 10 ∧ x.2.2.2.1 ≤ 1000000000000)
  (fun x v H => WfPost CW (Wn x.2.2.2.2.2.1 (cds x.2.1) (cds x.2.2.1) (cds x.2.2.2.2.1) x.2.2.2.1) v H)
section
variable {P : Program} {w : World} {K : PySem.W.Frag} {mg : Str → Option Value} {base : Heap} {C CP CW CR : Addr} {f : Addr} {fd : FuncData}
theorem ok_written_for (F : Fun K "written_for" "written_for" s_written_for f fd) (Z : Zs mg C) (PC : PgC K C) (RC : RdC K CR) (G_check_program : Has P w K mg base "check_program" 1 ["thing"] (sp_check_program C)) (G_is_plain : Has P w K mg base "is_plain" 3 ["program"] (sp_is_plain C)) (G_check_word : Has P w K mg base "check_word" 1 ["letters", "text"] sp_check_word) (G_is_number : Has P w K mg base "is_number" 1 ["thing"] sp_is_number)
    {f_after : Addr} {fd_after : FuncData} (G_Program_after : HasM P w K mg base C "after" 2 f_after fd_after ["self", "text"] (sp_Program_after C)) (G_Rounds__init : HasC P w K mg base "Rounds" CR 5 ["self", "program", "word", "state", "many"] (sp_Rounds_init CR C))
    {f_ls : Addr} {fd_ls : FuncData} (G_Rounds_last_state : HasM P w K mg base CR "last_state" 1 f_ls fd_ls ["self"] (sp_Rounds_last CR)) {f_ma : Addr} {fd_ma : FuncData} (G_Rounds_moves_ahead : HasM P w K mg base CR "moves_ahead" 1 f_ma fd_ma ["self"] (sp_Rounds_ahead CR))
    {f_mr : Addr} {fd_mr : FuncData} (G_Rounds_moves_of_ring : HasM P w K mg base CR "moves_of_ring" 1 f_mr fd_mr ["self"] (sp_Rounds_ring CR)) {f_mb : Addr} {fd_mb : FuncData} (G_Rounds_moves_behind : HasM P w K mg base CR "moves_behind" 1 f_mb fd_mb ["self"] (sp_Rounds_behind CR))
    (G_behind_word : Has P w K mg base "behind_word" 4 ["program", "state", "word", "names"] (sp_behind_word C)) (G_filled : Has P w K mg base "filled" 3 ["row", "rows"] sp_filled) (G_through : Has P w K mg base "through" 4 ["moves", "names"] sp_through) (G_text_of : Has P w K mg base "text_of" 1 ["row", "held"] sp_text_of)
    (G_put_together : Has P w K mg base "put_together" 5 ["row", "held", "ring", "turns"] (sp_put_together CP CW)) : FnOk P w K mg base CX0 7 f fd ["program", "ahead", "word", "many", "behind"] (sp_written_for C CW) := by
  refine F.ok sc_written_for (fun vs H Q E h => ?_) (fun cdv A outer s H vs Q E hr h => ?_)
  · obtain ⟨i, ⟨rfl, _⟩, _⟩ := h
    rfl
  · obtain ⟨⟨p, a, wd, many, b, g, B⟩, ⟨rfl, hPA, T, n8, hs0, ha, hw, hb, a10, w10, b10, hmany⟩, k⟩ := h
    dsimp only at hPA T n8 hs0 ha hw hb a10 w10 b10 hmany
    have k : ∀ v H', Ex H H' → WfPost CW (Wn g (cds a) (cds wd) (cds b) many) v H' → Q v H' := k
    have hu := hu_of hr
    have hu0 := Nat.lt_of_succ_lt hu
    obtain ⟨dx, fs, ra, fa, sa, ea, hp, PF, PD⟩ := id hPA
    refine ⟨_, (pss_cons (ps_expr (pe_use G_check_program (hr.mono (by decide)) (pa_cons (pv 0) pa_nil))) 
    (pss_cons (ps_if (pt_not (pt_val (pe_use G_is_plain (hr.mono (by decide)) (pa_cons (pv 0) pa_nil)))) 
     (pss_one ps_never) pss_nil) 
    (pss_cons (ps_for PassesOwn.never rfl (pi_tup (pe_tup (pa_cons (pv 1) (pa_cons (pv 2) (pa_cons (pv 4) pa_nil))))) (pg_name (i := 5) sc_written_for.nd rfl (Or.inl rfl)) 
     (pss_one (ps_expr (pe_use G_check_word (hr.mono (by decide)) (pa_cons (pe_fldK (K := K) (pv 0) rfl) (pa_cons (pv 5) pa_nil)))))) 
    (pss_cons (ps_if (PW.pt (pw_or (pt_not (pt_val (pe_use G_is_number (hr.mono (by decide)) (pa_cons (pv 3) pa_nil)))) (pw_or1 (pt_not (pt_chain op_le op_le pe_int (pv 3) (pe_gcI rfl Z.c_MOST_TIMES)))))) 
     (pss_one ps_never) pss_nil) 
    (pss_cons (ps_asg (pe_meth (pv 0) G_Program_after.cl G_Program_after.me G_Program_after.ok (hr.mono (by decide)) G_Program_after.b .nil pass0 (pa_cons (pv 1) pa_nil)) (pg_tup rfl (pgs_cons (pg_name (i := 6) sc_written_for.nd rfl (Or.inl rfl)) (pgs_cons (pg_name (i := 7) sc_written_for.nd rfl (Or.inr rfl)) pgs_nil)))) 
    (pss_cons (ps_set (i := 8) sc_written_for.nd rfl (Or.inl rfl) (pe_mk G_Rounds__init (hr.mono (by decide)) (pa_cons (pv 0) (pa_cons (pv 2) (pa_cons (pv 6) (pa_cons (pv 3) pa_nil)))))) 
    (pss_cons (ps_asg (pe_use G_behind_word (hr.mono (by decide)) (pa_cons (pv 0) (pa_cons (pe_meth0 (pv 8) G_Rounds_last_state.cl G_Rounds_last_state.me G_Rounds_last_state.ok (hr.mono (by decide)) G_Rounds_last_state.b .nil pass0) (pa_cons (pv 4) (pa_cons (pe_fldK (K := K) (pv 0) rfl) pa_nil))))) (pg_tup rfl (pgs_cons (pg_name (i := 9) sc_written_for.nd rfl (Or.inl rfl)) (pgs_cons (pg_name (i := 10) sc_written_for.nd rfl (Or.inl rfl)) pgs_nil)))) 
    (pss_cons (ps_if (pt_cmp (pc_dnotin hu (pv 9) (pe_fldK (K := K) (pv 0) rfl))) 
     (pss_one (ps_ret pe_non)) pss_nil) 
    (pss_cons (ps_set (i := 11) sc_written_for.nd rfl (Or.inl rfl) (pe_use G_filled (hr.mono (by decide)) (pa_cons (pe_dget hu (pe_fldK (K := K) (pv 0) rfl) (pv 9) (fun _ _ => rfl)) (pa_cons (pe_use G_through (hr.mono (by decide)) (pa_cons (pe_op op_cat (pe_meth0 (pv 8) G_Rounds_moves_behind.cl G_Rounds_moves_behind.me G_Rounds_moves_behind.ok (hr.mono (by decide)) G_Rounds_moves_behind.b .nil pass0) (pe_lst (pa_cons (pv 10) pa_nil))) (pa_cons (pe_fldK (K := K) (pv 0) rfl) pa_nil))) pa_nil)))) 
    (pss_cons (ps_for PassesOwn.never rfl (pi_listK (K := K) (pe_meth0 (pv 8) G_Rounds_moves_ahead.cl G_Rounds_moves_ahead.me G_Rounds_moves_ahead.ok (hr.mono (by decide)) G_Rounds_moves_ahead.b .nil pass0)) (pg_name (i := 12) sc_written_for.nd rfl (Or.inr rfl)) 
     (pss_one (ps_set (i := 7) sc_written_for.nd rfl (Or.inr rfl) (pe_lock (pe_dp IsNil.k hu0 (own := [(("name" : Str), 13)]) (g := gName 13) rfl sc_written_for.nd (pi_keys (pv 12)) (blkOk_by (own := [(("name" : Str), 13)]) (N := n_written_for) (sc := defScope s_written_for) (by decide +kernel)) (fun _ _ _ _ _ => (pg_name (i := 13) sc_written_for.nd rfl (Or.inl rfl))) (fun _ _ _ _ _ => pts_nil) (fun _ _ _ _ _ => (pv 13)) (fun _ _ _ _ _ => (pe_use G_text_of (hr.mono (by decide)) (pa_cons (pe_dget hu (pv 12) (pv 13) (fun _ _ => rfl)) (pa_cons (pv 7) pa_nil))))))))) 
    (pss_one (ps_ret (pe_use G_put_together (hr.mono (by decide)) (pa_cons (pv 11) (pa_cons (pv 7) (pa_cons (pe_use G_through (hr.mono (by decide)) (pa_cons (pe_meth0 (pv 8) G_Rounds_moves_of_ring.cl G_Rounds_moves_of_ring.me G_Rounds_moves_of_ring.ok (hr.mono (by decide)) G_Rounds_moves_of_ring.b .nil pass0) (pa_cons (pe_fldK (K := K) (pv 0) rfl) pa_nil))) (pa_cons (pe_fldK (K := K) (pv 8) rfl) pa_nil))))))))))))))))), ?_⟩
    have G := goOk_thin T
    have n1 := T.n1
    have R4 := T.r4
    -- what is asked
    refine q_drop (v := .non) (ev_use (ea_cons (ev_var rfl) ea_nil) (spE_V p (fun _ e => ⟨rfl, dx, fs, e _ _ hp⟩) fun v _ p => p)) fun H1 e1 => ?_
    refine q_when (b := !true) (et_not (et_B (ev_use (ea_cons (ev_var rfl) ea_nil) (spE_V (p, g) (fun _ e => ⟨rfl, hPA.ex (e1.trans e), G, fun s c hsl => by
      have L := (T.li s c hsl).1
      have := List.Nodup.length_le_of_subset L.1 (l₂ := g.regs) fun m hm => by
        obtain ⟨n, hn, h2⟩ := List.mem_flatMap.mp hm
        exact L.2 n hn m h2
      show (regsOfs (g.row s c) g.regs).length ≤ 4000
      omega⟩) fun v _ ⟨b, e1, e2⟩ => by rw [e1, e2.mpr (plain_thin T)])))) (fun z => by cases z) fun _ H2 e2 => ?_
    have e12 := e1.trans e2
    refine q_forNU (K := K) (xs := [.str a, .str wd, .str b]) (eu_tup (ea_cons (ev_var rfl) (ea_cons (ev_var rfl) (ea_cons (ev_var rfl) ea_nil))) (by show 3 ≤ 100000; decide)) (fun q i σ' H' => ∃ v5, σ' = [some (.ref p), some (.str a), some (.str wd), some (.int (many : Int)), some (.str b), v5, none, none, none, none, none, none, none, none] ∧ Ex H H' ∧ H' q = some (.tup [.str a, .str wd, .str b])) ?_ ?_ ?_ ?_
    · intro q H3 hq e3 h3
      exact ⟨none, rfl, e12.trans e3, h3⟩
    · rintro q i σ' H' hi ⟨v5, rfl, ex, hq⟩
      exact st_of hq
    · rintro q i x σ' H' hx ⟨v5, rfl, ex, hq⟩
      obtain ⟨t, rfl, ht⟩ : ∃ t : Str, x = .str t ∧ ∀ c ∈ cds t, c ∈ cds g.L := by
        have hm := List.mem_of_getElem? hx
        simp only [List.mem_cons, List.not_mem_nil, or_false] at hm
        rcases hm with rfl | rfl | rfl
        · exact ⟨a, rfl, ha⟩
        · exact ⟨wd, rfl, hw⟩
        · exact ⟨b, rfl, hb⟩
      show tDrop _ _ [some (.ref p), some (.str a), some (.str wd), some (.int (many : Int)), some (.str b), some (.str t), none, none, none, none, none, none, none, none] H'
      refine s_drop (v := .non) (ev_use (ea_cons (ev_fld (K := K) (ta := tVar 0) (ev_var rfl) (ex _ _ hp) PC.cl PC.l PF.l) (ea_cons (ev_var rfl) ea_nil)) (spE_V (g.L, t) (fun _ _ => ⟨rfl, ht⟩) fun v _ p => p)) fun H4 e4 => ⟨_, rfl, ex.trans e4, e4 _ _ hq⟩
    rintro q σ' H3 ⟨v5, rfl, e3, _⟩
    show (tSeq _ _) _ [some (.ref p), some (.str a), some (.str wd), some (.int (many : Int)), some (.str b), v5, none, none, none, none, none, none, none, none] H3
    refine q_when (b := false) ?_ (fun z => by cases z) fun _ H4 e4 => ?_
    · have hA : EvT (tNot (tB (tCall sp_is_number [] E0 (tCons (tVar 3) tNil)))) [some (V.ref p), some (V.str a), some (V.str wd), some (V.int (many : Int)), some (V.str b), v5, none, none, none, none, none, none, none, none] H3 false := et_not (a := true) (et_B (ev_use (vs := [.int (many : Int)]) (ea_cons (ev_var rfl) ea_nil) (spE_V (many : Int) (fun _ _ => rfl) fun v _ p => p)))
      refine et_is (et_or hA fun _ => et_not (et_test (ev_between ev_c (ev_var (v := .int (many : Int)) rfl) ev_c))) ?_
      simp
      omega
    have e34 := e3.trans e4
    -- behind the first text
    refine q_unpackP (Pz := fun y z' H => y = .int (runG g (cds a)).1 ∧ ∃ d, z' = .ref d ∧ H d = some (.dK (hk g.regs (runG g (cds a)).2))) (ep_meth (ev_var rfl) (e34 _ _ hp) (PF.o.no (by decide +kernel)) (ea_cons (ev_var rfl) ea_nil) (spE_P (p, a, g, H4) (fun _ e => ⟨rfl, hPA.ex (e34.trans e), G, ha, fit_thin T ha a10 hs0, e⟩) fun v H' _ ⟨b, y, z', h1, h2, h3, d, h4, h5, _⟩ => ⟨b, y, z', h1, h2, h3, d, h4, h5⟩)) ?_
    rintro _ _ H5 e5 ⟨rfl, hd0, rfl, hhd0⟩
    have e45 := e34.trans e5
    have hin0 := runG_in G (cds a) ha
    have hsum0 : hsum g.regs (runG g (cds a)).2 ≤ 2000 := by
      have := hsum_runG T ha
      have : B * (cds a).length ≤ 100 * 10 := Nat.mul_le_mul T.b a10
      omega
    have hWn := Wn_rounds (g := g) (a := cds a) (w := cds wd) (b := cds b) (many := many)
    rw [hWn] at k
    generalize (runG g (cds a)).1 = s0 at hin0 k ⊢
    generalize (runG g (cds a)).2 = h0 at hhd0 hsum0 k ⊢
    clear hWn
    -- the rounds
    show (tSeq _ _) _ [some (.ref p), some (.str a), some (.str wd), some (.int (many : Int)), some (.str b), v5, some (.int s0), some (.ref hd0), none, none, none, none, none, none] H5
    refine ⟨_, rfl, _, rfl, _, rfl, _, rfl, ?_⟩
    have e6 := Ex.refl H5
    intro x dxr hx hdx hne
    have e56 := e45.trans e6
    have hdp : (upd H5 dxr (.own x)) x = none := by rw [upd_ne hne.symm]; exact hx
    refine ⟨x, p, dxr, wd, s0, many, g, B, H5, rfl, upd_same, hx, (Ex.new hdx).trans (Ex.new hdp), hPA.ex e56, T, by omega, hin0.1, hin0.2, hw, w10, hmany, fun H7 N start turns rest e7 RA M => ⟨rfl, ?_⟩⟩
    have e67 := e56.trans e7
    have few := M.few
    have Mn := M.n
    have Mr := M.r
    have hinM := stR_in T hw hin0.1 hin0.2 many
    have per : stR g (cds wd) s0 (start + rest) = stR g (cds wd) s0 many := by
      have := per_all M.n M.z turns rest
      rw [← M.m] at this
      exact this.symm
    obtain ⟨drx, frx, slx, mlx, dsx, hxr, RF, _⟩ := id RA
    show (tSeq _ _) _ [some (.ref p), some (.str a), some (.str wd), some (.int (many : Int)), some (.str b), v5, some (.int s0), some (.ref hd0), some (.ref x), none, none, none, none, none] H7
    -- the state and the rows behind the last text
    refine q_unpackP (Pz := fun y z' H => y = .int (nx g (cds b) (stR g (cds wd) s0 many)) ∧ ∃ d, z' = .ref d ∧ RowsN g.regs (ro g (cds b) (stR g (cds wd) s0 many)) H d) (ep_use (vs := [.ref p, .int (stR g (cds wd) s0 many), .str b, .ref ra]) (ea_cons (ev_var rfl) (ea_cons ?_ (ea_cons (ev_var rfl) (ea_cons (ev_fld (K := K) (ta := tVar 0) (ev_var rfl) (e67 _ _ hp) PC.cl PC.r PF.r) ea_nil)))) (spE_P (p, stR g (cds wd) s0 many, b, ra, g, B) (fun H8 e8 => ⟨rfl, hPA.ex (e67.trans e8), T, hinM.1, hinM.2, hb, b10, (e67.trans e8) _ _ PD.rS⟩) fun v H8 _ ⟨b, d, q1, q2, q3⟩ => ⟨b, _, _, q1, q2, rfl, d, rfl, q3⟩)) ?_
    · exact Ev.of ((ep_meth (ev_var rfl) hxr (RF.o.no (by decide +kernel)) ea_nil (spE_P (x, g, cds wd, s0, N, start, turns, rest) (fun H8 e8 => ⟨rfl, RA.ex e8, Mn, Mr, by show N ≤ 1000; omega⟩) fun v H8 _ p => p)).imp fun v H8 _ p => by rw [p]; show V.int (stR g (cds wd) s0 (start + rest)) = _; rw [per])
    rintro _ _ H8 e8 ⟨rfl, dl, rfl, hdl⟩
    have e78 := e67.trans e8
    show (tSeq _ _) _ [some (.ref p), some (.str a), some (.str wd), some (.int (many : Int)), some (.str b), v5, some (.int s0), some (.ref hd0), some (.ref x), some (.int (nx g (cds b) (stR g (cds wd) s0 many))), some (.ref dl), none, none, none] H8
    obtain ⟨kvs, hks, _, _, hkv, hkc⟩ := PD.e
    have hsome : (valV kvs (.inl (nx g (cds b) (stR g (cds wd) s0 many)))).isSome = (g.fin (nx g (cds b) (stR g (cds wd) s0 many))).isSome := by
      generalize nx g (cds b) (stR g (cds wd) s0 many) = sE
      cases hf : g.fin sE with
      | some row =>
        obtain ⟨v, hv, _⟩ := valV_key (kvs := kvs) (hkc sE (by rw [hf]; rfl))
        rw [hv]
        rfl
      | none =>
        cases hv : valV kvs (.inl sE) with
        | none => rfl
        | some v =>
          obtain ⟨s', a, row, h1, h2, _⟩ := hkv _ v (valV_mem hv)
          cases h1
          rw [hf] at h2
          cases h2
    refine q_when (b := !(g.fin (nx g (cds b) (stR g (cds wd) s0 many))).isSome) (et_B (ev_is (ev_ni (k := .inl (nx g (cds b) (stR g (cds wd) s0 many))) (ev_var rfl) rfl (ev_fld (K := K) (ta := tVar 0) (ev_var rfl) (e78 _ _ hp) PC.cl PC.e PF.e) (.inl (e78 _ _ hks))) (by rw [hsome]))) (fun hb9 H9 e9 => ?_) (fun hb9 H9 e9 => ?_)
    · have hn : g.fin (nx g (cds b) (stR g (cds wd) s0 many)) = none := by simpa using hb9
      rw [hn] at k
      exact s_ret (v := .non) ev_c fun H10 e10 => k _ H10 ((e78.trans e9).trans e10) rfl
    · cases hf : g.fin (nx g (cds b) (stR g (cds wd) s0 many)) with
      | none =>
        rw [hf] at hb9
        cases hb9
      | some row =>
        have e79 := e78.trans e9
        obtain ⟨v, hv, hm⟩ := valV_key (kvs := kvs) (hkc (nx g (cds b) (stR g (cds wd) s0 many)) (by rw [hf]; rfl))
        obtain ⟨s', ar, row', h1, h2, rfl, hA⟩ := hkv _ v hm
        cases h1
        rw [hf] at h2
        cases h2
        rw [hf] at k
        obtain ⟨fi1, fi2, fi3⟩ := T.fi _ row hf
        have fl := T.fl _ row hf
        have TB := T.b
        have mb := MsOk.mvs T hw w10 hin0.1 hin0.2 start rest
        have mr := MsOk.mvs T hw w10 hin0.1 hin0.2 start (N - start)
        have hbB : LinN g.regs (ro g (cds b) (stR g (cds wd) s0 many)) ∧ Nrm (ro g (cds b) (stR g (cds wd) s0 many)) ∧ tl g.regs (ro g (cds b) (stR g (cds wd) s0 many)) ≤ 1000 := by
          obtain ⟨_, L, t⟩ := rwG_ok T hb hinM.1 hinM.2
          have : B * (cds b).length ≤ 100 * 10 := Nat.mul_le_mul T.b b10
          exact ⟨L, nrm_rw g _ _, by show tl g.regs (rwG g _ (cds b)).2 ≤ 1000; omega⟩
        have ok1 := mb.snoc hbB
        have l1 : (mvs g (cds wd) s0 start rest ++ [ro g (cds b) (stR g (cds wd) s0 many)]).length ≤ 10 := by
          rw [List.length_append, mvs_len]
          show rest + 1 ≤ 10
          omega
        have l2 : (mvs g (cds wd) s0 start (N - start)).length ≤ 10 := by rw [mvs_len]; omega
        have ok1t := ok1.thr T.rN l1
        have ok2t := mr.thr T.rN l2
        have hRT := round_text (b := cds b) (h := h0) (row := row) M
        rw [per] at hRT
        -- the row
        show (tSeq _ _) _ [some (.ref p), some (.str a), some (.str wd), some (.int (many : Int)), some (.str b), v5, some (.int s0), some (.ref hd0), some (.ref x), some (.int (nx g (cds b) (stR g (cds wd) s0 many))), some (.ref dl), none, none, none] H9
        have hb1 : EvP (tMeth CR "moves_behind" (sp_Rounds_behind CR) [] E0 (tVar 8) tNil) [some (.ref p), some (.str a), some (.str wd), some (.int (many : Int)), some (.str b), v5, some (.int s0), some (.ref hd0), some (.ref x), some (.int (nx g (cds b) (stR g (cds wd) s0 many))), some (.ref dl), none, none, none] H9 (fun v H2 => ∃ l, v = .ref l ∧ MsAt H2 l g.regs (mvs g (cds wd) s0 start rest)) :=
          (ep_meth (ev_var rfl) ((e8.trans e9) _ _ hxr) (RF.o.no (by decide +kernel)) ea_nil (spE_P (x, g, cds wd, s0, N, start, turns, rest) (fun H10 e10 => ⟨rfl, RA.ex ((e8.trans e9).trans e10), Mn, Mr, by show N ≤ 1000; omega⟩) fun v H10 _ p => p)).imp fun v H10 _ ⟨l, ev, mv⟩ => ⟨l, ev, MvAt.ms mv⟩
        have hthr := ep_through (E := E0) (tb := tFld K (tVar 0) "registers") (ep_cat1 (tb := tVar 10) hb1 (ev_var rfl) (hdl.ex e9) (by rw [mvs_len]; omega)) (ev_fld (K := K) (ta := tVar 0) (ev_var rfl) (e79 _ _ hp) PC.cl PC.r PF.r) (e79 _ _ PD.rS) T.rN T.r4 ok1 l1
        have so := sub_ok (k := 100000) T.r4 ok1t.1 ok1t.2.1 fl fi1 fi2 (by have := ok1t.2.2; omega)
        refine q_asgP (Pv := fun v H2 => ∃ br, v = .ref br ∧ RowAt H2 br (fil row (thr (mvs g (cds wd) s0 start rest ++ [ro g (cds b) (stR g (cds wd) s0 many)])))) (call_P (Pa := fun vs H2 => ∃ d, vs = [.ref ar, .ref d] ∧ RowsN g.regs (thr (mvs g (cds wd) s0 start rest ++ [ro g (cds b) (stR g (cds wd) s0 many)])) H2 d) (fun H10 e10 Q' q => (ev_get (k := .inl (nx g (cds b) (stR g (cds wd) s0 many))) (ev_fld (K := K) (ta := tVar 0) (ev_var rfl) (e79 _ _ hp) PC.cl PC.e PF.e) (ev_var rfl) rfl (.inl (e79 _ _ hks)) hv : Ev _ _ H9 _) H10 e10 _ fun H11 e11 => hthr H11 (e10.trans e11) _ fun v H12 e12 ⟨d, ev, hd⟩ => q [.ref ar, v] H12 (e11.trans e12) ⟨d, by rw [ev], hd⟩)
          fun vs H10 e10 ⟨d, ev, hd⟩ => spE_P (ar, d, row, g.regs, _) (fun H11 e11 => ⟨ev, hA.le (Le.ex ((e79.trans e10).trans e11)), hd.ex e11, fi2, so.1, so.2⟩) fun v H11 _ p => p) ?_
        rintro _ H10 e10 ⟨br, rfl, hbr⟩
        have e910 := e9.trans e10
        have e80 := e78.trans e910
        -- the words ahead of the ring
        show (tSeq _ _) _ [some (.ref p), some (.str a), some (.str wd), some (.int (many : Int)), some (.str b), v5, some (.int s0), some (.ref hd0), some (.ref x), some (.int (nx g (cds b) (stR g (cds wd) s0 many))), some (.ref dl), some (.ref br), none, none] H10
        have hol_le : ∀ i, i ≤ 9 → ∀ n ∈ g.regs, (hol g s0 h0 (cds wd) i n).length ≤ 100000 := fun i hi n hn => by
          have h1 := le_hsum (h := hol g s0 h0 (cds wd) i) hn
          have h2 := hsum_hol T hw (h := h0) hin0.1 hin0.2 i
          have h3 : B * (cds wd).length ≤ 100 * 10 := Nat.mul_le_mul T.b w10
          have h4 : i * (B * (cds wd).length) ≤ 9 * 1000 := Nat.mul_le_mul hi h3
          omega
        have hma : EvP (tMeth CR "moves_ahead" (sp_Rounds_ahead CR) [] E0 (tVar 8) tNil) [some (.ref p), some (.str a), some (.str wd), some (.int (many : Int)), some (.str b), v5, some (.int s0), some (.ref hd0), some (.ref x), some (.int (nx g (cds b) (stR g (cds wd) s0 many))), some (.ref dl), some (.ref br), none, none] H10 (fun v H2 => ∃ l xs, v = .ref l ∧ H2 l = some (.lst xs) ∧ ∃ ds : List Addr, xs = ds.map V.ref ∧ ds.length = start ∧ ∀ (i : Nat) d, ds[i]? = some d → RowsN g.regs (ro g (cds wd) (stR g (cds wd) s0 (0 + i))) H2 d) :=
          (ep_meth (ev_var rfl) ((e8.trans e910) _ _ hxr) (RF.o.no (by decide +kernel)) ea_nil (spE_P (x, g, cds wd, s0, N, start, turns, rest) (fun H10 e10 => ⟨rfl, RA.ex ((e8.trans e910).trans e10), Mn, Mr, by show N ≤ 1000; omega⟩) fun v H10 _ p => p)).imp fun v H10 _ ⟨l, ev, ds, m1, m2, m3⟩ => ⟨l, _, ev, m1, ds, rfl, m2, m3⟩
        refine q_forLP (Pa := fun _ xs H2 => ∃ ds : List Addr, xs = ds.map V.ref ∧ ds.length = start ∧ ∀ (i : Nat) d, ds[i]? = some d → RowsN g.regs (ro g (cds wd) (stR g (cds wd) s0 (0 + i))) H2 d) hma (fun l xs i σ' H' => ∃ (hd : Addr) (v12 : Option V), σ' = [some (.ref p), some (.str a), some (.str wd), some (.int (many : Int)), some (.str b), v5, some (.int s0), some (.ref hd), some (.ref x), some (.int (nx g (cds b) (stR g (cds wd) s0 many))), some (.ref dl), some (.ref br), v12, none] ∧ Ex H10 H' ∧ H' hd = some (.dK (hk g.regs (hol g s0 h0 (cds wd) i))) ∧ H' l = some (.lst xs) ∧ ∃ ds : List Addr, xs = ds.map V.ref ∧ ds.length = start ∧ ∀ (i : Nat) d, ds[i]? = some d → RowsN g.regs (ro g (cds wd) (stR g (cds wd) s0 (0 + i))) H' d) ?_ ?_ ?_ ?_
        · rintro l xs H11 e11 hl pa
          exact ⟨hd0, none, rfl, e11, ((((e6.trans e7).trans e8).trans e910).trans e11) _ _ hhd0, hl, pa⟩
        · rintro l xs i σ' H' hi ⟨hd, v12, rfl, ex, _, hl, _⟩
          exact sq_of hl
        · rintro l xs i y σ' H' hy ⟨hd, v12, rfl, ex, hhd, hl, ds, rfl, d2, d3⟩
          rw [List.getElem?_map] at hy
          obtain ⟨d, hd2, rfl⟩ := Option.map_eq_some_iff.mp hy
          have hil : i < ds.length := (List.getElem?_eq_some_iff.mp hd2).1
          have hR := d3 i d hd2
          rw [Nat.zero_add] at hR
          have hini := stR_in T hw hin0.1 hin0.2 i
          obtain ⟨lk, k1, k2, k3⟩ := hR
          have hmv := MsOk.mvs T hw w10 hin0.1 hin0.2 i 1 (ro g (cds wd) (stR g (cds wd) s0 i)) (by unfold mvs; simp)
          show tAsg (tLockE _) _ _ [some (.ref p), some (.str a), some (.str wd), some (.int (many : Int)), some (.str b), v5, some (.int s0), some (.ref hd), some (.ref x), some (.int (nx g (cds b) (stR g (cds wd) s0 many))), some (.ref dl), some (.ref br), some (.ref d), none] H'
          refine ⟨d, .dK lk, k1, trivial, fun od => ?_⟩
          have hhd' : Rd (upd H' d (.frz od (.dK lk))) hd (.dK (hk g.regs (hol g s0 h0 (cds wd) i))) := by
            by_cases z : hd = d
            · subst z
              rw [k1] at hhd
              cases hhd
              exact .inr ⟨od, upd_same⟩
            · exact .inl (by rw [upd_ne z]; exact hhd)
          refine e_held (ns := g.regs) (R := ro g (cds wd) (stR g (cds wd) s0 i)) (h := hol g s0 h0 (cds wd) i) (fun x => rfl) (fun x => rfl) (fun x => rfl) (fun x => rfl) rfl upd_same k2 (fun n v hm => ?_) T.rN T.r4 (fun n hn => ?_) hmv.1.2 hhd' (fun n hn => ?_) fun D H11 hD e11 h11 => ?_
          · obtain ⟨b0, b1, b2⟩ := k3 n v hm
            exact ⟨b0, b1, b2.upd k1 (fun xs q => by cases q)⟩
          · have := hmv.2.1 n
            have := lin_len hmv.1 hn
            omega
          · rw [← hol_succ]
            have := hol_le (i + 1) (by omega) n hn
            omega
          · have hDd : D ≠ d := fun z => by rw [z, upd_same] at hD; cases hD
            have ex2 := Ex.unl k1 e11
            refine ⟨e11 _ _ upd_same, D, some (.ref d), rfl, ex.trans ex2, ?_, ex2 _ _ hl, ds, rfl, d2, fun j d' hj => (d3 j d' hj).ex ex2⟩
            rw [upd_ne hDd, h11, hol_succ]
        · rintro l xs σ' H11 ⟨hd, v12, rfl, ex, hhd, hl, ds, rfl, d2, d3⟩
          rw [List.length_map, d2] at hhd
          have e81 := e80.trans ex
          have mrg : EvP (tMeth CR "moves_of_ring" (sp_Rounds_ring CR) [] E0 (tVar 8) tNil) [some (.ref p), some (.str a), some (.str wd), some (.int (many : Int)), some (.str b), v5, some (.int s0), some (.ref hd), some (.ref x), some (.int (nx g (cds b) (stR g (cds wd) s0 many))), some (.ref dl), some (.ref br), v12, none] H11 (fun v H2 => ∃ l, v = .ref l ∧ MsAt H2 l g.regs (mvs g (cds wd) s0 start (N - start))) :=
            (ep_meth (ev_var rfl) (((e8.trans e910).trans ex) _ _ hxr) (RF.o.no (by decide +kernel)) ea_nil (spE_P (x, g, cds wd, s0, N, start, turns, rest) (fun H10 e10 => ⟨rfl, RA.ex (((e8.trans e910).trans ex).trans e10), Mn, Mr, by show N ≤ 1000; omega⟩) fun v H10 _ p => p)).imp fun v H10 _ ⟨l, ev, mv⟩ => ⟨l, ev, MvAt.ms mv⟩
          have hthr2 := ep_through (E := E0) (tb := tFld K (tVar 0) "registers") mrg (ev_fld (K := K) (ta := tVar 0) (ev_var rfl) (e81 _ _ hp) PC.cl PC.r PF.r) (e81 _ _ PD.rS) T.rN T.r4 mr l2
          show tRet _ _ _ _
          refine ⟨_, rfl, _, rfl, ?_⟩
          refine hthr2 H11 (Ex.refl _) _ fun v H12 e12 ⟨d, ev, hdr⟩ => ?_
          subst ev
          refine (ev_fld (K := K) (ta := tVar 8) (ev_var rfl) ((((e8.trans e910).trans ex).trans e12) _ _ hxr) RC.cl RC.t RF.t : Ev _ [some (.ref p), some (.str a), some (.str wd), some (.int (many : Int)), some (.str b), v5, some (.int s0), some (.ref hd), some (.ref x), some (.int (nx g (cds b) (stR g (cds wd) s0 many))), some (.ref dl), some (.ref br), v12, none] H12 _) H12 (Ex.refl _) _ fun H13 e13 => ?_
          have e1213 := e12.trans e13
          refine ⟨br, hd, d, fil row (thr (mvs g (cds wd) s0 start rest ++ [ro g (cds b) (stR g (cds wd) s0 many)])), g.regs, thr (mvs g (cds wd) s0 start (N - start)), hol g s0 h0 (cds wd) start, turns, rfl, hbr.le (Le.ex (ex.trans e1213)), ?_, ?_, ?_, e1213 _ _ hhd, hdr.ex e13, T.rN, T.r4, ok2t.1, ok2t.2.1, fun n hn => ?_, hol_le start (by omega), ?_, fun H14 y ps vals nn e14 W hz hv => ?_⟩
          · have h1 := nrm_alt (sub row (thr (mvs g (cds wd) s0 start rest ++ [ro g (cds b) (stR g (cds wd) s0 many)])))
            have h2 : (regsOf (sub row (thr (mvs g (cds wd) s0 start rest ++ [ro g (cds b) (stR g (cds wd) s0 many)])))).length ≤ g.regs.length := by
              rw [regsOf_sub]
              exact List.Nodup.length_le_of_subset (flat_sub ok1t.1.1 fi1 fi2) fun m hm => by
                obtain ⟨n, hn, h2⟩ := List.mem_flatMap.mp hm
                exact ok1t.1.2 n (fi2 n hn) m h2
            show (nrm _).length ≤ 100
            omega
          · show rowLen (nrm _) ≤ 100000
            rw [rowLen_nrm]
            exact so.2
          · intro m hm
            rw [regsOf_fil] at hm
            obtain ⟨n, hn, h2⟩ := List.mem_flatMap.mp hm
            exact ok1t.1.2 n (fi2 n hn) m h2
          · have := le_tl (R := thr (mvs g (cds wd) s0 start (N - start))) hn
            have := ok2t.2.2
            omega
          · have : turns ≤ many := by
              have hMm := M.m
              rcases Nat.eq_zero_or_pos (N - start) with z | z
              · have := M.e (by omega)
                omega
              · have : 1 * turns ≤ (N - start) * turns := Nat.mul_le_mul_right _ z
                omega
            have e2 : (2 : Nat) ^ 41 = 2199023255552 := rfl
            omega
          · exact k _ H14 ((e81.trans e1213).trans e14) ⟨y, ps, vals, nn, rfl, W, hz, by rw [hv]; exact hRT⟩
end
end KX
end
section
set_option Elab.async false
set_option linter.all false
set_option maxRecDepth 100000
set_option maxHeartbeats 8000000
/-! Py21: parts of what is written. -/
namespace KX
open PySem PySem.Spec PyProof.Rows L2 Evl

/-! ### a op b op c op d -/
def tTest3 (r r' r'' : R2) (ta tb tc td : TE) : TT := fun σ H Q => ta σ H fun x H1 => tb σ H1 fun y H2 => r x y H2 fun z H3 => ∃ k, z = .bl k ∧
  (if k = true then tc σ H3 fun u H4 => r' y u H4 fun z2 H5 => ∃ k2, z2 = .bl k2 ∧ (if k2 = true then td σ H5 fun t H6 => r'' u t H6 fun z3 H7 => ∃ k3, z3 = .bl k3 ∧ Q k3 H7 else Q false H5) else Q false H3)
section
variable {X : Cx} {a b c d : Expr} {ta tb tc td : TE} {pos : Pos}
theorem pt_chain3 {op op' op'' : CmpOp} {r r' r'' : R2} (ho : OpR X (compareOp op) r) (ho' : OpR X (compareOp op') r') (ho'' : OpR X (compareOp op'') r'') (ha : PE X a ta) (hb : PE X b tb) (hc : PE X c tc) (hd : PE X d td)
    (hm : lastMarks [op, op', op''] [b, c, d] = false := by with_unfolding_all rfl) : L2.PT X (.Compare a [op, op', op''] [b, c, d] pos) (tTest3 r r' r'' ta tb tc td) := by
  refine ⟨fun pins s σ H Q I h => ?_⟩
  refine isTrue_chain (thn (ha.run pins s σ H _ I h) fun v s1 ⟨x, H1, I1, r1, q1⟩ => test_link (thn (hb.run pins s1 σ H1 _ I1 q1) fun u s2 ⟨y, H2, I2, r2, q2⟩ =>
    thn (ho pins s2 σ H2 x y v u _ I2 r1 r2 q2) fun d s3 ⟨z, H3, I3, r3, k, e, q3⟩ => ?_)) hm
  subst e
  cases r3
  refine wpAny_truthy_bool ?_
  cases k with
  | false => exact ite_ff ⟨H3, I3, q3⟩
  | true =>
    refine ite_tt (test_link (thn (hc.run pins s3 σ H3 _ I3 q3) fun w' s4 ⟨z', H4, I4, r4, q4⟩ => thn (ho' pins s4 σ H4 y z' u w' _ I4 r2 r4 q4) fun d' s5 ⟨z2, H5, I5, r5, k2, e2, q5⟩ => ?_))
    subst e2
    cases r5
    refine wpAny_truthy_bool ?_
    cases k2 with
    | false => exact ite_ff ⟨H5, I5, q5⟩
    | true =>
      refine ite_tt (test_last (thn (hd.run pins s5 σ H5 _ I5 q5) fun w2 s6 ⟨z3, H6, I6, r6, q6⟩ => thn (ho'' pins s6 σ H6 z' z3 w' w2 _ I6 r4 r6 q6) fun d2 s7 ⟨z4, H7, I7, r7, k3, e3, q7⟩ => ?_))
      subst e3
      cases r7
      exact wpAny_truthy_bool ⟨H7, I7, q7⟩
end
section
variable {σ : L2.St} {H : Hp} {ta tb tc td : TE}
theorem et_chain3 {p q r : Int → Int → Bool} {i j k l : Int} (ha : Ev ta σ H (.int i)) (hb : Ev tb σ H (.int j)) (hc : Ev tc σ H (.int k)) (hd : Ev td σ H (.int l)) (h1 : p i j = true) (h2 : q j k = true) : EvT (tTest3 (rI0 fun i j => .bl (p i j)) (rI0 fun i j => .bl (q i j)) (rI0 fun i j => .bl (r i j)) ta tb tc td) σ H (r k l) := fun H1 e Q' q' =>
  ha H1 e _ fun H2 e2 => hb H2 (e.trans e2) _ fun H3 e3 => ⟨i, j, rfl, rfl, p i j, rfl, by
    rw [h1, if_pos rfl]
    exact hc H3 ((e.trans e2).trans e3) _ fun H4 e4 => ⟨j, k, rfl, rfl, q j k, rfl, by
      rw [h2, if_pos rfl]
      exact hd H4 (((e.trans e2).trans e3).trans e4) _ fun H5 e5 => ⟨k, l, rfl, rfl, r k l, rfl, q' H5 (((e2.trans e3).trans e4).trans e5)⟩⟩⟩
theorem et_truL {K : PySem.W.Frag} {a : Addr} {xs : List V} {i : Nat} (hi : σ[i]? = some (some (.ref a))) (hx : H a = some (.lst xs)) : EvT (tTruL K i) σ H (!xs.isEmpty) := fun H1 e Q q => ⟨_, hi, _, .inl ⟨xs, sq_of (e _ _ hx), rfl⟩, q H1 (Ex.refl H1)⟩
theorem ev_slS {te : TE} {tl th : TO} {z : Str} {lo hi : Option Int} (h : Ev te σ H (.str z)) (h1 : EvO tl σ H lo) (h2 : EvO th σ H hi) (hz : z.length ≤ 100000) : Ev (tSl rSlS te tl th) σ H (.str (cutS z lo hi)) := fun H1 e Q q =>
  h H1 e _ fun H2 e2 => h1 H2 (e.trans e2) _ fun H3 e3 => h2 H3 ((e.trans e2).trans e3) _ fun H4 e4 => ⟨z, rfl, sz_of hz, q H4 ((e2.trans e3).trans e4)⟩
end
theorem cds_cutS (z : Str) (a b : Nat) : cds (cutS z (some (a : Int)) (some (b : Int))) = ((cds z).drop a).take (b - a) := by
  unfold cutS
  rw [HT.sIx_nat, HT.sIx_nat]
  show ((cds z).drop (min a z.length)).take (min b z.length - min a z.length) = _
  rw [len_cds]
  by_cases h : a ≤ (cds z).length
  · rw [Nat.min_eq_left h, List.take_eq_take_iff, List.length_drop]
    omega
  · rw [show min a (cds z).length = (cds z).length by omega, List.drop_length, List.drop_of_length_le (by omega : (cds z).length ≤ a)]
    simp
/-- numbers and places on the heap -/
def StA (H : Hp) (x : V) (c : Nat × Nat) : Prop := ∃ b, x = .ref b ∧ H b = some (.tup [.int (c.1 : Int), .int (c.2 : Int)])
def StsAt (H : Hp) (xs : List V) (st : List (Nat × Nat)) : Prop := xs.length = st.length ∧ ∀ (i : Nat) x c, xs[i]? = some x → st[i]? = some c → StA H x c
theorem StsAt.tup {H H' : Hp} {xs : List V} {st : List (Nat × Nat)} (e : ∀ b ys, H b = some (.tup ys) → H' b = some (.tup ys)) (h : StsAt H xs st) : StsAt H' xs st := ⟨h.1, fun i x c a b => by
  obtain ⟨d, d1, d2⟩ := h.2 i x c a b
  exact ⟨d, d1, e _ _ d2⟩⟩
theorem StsAt.snoc {H : Hp} {xs : List V} {st : List (Nat × Nat)} {x : V} {c : Nat × Nat} (h : StsAt H xs st) (hx : StA H x c) : StsAt H (xs ++ [x]) (st ++ [c]) := ⟨by rw [List.length_append, List.length_append, h.1]; rfl, fun i y d a b => by
  have hl := h.1
  rcases snoc_at a with ⟨a, hi⟩ | ⟨hi, rfl⟩ <;> rcases snoc_at b with ⟨b, hi'⟩ | ⟨hi', rfl⟩
  · exact h.2 i y d a b
  · omega
  · omega
  · exact hx⟩
theorem StsAt.init {H : Hp} {xs : List V} {st : List (Nat × Nat)} {x : V} {c : Nat × Nat} (h : StsAt H (xs ++ [x]) (st ++ [c])) : StsAt H xs st ∧ StA H x c := by
  have hl : xs.length = st.length := by
    have := h.1
    rw [List.length_append, List.length_append] at this
    exact Nat.add_right_cancel this
  refine ⟨⟨hl, fun i y d a b => ?_⟩, h.2 xs.length x c (by simp) (by rw [hl]; simp)⟩
  have h1 := (List.getElem?_eq_some_iff.mp a).1
  exact h.2 i y d (by rw [List.getElem?_append_left h1]; exact a) (by rw [List.getElem?_append_left (by omega)]; exact b)
end KX
end
section
set_option Elab.async false
set_option linter.all false
set_option maxRecDepth 100000
set_option maxHeartbeats 8000000
/-! Py22: parts of what is written, read. -/
namespace KX
open PySem PySem.Spec PyProof.Rows L2 Evl

abbrev WpX := Addr × List Pc × List (List Nat) × Nat × Nat × Nat
def sp_Written_part (CW : Addr) : Sp := spE (fun (x : WpX) vs H => vs = [.ref x.1, .int (x.2.2.2.2.1 : Int), .int (x.2.2.2.2.2 : Int)] ∧ WtAt CW H x.1 x.2.1 x.2.2.1 x.2.2.2.1 ∧ x.2.1.length ≤ 40000 ∧ x.2.2.2.2.1 ≤ x.2.2.2.2.2 ∧ x.2.2.2.2.2 ≤ (vAt x.2.2.1 x.2.2.2.1).length ∧ x.2.2.2.2.2 ≤ x.2.2.2.2.1 + 1000)
  (fun x v _ => ∃ z : Str, v = .str z ∧ cds z = ((vAt x.2.2.1 x.2.2.2.1).drop x.2.2.2.2.1).take (x.2.2.2.2.2 - x.2.2.2.2.1))
theorem new_lst1 {σ : L2.St} {H : Hp} {te : TE} {xs : List V} (h : EvU te σ H xs) : New (tLst (tCons te tNil)) σ H (fun o H' => ∃ b, o = .lst [.ref b] ∧ H' b = some (.tup xs)) := fun H1 e Q q =>
  h H1 e _ fun b H2 hb e2 h2 => ⟨sz_of (by show 1 ≤ 100000; decide), fun p hp => q p _ _ (fresh_back e2 hp) (e2.trans (Ex.new hp)) upd_same ⟨b, rfl, Ex.new hp _ _ h2⟩⟩
theorem size_P {CW y : Addr} {H : Hp} {ps : List Pc} {vals : List (List Nat)} {n : Nat} (W : WtAt CW H y ps vals n) : SpP (sp_Written_size CW) [.ref y] H (fun v _ => v = .int ((vAt vals n).length : Int)) := fun H1 e Q q _ => ⟨y, ps, vals, n, rfl, W.ex e, fun H' e' => q _ H' e' rfl⟩
section
variable {P : Program} {w : World} {K : PySem.W.Frag} {mg : Str → Option Value} {base : Heap} {C CP CW CR : Addr} {f : Addr} {fd : FuncData}
theorem ok_Written_part (F : Fun K "part" "Written.part" s_Written_part f fd) (Z : Zs mg C) (WC : WtC K CW) (G_is_number : Has P w K mg base "is_number" 1 ["thing"] sp_is_number) {f_sz : Addr} {fd_sz : FuncData} (G_Written_size : HasM P w K mg base CW "size" 1 f_sz fd_sz ["self"] (sp_Written_size CW)) : FnOk P w K mg base CX0 2 f fd ["self", "first", "last"] (sp_Written_part CW) := by
  refine F.ok sc_Written_part (fun vs H Q E h => ?_) (fun cdv A outer s H vs Q E hr h => ?_)
  · obtain ⟨i, ⟨rfl, _⟩, _⟩ := h
    rfl
  · obtain ⟨⟨y, ps, vals, n, fi, la⟩, ⟨rfl, W, hps, hfila, hlT, h1000⟩, k⟩ := h
    dsimp only at W hps hfila hlT h1000
    have k : ∀ v H', Ex H H' → (∃ z : Str, v = .str z ∧ cds z = ((vAt vals n).drop fi).take (la - fi)) → Q v H' := k
    refine ⟨_, (pss_cons (ps_if (PW.pt (pw_or (pt_not (pt_val (pe_use G_is_number (hr.mono (by decide)) (pa_cons (pv 1) pa_nil)))) (pw_or (pt_not (pt_val (pe_use G_is_number (hr.mono (by decide)) (pa_cons (pv 2) pa_nil)))) (pw_or1 (pt_not (pt_chain3 op_le op_le op_le pe_int (pv 1) (pv 2) (pe_meth0 (pv 0) G_Written_size.cl G_Written_size.me G_Written_size.ok (hr.mono (by decide)) G_Written_size.b .nil pass0))))))) 
     (pss_one ps_never) pss_nil) 
    (pss_cons (ps_if (pt_cmpR op_gt (pe_op op_sub (pv 2) (pv 1)) (pe_gcI rfl Z.c_MOST_SIGNS) (nomark _)) 
     (pss_one ps_never) pss_nil) 
    (pss_cons (ps_set (i := 3) sc_Written_part.nd rfl (Or.inl rfl) (pe_lst pa_nil)) 
    (pss_cons (ps_set (i := 4) sc_Written_part.nd rfl (Or.inl rfl) (pe_lst (pa_cons (pe_tup (pa_cons (pe_fldK (K := K) (pv 0) rfl) (pa_cons pe_int pa_nil))) pa_nil))) 
    (pss_cons (ps_while PassesOwn.never (pt_truth (pv 4) (by intro _; rfl)) 
     (pss_cons (ps_asg (pe_bm0 PySem.F.plainAttrs_list PySem.F.slot_list_pop PySem.F.type_list_pop mt_pop (pv 4)) (pg_tup rfl (pgs_cons (pg_name (i := 5) sc_Written_part.nd rfl (Or.inl rfl)) (pgs_cons (pg_name (i := 6) sc_Written_part.nd rfl (Or.inl rfl)) pgs_nil)))) 
     (pss_one (ps_if (PW.pt (pw_and (pt_cmpR op_lt (pv 6) (pv 2) (nomark _)) (pw_and1 (pt_cmpR op_gt (pe_op op_add (pv 6) (pe_ix (ixL (K := K)) (pe_fldK (K := K) (pv 0) rfl) (pv 5) (fun _ _ => rfl))) (pv 1) (nomark _))))) 
      (pss_cons (ps_set (i := 7) sc_Written_part.nd rfl (Or.inl rfl) (pe_ix (ixL (K := K)) (pe_fldK (K := K) (pv 0) rfl) (pv 5) (fun _ _ => rfl))) 
      (pss_one (ps_if (pt_val (pe_callB (cIsi (K := K)) (by rfl) Z.z_isinstance (by decide +kernel) (pa_cons (pv 7) (pa_cons (pe_bltn (by rfl) Z.z_str (by decide +kernel) (show RelV (.ty "str") _ from rfl)) pa_nil)))) 
       (pss_one (ps_expr (pe_bm PySem.F.plainAttrs_list PySem.F.slot_list_append PySem.F.type_list_append mt_append (pv 3) (pa_cons (pe_slice sl_str (pv 7) (po_some (pe_callB (call_max2 rfl) (by rfl) Z.z_max (by decide +kernel) (pa_cons pe_int (pa_cons (pe_op op_sub (pv 1) (pv 6)) pa_nil)))) (po_some (pe_op op_sub (pv 2) (pv 6)))) pa_nil)))) 
       (pss_cons (ps_expr (pe_bm PySem.F.plainAttrs_list PySem.F.slot_list_append PySem.F.type_list_append mt_append (pv 4) (pa_cons (pe_tup (pa_cons (pe_ix (ixT (K := K)) (pv 7) pe_int (fun _ _ => rfl)) (pa_cons (pe_op op_add (pv 6) (pe_ix (ixL (K := K)) (pe_fldK (K := K) (pv 0) rfl) (pe_ix (ixT (K := K)) (pv 7) pe_int (fun _ _ => rfl)) (fun _ _ => rfl))) pa_nil))) pa_nil))) 
       (pss_one (ps_expr (pe_bm PySem.F.plainAttrs_list PySem.F.slot_list_append PySem.F.type_list_append mt_append (pv 4) (pa_cons (pe_tup (pa_cons (pe_ix (ixT (K := K)) (pv 7) pe_int (fun _ _ => rfl)) (pa_cons (pv 6) pa_nil))) pa_nil)))))))) pss_nil)))) 
    (pss_one (ps_ret (pe_join pe_str (pv 3))))))))), ?_⟩
    obtain ⟨dx, fs0, tl, sl, xs0, hy, ft, fz, fnum, fo, ht, hxl, hpc, hsl, PV, hn⟩ := id W
    have hlen := PV.len
    refine q_when (b := false) ?_ (fun z => by cases z) fun _ H1 e1 => ?_
    · have hA : EvT (tNot (tB (tCall sp_is_number [] E0 (tCons (tVar 1) tNil)))) [some (V.ref y), some (V.int (fi : Int)), some (V.int (la : Int)), none, none, none, none, none] H false := et_not (a := true) (et_B (ev_use (vs := [.int (fi : Int)]) (ea_cons (ev_var rfl) ea_nil) (spE_V (fi : Int) (fun _ _ => rfl) fun v _ p => p)))
      have hB : EvT (tNot (tB (tCall sp_is_number [] E0 (tCons (tVar 2) tNil)))) [some (V.ref y), some (V.int (fi : Int)), some (V.int (la : Int)), none, none, none, none, none] H false := et_not (a := true) (et_B (ev_use (vs := [.int (la : Int)]) (ea_cons (ev_var rfl) ea_nil) (spE_V (la : Int) (fun _ _ => rfl) fun v _ p => p)))
      have hS : Ev (tMeth CW "size" (sp_Written_size CW) [] E0 (tVar 0) tNil) [some (V.ref y), some (V.int (fi : Int)), some (V.int (la : Int)), none, none, none, none, none] H (.int ((vAt vals n).length : Int)) := Ev.of (ep_meth (ev_var rfl) hy (fo.no (by decide +kernel)) ea_nil (size_P W))
      have hC := et_chain3 (p := fun i j => decide (i ≤ j)) (q := fun i j => decide (i ≤ j)) (r := fun i j => decide (i ≤ j)) (ta := tC (.int 0)) (tb := tVar 1) (tc := tVar 2) (ev_c (v := .int 0)) (ev_var (v := .int (fi : Int)) rfl) (ev_var (v := .int (la : Int)) rfl) hS (by simp) (by simp; omega)
      refine et_is (et_or hA fun _ => et_or hB fun _ => et_not hC) ?_
      show (!decide ((la : Int) ≤ ((vAt vals n).length : Int))) = false
      rw [decide_eq_true (by omega)]
      rfl
    refine q_when (b := decide (((la : Int) - (fi : Int)) > 1000)) (et_test (ev_op (ev_op (ev_var rfl) (ev_var rfl) rv_I0) ev_c rv_I0)) (fun z => absurd (of_decide_eq_true z) (by omega)) fun _ H2 e2 => ?_
    have e12 := e1.trans e2
    refine q_asgL (el_lst ea_nil (Nat.zero_le _)) fun fl H3 hfl e3 h3 => ?_
    have e13 := e12.trans e3
    have hfl0 : H fl = none := fresh_back e12 hfl
    show (tSeq _ _) _ [some (.ref y), some (.int (fi : Int)), some (.int (la : Int)), some (.ref fl), none, none, none, none] H3
    refine q_new (new_lst1 (eu_tup (ea_cons (ev_fld (K := K) (ta := tVar 0) (ev_var rfl) (e13 _ _ hy) WC.cl WC.n fnum) (ea_cons (ev_c (v := .int 0)) ea_nil)) (by show 2 ≤ 100000; decide))) fun wl o H4 hwl e4 h4 ⟨b0, eo, hb0⟩ => ?_
    subst eo
    have e14 := e13.trans e4
    have hwl0 : H wl = none := fresh_back e13 hwl
    have flwl : fl ≠ wl := fun z => by rw [← z, h3] at hwl; cases hwl
    show (tSeq _ _) _ [some (.ref y), some (.int (fi : Int)), some (.int (la : Int)), some (.ref fl), some (.ref wl), none, none, none] H4
    refine q_while (fun m σ' H' => ∃ (fs : List Str) (xs : List V) (st : List (Nat × Nat)) (v5 v6 v7 : Option V), σ' = [some (.ref y), some (.int (fi : Int)), some (.int (la : Int)), some (.ref fl), some (.ref wl), v5, v6, v7] ∧ Ex H H' ∧ H' fl = some (.lst (fs.map V.str)) ∧ H' wl = some (.lst xs) ∧ StsAt H' xs st ∧ PartI fi la ps vals (vAt vals n) fs st ∧ m = mus vals st) (mus vals [(n, 0)]) ⟨[], [.ref b0], [(n, 0)], none, none, none, rfl, e14, e4 _ _ h3, h4, ⟨rfl, fun i x c a b => ?_⟩, PartI.start PV hn hlT, rfl⟩ ?_
    · have hi : i = 0 := by
        have := (List.getElem?_eq_some_iff.mp a).1
        have e : [V.ref b0].length = 1 := rfl
        omega
      subst hi
      cases a
      cases b
      exact ⟨b0, rfl, hb0⟩
    rintro m σ' H5 ⟨fs, xs, st, v5, v6, v7, rfl, ex5, hf5, hw5, S5, PI5, rfl⟩
    have hfs : fs.length ≤ 2000 := by
      have := PI5.w
      rw [clip_len] at this
      omega
    have hst : st.length ≤ 40000 := by have := PI5.k.len; omega
    refine ⟨!xs.isEmpty, et_truL rfl hw5, fun hb H6 e6 => ⟨fun σ2 H2 => ∃ m', m' < mus vals st ∧ ∃ (fs : List Str) (xs : List V) (st : List (Nat × Nat)) (v5 v6 v7 : Option V), σ2 = [some (.ref y), some (.int (fi : Int)), some (.int (la : Int)), some (.ref fl), some (.ref wl), v5, v6, v7] ∧ Ex H H2 ∧ H2 fl = some (.lst (fs.map V.str)) ∧ H2 wl = some (.lst xs) ∧ StsAt H2 xs st ∧ PartI fi la ps vals (vAt vals n) fs st ∧ m' = mus vals st, fun σ2 H2 h => h, ?_⟩, fun hb H6 e6 => ?_⟩
    · have ex6 := ex5.trans e6
      have hf6 := e6 _ _ hf5
      have hw6 := e6 _ _ hw5
      have S6 : StsAt H6 xs st := S5.tup fun b ys q => e6 _ _ q
      rcases List.eq_nil_or_concat xs with z | ⟨xs', x0, z⟩
      · rw [z] at hb
        cases hb
      rcases List.eq_nil_or_concat st with z2 | ⟨st', c, z2⟩
      · have := S6.1
        rw [z, z2] at this
        simp at this
      rw [List.concat_eq_append] at z z2
      subst z
      subst z2
      obtain ⟨Si, b, rfl, hbt⟩ := S6.init
      show (tSeq _ _) _ [some (.ref y), some (.int (fi : Int)), some (.int (la : Int)), some (.ref fl), some (.ref wl), v5, v6, v7] H6
      refine ⟨_, rfl, Or.inl ⟨rfl, _, sq_of hw6⟩, wl, _, .ref b, rfl, rfl, hw6, by simp, ?_⟩
      rw [List.dropLast_concat]
      have bwl : b ≠ wl := fun z => by rw [z, hw6] at hbt; cases hbt
      refine ⟨b, _, rfl, st_of (by rw [upd_ne bwl]; exact hbt), rfl, ⟨_, _, rfl, ⟨_, _, rfl, ⟨rfl, ?_⟩⟩⟩⟩
      have E7 : Ex H (upd H6 wl (.lst xs')) := Ex.mut ex6 hwl0
      have hf7 : (upd H6 wl (.lst xs')) fl = some (.lst (fs.map V.str)) := by rw [upd_ne flwl]; exact hf6
      have hw7 : (upd H6 wl (.lst xs')) wl = some (.lst xs') := upd_same
      have S7 : StsAt (upd H6 wl (.lst xs')) xs' st' := Si.tup fun d ys q => by
        rw [upd_ne (fun z => by rw [z, hw6] at q; cases q)]
        exact q
      have hst' : st'.length ≤ 40000 := by rw [List.length_append] at hst; omega
      have xsl := S7.1
      dsimp only [List.set]
      generalize upd H6 wl (.lst xs') = H7 at E7 hf7 hw7 S7 ⊢
      have hc1 : c.1 < vals.length := by have := PI5.k.last; omega
      refine s_when (b := decide ((c.2 : Int) < (la : Int)) && decide ((c.2 : Int) + ((vAt vals c.1).length : Int) > (fi : Int))) (et_and (et_test (ev_op (ev_var rfl) (ev_var rfl) rv_I0)) fun _ => et_test (ev_op (ev_op (ev_var rfl) (ev_op (ev_fld (K := K) (ta := tVar 0) (ev_var rfl) (E7 _ _ hy) WC.cl WC.s fz) (ev_var rfl) (rv_ixL (K := K) (sq_of (E7 _ _ hsl)) (atI_nat (szs_at hc1)))) rv_I0) (ev_var rfl) rv_I0)) (fun hb2 H8 e8 => ?_) (fun hb2 H8 e8 => ?_)
      · have hin : c.2 < la ∧ fi < c.2 + (vAt vals c.1).length := by
          rw [Bool.and_eq_true] at hb2
          have h1 := of_decide_eq_true hb2.1
          have h2 := of_decide_eq_true hb2.2
          omega
        have E8 := E7.trans e8
        have hf8 := e8 _ _ hf7
        have hw8 := e8 _ _ hw7
        have S8 : StsAt H8 xs' st' := S7.tup fun b ys q => e8 _ _ q
        have hcx : c.1 < xs0.length := by omega
        have hxs : xs0[c.1]? = some xs0[c.1] := List.getElem?_eq_getElem hcx
        have hps' : ps[c.1]? = some ps[c.1] := List.getElem?_eq_getElem (by omega)
        have hpa := (hpc c.1 _ _ hxs hps').ex E8
        refine q_asg (v := xs0[c.1]) (ev_op (ev_fld (K := K) (ta := tVar 0) (ev_var rfl) (E8 _ _ hy) WC.cl WC.t ft) (ev_var rfl) (rv_ixL (K := K) (sq_of (E8 _ _ ht)) (atI_nat hxs))) fun H9 e9 => ?_
        have E9 := E8.trans e9
        have hf9 := e9 _ _ hf8
        have hw9 := e9 _ _ hw8
        have S9 : StsAt H9 xs' st' := S8.tup fun b ys q => e9 _ _ q
        have hpa := hpa.ex e9
        show (tIfS _ _ _) _ [some (.ref y), some (.int (fi : Int)), some (.int (la : Int)), some (.ref fl), some (.ref wl), some (.int (c.1 : Int)), some (.int (c.2 : Int)), some xs0[c.1]] H9
        generalize xs0[c.1] = x1 at hpa hxs ⊢
        generalize ps[c.1] = pc at hpa hps'
        cases pc with
        | t z =>
          obtain rfl : x1 = .str z := hpa
          have hz := PV.short hps'
          have hzv := PV.at_t hps'
          refine s_if (b := true) (et_B (ev_isS (b := true) (ev_var rfl) rfl)) (fun _ H10 e10 => ?_) (fun z => by cases z)
          have E10 := E9.trans e10
          have hz1 : cds (cutS z (some ((fi - c.2 : Nat) : Int)) (some ((la - c.2 : Nat) : Int))) = clip fi la c.2 (vAt vals c.1) := by
            rw [cds_cutS, hzv]
            rfl
          refine s_app (v := .str (cutS z (some ((fi - c.2 : Nat) : Int)) (some ((la - c.2 : Nat) : Int)))) (e10 _ _ hf9) (ev_var rfl) (ev_slS (ev_var rfl) (eo_some (ev_is (ev_max2 ev_c (ev_op (ev_var rfl) (ev_var rfl) rv_I0)) ?_)) (eo_some (ev_is (ev_op (ev_var rfl) (ev_var rfl) rv_I0) ?_)) hz) (by rw [List.length_map]; omega) fun H11 e11 => ?_
          · congr 1
            split <;> omega
          · congr 1
            omega
          · have E11 := E10.trans e11
            refine ⟨_, mus_less, fs ++ [cutS z (some ((fi - c.2 : Nat) : Int)) (some ((la - c.2 : Nat) : Int))], xs', st', _, _, _, rfl, Ex.mut E11 hfl0, by rw [upd_same, List.map_append]; rfl, by rw [upd_ne flwl.symm]; exact e11 _ _ (e10 _ _ hw9), S9.tup fun b ys q => ?_, PI5.text (s := z) hfila hin hz1, rfl⟩
            have q2 := e11 _ _ (e10 _ _ q)
            rw [upd_ne (fun z => by rw [z, e11 _ _ (e10 _ _ hf9)] at q2; cases q2)]
            exact q2
        | j a2 b2 =>
          obtain ⟨q0, rfl, hq0⟩ := hpa
          obtain ⟨ja, jb, za, zb, je⟩ := PV.at_j hps'
          have ha2 : a2 < vals.length := by omega
          refine s_if (b := false) (et_B (ev_isU (b := false) (ev_var rfl) hq0 rfl)) (fun z => by cases z) (fun _ H10 e10 => ?_)
          have E10 := E9.trans e10
          have hq10 := e10 _ _ hq0
          show (tSeq _ _) _ _ _
          refine q_appU (ys := [.int (b2 : Int), .int ((c.2 + (vAt vals a2).length : Nat) : Int)]) (e10 _ _ hw9) (ev_var rfl) (eu_tup (ea_cons (ev_ixU (K := K) (i := 1) (ev_var rfl) ev_c hq10 rfl) (ea_cons (ev_is (ev_op (ev_var rfl) (ev_op (ev_fld (K := K) (ta := tVar 0) (ev_var rfl) (E10 _ _ hy) WC.cl WC.s fz) (ev_ixU (K := K) (i := 0) (ev_var rfl) ev_c hq10 rfl) (rv_ixL (K := K) (sq_of (E10 _ _ hsl)) (atI_nat (szs_at ha2)))) rv_I0) (by congr 1)) ea_nil)) (by show 2 ≤ 100000; decide)) (by omega) fun q1 H11 hq1 e11 h11 => ?_
          have E11 := E10.trans e11
          have q1wl : q1 ≠ wl := fun z => by rw [z, e10 _ _ hw9] at hq1; cases hq1
          have hw11 := e11 _ _ (e10 _ _ hw9)
          have E12 : Ex H (upd H11 wl (.lst (xs' ++ [.ref q1]))) := Ex.mut E11 hwl0
          have hf12 : (upd H11 wl (.lst (xs' ++ [.ref q1]))) fl = some (.lst (fs.map V.str)) := by rw [upd_ne flwl]; exact e11 _ _ (e10 _ _ hf9)
          have hw12 : (upd H11 wl (.lst (xs' ++ [.ref q1]))) wl = some (.lst (xs' ++ [.ref q1])) := upd_same
          have tups : ∀ d ys, H9 d = some (.tup ys) → (upd H11 wl (.lst (xs' ++ [.ref q1]))) d = some (.tup ys) := fun d ys q => by
            have q2 := e11 _ _ (e10 _ _ q)
            rw [upd_ne (fun z => by rw [z, hw11] at q2; cases q2)]
            exact q2
          have S12 : StsAt (upd H11 wl (.lst (xs' ++ [.ref q1]))) (xs' ++ [.ref q1]) (st' ++ [(b2, c.2 + (vAt vals a2).length)]) := (S9.tup tups).snoc ⟨q1, rfl, by rw [upd_ne q1wl]; exact h11⟩
          have hq12 := tups _ _ hq0
          show (tDrop _) _ [some (.ref y), some (.int (fi : Int)), some (.int (la : Int)), some (.ref fl), some (.ref wl), some (.int (c.1 : Int)), some (.int (c.2 : Int)), some (.ref q0)] _
          generalize upd H11 wl (.lst (xs' ++ [.ref q1])) = H12 at E12 hf12 hw12 S12 hq12 ⊢
          refine s_appU (ys := [.int (a2 : Int), .int (c.2 : Int)]) hw12 (ev_var rfl) (eu_tup (ea_cons (ev_ixU (K := K) (i := 0) (ev_var rfl) ev_c hq12 rfl) (ea_cons (ev_var rfl) ea_nil)) (by show 2 ≤ 100000; decide)) (by rw [List.length_append]; show xs'.length + 1 < 100000; omega) fun q3 H13 hq3 e13 h13 => ?_
          have q3wl : q3 ≠ wl := fun z => by rw [z, hw12] at hq3; cases hq3
          have hw13 := e13 _ _ hw12
          refine ⟨_, mus_join (s := c.2 + (vAt vals a2).length) (t := c.2) za zb je, fs, _, st' ++ [(b2, c.2 + (vAt vals a2).length), (a2, c.2)], _, _, _, rfl, Ex.mut (E12.trans e13) hwl0, by rw [upd_ne flwl]; exact e13 _ _ hf12, upd_same, ?_, PI5.join ja jb za zb je, rfl⟩
          have e2 : st' ++ [(b2, c.2 + (vAt vals a2).length), (a2, c.2)] = (st' ++ [(b2, c.2 + (vAt vals a2).length)]) ++ [(a2, c.2)] := by simp
          rw [e2]
          exact (S12.tup fun d ys q => by
            have q2 := e13 _ _ q
            rw [upd_ne (fun z => by rw [z, hw13] at q2; cases q2)]
            exact q2).snoc ⟨q3, rfl, by rw [upd_ne q3wl]; exact h13⟩
      · have hout : ¬ (c.2 < la ∧ fi < c.2 + (vAt vals c.1).length) := fun ⟨z1, z2⟩ => by
          rw [decide_eq_true (by omega : (c.2 : Int) < (la : Int)), decide_eq_true (by omega : (c.2 : Int) + ((vAt vals c.1).length : Int) > (fi : Int))] at hb2
          cases hb2
        exact ⟨_, mus_less, fs, xs', st', _, _, _, rfl, E7.trans e8, e8 _ _ hf7, e8 _ _ hw7, S7.tup fun b ys q => e8 _ _ q, PI5.skip hout, rfl⟩
    · have hx : xs = [] := by
        cases xs with
        | nil => rfl
        | cons a r => cases hb
      have hs0 : st = [] := by
        have := S5.1
        rw [hx] at this
        exact List.eq_nil_of_length_eq_zero this.symm
      subst hs0
      have hv := PI5.v
      have e0 : clips fi la vals [] = [] := rfl
      rw [e0, List.append_nil] at hv
      have hcat : cds (cat fs) = ((vAt vals n).drop fi).take (la - fi) := by
        rw [cds_cat, hv]
        rfl
      refine s_ret (v := .str (cat fs)) (ev_join1 (K := K) (ev_var rfl) (e6 _ _ hf5) ?_) fun H7 e7 => k _ H7 ((ex5.trans e6).trans e7) ⟨_, rfl, hcat⟩
      rw [len_cds, hcat, List.length_take]
      omega
end
end KX
end
section
set_option Elab.async false
set_option linter.all false
set_option maxRecDepth 100000
set_option maxHeartbeats 8000000
/-! Py23: a sign of what is written. -/
namespace KX
open PySem PySem.Spec PyProof.Rows L2 Evl
abbrev WsX := Addr × List Pc × List (List Nat) × Nat × Nat
def sp_Written_sign (CW : Addr) : Sp := spE (fun (x : WsX) vs H => vs = [.ref x.1, .int (x.2.2.2.2 : Int)] ∧ WtAt CW H x.1 x.2.1 x.2.2.1 x.2.2.2.1 ∧ x.2.1.length ≤ 40000 ∧ x.2.2.2.2 < (vAt x.2.2.1 x.2.2.2.1).length)
  (fun x v _ => ∃ z : Str, v = .str z ∧ cds z = ((vAt x.2.2.1 x.2.2.2.1).drop x.2.2.2.2).take 1)
section
variable {P : Program} {w : World} {K : PySem.W.Frag} {mg : Str → Option Value} {base : Heap} {C CP CW CR : Addr} {f : Addr} {fd : FuncData}
theorem ok_Written_sign (F : Fun K "sign" "Written.sign" s_Written_sign f fd) (Z : Zs mg C) (WC : WtC K CW) (G_is_number : Has P w K mg base "is_number" 1 ["thing"] sp_is_number) {f_sz : Addr} {fd_sz : FuncData} (G_Written_size : HasM P w K mg base CW "size" 1 f_sz fd_sz ["self"] (sp_Written_size CW))
    {f_pt : Addr} {fd_pt : FuncData} (G_Written_part : HasM P w K mg base CW "part" 2 f_pt fd_pt ["self", "first", "last"] (sp_Written_part CW)) : FnOk P w K mg base CX0 3 f fd ["self", "place"] (sp_Written_sign CW) := by
  refine F.ok sc_Written_sign (fun vs H Q E h => ?_) (fun cdv A outer s H vs Q E hr h => ?_)
  · obtain ⟨i, ⟨rfl, _⟩, _⟩ := h
    rfl
  · obtain ⟨⟨y, ps, vals, n, pl⟩, ⟨rfl, W, hps, hpl⟩, k⟩ := h
    dsimp only at W hps hpl
    have k : ∀ v H', Ex H H' → (∃ z : Str, v = .str z ∧ cds z = ((vAt vals n).drop pl).take 1) → Q v H' := k
    refine ⟨_, (pss_cons (ps_if (PW.pt (pw_or (pt_not (pt_val (pe_use G_is_number (hr.mono (by decide)) (pa_cons (pv 1) pa_nil)))) (pw_or1 (pt_not (pt_chain op_le op_lt pe_int (pv 1) (pe_meth0 (pv 0) G_Written_size.cl G_Written_size.me G_Written_size.ok (hr.mono (by decide)) G_Written_size.b .nil pass0)))))) 
     (pss_one ps_never) pss_nil) 
    (pss_one (ps_ret (pe_meth (pv 0) G_Written_part.cl G_Written_part.me G_Written_part.ok (hr.mono (by decide)) G_Written_part.b .nil pass0 (pa_cons (pv 1) (pa_cons (pe_op op_add (pv 1) pe_int) pa_nil)))))), ?_⟩
    obtain ⟨dx, fs0, tl, sl, xs0, hy, ft, fz, fnum, fo, _⟩ := id W
    refine q_when (b := false) ?_ (fun z => by cases z) fun _ H1 e1 => ?_
    · have hA : EvT (tNot (tB (tCall sp_is_number [] E0 (tCons (tVar 1) tNil)))) [some (V.ref y), some (V.int (pl : Int))] H false := et_not (a := true) (et_B (ev_use (vs := [.int (pl : Int)]) (ea_cons (ev_var rfl) ea_nil) (spE_V (pl : Int) (fun _ _ => rfl) fun v _ p => p)))
      have hS : Ev (tMeth CW "size" (sp_Written_size CW) [] E0 (tVar 0) tNil) [some (V.ref y), some (V.int (pl : Int))] H (.int ((vAt vals n).length : Int)) := Ev.of (ep_meth (ev_var rfl) hy (fo.no (by decide +kernel)) ea_nil (size_P W))
      refine et_is (et_or hA fun _ => et_not (et_test (ev_between (ev_c (v := .int 0)) (ev_var (v := .int (pl : Int)) rfl) hS))) ?_
      show (!(decide ((0 : Int) ≤ (pl : Int)) && decide ((pl : Int) < ((vAt vals n).length : Int)))) = false
      rw [decide_eq_true (by omega), decide_eq_true (by omega)]
      rfl
    · refine s_retP (Pv := fun v _ => ∃ z : Str, v = .str z ∧ cds z = ((vAt vals n).drop pl).take 1) (ep_meth (vs := [.int (pl : Int), .int ((pl + 1 : Nat) : Int)]) (ev_var rfl) (e1 _ _ hy) (fo.no (by decide +kernel)) (ea_cons (ev_var rfl) (ea_cons (ev_is (ev_op (ev_var rfl) ev_c rv_I0) (by congr 1)) ea_nil)) (spE_P (y, ps, vals, n, pl, pl + 1) (fun H2 e2 => ⟨rfl, W.ex (e1.trans e2), hps, Nat.le_succ _, hpl, by show pl + 1 ≤ pl + 1000; omega⟩) fun v H2 _ ⟨z, h1, h2⟩ => ⟨z, h1, by rw [h2]; show List.take (pl + 1 - pl) _ = _; rw [Nat.add_sub_cancel_left]⟩)) fun v H2 e2 p => k v H2 (e1.trans e2) p
end
end KX
end
section
set_option Elab.async false
set_option linter.all false
set_option maxRecDepth 100000
set_option maxHeartbeats 8000000
/-! Lw1: the law's own run; its program is made. -/
namespace KX
open PySem PySem.Spec PyProof.Rows L2 Evl
section
variable {σ : L2.St} {H : Hp} {ta : TA}
theorem make_P {C : Addr} {sp : Sp} {E : XK} {Pa : List V → Hp → Prop} {Po : Addr → Hp → Prop} (h : EvPA ta σ H Pa)
    (hs : ∀ vs H1 x dx, Ex H H1 → Pa vs H1 → H1 x = none → H1 dx = none → dx ≠ x → ∀ Q : VK, (∀ H2, Ex H1 H2 → Po x H2 → Q .non H2) → sp (.ref x :: vs) (upd (upd H1 dx (.own x)) x (.ins C dx [])) Q E) :
    EvP (tMake C sp [] E ta) σ H (fun v H2 => ∃ x, v = .ref x ∧ Po x H2) := fun H1 e Q q =>
  h H1 e _ fun vs H2 e2 p x dx hx hdx ne => by
    rw [List.append_nil]
    exact hs vs H2 x dx (e.trans e2) p hx hdx ne _ fun H3 e3 po => ⟨rfl, q _ H3 (e2.trans e3) ⟨x, rfl, po⟩⟩
end
theorem goOkD {g : Pg} (D : DrOk sg4 g) : GoOk g := by
  obtain ⟨hN, h2, hW⟩ := regs_ok D
  have hn := D.n
  refine ⟨by omega, hN, by omega, D.go, fun s c h n hn => ?_, fun s row h => ?_⟩
  · have hro := D.ro s c h n hn
    have h3 := hro.1
    exact ⟨by omega, fun m hm => hro.2 _ hm⟩
  · have hfi := (D.fi s row h).2.2.1
    have h3 := hfi.1
    exact ⟨by omega, fun m hm => hfi.2 _ hm⟩
theorem q_unpack6 {K : PySem.W.Frag} {σ : L2.St} {H : Hp} {te : TE} {D : Ends} {tz : TS} {b : Addr} {v1 v2 v3 v4 v5 v6 : V} {i1 i2 i3 i4 i5 i6 : Nat} (h : Ev te σ H (.ref b)) (hb : H b = some (.tup [v1, v2, v3, v4, v5, v6]))
    (k : ∀ H1, Ex H H1 → tz D ((((((σ.set i1 (some v1)).set i2 (some v2)).set i3 (some v3)).set i4 (some v4)).set i5 (some v5)).set i6 (some v6)) H1) : tSeq (tAsg te (gTup K 6 (gCons (gName i1) (gCons (gName i2) (gCons (gName i3) (gCons (gName i4) (gCons (gName i5) (gCons (gName i6) gNil)))))))) tz D σ H :=
  h H (Ex.refl H) _ fun H1 e => ⟨b, _, rfl, st_of (e _ _ hb), rfl, ⟨_, _, rfl, ⟨_, _, rfl, ⟨_, _, rfl, ⟨_, _, rfl, ⟨_, _, rfl, ⟨_, _, rfl, ⟨rfl, k H1 e⟩⟩⟩⟩⟩⟩⟩⟩
def sp_law_run : Sp := spE (fun (x : Addr × Str × Pg) vs H => vs = [.ref x.1, .str x.2.1] ∧ Told H x.2.2 x.1 ∧ GoOk x.2.2 ∧ (∀ c ∈ cds x.2.1, c ∈ cds x.2.2.L) ∧ Fit x.2.2 (cds x.2.1) ∧ ∀ s, wrG x.2.2 (cds x.2.1) = some s → s.length ≤ big)
  (fun x v _ => v = vO (wrG x.2.2 (cds x.2.1)))
section
variable {P : Program} {w : World} {K : PySem.W.Frag} {mg : Str → Option Value} {base : Heap} {C : Addr} {f : Addr} {fd : FuncData}
theorem ok_law_write (F : Fun K "_law_write" "_law_write" s_law_write f fd) (Z : Zs mg C) : FnOk P w K mg base CX0 1 f fd ["row", "held"] sp_text_of := by
  refine F.ok sc_law_write (fun vs H Q E h => ?_) (fun cdv A outer s H vs Q E hr h => ?_)
  · obtain ⟨i, ⟨rfl, _⟩, _⟩ := h
    rfl
  · obtain ⟨⟨a, d, row, regs, h⟩, ⟨rfl, ⟨xs, hx, hl, hi⟩, hz, hn, hd, hw⟩, k⟩ := h
    have hz : row.length ≤ 1000 := hz
    have hl : xs.length = row.length := hl
    have hu := hu_of hr
    refine ⟨_, (pss_one (ps_ret (pe_join pe_str (pe_lc (own := [(("item" : Str), 2)]) (g := gName 2) rfl sc_law_write.nd (pi_tup (pv 0)) (blkOk_by (own := [(("item" : Str), 2)]) (N := n_law_write) (sc := defScope s_law_write) (by decide +kernel)) (fun _ _ _ _ _ => (pg_name (i := 2) sc_law_write.nd rfl (Or.inl rfl))) (fun _ _ _ _ _ => pts_nil) (fun _ _ _ _ _ => (pe_ifExp (pt_val (pe_callB (cIsi (K := K)) (by rfl) Z.z_isinstance (by decide +kernel) (pa_cons (pv 2) (pa_cons (pe_bltn (by rfl) Z.z_str (by decide +kernel) (show RelV (.ty "str") _ from rfl)) pa_nil)))) (pv 2) (pe_dget hu (pv 1) (pe_ix (ixT (K := K)) (pv 2) pe_int (fun _ _ => rfl)) (fun _ _ => rfl)))))))), ?_⟩
    refine s_ret (v := .str (wr row h)) (ev_join (K := K) (ys := row.map (itT h)) (el_lcW (src_tup (K := K) (ev_var rfl) (st_of hx)) (by omega) (fun x => rfl) ((row.map (itT h)).map V.str) (by simp [hl]) ?_) rfl hw) fun H3 e3 => k _ H3 e3 rfl
    intro i x y H' e hy hxi
    rw [List.map_map, List.getElem?_map] at hy
    cases ht : row[i]? with
    | none => rw [ht] at hy; cases hy
    | some t =>
      rw [ht] at hy
      obtain rfl := Option.some.inj hy
      have h1 := hi i x t hxi ht
      cases t with
      | t s =>
        obtain rfl : x = .str s := h1
        exact ev_if (b := true) (et_B (ev_isS (ev_var rfl) rfl)) (fun _ => ev_var rfl) (fun z => by cases z)
      | r n =>
        obtain ⟨b, rfl, hb⟩ := h1
        have hb' := e _ _ hb
        exact ev_if (b := false) (et_B (ev_isU (ev_var rfl) hb' rfl)) (fun z => by cases z) fun _ => ev_get (ev_var rfl) (ev_ixU (i := 0) (ev_var rfl) ev_c hb' rfl) (k := .inr n) rfl (ex_rd e hd) (hk_at (hn n (List.mem_of_getElem? ht)))
theorem ok_law_run (F : Fun K "_law_run" "_law_run" s_law_run f fd) (Z : Zs mg C) (G_law_write : Has P w K mg base "_law_write" 1 ["row", "held"] sp_text_of) : FnOk P w K mg base CX0 2 f fd ["program", "text"] sp_law_run := by
  refine F.ok sc_law_run (fun vs H Q E h => ?_) (fun cdv A outer s H vs Q E hr h => ?_)
  · obtain ⟨i, ⟨rfl, _⟩, _⟩ := h
    rfl
  · obtain ⟨⟨tp, z, g⟩, ⟨rfl, hT, G, hw, hF, hW⟩, k⟩ := h
    dsimp only at hT G hw hF hW
    have k : ∀ v H', Ex H H' → v = vO (wrG g (cds z)) → Q v H' := k
    have hu := hu_of hr
    obtain ⟨ra, fa, sa, ea, ht, PD⟩ := hT
    refine ⟨_, (pss_cons (ps_asg (pv 0) (pg_tup rfl (pgs_cons (pg_name (i := 2) sc_law_run.nd rfl (Or.inl rfl)) (pgs_cons (pg_name (i := 3) sc_law_run.nd rfl (Or.inl rfl)) (pgs_cons (pg_name (i := 4) sc_law_run.nd rfl (Or.inl rfl)) (pgs_cons (pg_name (i := 5) sc_law_run.nd rfl (Or.inl rfl)) (pgs_cons (pg_name (i := 6) sc_law_run.nd rfl (Or.inl rfl)) (pgs_cons (pg_name (i := 7) sc_law_run.nd rfl (Or.inl rfl)) pgs_nil)))))))) 
    (pss_cons (ps_asg (pe_tup (pa_cons pe_int (pa_cons (pe_callTy call_dictD (by rfl) Z.z_dict (by decide +kernel) (pa_cons (pv 5) pa_nil)) pa_nil))) (pg_tup rfl (pgs_cons (pg_name (i := 8) sc_law_run.nd rfl (Or.inl rfl)) (pgs_cons (pg_name (i := 9) sc_law_run.nd rfl (Or.inr rfl)) pgs_nil)))) 
    (pss_cons (ps_for PassesOwn.never rfl (pi_str (pv 1)) (pg_name (i := 10) sc_law_run.nd rfl (Or.inl rfl)) 
     (pss_cons (ps_asg (pe_dget hu (pv 6) (pe_tup (pa_cons (pv 8) (pa_cons (pv 10) pa_nil))) (fun _ _ => rfl)) (pg_tup rfl (pgs_cons (pg_name (i := 8) sc_law_run.nd rfl (Or.inl rfl)) (pgs_cons (pg_name (i := 11) sc_law_run.nd rfl (Or.inr rfl)) pgs_nil)))) 
     (pss_one (ps_set (i := 9) sc_law_run.nd rfl (Or.inr rfl) (pe_callTy (call_dictP rfl) (by rfl) Z.z_dict (by decide +kernel) (pa_cons (pe_lc (own := [(("name" : Str), 12)]) (g := gName 12) rfl sc_law_run.nd (pi_list (pv 4)) (blkOk_by (own := [(("name" : Str), 12)]) (N := n_law_run) (sc := defScope s_law_run) (by decide +kernel)) (fun _ _ _ _ _ => (pg_name (i := 12) sc_law_run.nd rfl (Or.inl rfl))) (fun _ _ _ _ _ => pts_nil) (fun _ _ _ _ _ => (pe_tup (pa_cons (pv 12) (pa_cons (pe_ifExp (pt_cmp (pc_din hu (pv 12) (pv 11))) (pe_use G_law_write (hr.mono (by decide)) (pa_cons (pe_dget hu (pv 11) (pv 12) (fun _ _ => rfl)) (pa_cons (pv 9) pa_nil))) (pe_dget hu (pv 9) (pv 12) (fun _ _ => rfl))) pa_nil))))) pa_nil)))))) 
    (pss_one (ps_ret (pe_ifExp (pt_cmp (pc_din hu (pv 8) (pv 7))) (pe_use G_law_write (hr.mono (by decide)) (pa_cons (pe_dget hu (pv 7) (pv 8) (fun _ _ => rfl)) (pa_cons (pv 9) pa_nil))) pe_non)))))), ?_⟩
    refine q_unpack6 (ev_var rfl) ht fun H1 e1 => ?_
    have eD : EvP (tCB (fun xs H Q => ∃ (a : Addr) (kvs : List (Key × V)), xs = [.ref a] ∧ Rd H a (.dK kvs) ∧ ∀ p, H p = none → Q (.ref p) (upd H p (.dK kvs))) (tCons (tVar 5) tNil)) [some (.ref tp), some (.str z), some (.str g.L), some (.int g.n), some (.ref ra), some (.ref fa), some (.ref sa), some (.ref ea), none, none, none, none, none] H1 (fun v H2 => ∃ d, v = .ref d ∧ H2 d = some (.dK (hk g.regs g.fst))) :=
      (new_dict (ev_var rfl) (.inl (e1 _ _ PD.f))).evP.imp fun v H2 _ ⟨p, o, a, b, c⟩ => ⟨p, a, by rw [b, c]⟩
    refine q_unpackP (Pz := fun y z' H => y = .int 0 ∧ ∃ d, z' = .ref d ∧ H d = some (.dK (hk g.regs g.fst))) (((new_tup (pa1 (P := fun v _ => v = .int 0) (fun _ _ _ _ h => h) (EvP.of ev_c) (pa1 (Pr := fun vs _ => vs = []) (fun v H H' e ⟨d, h1, h2⟩ => ⟨d, h1, e _ _ h2⟩) eD pa0)) (fun vs H2 ⟨v, r, h1, h2, v', r', h3, h4, h5⟩ => by rw [h1, h3, h5]; show 2 ≤ 1000; decide)
      (fun vs H H' e ⟨v, r, h1, h2, v', r', h3, ⟨d, h4, h6⟩, h5⟩ => ⟨v, r, h1, h2, v', r', h3, ⟨d, h4, e _ _ h6⟩, h5⟩)).evP).imp fun v H2 _ ⟨b, o, h1, h2, vs, h3, v1, r1, h4, h5, v2, r2, h6, ⟨d, h7, h8⟩, h10⟩ => ⟨b, .int 0, .ref d, h1, by rw [h2, h3, h4, h5, h6, h7, h10], rfl, d, rfl, h8⟩) ?_
    rintro _ _ H2 e2 ⟨rfl, d, rfl, hd⟩
    have e12 := e1.trans e2
    refine s_forS (ev_var rfl) (fun i σ' H' => ∃ d v4 v5, σ' = [some (.ref tp), some (.str z), some (.str g.L), some (.int g.n), some (.ref ra), some (.ref fa), some (.ref sa), some (.ref ea), some (.int (runG g ((cds z).take i)).1), some (.ref d), v4, v5, none] ∧ Ex H H' ∧ H' d = some (.dK (hk g.regs (runG g ((cds z).take i)).2))) ?_ ?_ ?_
    · intro H4 e4
      refine ⟨d, none, none, ?_, e12.trans e4, ?_⟩
      · rw [List.take_zero]
        rfl
      · rw [List.take_zero]
        exact e4 _ _ hd
    · rintro i c σ' H' hi ⟨d, v4, v5, rfl, ex, hd⟩
      have hi' : (cds z)[i]? = some c := by rw [Array.getElem?_toList]; exact hi
      have hil : i < (cds z).length := (List.getElem?_eq_some_iff.mp hi').1
      have hin := runG_in G ((cds z).take i) (fun c hc => hw c (List.mem_of_mem_take hc))
      have hsl : SL g.L g.n (runG g ((cds z).take i)).1 c := ⟨hin.1, hin.2, hw c (List.mem_of_getElem? hi')⟩
      have htk : (cds z).take (i + 1) = (cds z).take i ++ [c] := by rw [List.take_succ, hi']; rfl
      have hF1 := hF (i + 1) hil
      rw [htk, runG_snoc] at hF1
      show (tSeq _ _) _ _ _
      generalize hx : runG g ((cds z).take i) = x at hd hsl hF1 ⊢
      obtain ⟨ks, hks, _, _, hkv, hkc⟩ := PD.s
      obtain ⟨v, hv, hm⟩ := valV_key (kvs := ks) (hkc x.1 c hsl)
      obtain ⟨s', c', b, r, hk1, _, rfl, hb, hR⟩ := hkv _ v hm
      obtain ⟨rfl, rfl⟩ := pl_inj hk1
      refine q_unpack2 (b := b) (ev_getU (k := [.inl x.1, .inr ⟨#[c]⟩]) (ev_var rfl) (eu_tup (ea_cons (ev_var rfl) (ea_cons (ev_var rfl) ea_nil)) (by show 2 ≤ 100000; decide)) (.inl (ex _ _ hks)) hv) (ex _ _ hb) fun H4 e4 => ?_
      have ex4 := ex.trans e4
      obtain ⟨kvs, hr4, hkk, hrow⟩ := hR.ex ex4
      have hd4 := e4 _ _ hd
      have hra := ex4 _ _ PD.rS
      have hNk : (g.regs.map (Sum.inr : Str → Key)).Nodup := List.Pairwise.map Sum.inr (fun a b h q => h (Sum.inr.inj q)) G.rN
      have hz6 := G.r6
      refine s_new (new_dictP (K := K) hNk (Q := fun i v _ => ∀ n, g.regs[i]? = some n → v = .str ((stp g x c).2 n)) (fun _ _ _ _ _ h => h) ((new_lc (src_list (K := K) (ev_var rfl) (sq_of hra)) (by rw [List.length_map]; omega) (fun x => rfl)
        (fun i y H => ∃ n b, g.regs[i]? = some n ∧ y = .ref b ∧ H b = some (.tup [.str n, .str ((stp g x c).2 n)])) (fun i y => stab_ex fun n => stab_ex fun b => stab_and stab_pure (stab_and stab_pure (stab_at rfl rfl))) ?_).imp fun o H3 _ ⟨xs, h1, h2, h3⟩ => ⟨xs, h1, by rw [h2, List.length_map, List.length_map], fun i y hy kk hkk => ?_⟩)) fun d2 o H5 hd2 e5 h5 ⟨kv, n5, hk5, hv5⟩ => ?_
      · intro j y H' e hj hy
        obtain ⟨n, hn, rfl, hnr⟩ : ∃ n, g.regs[j]? = some n ∧ y = .str n ∧ n ∈ g.regs := by
          have hy : (g.regs.map V.str)[j]? = some y := hy
          rw [List.getElem?_map] at hy
          cases hr : g.regs[j]? with
          | none =>
            rw [hr] at hy
            cases hy
          | some n =>
            rw [hr] at hy
            exact ⟨n, rfl, (Option.some.inj hy).symm, List.mem_of_getElem? hr⟩
        obtain ⟨v0, hv0, hm0⟩ := valV_key (kvs := kvs) (k := .inr n) (by rw [hkk]; exact List.mem_map_of_mem hnr)
        obtain ⟨a, rfl, hA⟩ := hrow n v0 hm0
        have hrw := G.rw x.1 c hsl n hnr
        exact (New.ofU (eu_tup (ea_cons (ev_var rfl) (ea_cons (ev_if (b := true) (et_test (ev_is (ev_in (k := .inr n) (ev_var rfl) rfl (ev_var rfl) (.inl (e _ _ hr4))) (by rw [hv0]; rfl))) (fun _ => ev_use (ea_cons (ev_get (ev_var rfl) (ev_var rfl) (k := .inr n) rfl (.inl (e _ _ hr4)) hv0) (ea_cons (ev_var rfl) ea_nil))
          (spE_V (a, d, g.row x.1 c n, g.regs, x.2) (fun _ e1 => ⟨rfl, hA.le (Le.ex (e.trans e1)), hrw.1, hrw.2, .inl ((e.trans e1) _ _ hd4), hF1 n hnr⟩) fun v _ p => p)) (fun z => by cases z)) ea_nil)) (by show 2 ≤ 100000; decide))).evP.imp fun v H2 _ ⟨b, o, h1, h2, h3⟩ => ⟨n, b, hn, h1, by rw [h2, h3]; rfl⟩
      · obtain ⟨n, b, g1, g2, g3⟩ := h3 i y hy
        rw [List.getElem?_map, g1] at hkk
        cases hkk
        exact ⟨b, _, g2, g3, fun m hm => by
          rw [g1] at hm
          cases hm
          rfl⟩
      · subst n5
        refine ⟨d2, some (.str ⟨#[c]⟩), some (.ref r), ?_, ex4.trans e5, ?_⟩
        · rw [htk, runG_snoc, hx]
          rfl
        · rw [htk, runG_snoc, hx, ← hk_of hk5 hv5]
          exact h5
    · rintro σ' H' ⟨d, v4, v5, rfl, ex, hd⟩
      have htt : (cds z).take z.cps.size = cds z := List.take_of_length_le (by rw [Array.length_toList]; exact Nat.le_refl _)
      rw [htt] at hd ⊢
      have hin := runG_in G (cds z) hw
      unfold wrG at hW k
      generalize hx : runG g (cds z) = x at hd hin hW k ⊢
      obtain ⟨kvs, hks, _, _, hkv, hkc⟩ := PD.e
      have hsome : (valV kvs (.inl x.1)).isSome = (g.fin x.1).isSome := by
        cases hf : g.fin x.1 with
        | some row =>
          obtain ⟨v, hv, _⟩ := valV_key (kvs := kvs) (hkc x.1 (by rw [hf]; rfl))
          rw [hv]
          rfl
        | none =>
          cases hv : valV kvs (.inl x.1) with
          | none => rfl
          | some v =>
            obtain ⟨s', a, row, h1, h2, _⟩ := hkv _ v (valV_mem hv)
            cases h1
            rw [hf] at h2
            cases h2
      refine s_ret (v := vO ((g.fin x.1).map fun row => wr row x.2)) (ev_if (b := (g.fin x.1).isSome) (et_test (ev_is (ev_in (k := .inl x.1) (ev_var rfl) rfl (ev_var rfl) (.inl (ex _ _ hks))) (by rw [hsome]))) (fun hb => ?_) (fun hb => ?_)) fun H3 e3 => k _ H3 (ex.trans e3) rfl
      · cases hf : g.fin x.1 with
        | none =>
          rw [hf] at hb
          cases hb
        | some row =>
          obtain ⟨v, hv, hm⟩ := valV_key (kvs := kvs) (hkc x.1 (by rw [hf]; rfl))
          obtain ⟨s', a, row', h1, h2, rfl, hA⟩ := hkv _ v hm
          cases h1
          rw [hf] at h2
          cases h2
          rw [hf] at hW
          have hfn := G.fn x.1 row hf
          exact ev_use (ea_cons (ev_get (ev_var rfl) (ev_var rfl) (k := .inl x.1) rfl (.inl (ex _ _ hks)) hv) (ea_cons (ev_var rfl) ea_nil)) (spE_V (a, d, row, g.regs, x.2) (fun _ e3 => ⟨rfl, hA.le (Le.ex (ex.trans e3)), hfn.1, hfn.2, .inl (e3 _ _ hd), hW _ rfl⟩) fun v _ p => p)
      · have hn : g.fin x.1 = none := by simpa using hb
        rw [hn]
        exact ev_c
end
def sp_law_made (C : Addr) : Sp := spE (fun (x : Addr × Pg) vs H => vs = [.ref x.1] ∧ Told H x.2 x.1 ∧ DrOk sg4 x.2) (fun x v H => ∃ p, v = .ref p ∧ PgAt C H p x.2.td.pg)
theorem ok_law_made {P : Program} {w : World} {K : PySem.W.Frag} {mg : Str → Option Value} {base : Heap} {C : Addr} {f : Addr} {fd : FuncData} (F : Fun K "_law_made" "_law_made" s_law_made f fd) (G_Program__init : HasC P w K mg base "Program" C 8 psPut (sp_Program_init C)) : FnOk P w K mg base CX0 10 f fd ["program"] (sp_law_made C) := by
  refine F.ok sc_law_made (fun vs H Q E h => ?_) (fun cdv A outer s H vs Q E hr h => ?_)
  · obtain ⟨i, ⟨rfl, _⟩, _⟩ := h
    rfl
  · obtain ⟨⟨tp, g⟩, ⟨rfl, ⟨ra, fa, sa, ea, ht, PD⟩, D⟩, k⟩ := h
    dsimp only at PD D ht
    have k : ∀ v H', Ex H H' → (∃ p, v = .ref p ∧ PgAt C H' p g.td.pg) → Q v H' := k
    refine ⟨_, (pss_cons (ps_asg (pv 0) (pg_tup rfl (pgs_cons (pg_name (i := 1) sc_law_made.nd rfl (Or.inl rfl)) (pgs_cons (pg_name (i := 2) sc_law_made.nd rfl (Or.inl rfl)) (pgs_cons (pg_name (i := 3) sc_law_made.nd rfl (Or.inl rfl)) (pgs_cons (pg_name (i := 4) sc_law_made.nd rfl (Or.inl rfl)) (pgs_cons (pg_name (i := 5) sc_law_made.nd rfl (Or.inl rfl)) (pgs_cons (pg_name (i := 6) sc_law_made.nd rfl (Or.inl rfl)) pgs_nil)))))))) 
    (pss_one (ps_ret (pe_mk G_Program__init (hr.mono (by decide)) (pa_cons (pv 1) (pa_cons (pv 2) (pa_cons (pv 3) (pa_cons (pv 4) (pa_cons (pv 5) (pa_cons (pv 6) pa_nil)))))))))), ?_⟩
    refine q_unpack6 (ev_var rfl) ht fun H1 e1 => ?_
    refine s_retP (Pv := fun v H' => ∃ p, v = .ref p ∧ PgAt C H' p g.td.pg) (make_P (C := C) (sp := sp_Program_init C) (E := E0) (Po := fun p H' => PgAt C H' p g.td.pg) (Pa := fun vs _ => vs = [.str g.L, .int g.n, .ref ra, .ref fa, .ref sa, .ref ea])
      (fun H2 e Q q => (ea_cons (ev_var rfl) (ea_cons (ev_var rfl) (ea_cons (ev_var rfl) (ea_cons (ev_var rfl) (ea_cons (ev_var rfl) (ea_cons (ev_var rfl) ea_nil)))))) H2 e _ fun H3 e3 => q _ H3 e3 rfl) ?_) fun v H2 e ⟨p, ev, hp⟩ => ?_
    · intro vs H2 x dx e ev hx hdx ne Q q
      subst ev
      have xx : Ex H2 (upd (upd H2 dx (.own x)) x (.ins C dx [])) := fun a o h => by rw [upd_ne (ne_of_none h hx), upd_ne (ne_of_none h hdx)]; exact h
      obtain ⟨A1, A2⟩ := told_ok D (PD.ex (e1.trans e))
      exact ⟨g.td, x, ra, fa, sa, ea, dx, H2, rfl, hx, xx, upd_same, A1, A2, fun H' e' A' _ => q H' e' A'⟩
    · exact k v H2 (e1.trans e) ⟨p, ev, hp⟩
end KX
end
section
set_option Elab.async false
set_option linter.all false
set_option maxRecDepth 100000
set_option maxHeartbeats 8000000
/-! Lw2: a drawn program is plain, and its texts stay short. -/
namespace KX
open PySem PySem.Spec PyProof.Rows L2 Evl

theorem regsOf_rgs : ∀ row : List Itm, regsOf row = rgs row
  | [] => rfl
  | .t _ :: r => by
    show regsOf r = rgs r
    exact regsOf_rgs r
  | .r m :: r => by
    show m :: regsOf r = m :: rgs r
    rw [regsOf_rgs r]
theorem flat_tg {f : Str → List Str} {tg : Str → Str} : ∀ {l : List Str}, l.Nodup → (∀ n ∈ l, (f n).Nodup ∧ ∀ m ∈ f n, tg m = n) → (l.flatMap f).Nodup
  | [], _, _ => List.nodup_nil
  | a :: l, hn, h => by
    have hn := List.nodup_cons.mp hn
    rw [List.flatMap_cons]
    refine List.nodup_append.mpr ⟨(h a List.mem_cons_self).1, flat_tg hn.2 fun n hm => h n (List.mem_cons_of_mem _ hm), fun x hx y hy z => ?_⟩
    subst z
    obtain ⟨n, hnl, hxn⟩ := List.mem_flatMap.mp hy
    have e1 := (h a List.mem_cons_self).2 x hx
    have e2 := (h n (List.mem_cons_of_mem _ hnl)).2 x hxn
    exact hn.1 (by rw [← e1, e2]; exact hnl)
theorem smF_each {f : Str → Nat} {k : Nat} : ∀ {l : List Str}, (∀ n ∈ l, f n ≤ k) → smF f l ≤ k * l.length
  | [], _ => Nat.zero_le _
  | a :: l, h => by
    have := smF_each (l := l) fun n hn => h n (List.mem_cons_of_mem _ hn)
    have := h a List.mem_cons_self
    have e : smF f (a :: l) = f a + smF f l := by unfold smF; simp
    rw [e, List.length_cons, Nat.mul_succ]
    omega
theorem thin_td {g : Pg} (D : DrOk sg4 g) : Thin g.td.pg 12 := by
  obtain ⟨hN, h2, hW⟩ := regs_ok D
  have hp := srtS_perm g.regs
  have hn := D.n
  have hl := hp.1.length_eq
  have sl : ∀ {s c}, SL (lts g.L) g.n s c → SL g.L g.n s c := fun h => ⟨h.1, h.2.1, lts_mem.mp h.2.2⟩
  have row_ok : ∀ {row : List Itm}, RowOkD g.regs sg4 (g.regs.length + 1) row → rowLen (nrm row) ≤ 6 ∧ (nrm row).length ≤ 7 ∧ ∀ m ∈ regsOf (nrm row), m ∈ g.td.pg.regs := fun {row} h => by
    have h1 := rowLen_le h
    have h3 := h.1
    have h4 := nrm_len row
    refine ⟨by rw [rowLen_nrm]; omega, by omega, fun m hm => ?_⟩
    rw [regsOf_nrm] at hm
    exact hp.1.mem_iff.mpr (h.2 _ (regsOf_mem.mp hm))
  refine ⟨by show 1 ≤ g.n; omega, hp.1.nodup_iff.mpr hN, fun s c h => D.go s c (sl h), fun s c h => ⟨⟨?_, fun n hn => (row_ok (D.ro s c (sl h) n (hp.1.mem_iff.mp hn))).2.2⟩, ?_⟩, fun s row h => ?_, by show (srtS g.regs).length ≤ 4; omega, by decide, fun s c h n hn => ?_, fun s row h => ?_⟩
  · obtain ⟨tg, hL⟩ := D.li s c (sl h)
    refine flat_tg (tg := tg) (hp.1.nodup_iff.mpr hN) fun n hn => ?_
    have := hL n (hp.1.mem_iff.mp hn)
    show (regsOf (nrm (g.row s c n))).Nodup ∧ ∀ m ∈ regsOf (nrm (g.row s c n)), tg m = n
    rw [regsOf_nrm, regsOf_rgs]
    exact this
  · have := smF_each (f := fun n => rowLen (nrm (g.row s c n))) (k := 6) (l := srtS g.regs) fun n hn => (row_ok (D.ro s c (sl h) n (hp.1.mem_iff.mp hn))).1
    show smF (fun n => rowLen (nrm (g.row s c n))) (srtS g.regs) ≤ 12
    omega
  · have h : (g.fin s).map nrm = some row := h
    obtain ⟨row0, h0, rfl⟩ := Option.map_eq_some_iff.mp h
    obtain ⟨h3, h4⟩ := (D.fi s row0 h0).2.2
    have := row_ok h3
    refine ⟨?_, this.2.2, by omega⟩
    rw [regsOf_nrm, regsOf_rgs]
    exact h4
  · have := (row_ok (D.ro s c (sl h) n (hp.1.mem_iff.mp hn))).2.1
    show (nrm (g.row s c n)).length ≤ 20
    omega
  · have h : (g.fin s).map nrm = some row := h
    obtain ⟨row0, h0, rfl⟩ := Option.map_eq_some_iff.mp h
    have := (row_ok (D.fi s row0 h0).2.2.1).2.1
    omega
theorem fst_td {g : Pg} (D : DrOk sg4 g) : hsum g.td.pg.regs g.td.pg.fst ≤ 2 := by
  obtain ⟨hN, h2, hW⟩ := regs_ok D
  have hp := srtS_perm g.regs
  have hl := hp.1.length_eq
  have := smF_each (f := fun n => (g.fst n).length) (k := 1) (l := srtS g.regs) fun n hn => by
    rcases D.f n (hp.1.mem_iff.mp hn) with h | h <;> rw [h] <;> decide +kernel
  show smF (fun n => (g.fst n).length) (srtS g.regs) ≤ 2
  omega
theorem short_td {g : Pg} (D : DrOk sg4 g) {w : List Nat} (hw : ∀ c ∈ w, c ∈ cds g.L) : ∀ s, wrG g w = some s → s.length ≤ 14 + 12 * w.length := fun s h => by
  have T := thin_td D
  have hw' : ∀ c ∈ w, c ∈ cds g.td.pg.L := fun c hc => lts_mem.mpr (hw c hc)
  rw [← wrG_td] at h
  obtain ⟨row, hr, rfl⟩ := Option.map_eq_some_iff.mp h
  obtain ⟨f1, f2, f3⟩ := T.fi _ row hr
  have h1 := hsum_runG T hw'
  have h2 := fst_td D
  have h3 := smF_sub (f := fun n => ((runG g.td.pg w).2 n).length) f1 f2
  have e : hsum g.td.pg.regs (runG g.td.pg w).2 = smF (fun n => ((runG g.td.pg w).2 n).length) g.td.pg.regs := rfl
  rw [wr_lens]
  omega
theorem fit_told {g : Pg} (D : DrOk sg4 g) {w : List Nat} (hw : ∀ c ∈ w, c ∈ cds g.L) (h1000 : w.length ≤ 1000) : Fit g w := fun i hi n hn => by
  have T := thin_td D
  have hp := srtS_perm g.regs
  have h1 := hsum_runG T (w := w.take i) fun c hc => lts_mem.mpr (hw c (List.mem_of_mem_take hc))
  have h2 := fst_td D
  have h3 := le_hsum (regs := g.td.pg.regs) (h := (runG g.td.pg (w.take i)).2) (hp.1.mem_iff.mpr hn)
  rw [runG_td] at h1 h3
  have h4 : (w.take i).length ≤ 1000 := by rw [List.length_take]; omega
  unfold big
  omega
end KX
end
section
set_option Elab.async false
set_option linter.all false
set_option maxRecDepth 100000
set_option maxHeartbeats 8000000
/-! Lw3: a word that is drawn; a text so many times. -/
namespace KX
open PySem PySem.Spec PyProof.Rows L2 Evl
/-- the list of draws is from here on one of some number -/
def tHide (t : TS) : TS := fun D σ H => ∃ d a, ∃ n : Nat, H d = some (.lst [.ref a, .int 0, .int n]) ∧ t D σ (upd H d (drawn d a))
theorem pss_hide {X : Cx} {rest : List Stmt} {t : TS} (h : PSs X rest t) : PSs X rest (tHide t) := by
  constructor
  intro pins s σ H D I q
  obtain ⟨d, a, n, hd, q⟩ := q
  have x := I.hok d _ hd
  obtain ⟨_, its, c, _, g⟩ := id x
  exact h.run pins s σ _ D (I.write (t' := s.toks) (e := d) (by rw [hd]; trivial) (.inl rfl) (fun _ _ _ z => z) ⟨_, g⟩ (drawn_ok (n := n) x)) q
/-- a def whose code object is at c -/
structure FunC (K : PySem.W.Frag) (x qual : Str) (st : Stmt) (f : Addr) (fd : FuncData) (c : Addr) : Prop where
  ex : ∃ (oc : Value) (od : Option Addr) (dV kV doc pm : Value) (an : Option Addr) (ct : Value) (osl : Array (Option Value)), fd = PySem.W.fnOf x qual (defArgs st) (defBody st) (defScope st) dV kV doc pm an (.ref c) ct ∧ K.lookup f = some ⟨oc, od, .func fd, osl⟩ ∧ PySem.W.codeIn K (.ref c) qual = true
theorem FunC.okX {P : Program} {w : World} {K : PySem.W.Frag} {mg : Str → Option Value} {base : Heap} {x qual : Str} {st : Stmt} {f c : Addr} {fd : FuncData} {N ps : List Str} {k : Nat} {sp : Sp} (F : FunC K x qual st f fd c) (S : FnScope N ps (defScope st)) (len : ∀ vs H Q E, sp vs H Q E → vs.length = ps.length)
    (hbody : ∀ (A : Around) (outer : List Env) (s : Shared) (H : Hp) (vs : List V) (Q : VK) (E : XK), Room k (A.deeper (envOfC qual (defScope st) s.heap.objs.size f (.ref c))) → sp vs H Q E →
      ∃ t, PSs (cxOf (L2.CX P w) P w K mg base N qual (defScope st) f (.ref c) A outer s H E) (defBody st) t ∧ t { nx := fun _ H' => Q .non H', rt := Q } (start N vs) H) : FnOk P w K mg base (L2.CX P w) (k + 1) f fd ps sp := by
  obtain ⟨oc, od, dV, kV, doc, pm, an, ct, osl, rfl, lk, hcd⟩ := F.ex
  exact fn_of lk hcd S len fun A outer s H vs Q E hr hsp => hbody A outer s H vs Q E hr hsp
/-- range(n), n known -/
def iCon (n : Nat) : TI := fun _ H R => R (Itr 0 n) H
section
variable {K : PySem.W.Frag} {σ : L2.St} {H : Hp}
theorem src_con (n : Nat) : Src (iCon n) σ H n (fun i x _ => x = .int (i : Int)) := fun H1 e R r =>
  r _ (fun _ => True) H1 (Ex.refl H1) trivial (fun _ _ _ _ => trivial) (fun _ _ _ _ _ _ _ _ => trivial) ⟨fun _ _ hi _ => hi, fun _ _ => Nat.le_refl _, fun i H x H' _ _ y => ⟨y.1, by rw [y.2, Int.zero_add]⟩⟩
theorem new_lcR {ta : TA} {te : TE} {ws : List Nat} {j m : Nat} {N : HO → Hp → Prop} (h : EvPA ta σ H (fun vs _ => ∃ r : Int, vs = [.int r] ∧ 0 ≤ r ∧ r < (m : Int))) (hm : m ≤ 1000) (k : ∀ n : Nat, n < m → New (tLc (iCon n) (gName j) tYes te ws) σ H N) : New (tLc (iRng1 ta) (gName j) tYes te ws) σ H N := fun H1 e Q q => by
  refine h H1 e _ fun vs H2 e2 ⟨r, ev, h0, h1⟩ => ⟨r, ev, by omega, by omega, ?_⟩
  exact k r.toNat (by omega) H2 (e.trans e2) Q fun p o H3 a b c d => q p o H3 (by
    cases z : H1 p with
    | none => rfl
    | some y =>
      rw [e2 _ _ z] at a
      cases a) (e2.trans b) c d
theorem cat_sg {L : Str} : ∀ {xs : List V}, (∀ x ∈ xs, ∃ c, c ∈ cds L ∧ x = .str ⟨#[c]⟩) → ∃ ys : List Str, xs = ys.map V.str ∧ (cat ys).length = xs.length ∧ ∀ c ∈ cds (cat ys), c ∈ cds L
  | [], _ => ⟨[], rfl, by rw [len_cat]; rfl, fun c hc => by
    rw [cds_cat] at hc
    cases hc⟩
  | x :: xs, h => by
    obtain ⟨ys, e1, e2, e3⟩ := cat_sg (L := L) (xs := xs) fun y hy => h y (List.mem_cons_of_mem _ hy)
    obtain ⟨c, hc, rfl⟩ := h x List.mem_cons_self
    refine ⟨⟨#[c]⟩ :: ys, by rw [e1]; rfl, ?_, fun d hd => ?_⟩
    · rw [len_cat] at e2 ⊢
      rw [List.map_cons, List.sum_cons, List.length_cons, e2]
      show 1 + _ = _
      omega
    · rw [cds_cat, List.map_cons, List.flatten_cons] at hd
      rcases List.mem_append.mp hd with z | z
      · rw [List.mem_singleton.mp z]
        exact hc
      · exact e3 d (by rw [cds_cat]; exact z)
theorem ep_joinN {te : TE} {L : Str} {m : Nat} (h : New te σ H (fun o _ => ∃ xs, o = .lst xs ∧ xs.length ≤ m ∧ ∀ x ∈ xs, ∃ c, c ∈ cds L ∧ x = .str ⟨#[c]⟩)) (hm : m ≤ 1000) : EvP (tM1 (rJoin K) (tC (.str "")) te) σ H (fun v _ => ∃ u : Str, v = .str u ∧ u.length ≤ m ∧ ∀ c ∈ cds u, c ∈ cds L) := fun H1 e Q q =>
  ⟨⟨"", rfl⟩, h H1 e _ fun p o H2 _ e2 h2 ⟨xs, eo, hx, hc⟩ => by
    obtain ⟨ys, e1, e3, e4⟩ := cat_sg hc
    refine ⟨"", p, ys, rfl, rfl, .inl (by rw [← e1]; exact sq_of (by rw [h2, eo])), ?_, q _ H2 e2 ⟨cat ys, rfl, by omega, e4⟩⟩
    have l := e3
    rw [len_cat] at l
    show (ys.map (·.length)).sum + ys.length * 0 ≤ 16777216
    omega⟩
end

/-! ### a text so many times -/
def repS (z : Str) (n : Nat) : Str := ⟨(pw (cds z) n).toArray⟩
theorem cds_repS (z : Str) (n : Nat) : cds (repS z n) = pw (cds z) n := rfl
theorem foldl_cat : ∀ (l : List (Array Nat)) (a : Array Nat), (l.foldl (· ++ ·) a).toList = a.toList ++ (l.map Array.toList).flatten
  | [], a => by simp
  | x :: r, a => by
    rw [List.foldl_cons, foldl_cat r (a ++ x)]
    simp
def rRepS : R2 := fun x y H Q => ∃ (z : Str) (n : Nat), x = .str z ∧ y = .int (n : Int) ∧ n ≤ 100000 ∧ z.length * n ≤ 100000 ∧ Q (.str (repS z n)) H
theorem op_repS {X : Cx} : OpR X (binaryOp .Mult) rRepS := by
  intro pins s σ H x y v u Q I rx ry h
  obtain ⟨z, n, rfl, rfl, hn, hz, q⟩ := h
  obtain ⟨t, rfl⟩ := rx
  obtain ⟨t', rfl⟩ := ry
  have hone : ¬ (n : Int) < 1 → z.length ≤ 100000 := fun h => by
    have : z.length * 1 ≤ z.length * n := Nat.mul_le_mul_left _ (by omega)
    omega
  refine P.mul_str ?_ ?_ ?_ ?_
  · rw [decide_eq_false (by omega), decide_eq_false (by omega)]
    rfl
  · intro h1 _ h3
    have : (z.length : Int) ≤ (2 ^ 63 - 1) / (n : Int) := Int.le_ediv_of_mul_le (by omega) (by
      have e : (z.length : Int) * (n : Int) = ((z.length * n : Nat) : Int) := (Int.natCast_mul _ _).symm
      rw [e]
      omega)
    omega
  · intro h1 _
    rw [Int.toNat_natCast]
    exact PyProof.Rows.short24 (by omega)
  · by_cases h1 : (n : Int) < 1
    · rw [if_pos h1]
      obtain rfl : n = 0 := by omega
      exact ⟨by decide, .str (repS z 0), H, I.tok _, ⟨_, rfl⟩, q⟩
    · rw [if_neg h1]
      by_cases h2 : ((n : Int) == 1 || z.length == 0) = true
      · rw [if_pos h2]
        have e : repS z n = z := cds_inj (by
          rw [cds_repS]
          rw [Bool.or_eq_true] at h2
          rcases h2 with h2 | h2
          · have : n = 1 := by
              have := eq_of_beq h2
              omega
            rw [this, pw_one]
          · have h3 : z.length = 0 := eq_of_beq h2
            rw [len_cds] at h3
            rw [List.eq_nil_of_length_eq_zero h3]
            unfold pw
            simp)
        rw [e] at q
        exact ⟨.str z, H, I, ⟨_, rfl⟩, q⟩
      · rw [if_neg h2]
        have e : (⟨(List.replicate (n : Int).toNat z.cps).foldl (· ++ ·) #[]⟩ : Str) = repS z n := cds_inj (by
          rw [cds_repS, Int.toNat_natCast]
          show ((List.replicate n z.cps).foldl (· ++ ·) #[]).toList = _
          rw [foldl_cat, List.map_replicate]
          rfl)
        rw [e]
        refine ⟨?_, .str (repS z n), H, I.tok _, ⟨_, rfl⟩, q⟩
        rw [len_cds, cds_repS, pw_len, ← len_cds, Nat.mul_comm]
        exact Nat.le_trans hz (by decide)
def sp_law_word (K : PySem.W.Frag) : Sp := spE (fun (x : Addr × Str × Nat) vs H => vs = [.ref x.1, .str x.2.1, .int (x.2.2 : Int)] ∧ DrAt K H x.1 ∧ cds x.2.1 ≠ [] ∧ x.2.1.length ≤ 100 ∧ 0 < x.2.2 ∧ x.2.2 ≤ 100) (fun x v _ => ∃ u : Str, v = .str u ∧ u.length < x.2.2 ∧ ∀ c ∈ cds u, c ∈ cds x.2.1)
section
variable {P : Program} {w : World} {K : PySem.W.Frag} {mg : Str → Option Value} {base : Heap} {C CP CW CR : Addr} {f : Addr} {fd : FuncData}
theorem ok_law_word (F : Fun K "_law_word" "_law_word" s_law_word f fd) (Z : Zs mg C) (G_law_next : Has P w K mg base "_law_next" 3 ["draw", "bound"] (sp_law_next K)) (G_law_pick : Has P w K mg base "_law_pick" 4 ["draw", "things"] (sp_law_pick K)) : FnOk P w K mg base CX0 5 f fd ["draw", "letters", "most"] (sp_law_word K) := by
  refine F.ok sc_law_word (fun vs H Q E h => ?_) (fun cdv A outer s H vs Q E hr h => ?_)
  · obtain ⟨i, ⟨rfl, _⟩, _⟩ := h
    rfl
  · obtain ⟨⟨d, L, m⟩, ⟨rfl, hd, hL, hl, m0, m1⟩, k⟩ := h
    dsimp only at hd hL hl m0 m1
    have k : ∀ v H', Ex H H' → (∃ u : Str, v = .str u ∧ u.length < m ∧ ∀ c ∈ cds u, c ∈ cds L) → Q v H' := k
    refine ⟨_, (pss_one (ps_ret (pe_join pe_str (pe_lc (own := [(("turn" : Str), 3)]) (g := gName 3) rfl sc_law_word.nd (pi_range1 rfl Z.z_range (pa_cons (pe_use G_law_next (hr.mono (by decide)) (pa_cons (pv 0) (pa_cons (pv 2) pa_nil))) pa_nil)) (blkOk_by (own := [(("turn" : Str), 3)]) (N := n_law_word) (sc := defScope s_law_word) (by decide +kernel)) (fun _ _ _ _ _ => (pg_name (i := 3) sc_law_word.nd rfl (Or.inl rfl))) (fun _ _ _ _ _ => pts_nil) (fun _ _ _ _ _ => (pe_use G_law_pick (hr.mono (by decide)) (pa_cons (pv 0) (pa_cons (pe_callTy (cListT rfl) (by rfl) Z.z_list (by decide +kernel) (pa_cons (pv 1) pa_nil)) pa_nil)))))))), ?_⟩
    have hw : ∀ x : V, wipe ((wipe [some (V.ref d), some (.str L), some (.int (m : Int)), none] [3]).set 3 (some x)) [3] = wipe [some (V.ref d), some (.str L), some (.int (m : Int)), none] [3] := fun x => rfl
    refine s_retP (Pv := fun v _ => ∃ u : Str, v = .str u ∧ u.length ≤ m - 1 ∧ ∀ c ∈ cds u, c ∈ cds L) (ep_joinN (K := K) (new_lcR (m := m) (fun H1 e Q q => (ep_next (b := (m : Int)) (ev_var rfl) (ev_var rfl) hd (by omega)) H1 e _ fun v H2 e2 ⟨r, ev, h0, h4⟩ => q _ H2 e2 ⟨r, by rw [ev], h0, h4⟩) (by omega) fun n hn => ?_) (by omega)) fun v H2 e2 ⟨u, a1, a2, a3⟩ => k v H2 e2 ⟨u, a1, by omega, a3⟩
    refine (new_lc (src_con n) (by omega) hw (fun i x _ => ∃ c, c ∈ cds L ∧ x = .str ⟨#[c]⟩) (fun _ _ => stab_pure) fun i x H' e hi hx => ?_).imp fun o H2 _ ⟨xs, e1, e2, e3⟩ => ⟨xs, e1, by omega, fun y hy => ?_⟩
    · refine (ep_pick (K := K) (xs := (cds L).map fun c => V.str ⟨#[c]⟩) (ev_var rfl) (fun H3 e3 Q q => ?_) (hd.ex e) (fun z => hL (List.map_eq_nil_iff.mp z))).imp fun v H2 _ hv => ?_
      · refine ⟨_, rfl, L, rfl, Nat.le_trans hl (by decide), fun p hp => q (.ref p) _ (Ex.new hp) ⟨p, rfl, sq_of upd_same⟩⟩
      · obtain ⟨c, hc, rfl⟩ := List.mem_map.mp hv
        exact ⟨c, hc, rfl⟩
    · obtain ⟨i, hi⟩ := List.mem_iff_getElem?.mp hy
      exact e3 i y hi
end
end KX
end
section
set_option Elab.async false
set_option linter.all false
set_option maxRecDepth 100000
set_option maxHeartbeats 8000000
/-! Lw4: whether what is written is as told. -/
namespace KX
open PySem PySem.Spec PyProof.Rows L2 Evl

theorem drop_one {l : List Nat} {i c : Nat} (h : l[i]? = some c) : (l.drop i).take 1 = [c] := by
  obtain ⟨hl, e⟩ := List.getElem?_eq_some_iff.mp h
  rw [List.drop_eq_getElem_cons hl, e]
  rfl
theorem rgC3 (n : Nat) (hn : n ≤ 100000) : RgC 0 (n : Int) 3 ((n + 2) / 3) := by
  refine ⟨by decide, by decide, ?_, ?_⟩
  · unfold Builtin.Range.small
    rw [PyProof.Rows.rangeSize_pos (by decide) (by omega)]
    have fits : ∀ i : Int, -1000 ≤ i → i ≤ 1000000 → Builtin.Range.rangeFitsLong i = true := fun i h1 h2 => by
      unfold Builtin.Range.rangeFitsLong
      rw [Bool.and_eq_true]
      exact ⟨decide_eq_true (by omega), decide_eq_true (by omega)⟩
    rw [fits 0 (by omega) (by omega), fits (n : Int) (by omega) (by omega), fits 3 (by omega) (by omega), fits (((n : Int) + 3 - 1) / 3) (by omega) (by omega), if_pos (by decide), fits ((n : Int) + (3 - 1)) (by omega) (by omega), Bool.or_true]
    rfl
  · rw [PyProof.Rows.rangeSize_pos (by decide) (by omega)]
    omega
section
variable {K : PySem.W.Frag} {σ : L2.St} {H : Hp} {ta tb tc : TE} {tz tt : TS} {D : Ends} {g : TG}
/-- for .. in range(0, n, 3) -/
theorem q_forR3 {tv : TA} {n : Nat} (h : EvA tv σ H [.int 0, .int (n : Int), .int 3]) (hn : n ≤ 100000) (Pv : Nat → L2.St → Hp → Prop) (h0 : ∀ H1, Ex H H1 → Pv 0 σ H1)
    (hs : ∀ i σ' H', 3 * i < n → Pv i σ' H' → g (.int ((3 * i : Nat) : Int)) σ' H' fun σ2 H2 => tt { D with nx := Pv (i + 1), ct := Pv (i + 1), bk := tz D } σ2 H2) (hd : ∀ σ' H' m, Pv m σ' H' → tz D σ' H') : tSeq (tFor (iRng3 tv) g tt) tz D σ H :=
  h H (Ex.refl H) _ fun H1 e => ⟨0, (n : Int), 3, (n + 2) / 3, rfl, rgC3 n hn, for_it (D := { D with nx := tz D }) (walk_rangeC (lo := 0) (c := 3) (n := (n + 2) / 3)) Pv (h0 H1 e) (fun _ _ _ _ _ => trivial) (fun i x σ' H' H'' hi p y => by
    obtain ⟨rfl, rfl⟩ := y
    have := hs i σ' _ (by omega) p
    show g (V.int (0 + (i : Int) * 3)) σ' _ _
    rw [show (0 + (i : Int) * 3) = ((3 * i : Nat) : Int) by omega]
    exact this) (fun σ' H' p => hd σ' H' _ p)⟩
theorem ev_min2 {a b : Nat} (ha : Ev ta σ H (.int (a : Int))) (hb : Ev tb σ H (.int (b : Int))) : Ev (tCB (rMin K) (tCons (tLst (tCons ta (tCons tb tNil))) tNil)) σ H (.int ((min a b : Nat) : Int)) := fun H1 e Q q =>
  (el_lst (ea_cons ha (ea_cons hb ea_nil)) (by show 2 ≤ 100000; decide) : EvL (tLst (tCons ta (tCons tb tNil))) σ H _) H1 e (fun v H2 => rMin K [v] H2 Q) fun p H2 hp e2 h2 => ⟨p, [(a : Int), (b : Int)], rfl, sq_of h2, by show 0 < 2; decide, fun m hm hle => by
    have h1 := hle (a : Int) (by simp)
    have h2 := hle (b : Int) (by simp)
    have : m = ((min a b : Nat) : Int) := by
      simp only [List.mem_cons, List.not_mem_nil, or_false] at hm
      rcases hm with rfl | rfl <;> omega
    rw [this]
    exact q H2 e2⟩
end
theorem str_of_cds {a b : Str} (h : cds a = cds b) : a = b := cds_inj h
def sp_law_is_as (CW : Addr) : Sp := spE (fun (x : V × Option Str) vs H => vs = [x.1, vO x.2] ∧ WfPost CW x.2 x.1 H ∧ ∀ t, x.2 = some t → t.length ≤ 1000) (fun _ v _ => v = .bl true)
section
variable {P : Program} {w : World} {K : PySem.W.Frag} {mg : Str → Option Value} {base : Heap} {C CP CW CR : Addr} {f : Addr} {fd : FuncData}
theorem ok_law_is_as (F : Fun K "_law_is_as" "_law_is_as" s_law_is_as f fd) (Z : Zs mg C) {f_sz : Addr} {fd_sz : FuncData} (G_Written_size : HasM P w K mg base CW "size" 1 f_sz fd_sz ["self"] (sp_Written_size CW)) {f_pt : Addr} {fd_pt : FuncData} (G_Written_part : HasM P w K mg base CW "part" 2 f_pt fd_pt ["self", "first", "last"] (sp_Written_part CW))
    {f_sg : Addr} {fd_sg : FuncData} (G_Written_sign : HasM P w K mg base CW "sign" 3 f_sg fd_sg ["self", "place"] (sp_Written_sign CW)) : FnOk P w K mg base CX0 4 f fd ["found", "text"] (sp_law_is_as CW) := by
  refine F.ok sc_law_is_as (fun vs H Q E h => ?_) (fun cdv A outer s H vs Q E hr h => ?_)
  · obtain ⟨i, ⟨rfl, _⟩, _⟩ := h
    rfl
  · obtain ⟨⟨v0, o⟩, ⟨rfl, hW, h1000⟩, k⟩ := h
    dsimp only at hW h1000
    have k : ∀ v H', Ex H H' → v = .bl true → Q v H' := k
    refine ⟨_, (pss_cons (ps_if (PW.pt (pw_or (pt_cmpR op_isN (pv 0) pe_non (nomark _)) (pw_or1 (pt_cmpR op_isN (pv 1) pe_non (nomark _))))) 
     (pss_one (ps_ret (pe_and (pe_cmpR op_isN (pv 0) pe_non (nomark _)) (pe_one (pe_cmpR op_isN (pv 1) pe_non (nomark _)))))) pss_nil) 
    (pss_cons (ps_if (PW.pt (pw_or (pt_cmpR op_ne (pe_meth0 (pv 0) G_Written_size.cl G_Written_size.me G_Written_size.ok (hr.mono (by decide)) G_Written_size.b .nil pass0) (pe_callB call_len_str (by rfl) Z.z_len PySem.boot_len (pa_cons (pv 1) pa_nil)) (nomark _)) (pw_or1 (pt_cmpR op_ne (pe_meth (pv 0) G_Written_part.cl G_Written_part.me G_Written_part.ok (hr.mono (by decide)) G_Written_part.b .nil pass0 (pa_cons pe_int (pa_cons (pe_callB call_len_str (by rfl) Z.z_len PySem.boot_len (pa_cons (pv 1) pa_nil)) pa_nil))) (pv 1) (nomark _))))) 
     (pss_one (ps_ret pe_bl)) pss_nil) 
    (pss_cons (ps_for PassesOwn.never rfl (pi_range3 rfl Z.z_range (pa_cons pe_int (pa_cons (pe_callB call_len_str (by rfl) Z.z_len PySem.boot_len (pa_cons (pv 1) pa_nil)) (pa_cons pe_int pa_nil)))) (pg_name (i := 2) sc_law_is_as.nd rfl (Or.inl rfl)) 
     (pss_one (ps_if (PW.pt (pw_or (pt_cmpR op_ne (pe_meth (pv 0) G_Written_sign.cl G_Written_sign.me G_Written_sign.ok (hr.mono (by decide)) G_Written_sign.b .nil pass0 (pa_cons (pv 2) pa_nil)) (pe_ix ix_str (pv 1) (pv 2) (fun _ _ => rfl)) (nomark _)) (pw_or1 (pt_cmpR op_ne (pe_meth (pv 0) G_Written_part.cl G_Written_part.me G_Written_part.ok (hr.mono (by decide)) G_Written_part.b .nil pass0 (pa_cons (pv 2) (pa_cons (pe_callB (cr_min rfl) (by rfl) Z.z_min (by decide +kernel) (pa_cons (pe_lst (pa_cons (pe_op op_add (pv 2) pe_int) (pa_cons (pe_callB call_len_str (by rfl) Z.z_len PySem.boot_len (pa_cons (pv 1) pa_nil)) pa_nil))) pa_nil)) pa_nil))) (pe_slice sl_str (pv 1) (po_some (pv 2)) (po_some (pe_op op_add (pv 2) pe_int))) (nomark _))))) 
      (pss_one (ps_ret pe_bl)) pss_nil))) 
    (pss_one (ps_ret pe_bl))))), ?_⟩
    cases o with
    | none =>
      obtain rfl : v0 = .non := hW
      refine q_when (b := true || false) (et_or (a := true) (et_test (ev_is (ev_op (ev_var rfl) ev_c rv_isN) (by rfl))) (fun z => by cases z)) (fun _ H1 e1 => ?_) (fun z => by cases z)
      refine s_ret (v := .bl (true && true)) (ev_andV (a := true) (b := true) (ev_is (ev_op (ev_var (v := .non) rfl) ev_c rv_isN) (by rfl)) (fun _ => ev_is (ev_op (ev_var (v := .non) rfl) ev_c rv_isN) (by rfl))) fun H2 e2 => k _ H2 (e1.trans e2) rfl
    | some t =>
      obtain ⟨y, ps, vals, n, rfl, W, hps, hv⟩ := hW
      have ht := h1000 t rfl
      obtain ⟨dx, fs0, tl, sl, xs0, hy, ft, fz, fnum, fo, _⟩ := id W
      have hvl : (vAt vals n).length = t.length := by rw [hv, len_cds]
      show (tSeq _ _) _ [some (.ref y), some (.str t), none] H
      have isN : ∀ {σ : L2.St} {H1 : Hp} {v : V} {i : Nat}, σ[i]? = some (some v) → v ≠ .non → EvT (tTest (tOp (fun x y H Q => y = .non ∧ Q (.bl (decide (x = .non))) H) (tVar i) (tC .non))) σ H1 false := fun h hn => et_test (ev_is (ev_op (ev_var h) ev_c rv_isN) (by rw [decide_eq_false hn]))
      have szP : ∀ {σ : L2.St} {H1 : Hp}, Ex H H1 → σ[0]? = some (some (.ref y)) → Ev (tMeth CW "size" (sp_Written_size CW) [] E0 (tVar 0) tNil) σ H1 (.int (t.length : Int)) := fun {σ H1} e h0 => Ev.of ((ep_meth (ev_var h0) (e _ _ hy) (fo.no (by decide +kernel)) ea_nil (size_P (W.ex e))).imp fun v H2 _ hv2 => by rw [hv2, hvl])
      have ptP : ∀ {σ : L2.St} {H1 : Hp} {ta tb : TE} {f l : Nat} {z : Str}, Ex H H1 → σ[0]? = some (some (.ref y)) → Ev ta σ H1 (.int (f : Int)) → Ev tb σ H1 (.int (l : Int)) → f ≤ l → l ≤ t.length → cds z = ((cds t).drop f).take (l - f) → Ev (tMeth CW "part" (sp_Written_part CW) [] E0 (tVar 0) (tCons ta (tCons tb tNil))) σ H1 (.str z) := fun {σ H1 ta tb f l z} e h0 ha hb hfl hl hz =>
        Ev.of (ep_meth (ev_var h0) (e _ _ hy) (fo.no (by decide +kernel)) (ea_cons ha (ea_cons hb ea_nil)) (spE_P (y, ps, vals, n, f, l) (fun H2 e2 => ⟨rfl, W.ex (e.trans e2), hps, hfl, by rw [hvl]; exact hl, by show l ≤ f + 1000; omega⟩) fun v H2 _ ⟨z2, a1, a2⟩ => by
          rw [a1]
          congr 1
          exact cds_inj (by rw [a2, hz]; show List.take (l - f) (List.drop f (vAt vals n)) = _; rw [hv])))
      have sgP : ∀ {σ : L2.St} {H1 : Hp} {ta : TE} {f : Nat} {z : Str}, Ex H H1 → σ[0]? = some (some (.ref y)) → Ev ta σ H1 (.int (f : Int)) → f < t.length → cds z = ((cds t).drop f).take 1 → Ev (tMeth CW "sign" (sp_Written_sign CW) [] E0 (tVar 0) (tCons ta tNil)) σ H1 (.str z) := fun {σ H1 ta f z} e h0 ha hl hz =>
        Ev.of (ep_meth (ev_var h0) (e _ _ hy) (fo.no (by decide +kernel)) (ea_cons ha ea_nil) (spE_P (y, ps, vals, n, f) (fun H2 e2 => ⟨rfl, W.ex (e.trans e2), hps, by rw [hvl]; exact hl⟩) fun v H2 _ ⟨z2, a1, a2⟩ => by
          rw [a1]
          congr 1
          exact cds_inj (by rw [a2, hz]; show List.take 1 (List.drop f (vAt vals n)) = _; rw [hv])))
      refine q_when (b := false || false) (et_or (isN rfl (fun z => by cases z)) (fun _ => isN rfl (fun z => by cases z))) (fun z => by cases z) fun _ H1 e1 => ?_
      refine q_when (b := false || false) (et_or (et_test (ev_is (ev_op (szP e1 rfl) (ev_lenS (ev_var rfl) (by omega)) (rv_ne rfl)) (by simp))) fun _ => et_test (ev_is (ev_op (ptP (z := t) e1 rfl (ev_c (v := .int ((0 : Nat) : Int))) (ev_lenS (ev_var rfl) (by omega)) (Nat.zero_le _) (Nat.le_refl _) (by rw [List.drop_zero, Nat.sub_zero, len_cds, List.take_length])) (ev_var rfl) (rv_ne rfl)) (by simp))) (fun z => by cases z) fun _ H2 e2 => ?_
      have e12 := e1.trans e2
      refine q_forR3 (n := t.length) (ea_cons ev_c (ea_cons (ev_lenS (ev_var rfl) (by omega)) (ea_cons ev_c ea_nil))) (by omega) (fun i σ' H' => ∃ v2, σ' = [some (.ref y), some (.str t), v2] ∧ Ex H H') (fun H3 e3 => ⟨none, rfl, e12.trans e3⟩) ?_ ?_
      · rintro i σ' H' hi ⟨v2, rfl, ex⟩
        have hci : (cds t)[3 * i]? = some ((cds t)[3 * i]'(by rw [← len_cds]; exact hi)) := List.getElem?_eq_getElem _
        generalize (cds t)[3 * i]'(by rw [← len_cds]; exact hi) = c at hci
        show tIfS _ _ tNext _ [some (.ref y), some (.str t), some (.int ((3 * i : Nat) : Int))] H'
        refine s_when (b := false || false) (et_or (et_test (ev_is (ev_op (sgP (z := ⟨#[c]⟩) ex rfl (ev_var rfl) hi ?_) (ev_op (ev_var rfl) (ev_var rfl) (rv_ixS (by omega) (atI_nat hci))) (rv_ne rfl)) (by simp))) fun _ => et_test (ev_is (ev_op (ptP (f := 3 * i) (l := min (3 * i + 2) t.length) (z := cutS t (some ((3 * i : Nat) : Int)) (some ((3 * i + 2 : Nat) : Int))) ex rfl (ev_var rfl) (ev_min2 (ev_is (ev_op (ev_var rfl) ev_c rv_I0) (by congr 1)) (ev_lenS (ev_var rfl) (by omega))) (by omega) (Nat.min_le_right _ _) ?_) (ev_slS (ev_var rfl) (eo_some (ev_var rfl)) (eo_some (ev_is (ev_op (ev_var rfl) ev_c rv_I0) (by congr 1))) (by omega)) (rv_ne rfl)) (by simp))) (fun z => by cases z) fun _ H4 e4 => ⟨_, rfl, ex.trans e4⟩
        · exact (drop_one hci).symm
        · rw [cds_cutS, List.take_eq_take_iff, List.length_drop, ← len_cds]
          omega
      · rintro σ' H' m ⟨v2, rfl, ex⟩
        exact s_ret (v := .bl true) ev_c fun H3 e3 => k _ H3 (ex.trans e3) rfl
end
end KX
end
section
set_option Elab.async false
set_option linter.all false
set_option maxRecDepth 100000
set_option maxHeartbeats 8000000
/-! Lw4m: what the law asks of the program, and of the law's own run. -/
namespace KX
open PySem PySem.Spec PyProof.Rows L2 Evl

theorem td_n {g : Pg} (D : DrOk sg4 g) : g.td.pg.n ≤ 2 := by
  have : g.td.pg.n = g.n := rfl
  have := D.n
  omega
theorem td_L {g : Pg} {w : List Nat} (hw : ∀ c ∈ w, c ∈ cds g.L) : ∀ c ∈ w, c ∈ cds g.td.pg.L := fun c hc => lts_mem.mpr (hw c hc)
theorem td_r {g : Pg} (D : DrOk sg4 g) : g.td.pg.regs.length ≤ 2 := by
  obtain ⟨hN, h2, hW⟩ := regs_ok D
  have hp := (srtS_perm g.regs).1.length_eq
  show (srtS g.regs).length ≤ 2
  omega
/-- what is written for a, w so many times, and b -/
abbrev Wg (g : Pg) (a w b : Str) (n : Nat) : Option Str := wrG g (cds a ++ pw (cds w) n ++ cds b)
theorem wf_P {C CW pa : Addr} {H : Hp} {g : Pg} {a w b : Str} {n : Nat} (D : DrOk sg4 g) (hP : PgAt C H pa g.td.pg) (ha : ∀ c ∈ cds a, c ∈ cds g.L) (hw : ∀ c ∈ cds w, c ∈ cds g.L) (hb : ∀ c ∈ cds b, c ∈ cds g.L) (la : (cds a).length ≤ 10) (lw : (cds w).length ≤ 10) (lb : (cds b).length ≤ 10) (hn : n ≤ 1000000000000) :
    SpP (sp_written_for C CW) [.ref pa, .str a, .str w, .int (n : Int), .str b] H (fun v H2 => WfPost CW (Wg g a w b n) v H2) :=
  spE_P (pa, a, w, n, b, g.td.pg, 12) (fun H2 e => ⟨rfl, hP.ex e, thin_td D, by have := td_n D; show g.td.pg.n ≤ 8; omega, by have := fst_td D; show hsum g.td.pg.regs g.td.pg.fst ≤ 1000; omega, td_L ha, td_L hw, td_L hb, la, lw, lb, hn⟩) fun v H2 _ p => by
    show WfPost CW (wrG g _) v H2
    rw [← wrG_td]
    exact p
theorem run_V {tp : Addr} {H : Hp} {g : Pg} {z : Str} (D : DrOk sg4 g) (hT : Told H g tp) (hT' : ∀ H2, Ex H H2 → Told H2 g tp) (hz : ∀ c ∈ cds z, c ∈ cds g.L) (hl : (cds z).length ≤ 1000) : SpV sp_law_run [.ref tp, .str z] H (vO (wrG g (cds z))) :=
  spE_V (tp, z, g) (fun H2 e => ⟨rfl, hT' H2 e, goOkD D, hz, fit_told D hz hl, fun s hs => by have := short_td D hz s hs; show s.length ≤ big; unfold big; omega⟩) fun v H2 p => p
theorem cds_cat3 (a b c : Str) : cds (a ++ b ++ c) = cds a ++ cds b ++ cds c := by
  have e : ∀ x y : Str, cds (x ++ y) = cds x ++ cds y := fun x y => Array.toList_append
  rw [e, e]
/-- every fourth -/
theorem Wg_grow {g : Pg} (D : DrOk sg4 g) {a w b : Str} (ha : ∀ c ∈ cds a, c ∈ cds g.L) (hw : ∀ c ∈ cds w, c ∈ cds g.L) (hb : ∀ c ∈ cds b, c ∈ cds g.L) {few : Nat} (hf : 12 ≤ few) :
    (∀ k, Wg g a w b (few + 4 * k) = none) ∨ ∃ (t : Nat → Str) (c G : Nat), (∀ k, Wg g a w b (few + 4 * k) = some (t k)) ∧ (∀ k, (t k).length = c + k * G) ∧ (G = 0 → ∀ k, t k = t 0) := by
  have h := Wn_grow (thin_td D) (td_n D) (td_r D) (td_L ha) (td_L hw) (td_L hb) (few - 8) (by omega)
  have e : ∀ k, Wn g.td.pg (cds a) (cds w) (cds b) (few - 8 + 4 * (k + 2)) = Wg g a w b (few + 4 * k) := fun k => by
    show wrG g.td.pg _ = wrG g _
    rw [wrG_td, show few - 8 + 4 * (k + 2) = few + 4 * k by omega]
  rcases h with h | ⟨c, G, t, h1, h2, h3⟩
  · exact .inl fun k => by rw [← e]; exact h (k + 2)
  · refine .inr ⟨fun k => t (k + 2), c + G, G, fun k => by rw [← e]; exact h1 (k + 2), fun k => ?_, fun z k => h3 z k⟩
    show (t (k + 1 + 1)).length = _
    rw [h2 (k + 1), Nat.succ_mul]
    omega
theorem Told.up {H H' : Hp} {g : Pg} {b : Addr} (e : Ex H H') (h : Told H g b) : Told H' g b := by
  obtain ⟨ra, fa, sa, ea, h1, h2⟩ := h
  exact ⟨ra, fa, sa, ea, e _ _ h1, h2.ex e⟩
/-- the same text by other parts -/
theorem Wg_again (g : Pg) (a w b : Str) (n : Nat) : Wg g (a ++ w) w b n = Wg g a w b (n + 1) := by
  show wrG g (cds (a ++ w) ++ pw (cds w) n ++ cds b) = wrG g (cds a ++ pw (cds w) (n + 1) ++ cds b)
  have e : cds (a ++ w) = cds a ++ cds w := Array.toList_append
  rw [e, pw_succ]
  simp only [List.append_assoc]
theorem Wg_late (g : Pg) (a w b : Str) (n : Nat) : Wg g a w (w ++ b) n = Wg g a w b (n + 1) := by
  show wrG g (cds a ++ pw (cds w) n ++ cds (w ++ b)) = wrG g (cds a ++ pw (cds w) (n + 1) ++ cds b)
  have e : cds (w ++ b) = cds w ++ cds b := Array.toList_append
  rw [e, pw_snoc]
  simp only [List.append_assoc]
theorem Wg_whole (g : Pg) (a w b : Str) (n : Nat) : Wg g a (repS w 2) (repS w (n % 2) ++ b) (n / 2) = Wg g a w b n := by
  show wrG g (cds a ++ pw (cds (repS w 2)) (n / 2) ++ cds (repS w (n % 2) ++ b)) = wrG g (cds a ++ pw (cds w) n ++ cds b)
  have e : cds (repS w (n % 2) ++ b) = cds (repS w (n % 2)) ++ cds b := Array.toList_append
  rw [e, cds_repS, cds_repS, pw_twice]
  have e2 : pw (cds w) n = pw (cds w) (2 * (n / 2)) ++ pw (cds w) (n % 2) := by rw [← pw_add, Nat.div_add_mod]
  rw [e2]
  simp only [List.append_assoc]
theorem cutV_to (xs : List V) (i : Nat) : cutV xs none (some (i : Int)) = xs.take i := by
  unfold cutV
  rw [HT.sIx_none, HT.sIx_nat, List.drop_zero, Nat.sub_zero]
  by_cases h : i ≤ xs.length
  · rw [Nat.min_eq_left h]
  · rw [Nat.min_eq_right (by omega), List.take_of_length_le (Nat.le_refl _), List.take_of_length_le (by omega)]
/-- what the law stands on -/
structure LI (K : PySem.W.Frag) (C : Addr) (g : Pg) (dr tp pa : Addr) (H : Hp) : Prop where
  d : DrAt K H dr
  o : Told H g tp
  p : PgAt C H pa g.td.pg
theorem LI.ex {K : PySem.W.Frag} {C : Addr} {g : Pg} {dr tp pa : Addr} {H H' : Hp} (e : Ex H H') (h : LI K C g dr tp pa H) : LI K C g dr tp pa H' := ⟨h.d.ex e, h.o.up e, h.p.ex e⟩
section
variable {σ : L2.St} {H : Hp} {te : TE} {D : Ends} {tz : TS} {K : PySem.W.Frag}
theorem q_unpack3P {Pz : V → V → V → Hp → Prop} {i j l : Nat} (h : EvP te σ H (fun v H' => ∃ b x y z, v = .ref b ∧ H' b = some (.tup [x, y, z]) ∧ Pz x y z H')) (k : ∀ x y z H1, Ex H H1 → Pz x y z H1 → tz D (((σ.set i (some x)).set j (some y)).set l (some z)) H1) : tSeq (tAsg te (gTup K 3 (gCons (gName i) (gCons (gName j) (gCons (gName l) gNil))))) tz D σ H :=
  h H (Ex.refl H) _ fun v H1 e ⟨b, x, y, z, e1, hb, p⟩ => ⟨b, _, e1, st_of hb, rfl, ⟨x, _, rfl, ⟨y, _, rfl, ⟨z, _, rfl, ⟨rfl, k x y z H1 e p⟩⟩⟩⟩⟩
end

abbrev rAddS : R2 := fun x y H Q => ∃ i j, x = .str i ∧ y = .str j ∧ i.length + j.length ≤ sizeLine ∧ Q (.str (i ++ j)) H
theorem WfPost.ex {CW : Addr} {o : Option Str} {v : V} {H H' : Hp} (e : Ex H H') (h : WfPost CW o v H) : WfPost CW o v H' := by
  cases o with
  | none => exact h
  | some t =>
    obtain ⟨y, ps, vals, n, h1, h2, h3, h4⟩ := h
    exact ⟨y, ps, vals, n, h1, h2.ex e, h3, h4⟩
/-- three short words -/
structure W3 (g : Pg) (a w b : Str) : Prop where
  la : (cds a).length < 4
  ha : ∀ c ∈ cds a, c ∈ cds g.L
  lw : (cds w).length < 4
  hw : ∀ c ∈ cds w, c ∈ cds g.L
  lb : (cds b).length < 4
  hb : ∀ c ∈ cds b, c ∈ cds g.L
theorem W3.mem {g : Pg} {a w b : Str} (h : W3 g a w b) (n : Nat) : ∀ c ∈ cds a ++ pw (cds w) n ++ cds b, c ∈ cds g.L := fun c hc => by
  rcases List.mem_append.mp hc with hc | hc
  · rcases List.mem_append.mp hc with hc | hc
    · exact h.ha c hc
    · exact h.hw c (pw_mem hc)
  · exact h.hb c hc
theorem W3.len {g : Pg} {a w b : Str} (h : W3 g a w b) (n : Nat) : (cds a ++ pw (cds w) n ++ cds b).length ≤ 6 + 3 * n := by
  have h1 := h.la
  have h2 := h.lw
  have h3 := h.lb
  have h4 : n * (cds w).length ≤ n * 3 := Nat.mul_le_mul_left _ (by omega)
  rw [List.length_append, List.length_append, pw_len]
  omega
theorem W3.short {g : Pg} {a w b : Str} (D : DrOk sg4 g) (h : W3 g a w b) {n : Nat} : ∀ t, Wg g a w b n = some t → t.length ≤ 86 + 36 * n := fun t ht => by
  have h1 := short_td D (h.mem n) t ht
  have h2 := h.len n
  omega
section
variable {σ : L2.St} {H : Hp} {K : PySem.W.Frag} {C CW dr tp pa : Addr} {g : Pg} {a w b A W B : Str} {ta tw tb tn : TE}
theorem rv_rep {z : Str} {n : Nat} (hn : n ≤ 100000) (hz : z.length * n ≤ 100000) : RV rRepS (.str z) (.int (n : Int)) H (.str (repS z n)) := fun H1 _ _ q => ⟨z, n, rfl, rfl, hn, hz, q H1 (Ex.refl H1)⟩
theorem rv_addS {i j : Str} (hz : i.length + j.length ≤ 100000) : RV rAddS (.str i) (.str j) H (.str (i ++ j)) := fun H1 _ _ q => ⟨i, j, rfl, rfl, sz_of hz, q H1 (Ex.refl H1)⟩
theorem ev_run (D : DrOk sg4 g) (I : LI K C g dr tp pa H) (X : W3 g a w b) {n : Nat} (hn : n ≤ 40) (s2 : σ[2]? = some (some (.ref tp))) (s5 : σ[5]? = some (some (.str a))) (s6 : σ[6]? = some (some (.str w))) (s7 : σ[7]? = some (some (.str b))) (hN : Ev tn σ H (.int (n : Int))) :
    Ev (tCall sp_law_run [] E0 (tCons (tVar 2) (tCons (tOp rAddS (tOp rAddS (tVar 5) (tOp rRepS (tVar 6) tn)) (tVar 7)) tNil))) σ H (vO (Wg g a w b n)) := by
  have h1 := X.la
  have h2 := X.lw
  have h3 := X.lb
  rw [← len_cds] at h1 h2 h3
  have h4 : w.length * n ≤ 3 * 40 := Nat.mul_le_mul (by omega) hn
  have h5 : (repS w n).length = n * w.length := by rw [len_cds, cds_repS, pw_len, ← len_cds]
  have h6 : n * w.length = w.length * n := Nat.mul_comm _ _
  have e : cds (a ++ repS w n ++ b) = cds a ++ pw (cds w) n ++ cds b := by rw [cds_cat3, cds_repS]
  have h7 : (a ++ repS w n).length = a.length + (repS w n).length := by
    have e2 : cds (a ++ repS w n) = cds a ++ cds (repS w n) := Array.toList_append
    rw [len_cds, e2, List.length_append, ← len_cds, ← len_cds]
  have hV := run_V (z := a ++ repS w n ++ b) D I.o (fun H2 e2 => I.o.up e2) (by rw [e]; exact X.mem n) (by rw [e]; have := X.len n; omega)
  rw [e] at hV
  exact ev_use (ea_cons (ev_var s2) (ea_cons (ev_op (ev_op (ev_var s5) (ev_op (ev_var s6) hN (rv_rep (by omega) (by omega))) (rv_addS (by omega))) (ev_var s7) (rv_addS (by omega))) ea_nil)) hV
theorem ep_wf (D : DrOk sg4 g) (I : LI K C g dr tp pa H) {n : Nat} (hn : n ≤ 1000000000000) (ha : ∀ c ∈ cds A, c ∈ cds g.L) (hw : ∀ c ∈ cds W, c ∈ cds g.L) (hb : ∀ c ∈ cds B, c ∈ cds g.L) (la : (cds A).length ≤ 10) (lw : (cds W).length ≤ 10) (lb : (cds B).length ≤ 10)
    (s4 : σ[4]? = some (some (.ref pa))) (hA : Ev ta σ H (.str A)) (hW : Ev tw σ H (.str W)) (hN : Ev tn σ H (.int (n : Int))) (hB : Ev tb σ H (.str B)) :
    EvP (tCall (sp_written_for C CW) [] E0 (tCons (tVar 4) (tCons ta (tCons tw (tCons tn (tCons tb tNil)))))) σ H (fun v H2 => WfPost CW (Wg g A W B n) v H2) :=
  ep_use (ea_cons (ev_var s4) (ea_cons hA (ea_cons hW (ea_cons hN (ea_cons hB ea_nil))))) (wf_P D I.p ha hw hb la lw lb hn)
theorem ev_isas {o : Option Str} {te tr : TE} (h : EvP te σ H (fun v H2 => WfPost CW o v H2)) (hr : Ev tr σ H (vO o)) (hl : ∀ t, o = some t → t.length ≤ 1000) : Ev (tCall (sp_law_is_as CW) [] E0 (tCons te (tCons tr tNil))) σ H (.bl true) :=
  Ev.of (call_P (Pa := fun vs H2 => ∃ v, vs = [v, vO o] ∧ WfPost CW o v H2) (fun H1 e Q q => h H1 e _ fun v H2 e2 p => hr H2 (e.trans e2) _ fun H3 e3 => q [v, vO o] H3 (e2.trans e3) ⟨v, rfl, p.ex e3⟩)
    fun vs H2 e ⟨v, ev, hW⟩ => spE_P (v, o) (fun H3 e3 => ⟨ev, hW.ex e3, hl⟩) fun v H _ p => p)
end

section
variable {σ : L2.St} {H : Hp} {K : PySem.W.Frag} {ta tb : TE}
theorem ep_opC {C : Int → Int → Prop} {g : Int → Int → V} {a : Int} {P : Int → Prop} (ha : Ev ta σ H (.int a)) (hb : EvP tb σ H (fun v _ => ∃ r, v = .int r ∧ P r)) (hC : ∀ r, P r → C a r) : EvP (tOp (rI C g) ta tb) σ H (fun v _ => ∃ r, v = g a r ∧ P r) := fun H1 e Q q =>
  ha H1 e _ fun H2 e2 => hb H2 (e.trans e2) _ fun v H3 e3 ⟨r, ev, p⟩ => ⟨a, r, rfl, ev, hC r p, q _ H3 (e2.trans e3) ⟨r, rfl, p⟩⟩
theorem src_rng1 {tv : TA} {n : Nat} (h : EvA tv σ H [.int (n : Int)]) (hn : n ≤ 1000) : Src (iRng1 tv) σ H n (fun i x _ => x = .int (i : Int)) := fun H1 e R r =>
  h H1 e _ fun H2 e2 => ⟨(n : Int), rfl, by omega, by omega, by
    rw [Int.toNat_natCast]
    exact r _ (fun _ => True) H2 e2 trivial (fun _ _ _ _ => trivial) (fun _ _ _ _ _ _ _ _ => trivial) ⟨fun _ _ hi _ => hi, fun _ _ => Nat.le_refl _, fun i H x H' _ _ y => ⟨y.1, by rw [y.2, Int.zero_add]⟩⟩⟩
theorem ev_eq3 {a : Addr} (h : Ev ta σ H (.ref a)) (ha : H a = some (.lst [.non, .non, .non])) : Ev (tOp (rEqQ K) ta (tLst (tCons (tC .non) (tCons (tC .non) (tCons (tC .non) tNil))))) σ H (.bl true) := fun H1 e Q q =>
  h H1 e _ fun H2 e2 => (el_lst (ea_cons ev_c (ea_cons ev_c (ea_cons ev_c ea_nil))) (by show 3 ≤ 100000; decide) : EvL (tLst (tCons (tC .non) (tCons (tC .non) (tCons (tC .non) tNil)))) σ H2 [.non, .non, .non]) H2 (Ex.refl _) (fun y H3 => rEqQ K (.ref a) y H3 Q) fun b H3 hb e3 h3 => ⟨1, true, by decide, .inr (.inl ⟨a, b, [.non, .non, .non], [.non, .non, .non], fun _ => true, rfl, rfl, sq_of (((e.trans e2).trans e3) _ _ ha), sq_of h3, rfl, fun j u v hu hv => by
    have f : ∀ {x : V}, ([V.non, V.non, V.non] : List V)[j]? = some x → x = .non := fun {x} hx => by
      have hm := List.mem_of_getElem? hx
      simp only [List.mem_cons, List.not_mem_nil, or_false] at hm
      rcases hm with h | h | h <;> exact h
    rw [f hu, f hv]
    exact .inl ⟨rfl, rfl, rfl⟩, by decide⟩), q H3 (e2.trans e3)⟩
end

/-- what is written stands there with these signs -/
def WV (CW : Addr) (H : Hp) (v : V) (T : List Nat) : Prop := ∃ y ps vals n, v = .ref y ∧ WtAt CW H y ps vals n ∧ ps.length ≤ 40000 ∧ vAt vals n = T
theorem WV.ex {CW : Addr} {H H' : Hp} {v : V} {T : List Nat} (e : Ex H H') (h : WV CW H v T) : WV CW H' v T := by
  obtain ⟨y, ps, vals, n, h1, h2, h3, h4⟩ := h
  exact ⟨y, ps, vals, n, h1, h2.ex e, h3, h4⟩
theorem WV.ne {CW : Addr} {H : Hp} {v : V} {T : List Nat} (h : WV CW H v T) : v ≠ .non := by
  obtain ⟨y, ps, vals, n, rfl, _⟩ := h
  exact fun z => by cases z
theorem WfPost.v {CW : Addr} {o : Option Str} {t : Str} {v : V} {H : Hp} (h : WfPost CW o v H) (e : o = some t) : WV CW H v (cds t) := by
  subst e
  exact h
section
variable {σ : L2.St} {H : Hp} {CW : Addr} {v : V} {T : List Nat} {i : Nat} {ta tb : TE}
theorem wv_size (h : WV CW H v T) (hi : σ[i]? = some (some v)) : Ev (tMeth CW "size" (sp_Written_size CW) [] E0 (tVar i) tNil) σ H (.int (T.length : Int)) := by
  obtain ⟨y, ps, vals, n, rfl, W, hps, rfl⟩ := h
  obtain ⟨dx, fs0, tl, sl, xs0, hy, ft, fz, fnum, fo, _⟩ := id W
  exact Ev.of (ep_meth (ev_var hi) hy (fo.no (by decide +kernel)) ea_nil (size_P W))
theorem wv_part {f l : Nat} {z : Str} (h : WV CW H v T) (hi : σ[i]? = some (some v)) (ha : Ev ta σ H (.int (f : Int))) (hb : Ev tb σ H (.int (l : Int))) (hfl : f ≤ l) (hl : l ≤ T.length) (h1000 : l ≤ f + 1000) (hz : cds z = (T.drop f).take (l - f)) :
    Ev (tMeth CW "part" (sp_Written_part CW) [] E0 (tVar i) (tCons ta (tCons tb tNil))) σ H (.str z) := by
  obtain ⟨y, ps, vals, n, rfl, W, hps, rfl⟩ := h
  obtain ⟨dx, fs0, tl, sl, xs0, hy, ft, fz, fnum, fo, _⟩ := id W
  exact Ev.of (ep_meth (ev_var hi) hy (fo.no (by decide +kernel)) (ea_cons ha (ea_cons hb ea_nil)) (spE_P (y, ps, vals, n, f, l) (fun H2 e2 => ⟨rfl, W.ex e2, hps, hfl, hl, h1000⟩) fun v H2 _ ⟨z2, a1, a2⟩ => by
    rw [a1]
    congr 1
    exact cds_inj (by rw [a2, hz])))
theorem wv_sign {f : Nat} {z : Str} (h : WV CW H v T) (hi : σ[i]? = some (some v)) (ha : Ev ta σ H (.int (f : Int))) (hl : f < T.length) (hz : cds z = (T.drop f).take 1) :
    Ev (tMeth CW "sign" (sp_Written_sign CW) [] E0 (tVar i) (tCons ta tNil)) σ H (.str z) := by
  obtain ⟨y, ps, vals, n, rfl, W, hps, rfl⟩ := h
  obtain ⟨dx, fs0, tl, sl, xs0, hy, ft, fz, fnum, fo, _⟩ := id W
  exact Ev.of (ep_meth (ev_var hi) hy (fo.no (by decide +kernel)) (ea_cons ha ea_nil) (spE_P (y, ps, vals, n, f) (fun H2 e2 => ⟨rfl, W.ex e2, hps, hl⟩) fun v H2 _ ⟨z2, a1, a2⟩ => by
    rw [a1]
    congr 1
    exact cds_inj (by rw [a2, hz])))
theorem et_isN {v : V} (hi : σ[i]? = some (some v)) (hn : v ≠ .non) : EvT (tTest (tOp (fun x y H Q => y = .non ∧ Q (.bl (decide (x = .non))) H) (tVar i) (tC .non))) σ H false := et_test (ev_is (ev_op (ev_var hi) ev_c rv_isN) (by rw [decide_eq_false hn]))
end

section
variable {σ : L2.St} {H : Hp} {ta tb : TE}
theorem ep_op1 {C : Int → Int → Prop} {g : Int → Int → V} {b : Int} {P : Int → Prop} (ha : EvP ta σ H (fun v _ => ∃ r, v = .int r ∧ P r)) (hb : Ev tb σ H (.int b)) (hC : ∀ r, P r → C r b) : EvP (tOp (rI C g) ta tb) σ H (fun v _ => ∃ r, v = g r b ∧ P r) := fun H1 e Q q =>
  ha H1 e _ fun v H2 e2 ⟨r, ev, p⟩ => hb H2 (e.trans e2) _ fun H3 e3 => ⟨r, b, ev, rfl, hC r p, q _ H3 (e2.trans e3) ⟨r, rfl, p⟩⟩
end

section
variable {σ : L2.St} {H : Hp} {K : PySem.W.Frag}
abbrev tTen : TE := tOp (rI CPow fun i j => .int (i ^ j.toNat)) (tC (.int 10)) (tC (.int 9))
theorem ev_ten : Ev tTen σ H (.int 1000000000) := ev_is (ev_op (ev_c (v := .int 10)) (ev_c (v := .int 9)) (rv_I ⟨by decide, by decide, by decide⟩)) (by rfl)
abbrev rFd : R2 := fun x y H Q => ∃ n m : Nat, x = .int (n : Int) ∧ y = .int (m : Int) ∧ (1 ≤ m ∧ m < 1073741824) ∧ Q (.int ((n / m : Nat) : Int)) H
theorem rv_fd {n m : Nat} (h1 : 1 ≤ m) (h2 : m < 1073741824) : RV rFd (.int (n : Int)) (.int (m : Int)) H (.int ((n / m : Nat) : Int)) := fun H3 _ _ q => ⟨n, m, rfl, rfl, ⟨h1, h2⟩, q H3 (Ex.refl H3)⟩
theorem ep_place {dr : Addr} (hD : DrAt K H dr) (s1 : σ[1]? = some (some (.ref dr))) {L : Nat} (s16 : σ[16]? = some (some (.int (L : Int)))) (hpos : 0 < L) :
    EvP (tOp (rI (fun _ j => j ≠ 0) fun i j => .int (i.fmod j)) (tOp (rI CMul fun i j => .int (i * j)) (tCall (sp_law_next K) [] E0 (tCons (tVar 1) (tCons tTen tNil))) (tOp (rI0 fun i j => .int (i + j)) (tOp rFd (tVar 16) tTen) (tC (.int 1)))) (tVar 16)) σ H (fun v _ => ∃ pl : Nat, v = .int (pl : Int) ∧ pl < L) := by
  have hN : EvP (tCall (sp_law_next K) [] E0 (tCons (tVar 1) (tCons tTen tNil))) σ H (fun v _ => ∃ r, v = .int r ∧ 0 ≤ r ∧ r < 1000000000) := ep_next (ev_var s1) ev_ten hD (by decide)
  have hB : Ev (tOp (rI0 fun i j => .int (i + j)) (tOp rFd (tVar 16) tTen) (tC (.int 1))) σ H (.int ((L / 1000000000 + 1 : Nat) : Int)) := ev_is (ev_op (ev_op (ev_var s16) ev_ten (rv_fd (m := 1000000000) (by decide) (by decide))) (ev_c (v := .int 1)) rv_I0) (by congr 1)
  have hM : EvP (tOp (rI CMul fun i j => .int (i * j)) (tCall (sp_law_next K) [] E0 (tCons (tVar 1) (tCons tTen tNil))) (tOp (rI0 fun i j => .int (i + j)) (tOp rFd (tVar 16) tTen) (tC (.int 1)))) σ H (fun v _ => ∃ r, v = .int r ∧ True) := (ep_op1 hN hB (fun r hr => .inl ⟨by omega, by omega⟩)).imp fun v H2 _ ⟨r, h1, h2⟩ => ⟨_, h1, trivial⟩
  refine (ep_op1 (g := fun i j => .int (i.fmod j)) (C := fun _ j => j ≠ 0) hM (ev_var s16) (fun r _ => by omega)).imp fun v H2 _ ⟨r, h1, _⟩ => ?_
  obtain ⟨f1, f2⟩ := fm_in (i := r) (b := (L : Int)) (by omega)
  exact ⟨(r.fmod (L : Int)).toNat, by rw [h1]; congr 1; omega, by omega⟩
end
end KX
end
section
set_option Elab.async false
set_option linter.all false
set_option maxRecDepth 100000
set_option maxHeartbeats 16000000
/-! Lw5: the law. -/
namespace KX
open PySem PySem.Spec PyProof.Rows L2 Evl

def sp_law17 (K : PySem.W.Frag) : Sp := fun vs H Q _ => ∃ (a : Addr) (ns : List Int), vs = [.ref a] ∧ SqL K H a (ns.map V.int) ∧ ∀ H', Q (.bl true) H'
section
variable {P : Program} {w : World} {K : PySem.W.Frag} {mg : Str → Option Value} {base : Heap} {C CP CW CR : Addr} {f : Addr} {fd : FuncData}
theorem ok_law17 (F : Fun K "law" "law" s_law f fd) (Z : Zs mg C) (G_law_program : Has P w K mg base "_law_program" 6 ["draw", "signs"] (sp_law_program K)) (G_law_made : Has P w K mg base "_law_made" 10 ["program"] (sp_law_made C)) (G_law_word : Has P w K mg base "_law_word" 5 ["draw", "letters", "most"] (sp_law_word K))
    (G_law_is_as : Has P w K mg base "_law_is_as" 4 ["found", "text"] (sp_law_is_as CW)) (G_written_for : Has P w K mg base "written_for" 7 ["program", "ahead", "word", "many", "behind"] (sp_written_for C CW)) (G_law_run : Has P w K mg base "_law_run" 2 ["program", "text"] sp_law_run) (G_law_next : Has P w K mg base "_law_next" 3 ["draw", "bound"] (sp_law_next K))
    {f_sz : Addr} {fd_sz : FuncData} (G_Written_size : HasM P w K mg base CW "size" 1 f_sz fd_sz ["self"] (sp_Written_size CW)) {f_pt : Addr} {fd_pt : FuncData} (G_Written_part : HasM P w K mg base CW "part" 2 f_pt fd_pt ["self", "first", "last"] (sp_Written_part CW))
    {f_sg : Addr} {fd_sg : FuncData} (G_Written_sign : HasM P w K mg base CW "sign" 3 f_sg fd_sg ["self", "place"] (sp_Written_sign CW)) : FnOk P w K mg base CX0 11 f fd ["script"] (sp_law17 K) := by
  refine F.ok sc_law (fun vs H Q E h => ?_) (fun cdv A outer s H vs Q E hr h => ?_)
  · obtain ⟨a, ns, rfl, _⟩ := h
    rfl
  · obtain ⟨a, ns, rfl, hsq, k⟩ := h
    have hu := hu_of hr
    have hu50 := hu50_of hr
    refine ⟨_, (pss_cons (ps_set (i := 1) sc_law.nd rfl (Or.inl rfl) (pe_lst (pa_cons (pe_slice sl_list (pv 0) po_none (po_some pe_int)) (pa_cons pe_int (pa_cons pe_int pa_nil))))) 
    (pss_hide (pss_cons (ps_set (i := 2) sc_law.nd rfl (Or.inr rfl) (pe_use G_law_program (hr.mono (by decide)) (pa_cons (pv 1) (pa_cons (pe_lst (pa_cons pe_str (pa_cons pe_str (pa_cons pe_str pa_nil)))) pa_nil)))) 
    (pss_cons (ps_par (i := 3) (j := 4) (by rfl) sc_law.nd rfl rfl (by decide) rfl rfl (pa_cons (pe_ix (ixT (K := K)) (pv 2) pe_int (fun _ _ => rfl)) (pa_cons (pe_use G_law_made (hr.mono (by decide)) (pa_cons (pv 2) pa_nil)) pa_nil)) (by rfl)) 
    (pss_cons (ps_asg (pe_tup (pa_cons (pe_use G_law_word (hr.mono (by decide)) (pa_cons (pv 1) (pa_cons (pv 3) (pa_cons pe_int pa_nil)))) (pa_cons (pe_use G_law_word (hr.mono (by decide)) (pa_cons (pv 1) (pa_cons (pv 3) (pa_cons pe_int pa_nil)))) (pa_cons (pe_use G_law_word (hr.mono (by decide)) (pa_cons (pv 1) (pa_cons (pv 3) (pa_cons pe_int pa_nil)))) pa_nil)))) (pg_tup rfl (pgs_cons (pg_name (i := 5) sc_law.nd rfl (Or.inr rfl)) (pgs_cons (pg_name (i := 6) sc_law.nd rfl (Or.inr rfl)) (pgs_cons (pg_name (i := 7) sc_law.nd rfl (Or.inr rfl)) pgs_nil))))) 
    (pss_cons (ps_for PassesOwn.never rfl (pi_range1 rfl Z.z_range (pa_cons pe_int pa_nil)) (pg_name (i := 8) sc_law.nd rfl (Or.inl rfl)) 
     (pss_one (ps_if (pt_not (pt_val (pe_use G_law_is_as (hr.mono (by decide)) (pa_cons (pe_use G_written_for (hr.mono (by decide)) (pa_cons (pv 4) (pa_cons (pv 5) (pa_cons (pv 6) (pa_cons (pv 8) (pa_cons (pv 7) pa_nil)))))) (pa_cons (pe_use G_law_run (hr.mono (by decide)) (pa_cons (pv 2) (pa_cons (pe_op op_add_str (pe_op op_add_str (pv 5) (pe_op op_repS (pv 6) (pv 8))) (pv 7)) pa_nil))) pa_nil))))) 
      (pss_one (ps_ret pe_bl)) pss_nil))) 
    (pss_cons (ps_asg (pe_tup (pa_cons (pe_op op_add pe_int (pe_use G_law_next (hr.mono (by decide)) (pa_cons (pv 1) (pa_cons pe_int pa_nil)))) (pa_cons pe_int pa_nil))) (pg_tup rfl (pgs_cons (pg_name (i := 9) sc_law.nd rfl (Or.inr rfl)) (pgs_cons (pg_name (i := 10) sc_law.nd rfl (Or.inr rfl)) pgs_nil)))) 
    (pss_cons (ps_set (i := 11) sc_law.nd rfl (Or.inl rfl) (pe_op op_add (pv 9) (pe_op op_mul (pv 10) (pe_op op_add (pe_op op_pow pe_int pe_int) (pe_use G_law_next (hr.mono (by decide)) (pa_cons (pv 1) (pa_cons (pe_op op_pow pe_int pe_int) pa_nil))))))) 
    (pss_cons (ps_setLc (i := 13) (own := [(("turn" : Str), 12)]) (g := gName 12) rfl sc_law.nd rfl rfl (sw_true rfl rfl rfl (by decide +kernel)) (pi_range1 rfl Z.z_range (pa_cons pe_int pa_nil)) (blkOk_by (own := [(("turn" : Str), 12)]) (N := n_law) (sc := defScope s_law) (by decide +kernel)) (fun _ _ _ _ _ => (pg_name (i := 12) sc_law.nd rfl (Or.inl rfl))) (fun _ _ _ _ _ => pts_nil) (fun _ _ _ _ _ => (pe_use G_law_run (hr.mono (by decide)) (pa_cons (pv 2) (pa_cons (pe_op op_add_str (pe_op op_add_str (pv 5) (pe_op op_repS (pv 6) (pe_op op_add (pv 9) (pe_op op_mul (pv 10) (pv 12))))) (pv 7)) pa_nil))))) 
    (pss_cons (ps_set (i := 14) sc_law.nd rfl (Or.inl rfl) (pe_use G_written_for (hr.mono (by decide)) (pa_cons (pv 4) (pa_cons (pv 5) (pa_cons (pv 6) (pa_cons (pv 11) (pa_cons (pv 7) pa_nil))))))) 
    (pss_cons (ps_if (PW.pt (pw_or (pt_cmpR op_isN (pv 14) pe_non (nomark _)) (pw_or1 (pt_cmpR (oInS (K := K)) pe_non (pv 13) (by rfl))))) 
     (pss_one (ps_ret (pe_and (pe_cmpR op_isN (pv 14) pe_non (nomark _)) (pe_one (pe_cmpR (op_eqQ hu50) (pv 13) (pe_lst (pa_cons pe_non (pa_cons pe_non (pa_cons pe_non pa_nil)))) (nomark _)))))) pss_nil) 
    (pss_cons (ps_set (i := 15) sc_law.nd rfl (Or.inl rfl) (pe_op op_sub (pe_callB call_len_str (by rfl) Z.z_len PySem.boot_len (pa_cons (pe_ix (ixL (K := K)) (pv 13) pe_int (fun _ _ => rfl)) pa_nil)) (pe_callB call_len_str (by rfl) Z.z_len PySem.boot_len (pa_cons (pe_ix (ixL (K := K)) (pv 13) pe_int (fun _ _ => rfl)) pa_nil)))) 
    (pss_cons (ps_if (PW.pt (pw_or (pt_cmpR op_ne (pe_op op_sub (pe_callB call_len_str (by rfl) Z.z_len PySem.boot_len (pa_cons (pe_ix (ixL (K := K)) (pv 13) pe_int (fun _ _ => rfl)) pa_nil)) (pe_callB call_len_str (by rfl) Z.z_len PySem.boot_len (pa_cons (pe_ix (ixL (K := K)) (pv 13) pe_int (fun _ _ => rfl)) pa_nil))) (pv 15) (nomark _)) (pw_or1 (pt_cmpR op_ne (pe_meth0 (pv 14) G_Written_size.cl G_Written_size.me G_Written_size.ok (hr.mono (by decide)) G_Written_size.b .nil pass0) (pe_op op_add (pe_callB call_len_str (by rfl) Z.z_len PySem.boot_len (pa_cons (pe_ix (ixL (K := K)) (pv 13) pe_int (fun _ _ => rfl)) pa_nil)) (pe_op op_mul (pe_op op_fdivNN (pe_op op_sub (pv 11) (pv 9)) (pv 10)) (pv 15))) (nomark _))))) 
     (pss_one (ps_ret pe_bl)) pss_nil) 
    (pss_cons (ps_set (i := 16) sc_law.nd rfl (Or.inl rfl) (pe_meth0 (pv 14) G_Written_size.cl G_Written_size.me G_Written_size.ok (hr.mono (by decide)) G_Written_size.b .nil pass0)) 
    (pss_cons (ps_if (PW.pt (pw_and (pt_cmpR op_eq (pv 15) pe_int (nomark _)) (pw_and (pt_cmpR op_eq (pe_ix (ixL (K := K)) (pv 13) pe_int (fun _ _ => rfl)) (pe_ix (ixL (K := K)) (pv 13) pe_int (fun _ _ => rfl)) (nomark _)) (pw_and1 (pt_cmpR op_ne (pe_meth (pv 14) G_Written_part.cl G_Written_part.me G_Written_part.ok (hr.mono (by decide)) G_Written_part.b .nil pass0 (pa_cons pe_int (pa_cons (pv 16) pa_nil))) (pe_ix (ixL (K := K)) (pv 13) pe_int (fun _ _ => rfl)) (nomark _)))))) 
     (pss_one (ps_ret pe_bl)) pss_nil) 
    (pss_cons (ps_set (i := 17) sc_law.nd rfl (Or.inl rfl) (pe_use G_written_for (hr.mono (by decide)) (pa_cons (pv 4) (pa_cons (pe_op op_add_str (pv 5) (pv 6)) (pa_cons (pv 6) (pa_cons (pe_op op_sub (pv 11) pe_int) (pa_cons (pv 7) pa_nil))))))) 
    (pss_cons (ps_set (i := 18) sc_law.nd rfl (Or.inl rfl) (pe_use G_written_for (hr.mono (by decide)) (pa_cons (pv 4) (pa_cons (pv 5) (pa_cons (pv 6) (pa_cons (pe_op op_sub (pv 11) pe_int) (pa_cons (pe_op op_add_str (pv 6) (pv 7)) pa_nil))))))) 
    (pss_cons (ps_set (i := 19) sc_law.nd rfl (Or.inl rfl) (pe_use G_written_for (hr.mono (by decide)) (pa_cons (pv 4) (pa_cons (pv 5) (pa_cons (pe_op op_repS (pv 6) pe_int) (pa_cons (pe_op op_fdivNN (pv 11) pe_int) (pa_cons (pe_op op_add_str (pe_op op_repS (pv 6) (pe_op op_modN (pv 11) pe_int)) (pv 7)) pa_nil))))))) 
    (pss_cons (ps_for PassesOwn.never rfl (pi_tup (pe_tup (pa_cons (pv 17) (pa_cons (pv 18) (pa_cons (pv 19) pa_nil))))) (pg_name (i := 20) sc_law.nd rfl (Or.inl rfl)) 
     (pss_cons (ps_if (PW.pt (pw_or (pt_cmpR op_isN (pv 20) pe_non (nomark _)) (pw_or1 (pt_cmpR op_ne (pe_meth0 (pv 20) G_Written_size.cl G_Written_size.me G_Written_size.ok (hr.mono (by decide)) G_Written_size.b .nil pass0) (pv 16) (nomark _))))) 
      (pss_one (ps_ret pe_bl)) pss_nil) 
     (pss_one (ps_for PassesOwn.never rfl (pi_range1 rfl Z.z_range (pa_cons pe_int pa_nil)) (pg_name (i := 12) sc_law.nd rfl (Or.inl rfl)) 
      (pss_cons (ps_set (i := 21) sc_law.nd rfl (Or.inl rfl) (pe_ifExp (pt_cmpR op_gt (pv 16) pe_int (nomark _)) (pe_op op_modN (pe_op op_mul (pe_use G_law_next (hr.mono (by decide)) (pa_cons (pv 1) (pa_cons (pe_op op_pow pe_int pe_int) pa_nil))) (pe_op op_add (pe_op op_fdivNN (pv 16) (pe_op op_pow pe_int pe_int)) pe_int)) (pv 16)) pe_int)) 
      (pss_cons (ps_set (i := 22) sc_law.nd rfl (Or.inl rfl) (pe_callB (cr_min rfl) (by rfl) Z.z_min (by decide +kernel) (pa_cons (pe_lst (pa_cons (pe_op op_add (pv 21) pe_int) (pa_cons (pv 16) pa_nil))) pa_nil))) 
      (pss_cons (ps_if (PW.pt (pw_and (pt_cmpR op_gt (pv 16) pe_int (nomark _)) (pw_and1 (pt_cmpR op_ne (pe_meth (pv 20) G_Written_sign.cl G_Written_sign.me G_Written_sign.ok (hr.mono (by decide)) G_Written_sign.b .nil pass0 (pa_cons (pv 21) pa_nil)) (pe_meth (pv 14) G_Written_sign.cl G_Written_sign.me G_Written_sign.ok (hr.mono (by decide)) G_Written_sign.b .nil pass0 (pa_cons (pv 21) pa_nil)) (nomark _))))) 
       (pss_one (ps_ret pe_bl)) pss_nil) 
      (pss_one (ps_if (pt_cmpR op_ne (pe_meth (pv 20) G_Written_part.cl G_Written_part.me G_Written_part.ok (hr.mono (by decide)) G_Written_part.b .nil pass0 (pa_cons (pv 21) (pa_cons (pv 22) pa_nil))) (pe_meth (pv 14) G_Written_part.cl G_Written_part.me G_Written_part.ok (hr.mono (by decide)) G_Written_part.b .nil pass0 (pa_cons (pv 21) (pa_cons (pv 22) pa_nil))) (nomark _)) 
       (pss_one (ps_ret pe_bl)) pss_nil))))))))) 
    (pss_one (ps_ret (pe_or (pe_cmpR op_eq (pv 16) pe_int (nomark _)) (pe_one (pe_cmpR op_eq (pe_meth (pv 14) G_Written_part.cl G_Written_part.me G_Written_part.ok (hr.mono (by decide)) G_Written_part.b .nil pass0 (pa_cons (pe_op op_sub (pv 16) pe_int) (pa_cons (pv 16) pa_nil))) (pe_meth (pv 14) G_Written_sign.cl G_Written_sign.me G_Written_sign.ok (hr.mono (by decide)) G_Written_sign.b .nil pass0 (pa_cons (pe_op op_sub (pv 16) pe_int) pa_nil)) (nomark _))))))))))))))))))))))))), ?_⟩
    -- draw = [script[:63], 0, 0]
    refine q_new (new_lst (pa1 (P := fun v H2 => ∃ l, v = .ref l ∧ H2 l = some (.lst ((ns.take 63).map V.int))) (Pr := fun vs _ => vs = [.int 0, .int 0]) (fun v H H' e ⟨l, h1, h2⟩ => ⟨l, h1, e _ _ h2⟩) (((New.ofL (el_sl (ev_var rfl) eo_none (eo_some ev_c) hsq)).evP).imp fun v H2 _ ⟨p, o, h1, h2, h3⟩ => ⟨p, h1, by
      rw [h2, h3, show ((63 : Int)) = ((63 : Nat) : Int) from rfl, cutV_to, List.map_take]⟩) (fun H1 e Q q => (ea_cons ev_c (ea_cons ev_c ea_nil)) H1 e _ fun H2 e2 => q _ H2 e2 rfl)) (fun vs H2 ⟨v, r, h1, _, h3⟩ => by rw [h1, h3]; show 3 ≤ 1000; decide) (fun vs H H' e ⟨v, r, h1, ⟨l, h2, h3⟩, h4⟩ => ⟨v, r, h1, ⟨l, h2, e _ _ h3⟩, h4⟩)) fun dr o H1 hdr e1 h1 ⟨vs, eo, v, r, ev, ⟨l, hl1, hl2⟩, er⟩ => ?_
    subst eo ev hl1 er
    refine ⟨dr, l, 0, h1, ?_⟩
    have x1 : Ex H (upd H1 dr (drawn dr l)) := Ex.mut e1 hdr
    have hld : dr ≠ l := fun z => by
      subst z
      rw [h1] at hl2
      injection hl2 with q
      injection q with q
      cases hh : ns.take 63 with
      | nil =>
        rw [hh] at q
        cases q
      | cons y ys =>
        rw [hh] at q
        injection q with q _
        cases q
    have hD : DrAt K (upd H1 dr (drawn dr l)) dr := ⟨l, ns.take 63, upd_same, by rw [upd_ne hld.symm]; exact hl2, hld⟩
    generalize upd H1 dr (drawn dr l) = H2 at x1 hD ⊢
    clear h1 hl2 hld
    -- told
    refine q_asgP (Pv := fun v H' => ∃ b g, v = .ref b ∧ Told H' g b ∧ DrOk sg4 g) (call_P (pa1 (P := fun v _ => v = .ref dr) (Pr := fun vs H => ∃ v r, vs = v :: r ∧ (∃ b, v = .ref b ∧ H b = some (.lst [.str "a", .str "b", .str "ca"])) ∧ r = []) (fun _ _ _ _ h => h) (EvP.of (ev_var rfl)) (pa1 (Pr := fun vs _ => vs = []) (fun v H H' e ⟨b, h1, h2⟩ => ⟨b, h1, e _ _ h2⟩) (((New.ofL (el_lst (ea_cons ev_c (ea_cons ev_c (ea_cons ev_c ea_nil))) (by show 3 ≤ 100000; decide))).evP).imp fun v H2 _ ⟨p, o, h1, h2, h3⟩ => ⟨p, h1, by rw [h2, h3]⟩) pa0))
      fun vs H3 e3 ⟨v, r, ev, e2, v', r', e4, ⟨b, e5, e6⟩, e7⟩ => by
        subst ev e2 e4 e5 e7
        exact spE_P (dr, b, ["a", "b", "ca"]) (fun H4 e8 => ⟨rfl, hD.ex (e3.trans e8), e8 _ _ e6, by show 3 ≤ 10; decide⟩) fun v H' _ p => p) fun v H3 e3 ⟨tp, g, ev, hTo, D⟩ => ?_
    subst ev
    obtain ⟨ra, fa, sa, ea, htp, _⟩ := id hTo
    have hL : cds g.L ≠ [] ∧ g.L.length ≤ 100 := by
      rcases D.L with e | e <;> rw [e] <;> decide +kernel
    -- letters, program
    show (tSeq _ _) _ [some (.ref a), some (.ref dr), some (.ref tp), none, none, none, none, none, none, none, none, none, none, none, none, none, none, none, none, none, none, none, none] H3
    refine q_par (Pz := fun v w H' => v = .str g.L ∧ ∃ p, w = .ref p ∧ PgAt C H' p g.td.pg) (EvPA.imp (pa1 (P := fun v _ => v = .str g.L) (Pr := fun vs H => ∃ v r, vs = v :: r ∧ (∃ p, v = .ref p ∧ PgAt C H p g.td.pg) ∧ r = []) (fun _ _ _ _ h => h) (EvP.of (ev_ixU (K := K) (i := 0) (ev_var rfl) ev_c htp rfl)) (pa1 (P := fun v H => ∃ p, v = .ref p ∧ PgAt C H p g.td.pg) (Pr := fun vs _ => vs = []) (fun v H H' e ⟨p, h1, h2⟩ => ⟨p, h1, h2.ex e⟩) (ep_use (ea_cons (ev_var rfl) ea_nil) (spE_P (tp, g) (fun H4 e4 => ⟨rfl, hTo.up e4, D⟩) fun v H' _ p => p)) pa0)) fun vs H2 _ ⟨v, r, h1, h2, v', r', h3, h4, h5⟩ => ⟨v, v', by rw [h1, h3, h5], h2, h4⟩) ?_
    rintro _ _ H4 e4 ⟨rfl, pa, rfl, hp⟩
    have I4 : LI K C g dr tp pa H4 := ⟨(hD.ex e3).ex e4, hTo.up e4, hp⟩
    clear hp hTo hD htp
    -- three words
    have hword : ∀ {σ : L2.St}, σ[1]? = some (some (.ref dr)) → σ[3]? = some (some (.str g.L)) → ∀ H1, Ex H4 H1 → EvP (tCall (sp_law_word K) [] E0 (tCons (tVar 1) (tCons (tVar 3) (tCons (tC (.int 4)) tNil)))) σ H1 (fun v _ => ∃ u : Str, v = .str u ∧ u.length < 4 ∧ ∀ c ∈ cds u, c ∈ cds g.L) := fun h1 h3 H1 e1 =>
      ep_use (vs := [.ref dr, .str g.L, .int ((4 : Nat) : Int)]) (ea_cons (ev_var h1) (ea_cons (ev_var h3) (ea_cons ev_c ea_nil))) (spE_P (dr, g.L, 4) (fun H2 e2 => ⟨rfl, I4.d.ex (e1.trans e2), hL.1, hL.2, by show 0 < 4; decide, by show 4 ≤ 100; decide⟩) fun v H2 _ p => p)
    show (tSeq _ _) _ [some (.ref a), some (.ref dr), some (.ref tp), some (.str g.L), some (.ref pa), none, none, none, none, none, none, none, none, none, none, none, none, none, none, none, none, none, none] H4
    refine q_unpack3P (K := K) (Pz := fun x y z _ => ∃ u1 u2 u3 : Str, x = .str u1 ∧ y = .str u2 ∧ z = .str u3 ∧ (u1.length < 4 ∧ ∀ c ∈ cds u1, c ∈ cds g.L) ∧ (u2.length < 4 ∧ ∀ c ∈ cds u2, c ∈ cds g.L) ∧ (u3.length < 4 ∧ ∀ c ∈ cds u3, c ∈ cds g.L)) ?_ ?_
    · have W : EvP (tCall (sp_law_word K) [] E0 (tCons (tVar 1) (tCons (tVar 3) (tCons (tC (.int 4)) tNil)))) [some (V.ref a), some (.ref dr), some (.ref tp), some (.str g.L), some (.ref pa), none, none, none, none, none, none, none, none, none, none, none, none, none, none, none, none, none, none] H4 (fun v _ => ∃ u : Str, v = .str u ∧ u.length < 4 ∧ ∀ c ∈ cds u, c ∈ cds g.L) := hword rfl rfl H4 (Ex.refl _)
      exact ((new_tup (pa1 (fun _ _ _ _ h => h) W (pa1 (fun _ _ _ _ h => h) W (pa1 (fun _ _ _ _ h => h) W pa0))) (fun vs H2 ⟨v, r, a1, _, v', r', a2, _, v3, r3, a3, _, a4⟩ => by rw [a1, a2, a3, a4]; show 3 ≤ 1000; decide) (fun vs H H' e h => h)).evP).imp fun v H2 _ ⟨b, o, a1, a2, vs, a3, v1, r1, b1, ⟨u1, b2, b3, b4⟩, v2, r2, c1, ⟨u2, c2, c3, c4⟩, v3, r3, d1, ⟨u3, d2, d3, d4⟩, d5⟩ => ⟨b, v1, v2, v3, a1, by rw [a2, a3, b1, c1, d1, d5], u1, u2, u3, b2, c2, d2, ⟨b3, b4⟩, ⟨c3, c4⟩, ⟨d3, d4⟩⟩
    rintro _ _ _ H5 e5 ⟨ah, wd, bh, rfl, rfl, rfl, ⟨la, ha⟩, ⟨lw, hw⟩, ⟨lb, hb⟩⟩
    have I5 := I4.ex e5
    clear I4 hword
    rw [len_cds] at la lw lb
    show (tSeq _ _) _ [some (.ref a), some (.ref dr), some (.ref tp), some (.str g.L), some (.ref pa), some (.str ah), some (.str wd), some (.str bh), none, none, none, none, none, none, none, none, none, none, none, none, none, none, none] H5
    have X : W3 g ah wd bh := ⟨la, ha, lw, hw, lb, hb⟩
    -- few times, each
    refine q_forR1 (ea_cons ev_c ea_nil) (n := 7) (by decide) (fun i σ' H' => ∃ v8, σ' = [some (.ref a), some (.ref dr), some (.ref tp), some (.str g.L), some (.ref pa), some (.str ah), some (.str wd), some (.str bh), v8, none, none, none, none, none, none, none, none, none, none, none, none, none, none] ∧ LI K C g dr tp pa H') (fun H6 e6 => ⟨none, rfl, I5.ex e6⟩) ?_ ?_
    · rintro i σ' H6 hi ⟨v8, rfl, I6⟩
      have hi : i < 7 := by omega
      show (tIfS _ _ tNext) _ [some (.ref a), some (.ref dr), some (.ref tp), some (.str g.L), some (.ref pa), some (.str ah), some (.str wd), some (.str bh), some (.int (i : Int)), none, none, none, none, none, none, none, none, none, none, none, none, none, none] H6
      refine s_when (b := !true) (et_not (et_B (ev_isas (o := Wg g ah wd bh i) (ep_wf D I6 (by omega) ha hw hb (by omega) (by omega) (by omega) rfl (ev_var rfl) (ev_var rfl) (ev_var rfl) (ev_var rfl)) (ev_run D I6 X (by omega) rfl rfl rfl rfl (ev_var rfl)) fun t ht => by have := X.short D t ht; omega))) (fun z => by cases z) fun _ H7 e7 => ⟨_, rfl, I6.ex e7⟩
    rintro σ' H6 ⟨v8, rfl, I6⟩
    clear I5
    show (tSeq _ _) _ [some (.ref a), some (.ref dr), some (.ref tp), some (.str g.L), some (.ref pa), some (.str ah), some (.str wd), some (.str bh), v8, none, none, none, none, none, none, none, none, none, none, none, none, none, none] H6
    -- few, ring
    refine q_unpackP (Pz := fun y z _ => ∃ r : Nat, y = .int ((12 + r : Nat) : Int) ∧ r < 6 ∧ z = .int ((4 : Nat) : Int)) (((new_tup (pa1 (P := fun v _ => ∃ r : Nat, v = .int ((12 + r : Nat) : Int) ∧ r < 6) (Pr := fun vs _ => vs = [.int ((4 : Nat) : Int)]) (fun _ _ _ _ h => h) ((ep_opI (ev_c (v := .int 12)) (ep_next (ev_var rfl) ev_c I6.d (by decide))).imp fun v H2 _ ⟨r, h1, h2, h3⟩ => ⟨r.toNat, by rw [h1]; congr 1; omega, by omega⟩) (fun H1 e Q q => (ea_cons ev_c ea_nil) H1 e _ fun H2 e2 => q _ H2 e2 rfl)) (fun vs H2 ⟨v, r, h1, _, h3⟩ => by rw [h1, h3]; show 2 ≤ 1000; decide) (fun vs H H' e h => h)).evP).imp fun v H2 _ ⟨b, o, h1, h2, vs, h3, v1, r1, h4, ⟨r, h5, h6⟩, h7⟩ => ⟨b, v1, .int ((4 : Nat) : Int), h1, by rw [h2, h3, h4, h7], r, h5, h6, rfl⟩) ?_
    rintro _ _ H7 e7 ⟨r0, rfl, hr0, rfl⟩
    have I7 := I6.ex e7
    clear I6
    generalize hfew : 12 + r0 = few
    have few12 : 12 ≤ few := by omega
    have few17 : few ≤ 17 := by omega
    show (tSeq _ _) _ [some (.ref a), some (.ref dr), some (.ref tp), some (.str g.L), some (.ref pa), some (.str ah), some (.str wd), some (.str bh), v8, some (.int (few : Int)), some (.int ((4 : Nat) : Int)), none, none, none, none, none, none, none, none, none, none, none, none] H7
    -- far
    refine q_asgP (Pv := fun v _ => ∃ k : Nat, v = .int ((few + 4 * k : Nat) : Int) ∧ k ≤ 2000000000 ∧ 1 ≤ k) ((ep_opI (P := fun r => ∃ k : Nat, r = ((4 * k : Nat) : Int) ∧ k ≤ 2000000000 ∧ 1 ≤ k) (ev_var (v := .int (few : Int)) rfl) ((ep_opC (P := fun r => 1000000000 ≤ r ∧ r ≤ 1001000000) (ev_var (v := .int ((4 : Nat) : Int)) rfl) ((ep_opI (ev_is (w := .int 1000000000) (ev_op (ev_c (v := .int 10)) (ev_c (v := .int 9)) (rv_I ⟨by decide, by decide, by decide⟩)) (by rfl)) (ep_next (ev_var rfl) (ev_is (w := .int 1000000) (ev_op (ev_c (v := .int 10)) (ev_c (v := .int 6)) (rv_I ⟨by decide, by decide, by decide⟩)) (by rfl)) I7.d (by decide))).imp fun v H2 _ ⟨r, h1, h2, h3⟩ => ⟨1000000000 + r, h1, by omega, by omega⟩) (fun r _ => .inl ⟨by decide, by decide⟩)).imp fun v H2 _ ⟨r, h1, h2, h3⟩ => ⟨((4 * r.toNat : Nat) : Int), by rw [h1]; congr 1; omega, r.toNat, rfl, by omega, by omega⟩)).imp fun v H2 _ ⟨r, h1, k, h2, h3, h4⟩ => ⟨k, by rw [h1, h2]; rfl, h3, h4⟩) ?_
    rintro _ H8 e8 ⟨kf, rfl, hkf, hkf1⟩
    have I8 := I7.ex e8
    clear I7
    show (tSeq _ _) _ [some (.ref a), some (.ref dr), some (.ref tp), some (.str g.L), some (.ref pa), some (.str ah), some (.str wd), some (.str bh), v8, some (.int (few : Int)), some (.int ((4 : Nat) : Int)), some (.int ((few + 4 * kf : Nat) : Int)), none, none, none, none, none, none, none, none, none, none, none] H8
    -- near
    refine q_asgL (xs := (List.range 3).map fun j => vO (Wg g ah wd bh (few + 4 * j))) (el_lcW (src_rng1 (n := 3) (ea_cons ev_c ea_nil) (by decide)) (by decide) (fun x => rfl) _ (by simp) ?_) fun nl H9 hnl e9 h9 => ?_
    · intro i x y H' e hy hx
      subst hx
      rw [List.getElem?_map] at hy
      obtain ⟨j, hj, rfl⟩ := Option.map_eq_some_iff.mp hy
      obtain ⟨hl, e2⟩ := List.getElem?_eq_some_iff.mp hj
      rw [List.getElem_range] at e2
      subst e2
      rw [List.length_range] at hl
      exact ev_run D (I8.ex e) X (by omega) rfl rfl rfl rfl (ev_is (ev_op (ev_var rfl) (ev_op (ev_var rfl) (ev_var rfl) (rv_I (.inl ⟨by decide, by decide⟩))) rv_I0) (by congr 1))
    have I9 := I8.ex e9
    clear I8
    show (tSeq _ _) _ [some (.ref a), some (.ref dr), some (.ref tp), some (.str g.L), some (.ref pa), some (.str ah), some (.str wd), some (.str bh), v8, some (.int (few : Int)), some (.int ((4 : Nat) : Int)), some (.int ((few + 4 * kf : Nat) : Int)), none, some (.ref nl), none, none, none, none, none, none, none, none, none] H9
    -- found
    refine q_asgP (ep_wf (CW := CW) (n := few + 4 * kf) D I9 (by omega) ha hw hb (by omega) (by omega) (by omega) rfl (ev_var rfl) (ev_var rfl) (ev_var rfl) (ev_var rfl)) fun fv H10 e10 hfv => ?_
    have I10 := I9.ex e10
    have h10 := e10 _ _ h9
    clear I9
    show (tSeq _ _) _ [some (.ref a), some (.ref dr), some (.ref tp), some (.str g.L), some (.ref pa), some (.str ah), some (.str wd), some (.str bh), v8, some (.int (few : Int)), some (.int ((4 : Nat) : Int)), some (.int ((few + 4 * kf : Nat) : Int)), none, some (.ref nl), some fv, none, none, none, none, none, none, none, none] H10
    rcases Wg_grow D ha hw hb few12 with hnone | ⟨t, c, G, ht, htl, ht0⟩
    · rw [hnone kf] at hfv
      obtain rfl : fv = .non := hfv
      have h10 : H10 nl = some (.lst [.non, .non, .non]) := by
        rw [h10]
        show some (HO.lst [vO (Wg g ah wd bh (few + 4 * 0)), vO (Wg g ah wd bh (few + 4 * 1)), vO (Wg g ah wd bh (few + 4 * 2))]) = _
        rw [hnone 0, hnone 1, hnone 2]
        rfl
      refine q_when (b := true || false) (et_or (a := true) (et_test (ev_is (ev_op (ev_var (v := .non) rfl) ev_c rv_isN) (by rfl))) (fun z => by cases z)) (fun _ H11 e11 => ?_) (fun z => by cases z)
      exact s_ret (v := .bl (true && true)) (ev_andV (a := true) (b := true) (ev_is (ev_op (ev_var (v := .non) rfl) ev_c rv_isN) (by rfl)) (fun _ => ev_eq3 (ev_var rfl) (e11 _ _ h10))) fun H12 e12 => k H12
    · have h10 : H10 nl = some (.lst [.str (t 0), .str (t 1), .str (t 2)]) := by
        rw [h10]
        show some (HO.lst [vO (Wg g ah wd bh (few + 4 * 0)), vO (Wg g ah wd bh (few + 4 * 1)), vO (Wg g ah wd bh (few + 4 * 2))]) = _
        rw [ht 0, ht 1, ht 2]
        rfl
      have F10 := hfv.v (ht kf)
      have l0 : (t 0).length = c := by have := htl 0; omega
      have l1 : (t 1).length = c + G := by have := htl 1; omega
      have l2 : (t 2).length = c + 2 * G := htl 2
      have lk : (cds (t kf)).length = c + kf * G := by rw [← len_cds]; exact htl kf
      have s0 := X.short D (t 0) (ht 0)
      have s1 := X.short D (t 1) (ht 1)
      have s2 := X.short D (t 2) (ht 2)
      generalize hT : cds (t kf) = T at F10 lk
      refine q_when (b := false || false) (et_or (et_isN rfl F10.ne) (fun _ => et_test (ev_is (ev_op ev_c (ev_var rfl) (rv_isL (sq_of h10) rfl rfl)) (by rfl)))) (fun z => by cases z) fun _ H11 e11 => ?_
      have near : ∀ {σ : L2.St} {H1 : Hp} (j : Nat) {z : Str}, Ex H10 H1 → σ[13]? = some (some (.ref nl)) → ([V.str (t 0), .str (t 1), .str (t 2)] : List V)[j]? = some (.str z) → Ev (tOp (rIxL K) (tVar 13) (tC (.int (j : Int)))) σ H1 (.str z) := fun {σ H1} j {z} e h hz => ev_op (ev_var h) ev_c (rv_ixL (sq_of (e _ _ h10)) (atI_nat hz))
      have F11 := F10.ex e11
      refine q_asg (v := .int (G : Int)) (ev_is (ev_op (ev_lenS (near 1 e11 rfl rfl) (by omega)) (ev_lenS (near 0 e11 rfl rfl) (by omega)) rv_I0) (by rw [l0, l1]; congr 1; omega)) fun H12 e12 => ?_
      have E12 := e11.trans e12
      have F12 := F11.ex e12
      show (tSeq _ _) _ [some (.ref a), some (.ref dr), some (.ref tp), some (.str g.L), some (.ref pa), some (.str ah), some (.str wd), some (.str bh), v8, some (.int (few : Int)), some (.int ((4 : Nat) : Int)), some (.int ((few + 4 * kf : Nat) : Int)), none, some (.ref nl), some fv, some (.int (G : Int)), none, none, none, none, none, none, none] H12
      refine q_when (b := false || false) (et_or (et_test (ev_is (ev_op (ev_op (ev_lenS (near 2 E12 rfl rfl) (by omega)) (ev_lenS (near 1 E12 rfl rfl) (by omega)) rv_I0) (ev_var rfl) (rv_ne rfl)) ?_)) (fun _ => et_test (ev_is (ev_op (wv_size F12 rfl) (ev_op (ev_lenS (near 0 E12 rfl rfl) (by omega)) (ev_op (ev_op (ev_is (w := .int ((4 * kf : Nat) : Int)) (ev_op (ev_var rfl) (ev_var rfl) rv_I0) (by congr 1; omega)) (ev_var rfl) (fun H3 e3 Q q => ⟨4 * kf, 4, rfl, rfl, ⟨by decide, by decide⟩, q H3 (Ex.refl H3)⟩)) (ev_var rfl) (rv_I (.inl ⟨by omega, by omega⟩))) rv_I0) (rv_ne rfl)) ?_))) (fun z => by cases z) fun _ H13 e13 => ?_
      · rw [l1, l2, show ((c + 2 * G : Nat) : Int) - ((c + G : Nat) : Int) = (G : Int) by omega]
        simp
      · rw [lk, l0, Nat.mul_div_cancel_left kf (by decide : 0 < 4), ← Int.natCast_mul, ← Int.natCast_add]
        simp
      have E13 := E12.trans e13
      have F13 := F12.ex e13
      refine q_asg (wv_size F13 rfl) fun H14 e14 => ?_
      have E14 := E13.trans e14
      have F14 := F13.ex e14
      show (tSeq _ _) _ [some (.ref a), some (.ref dr), some (.ref tp), some (.str g.L), some (.ref pa), some (.str ah), some (.str wd), some (.str bh), v8, some (.int (few : Int)), some (.int ((4 : Nat) : Int)), some (.int ((few + 4 * kf : Nat) : Int)), none, some (.ref nl), some fv, some (.int (G : Int)), some (.int (T.length : Int)), none, none, none, none, none, none] H14
      refine q_when (b := false) ?_ (fun z => by cases z) fun _ H15 e15 => ?_
      · refine et_is (et_and (a := decide (V.int (G : Int) = V.int 0)) (et_test (ev_op (ev_var rfl) ev_c (rv_eq rfl))) fun hG => et_and (a := decide (V.str (t 0) = V.str (t 1))) (et_test (ev_op (near 0 E14 rfl rfl) (near 1 E14 rfl rfl) (rv_eq rfl))) fun _ => (?_ : EvT _ _ _ false)) (by simp)
        have hG0 : G = 0 := by
          have := V.int.inj (of_decide_eq_true hG)
          omega
        have hk0 := ht0 hG0 kf
        have hT0 : T = cds (t 0) := by rw [← hT, hk0]
        exact et_test (ev_is (ev_op (wv_part (z := t 0) F14 rfl (ev_c (v := .int ((0 : Nat) : Int))) (ev_var rfl) (Nat.zero_le _) (Nat.le_refl _) (by rw [hT0, ← len_cds]; omega) (by rw [List.drop_zero, Nat.sub_zero, List.take_length, hT0])) (near 0 E14 rfl rfl) (rv_ne rfl)) (by simp))
      have I15 := I10.ex (E14.trans e15)
      have F15 := F14.ex e15
      have capp : ∀ x y : Str, cds (x ++ y) = cds x ++ cds y := fun x y => Array.toList_append
      have mapp : ∀ x y : Str, (∀ c ∈ cds x, c ∈ cds g.L) → (∀ c ∈ cds y, c ∈ cds g.L) → ∀ c ∈ cds (x ++ y), c ∈ cds g.L := fun x y hx hy c hc => by
        rw [capp] at hc
        rcases List.mem_append.mp hc with hc | hc
        · exact hx c hc
        · exact hy c hc
      have la' : ah.length ≤ 3 := by rw [len_cds]; omega
      have lw' : wd.length ≤ 3 := by rw [len_cds]; omega
      have lb' : bh.length ≤ 3 := by rw [len_cds]; omega
      have far1 : 1 ≤ few + 4 * kf := by omega
      have farB : few + 4 * kf ≤ 1000000000000 := by omega
      have ek : Wg g ah wd bh (few + 4 * kf) = some (t kf) := ht kf
      generalize few + 4 * kf = far at far1 farB ek ⊢
      -- again
      show (tSeq _ _) _ [some (.ref a), some (.ref dr), some (.ref tp), some (.str g.L), some (.ref pa), some (.str ah), some (.str wd), some (.str bh), v8, some (.int (few : Int)), some (.int ((4 : Nat) : Int)), some (.int (far : Int)), none, some (.ref nl), some fv, some (.int (G : Int)), some (.int (T.length : Int)), none, none, none, none, none, none] H15
      refine q_asgP (ep_wf (CW := CW) (A := ah ++ wd) (n := far - 1) D I15 (by omega) (mapp _ _ ha hw) hw hb (by rw [capp, List.length_append]; omega) (by omega) (by omega) rfl (ev_op (ev_var rfl) (ev_var rfl) (rv_addS (by omega))) (ev_var rfl) (ev_is (ev_op (ev_var rfl) ev_c rv_I0) (by congr 1; omega)) (ev_var rfl)) fun va H16 e16 hva => ?_
      have A16 := hva.v (t := t kf) (by rw [Wg_again, show far - 1 + 1 = far by omega]; exact ek)
      have I16 := I15.ex e16
      have F16 := F15.ex e16
      show (tSeq _ _) _ [some (.ref a), some (.ref dr), some (.ref tp), some (.str g.L), some (.ref pa), some (.str ah), some (.str wd), some (.str bh), v8, some (.int (few : Int)), some (.int ((4 : Nat) : Int)), some (.int (far : Int)), none, some (.ref nl), some fv, some (.int (G : Int)), some (.int (T.length : Int)), some va, none, none, none, none, none] H16
      refine q_asgP (ep_wf (CW := CW) (B := wd ++ bh) (n := far - 1) D I16 (by omega) ha hw (mapp _ _ hw hb) (by omega) (by omega) (by rw [capp, List.length_append]; omega) rfl (ev_var rfl) (ev_var rfl) (ev_is (ev_op (ev_var rfl) ev_c rv_I0) (by congr 1; omega)) (ev_op (ev_var rfl) (ev_var rfl) (rv_addS (by omega)))) fun vl H17 e17 hvl => ?_
      have L17 := hvl.v (t := t kf) (by rw [Wg_late, show far - 1 + 1 = far by omega]; exact ek)
      have I17 := I16.ex e17
      have F17 := F16.ex e17
      show (tSeq _ _) _ [some (.ref a), some (.ref dr), some (.ref tp), some (.str g.L), some (.ref pa), some (.str ah), some (.str wd), some (.str bh), v8, some (.int (few : Int)), some (.int ((4 : Nat) : Int)), some (.int (far : Int)), none, some (.ref nl), some fv, some (.int (G : Int)), some (.int (T.length : Int)), some va, some vl, none, none, none, none] H17
      have hmod : far % 2 ≤ 1 := by omega
      have hfm : ((far : Int).fmod 2) = ((far % 2 : Nat) : Int) := by
        rw [Int.fmod_eq_emod_of_nonneg _ (by decide)]
        rfl
      have hrl : ∀ n, (repS wd n).length = n * wd.length := fun n => by rw [len_cds, cds_repS, pw_len, ← len_cds]
      have hr1 : (far % 2) * wd.length ≤ 1 * 3 := Nat.mul_le_mul hmod lw'
      have hr2 : wd.length * (far % 2) ≤ 3 * 1 := Nat.mul_le_mul lw' hmod
      have mrep : ∀ n, ∀ c ∈ cds (repS wd n), c ∈ cds g.L := fun n c hc => hw c (pw_mem hc)
      refine q_asgP (ep_wf (CW := CW) (W := repS wd 2) (B := repS wd (far % 2) ++ bh) (n := far / 2) D I17 (by omega) ha (mrep 2) (mapp _ _ (mrep _) hb) (by omega) (by rw [← len_cds, hrl]; omega) (by rw [capp, List.length_append, ← len_cds, ← len_cds, hrl]; omega) rfl (ev_var rfl) (ev_op (ev_var rfl) (ev_c (v := .int ((2 : Nat) : Int))) (rv_rep (by decide) (by omega))) (ev_op (ev_var rfl) ev_c (fun H3 e3 Q q => ⟨far, 2, rfl, rfl, ⟨by decide, by decide⟩, q H3 (Ex.refl H3)⟩)) (ev_op (ev_op (ev_var rfl) (ev_is (ev_op (ev_var rfl) ev_c (rv_I (by decide))) (by rw [hfm])) (rv_rep (by omega) (by omega))) (ev_var rfl) (rv_addS (by rw [hrl]; omega)))) fun vw H18 e18 hvw => ?_
      have W18 := hvw.v (t := t kf) (by rw [Wg_whole]; exact ek)
      have I18 := I17.ex e18
      have F18 := F17.ex e18
      have A18 := A16.ex (e17.trans e18)
      have L18 := L17.ex e18
      rw [hT] at A18 L18 W18
      clear A16 L17 hva hvl hvw F15 F16 F17 I15 I16 I17
      show (tSeq _ _) _ [some (.ref a), some (.ref dr), some (.ref tp), some (.str g.L), some (.ref pa), some (.str ah), some (.str wd), some (.str bh), v8, some (.int (few : Int)), some (.int ((4 : Nat) : Int)), some (.int (far : Int)), none, some (.ref nl), some fv, some (.int (G : Int)), some (.int (T.length : Int)), some va, some vl, some vw, none, none, none] H18
      refine q_forNU (K := K) (xs := [va, vl, vw]) (eu_tup (ea_cons (ev_var rfl) (ea_cons (ev_var rfl) (ea_cons (ev_var rfl) ea_nil))) (by show 3 ≤ 100000; decide)) (fun q i σ' H' => ∃ v12 v20 v21 v22, σ' = [some (.ref a), some (.ref dr), some (.ref tp), some (.str g.L), some (.ref pa), some (.str ah), some (.str wd), some (.str bh), v8, some (.int (few : Int)), some (.int ((4 : Nat) : Int)), some (.int (far : Int)), v12, some (.ref nl), some fv, some (.int (G : Int)), some (.int (T.length : Int)), some va, some vl, some vw, v20, v21, v22] ∧ Ex H18 H' ∧ H' q = some (.tup [va, vl, vw])) ?_ ?_ ?_ ?_
      · intro q H19 hq e19 h19
        exact ⟨none, none, none, none, rfl, e19, h19⟩
      · rintro q i σ' H' hi ⟨v12, v20, v21, v22, rfl, ex, hq⟩
        exact st_of hq
      · rintro q i x σ' H' hx ⟨v12, v20, v21, v22, rfl, ex, hq⟩
        have hV : WV CW H18 x T := by
          have hm := List.mem_of_getElem? hx
          simp only [List.mem_cons, List.not_mem_nil, or_false] at hm
          rcases hm with rfl | rfl | rfl
          · exact A18
          · exact L18
          · exact W18
        have V1 := hV.ex ex
        have F1 := F18.ex ex
        show (tSeq _ _) _ [some (.ref a), some (.ref dr), some (.ref tp), some (.str g.L), some (.ref pa), some (.str ah), some (.str wd), some (.str bh), v8, some (.int (few : Int)), some (.int ((4 : Nat) : Int)), some (.int (far : Int)), v12, some (.ref nl), some fv, some (.int (G : Int)), some (.int (T.length : Int)), some va, some vl, some vw, some x, v21, v22] H'
        refine q_when (b := false || false) (et_or (et_isN rfl V1.ne) (fun _ => et_test (ev_is (ev_op (wv_size V1 rfl) (ev_var rfl) (rv_ne rfl)) (by simp)))) (fun z => by cases z) fun _ H2 e2 => ?_
        have ex2 := ex.trans e2
        show (tFor _ _ _) _ [some (.ref a), some (.ref dr), some (.ref tp), some (.str g.L), some (.ref pa), some (.str ah), some (.str wd), some (.str bh), v8, some (.int (few : Int)), some (.int ((4 : Nat) : Int)), some (.int (far : Int)), v12, some (.ref nl), some fv, some (.int (G : Int)), some (.int (T.length : Int)), some va, some vl, some vw, some x, v21, v22] H2
        refine s_forR1 (ea_cons ev_c ea_nil) (n := 6) (by decide) (fun i σ' H' => ∃ v12 v21 v22, σ' = [some (.ref a), some (.ref dr), some (.ref tp), some (.str g.L), some (.ref pa), some (.str ah), some (.str wd), some (.str bh), v8, some (.int (few : Int)), some (.int ((4 : Nat) : Int)), some (.int (far : Int)), v12, some (.ref nl), some fv, some (.int (G : Int)), some (.int (T.length : Int)), some va, some vl, some vw, some x, v21, v22] ∧ Ex H18 H' ∧ H' q = some (.tup [va, vl, vw])) (fun H3 e3 => ⟨v12, v21, v22, rfl, ex2.trans e3, e3 _ _ (e2 _ _ hq)⟩) ?_ ?_
        · rintro j σ' H3 hj ⟨v12, v21, v22, rfl, ex3, hq3⟩
          have I3 := I18.ex ex3
          show (tSeq _ _) _ [some (.ref a), some (.ref dr), some (.ref tp), some (.str g.L), some (.ref pa), some (.str ah), some (.str wd), some (.str bh), v8, some (.int (few : Int)), some (.int ((4 : Nat) : Int)), some (.int (far : Int)), some (.int (j : Int)), some (.ref nl), some fv, some (.int (G : Int)), some (.int (T.length : Int)), some va, some vl, some vw, some x, v21, v22] H3
          refine q_asgP (Pv := fun v _ => ∃ pl : Nat, v = .int (pl : Int) ∧ (0 < T.length → pl < T.length) ∧ pl ≤ T.length) (ep_if (b := decide ((T.length : Int) > 0)) (et_test (ev_op (ev_var rfl) ev_c rv_I0)) (fun hb0 => ?_) (fun hb0 => (EvP.of (ev_c (v := .int ((0 : Nat) : Int)))).imp fun v _ _ hv => ⟨0, hv, fun h => h, Nat.zero_le _⟩)) ?_
          · have hpos : 0 < T.length := by have := of_decide_eq_true hb0; omega
            exact (ep_place I3.d rfl rfl hpos).imp fun v H2 _ ⟨pl, h1, h2⟩ => ⟨pl, h1, fun _ => h2, Nat.le_of_lt h2⟩
          rintro _ H4 e4 ⟨pl, rfl, p1, p2⟩
          have ex4 := ex3.trans e4
          show (tSeq _ _) _ [some (.ref a), some (.ref dr), some (.ref tp), some (.str g.L), some (.ref pa), some (.str ah), some (.str wd), some (.str bh), v8, some (.int (few : Int)), some (.int ((4 : Nat) : Int)), some (.int (far : Int)), some (.int (j : Int)), some (.ref nl), some fv, some (.int (G : Int)), some (.int (T.length : Int)), some va, some vl, some vw, some x, some (.int (pl : Int)), v22] H4
          refine q_asg (v := .int ((min (pl + 5) T.length : Nat) : Int)) (ev_min2 (ev_is (ev_op (ev_var rfl) ev_c rv_I0) (by congr 1)) (ev_var rfl)) fun H5 e5 => ?_
          have ex5 := ex4.trans e5
          have V5 := hV.ex ex5
          have F5 := F18.ex ex5
          show (tSeq _ _) _ [some (.ref a), some (.ref dr), some (.ref tp), some (.str g.L), some (.ref pa), some (.str ah), some (.str wd), some (.str bh), v8, some (.int (few : Int)), some (.int ((4 : Nat) : Int)), some (.int (far : Int)), some (.int (j : Int)), some (.ref nl), some fv, some (.int (G : Int)), some (.int (T.length : Int)), some va, some vl, some vw, some x, some (.int (pl : Int)), some (.int ((min (pl + 5) T.length : Nat) : Int))] H5
          refine q_when (b := false) ?_ (fun z => by cases z) fun _ H6 e6 => ?_
          · refine et_is (et_and (a := decide ((T.length : Int) > 0)) (et_test (ev_op (ev_var rfl) ev_c rv_I0)) fun hb0 => (?_ : EvT _ _ _ false)) (by simp)
            have hpos : 0 < T.length := by have := of_decide_eq_true hb0; omega
            exact et_test (ev_is (ev_op (wv_sign (z := ⟨((T.drop pl).take 1).toArray⟩) V5 rfl (ev_var rfl) (p1 hpos) rfl) (wv_sign (z := ⟨((T.drop pl).take 1).toArray⟩) F5 rfl (ev_var rfl) (p1 hpos) rfl) (rv_ne rfl)) (by simp))
          have V6 := V5.ex e6
          have F6 := F5.ex e6
          refine s_when (b := false) (et_test (ev_is (ev_op (wv_part (z := ⟨((T.drop pl).take (min (pl + 5) T.length - pl)).toArray⟩) V6 rfl (ev_var rfl) (ev_var rfl) (by omega) (by omega) (by omega) rfl) (wv_part (z := ⟨((T.drop pl).take (min (pl + 5) T.length - pl)).toArray⟩) F6 rfl (ev_var rfl) (ev_var rfl) (by omega) (by omega) (by omega) rfl) (rv_ne rfl)) (by simp))) (fun z => by cases z) fun _ H7 e7 => ⟨_, _, _, rfl, (ex5.trans e6).trans e7, ((((e4.trans e5).trans e6).trans e7) _ _ hq3)⟩
        · rintro σ' H3 ⟨v12, v21, v22, rfl, ex3, hq3⟩
          exact ⟨v12, some x, v21, v22, rfl, ex3, hq3⟩
      · rintro q σ' H19 ⟨v12, v20, v21, v22, rfl, ex, hq⟩
        have F1 := F18.ex ex
        refine s_ret (v := .bl true) (ev_is (ev_orV (a := decide (V.int (T.length : Int) = V.int 0)) (b := true) (ev_op (ev_var rfl) ev_c (rv_eq rfl)) fun hne => ?_) (by simp)) fun H20 e20 => k H20
        have hpos : 0 < T.length := by
          rcases Nat.eq_zero_or_pos T.length with z | z
          · rw [z] at hne
            cases hne
          · exact z
        have h1 : Ev (tOp (rI0 fun i j => .int (i - j)) (tVar 16) (tC (.int 1))) [some (.ref a), some (.ref dr), some (.ref tp), some (.str g.L), some (.ref pa), some (.str ah), some (.str wd), some (.str bh), v8, some (.int (few : Int)), some (.int ((4 : Nat) : Int)), some (.int (far : Int)), v12, some (.ref nl), some fv, some (.int (G : Int)), some (.int (T.length : Int)), some va, some vl, some vw, v20, v21, v22] H19 (.int ((T.length - 1 : Nat) : Int)) := ev_is (ev_op (ev_var rfl) ev_c rv_I0) (by congr 1; omega)
        exact ev_is (ev_op (wv_part (z := ⟨((T.drop (T.length - 1)).take 1).toArray⟩) F1 rfl h1 (ev_var rfl) (by omega) (Nat.le_refl _) (by omega) (by rw [show T.length - (T.length - 1) = 1 by omega])) (wv_sign (z := ⟨((T.drop (T.length - 1)).take 1).toArray⟩) F1 rfl h1 (by omega) rfl) (rv_eq rfl)) (by simp)
end
end KX
end
section
set_option Elab.async false
set_option linter.all false
set_option maxRecDepth 100000
set_option maxHeartbeats 0
/-! Ha1: what is looked at behind the top; the run of the top. -/
namespace KX
open PySem PySem.W PySem.Calls PyProof.Rows L2
abbrev R17 : OpenRow := OpenLaw.row PySem.Challenge.rw_passtexts_k17_whole_powers_written
abbrev qv : Program := view R17.prog [75]
def nm0 : List PySem.Str := ["_wall", "__name__", "PassError", "BadProgram", "BadWord", "BadNumber", "NotPlain", "Pieces", "is_held", "is_held_pieces", "SMALL", "SIGNS"]
def nm1 : List PySem.Str := ["is_number", "is_made_of", "is_text", "is_word", "check_word", "MOST_LETTERS", "MOST_STATES", "MOST_REGISTERS", "first_wrong", "are_letters", "are_registers", "are_firsts"]
def nm2 : List PySem.Str := ["are_steps", "is_place", "is_state", "is_step", "are_rows", "is_row", "is_held_parts", "are_ends", "row_of", "put_text", "text_of", "filled"]
def nm3 : List PySem.Str := ["names_in", "names_in_rows", "first_double", "Program", "all_rows", "check_program", "is_plain", "behind_word", "once", "MOST_TIMES", "MOST_SIGNS", "Written"]
def nm4 : List PySem.Str := ["written_for", "Rounds", "through", "put_together", "_law_cell_at", "_law_draw", "_law_number", "_law_next", "_law_pick", "_law_rows", "_law_end", "_law_program"]
def nm5 : List PySem.Str := ["_law_write", "_law_run", "_law_made", "_law_word", "_law_is_as"]
def nmA : List PySem.Str := nm0 ++ nm1 ++ nm2 ++ nm3 ++ nm4 ++ nm5
def fn0 : List He.DefD := [⟨("is_number", none), "is_number", "is_number", defArgs s_is_number, defBody s_is_number, defScope s_is_number, [], []⟩, ⟨("is_made_of", none), "is_made_of", "is_made_of", defArgs s_is_made_of, defBody s_is_made_of, defScope s_is_made_of, [], []⟩, ⟨("is_text", none), "is_text", "is_text", defArgs s_is_text, defBody s_is_text, defScope s_is_text, [], []⟩, ⟨("is_word", none), "is_word", "is_word", defArgs s_is_word, defBody s_is_word, defScope s_is_word, [], []⟩, ⟨("is_state", none), "is_state", "is_state", defArgs s_is_state, defBody s_is_state, defScope s_is_state, [], []⟩, ⟨("is_row", none), "is_row", "is_row", defArgs s_is_row, defBody s_is_row, defScope s_is_row, [], []⟩, ⟨("are_rows", none), "are_rows", "are_rows", defArgs s_are_rows, defBody s_are_rows, defScope s_are_rows, [], []⟩, ⟨("is_place", none), "is_place", "is_place", defArgs s_is_place, defBody s_is_place, defScope s_is_place, [], []⟩, ⟨("is_step", none), "is_step", "is_step", defArgs s_is_step, defBody s_is_step, defScope s_is_step, [], []⟩, ⟨("are_steps", none), "are_steps", "are_steps", defArgs s_are_steps, defBody s_are_steps, defScope s_are_steps, [], []⟩, ⟨("are_firsts", none), "are_firsts", "are_firsts", defArgs s_are_firsts, defBody s_are_firsts, defScope s_are_firsts, [], []⟩, ⟨("are_ends", none), "are_ends", "are_ends", defArgs s_are_ends, defBody s_are_ends, defScope s_are_ends, [], []⟩, ⟨("are_letters", none), "are_letters", "are_letters", defArgs s_are_letters, defBody s_are_letters, defScope s_are_letters, [], []⟩, ⟨("are_registers", none), "are_registers", "are_registers", defArgs s_are_registers, defBody s_are_registers, defScope s_are_registers, [], []⟩]
def fn1 : List He.DefD := [⟨("first_wrong", none), "first_wrong", "first_wrong", defArgs s_first_wrong, defBody s_first_wrong, defScope s_first_wrong, [], []⟩, ⟨("check_word", none), "check_word", "check_word", defArgs s_check_word, defBody s_check_word, defScope s_check_word, [], []⟩, ⟨("row_of", none), "row_of", "row_of", defArgs s_row_of, defBody s_row_of, defScope s_row_of, [], []⟩, ⟨("put_text", none), "put_text", "put_text", defArgs s_put_text, defBody s_put_text, defScope s_put_text, [], []⟩, ⟨("text_of", none), "text_of", "text_of", defArgs s_text_of, defBody s_text_of, defScope s_text_of, [], []⟩, ⟨("filled", none), "filled", "filled", defArgs s_filled, defBody s_filled, defScope s_filled, [], []⟩, ⟨("names_in", none), "names_in", "names_in", defArgs s_names_in, defBody s_names_in, defScope s_names_in, [], []⟩, ⟨("names_in_rows", none), "names_in_rows", "names_in_rows", defArgs s_names_in_rows, defBody s_names_in_rows, defScope s_names_in_rows, [], []⟩, ⟨("first_double", none), "first_double", "first_double", defArgs s_first_double, defBody s_first_double, defScope s_first_double, [], []⟩, ⟨("all_rows", none), "all_rows", "all_rows", defArgs s_all_rows, defBody s_all_rows, defScope s_all_rows, [], []⟩, ⟨("check_program", none), "check_program", "check_program", defArgs s_check_program, defBody s_check_program, defScope s_check_program, [], []⟩, ⟨("is_plain", none), "is_plain", "is_plain", defArgs s_is_plain, defBody s_is_plain, defScope s_is_plain, [], []⟩, ⟨("behind_word", none), "behind_word", "behind_word", defArgs s_behind_word, defBody s_behind_word, defScope s_behind_word, [], []⟩, ⟨("once", none), "once", "once", defArgs s_once, defBody s_once, defScope s_once, [], []⟩]
def fn2 : List He.DefD := [⟨("written_for", none), "written_for", "written_for", defArgs s_written_for, defBody s_written_for, defScope s_written_for, [], []⟩, ⟨("through", none), "through", "through", defArgs s_through, defBody s_through, defScope s_through, [], []⟩, ⟨("put_together", none), "put_together", "put_together", defArgs s_put_together, defBody s_put_together, defScope s_put_together, [], []⟩, ⟨("_law_cell_at", none), "_law_cell_at", "_law_cell_at", defArgs s_law_cell_at, defBody s_law_cell_at, defScope s_law_cell_at, [], []⟩, ⟨("_law_draw", none), "_law_draw", "_law_draw", defArgs s_law_draw, defBody s_law_draw, defScope s_law_draw, [], []⟩, ⟨("_law_number", none), "_law_number", "_law_number", defArgs s_law_number, defBody s_law_number, defScope s_law_number, [], []⟩, ⟨("_law_next", none), "_law_next", "_law_next", defArgs s_law_next, defBody s_law_next, defScope s_law_next, [], []⟩, ⟨("_law_pick", none), "_law_pick", "_law_pick", defArgs s_law_pick, defBody s_law_pick, defScope s_law_pick, [], []⟩, ⟨("_law_rows", none), "_law_rows", "_law_rows", defArgs s_law_rows, defBody s_law_rows, defScope s_law_rows, [], []⟩, ⟨("_law_end", none), "_law_end", "_law_end", defArgs s_law_end, defBody s_law_end, defScope s_law_end, [], []⟩, ⟨("_law_program", none), "_law_program", "_law_program", defArgs s_law_program, defBody s_law_program, defScope s_law_program, [], []⟩, ⟨("_law_write", none), "_law_write", "_law_write", defArgs s_law_write, defBody s_law_write, defScope s_law_write, [], []⟩, ⟨("_law_run", none), "_law_run", "_law_run", defArgs s_law_run, defBody s_law_run, defScope s_law_run, [], []⟩, ⟨("_law_made", none), "_law_made", "_law_made", defArgs s_law_made, defBody s_law_made, defScope s_law_made, [], []⟩]
def fn3 : List He.DefD := [⟨("_law_word", none), "_law_word", "_law_word", defArgs s_law_word, defBody s_law_word, defScope s_law_word, [], []⟩, ⟨("_law_is_as", none), "_law_is_as", "_law_is_as", defArgs s_law_is_as, defBody s_law_is_as, defScope s_law_is_as, [], []⟩, ⟨("law", none), "law", "law", defArgs s_law, defBody s_law, defScope s_law, [], []⟩, ⟨("is_held_parts", none), "is_held", "is_held", defArgs s_is_held, defBody s_is_held, defScope s_is_held, [], []⟩, ⟨("is_held_pieces", none), "is_held", "is_held", defArgs s_is_held_pieces, defBody s_is_held_pieces, defScope s_is_held_pieces, [], []⟩, ⟨("Program", some "__init__"), "__init__", "Program.__init__", defArgs s_Program__init, defBody s_Program__init, defScope s_Program__init, [], []⟩, ⟨("Program", some "_put"), "_put", "Program._put", defArgs s_Program_put, defBody s_Program_put, defScope s_Program_put, [], []⟩, ⟨("Program", some "after"), "after", "Program.after", defArgs s_Program_after, defBody s_Program_after, defScope s_Program_after, [], []⟩, ⟨("Pieces", some "__init__"), "__init__", "Pieces.__init__", defArgs s_Pieces__init, defBody s_Pieces__init, defScope s_Pieces__init, [], []⟩, ⟨("Pieces", some "text"), "text", "Pieces.text", defArgs s_Pieces_text, defBody s_Pieces_text, defScope s_Pieces_text, [], []⟩, ⟨("Pieces", some "joined"), "joined", "Pieces.joined", defArgs s_Pieces_joined, defBody s_Pieces_joined, defScope s_Pieces_joined, [], []⟩, ⟨("Pieces", some "row_of"), "row_of", "Pieces.row_of", defArgs s_Pieces_row_of, defBody s_Pieces_row_of, defScope s_Pieces_row_of, [], []⟩, ⟨("Pieces", some "held_behind"), "held_behind", "Pieces.held_behind", defArgs s_Pieces_held_behind, defBody s_Pieces_held_behind, defScope s_Pieces_held_behind, [], []⟩, ⟨("Pieces", some "twice"), "twice", "Pieces.twice", defArgs s_Pieces_twice, defBody s_Pieces_twice, defScope s_Pieces_twice, [], []⟩]
def fn4 : List He.DefD := [⟨("Pieces", some "within"), "within", "Pieces.within", defArgs s_Pieces_within, defBody s_Pieces_within, defScope s_Pieces_within, [], []⟩, ⟨("Written", some "__init__"), "__init__", "Written.__init__", defArgs s_Written__init, defBody s_Written__init, defScope s_Written__init, [], []⟩, ⟨("Written", some "size"), "size", "Written.size", defArgs s_Written_size, defBody s_Written_size, defScope s_Written_size, [], []⟩, ⟨("Written", some "sign"), "sign", "Written.sign", defArgs s_Written_sign, defBody s_Written_sign, defScope s_Written_sign, [], []⟩, ⟨("Written", some "part"), "part", "Written.part", defArgs s_Written_part, defBody s_Written_part, defScope s_Written_part, [], []⟩, ⟨("Rounds", some "__init__"), "__init__", "Rounds.__init__", defArgs s_Rounds__init, defBody s_Rounds__init, defScope s_Rounds__init, [], []⟩, ⟨("Rounds", some "last_state"), "last_state", "Rounds.last_state", defArgs s_Rounds_last_state, defBody s_Rounds_last_state, defScope s_Rounds_last_state, [], []⟩, ⟨("Rounds", some "moves_ahead"), "moves_ahead", "Rounds.moves_ahead", defArgs s_Rounds_moves_ahead, defBody s_Rounds_moves_ahead, defScope s_Rounds_moves_ahead, [], []⟩, ⟨("Rounds", some "moves_of_ring"), "moves_of_ring", "Rounds.moves_of_ring", defArgs s_Rounds_moves_of_ring, defBody s_Rounds_moves_of_ring, defScope s_Rounds_moves_of_ring, [], []⟩, ⟨("Rounds", some "moves_behind"), "moves_behind", "Rounds.moves_behind", defArgs s_Rounds_moves_behind, defBody s_Rounds_moves_behind, defScope s_Rounds_moves_behind, [], []⟩]
def fnA : List He.DefD := fn0 ++ fn1 ++ fn2 ++ fn3 ++ fn4
def fa0 : List He.Fa := [.glo "is_number", .glo "is_made_of", .glo "is_text", .glo "is_word", .glo "is_state", .glo "is_row", .glo "are_rows", .glo "is_place", .glo "is_step", .glo "are_steps", .glo "are_firsts", .glo "are_ends", .glo "are_letters", .glo "are_registers"]
def fa1 : List He.Fa := [.glo "first_wrong", .glo "check_word", .glo "row_of", .glo "put_text", .glo "text_of", .glo "filled", .glo "names_in", .glo "names_in_rows", .glo "first_double", .glo "all_rows", .glo "check_program", .glo "is_plain", .glo "behind_word", .glo "once"]
def fa2 : List He.Fa := [.glo "written_for", .glo "through", .glo "put_together", .glo "_law_cell_at", .glo "_law_draw", .glo "_law_number", .glo "_law_next", .glo "_law_pick", .glo "_law_rows", .glo "_law_end", .glo "_law_program", .glo "_law_write", .glo "_law_run", .glo "_law_made"]
def fa3 : List He.Fa := [.glo "_law_word", .glo "_law_is_as", .glo "law", .glo "is_held_parts", .glo "is_held_pieces", .glo "Program", .glo "Pieces", .glo "Written", .glo "Rounds", .free "all", .free "bool", .free "dict", .free "divmod", .free "enumerate"]
def fa4 : List He.Fa := [.free "int", .free "isinstance", .free "len", .free "list", .free "max", .free "min", .free "range", .free "set", .free "sorted", .free "str", .free "tuple", .free "zip", .str "SMALL" "abcdefghijklmnopqrstuvwxyz", .str "SIGNS" "0123456789abcdefghijklmnopqrstuvwxyz"]
def fa5 : List He.Fa := [.int "MOST_LETTERS" 4, .int "MOST_STATES" 300, .int "MOST_REGISTERS" 60, .int "MOST_TIMES" 1000000000000, .int "MOST_SIGNS" 1000, .cls "Program", .mkr "Program", .noat "Program" "letters", .noat "Program" "states", .noat "Program" "registers", .noat "Program" "firsts", .noat "Program" "steps", .noat "Program" "ends", .cls "Pieces"]
def fa6 : List He.Fa := [.mkr "Pieces", .noat "Pieces" "told", .noat "Pieces" "sizes", .cls "Written", .mkr "Written", .noat "Written" "told", .noat "Written" "sizes", .noat "Written" "number", .cls "Rounds", .mkr "Rounds", .noat "Rounds" "states", .noat "Rounds" "moves", .noat "Rounds" "start", .noat "Rounds" "turns"]
def fa7 : List He.Fa := [.noat "Rounds" "rest", .meth "Program" "_put", .meth "Program" "after", .meth "Pieces" "text", .meth "Pieces" "joined", .meth "Pieces" "row_of", .meth "Pieces" "held_behind", .meth "Pieces" "twice", .meth "Pieces" "within", .meth "Written" "size", .meth "Written" "sign", .meth "Written" "part", .meth "Rounds" "last_state", .meth "Rounds" "moves_ahead"]
def fa8 : List He.Fa := [.meth "Rounds" "moves_of_ring", .meth "Rounds" "moves_behind"]
def faA : List He.Fa := fa0 ++ fa1 ++ fa2 ++ fa3 ++ fa4 ++ fa5 ++ fa6 ++ fa7 ++ fa8
def hook17 : PySem.W.Hook := He.hookD 6 faA fnA
end KX
end
section
set_option Elab.async false
set_option linter.all false
set_option maxRecDepth 100000
set_option maxHeartbeats 0
/-! Ha2: the own hook; the run of the top, looked at. -/
namespace KX
open PySem PySem.W PySem.Calls PyProof.Rows L2
/-- what else is asked of the class of programs -/
def exB (K : PySem.W.Frag) : Bool :=
  decide (PySem.W.findIn K (.ref (He.ga K "Program")) "__class__" = some (some (.builtin "object.__class__"))) &&
  (decide (PySem.W.specialIn K (.builtin "object.__class__") "__get__" = some (some (.builtin "getset_descriptor.__get__"))) &&
  (decide (PySem.W.takesIn K (.builtin "object.__class__") = some true) &&
   decide (PySem.W.mroIn K (He.ga K "Program") (.type "object") = some true)))
def obsP (g : Addr → Option Obj) : He.AlD × Bool := (He.obsDG 4 faA fnA g, exB (He.frG g (He.asD g 4)))
section
theorem obsP_d {g : Addr → Option Obj} (e : obsP g = (He.valD fnA, true)) : He.SaysD faA fnA (He.frG g (He.asD g 4)) ∧ exB (He.frG g (He.asD g 4)) = true := by
  delta obsP at e
  obtain ⟨e1, e2⟩ := Prod.mk.inj e
  delta He.obsDG at e1
  refine ⟨?_, e2⟩
  delta He.SaysD
  exact e1
def hookP : PySem.W.Hook where
  α := He.AlD × Bool
  obs := fun s => obsP s.heap.get?
  val := fun _ => (He.valD fnA, true)
  says := fun _ h => ∃ K : PySem.W.Frag, K.In h ∧ He.SaysD faA fnA K ∧ exB K = true
  of := fun _ _ e => ⟨_, He.frG_in, obsP_d e⟩
  keeps := fun _ _ _ ⟨K, hK, c⟩ k => ⟨K, PySem.W.Frag.In.keeps hK k, c⟩
end
theorem obsP_eq {g : Addr → Option Obj} {s : Shared} (h : ∀ a, g a = s.heap.get? a) : obsP g = hookP.obs s := by
  have e : g = s.heap.get? := funext h
  subst e
  with_reducible (delta hookP; exact Eq.refl (obsP s.heap.get?))
end KX
end
section
set_option Elab.async false
set_option linter.all false
set_option maxRecDepth 100000
set_option maxHeartbeats 0
/-! Ha5: the run of the top, looked at by the own hook. -/
namespace KX
open PySem PySem.W PySem.Calls PyProof.Rows L2
theorem run17 (w : World) : HandSHeadRun.RunEq R17 qv hookP (fun s => obsP (HandSHeadRun.getT s)) 6000 nmA w := by
  intro os
  kernel_rfl
end KX
end
section
set_option Elab.async false
set_option linter.all false
set_option maxRecDepth 100000
set_option maxHeartbeats 8000000
/-! Ha3: each def, read off the hook. -/
namespace KX
open PySem PySem.Spec PyProof.Rows L2 Evl
def Mdf (K : PySem.W.Frag) (C : Addr) (m qual : Str) (st : Stmt) (ps : List Str) : Prop := ∃ (f : Addr) (fd : FuncData), Fun K m qual st f fd ∧ Meth K C m f ∧ Binds K fd ps []
def Cdf (K : PySem.W.Frag) (mg : Str → Option Value) (x : Str) (C : Addr) (qual : Str) (st : Stmt) (ps : List Str) : Prop := mg x = some (.ref C) ∧ ∃ (f : Addr) (fd : FuncData), Fun K "__init__" qual st f fd ∧ Mk K C f ∧ Binds K fd ps []
/-- a def that the module names x, of its own name y -/
def DfA (K : PySem.W.Frag) (mg : Str → Option Value) (x y : Str) (st : Stmt) (ps : List Str) : Prop := ∃ (f : Addr) (fd : FuncData), Fun K y y st f fd ∧ mg x = some (.ref f) ∧ Binds K fd ps []
theorem Has.mkA {P : Program} {w : World} {K : PySem.W.Frag} {mg : Str → Option Value} {base : Heap} {x y : Str} {st : Stmt} {ps : List Str} {k : Nat} {sp : Sp} (D : DfA K mg x y st ps)
    (h : ∀ (f : Addr) (fd : FuncData), Fun K y y st f fd → FnOk P w K mg base CX0 k f fd ps sp) : Has P w K mg base x k ps sp := by
  obtain ⟨f, fd, F, hm, hb⟩ := D
  exact ⟨f, fd, h f fd F, hm, F.kp, hb⟩
theorem fun_of {K : PySem.W.Frag} {x qual : Str} {st : Stmt} {f : Addr} {fd : FuncData} {kws : List (Str × V)} (F : L2.FunD K x qual (defArgs st) (defBody st) (defScope st) [] kws f fd) : Fun K x qual st f fd := by
  obtain ⟨oc, od, dV, kV, doc, pm, an, cdv, ct, osl, e, lk, hcd, hD, hK⟩ := F.ex
  rcases hD with ⟨_, rfl⟩ | ⟨z, _⟩
  · exact ⟨⟨oc, od, kV, doc, pm, an, cdv, ct, osl, e, lk, hcd⟩, F.kp⟩
  · exact absurd rfl z
abbrev BndsN (x qual : Str) (st : Stmt) (ps : List Str) : Prop := ∀ (kV doc pm : Value) (an : Option Addr) (cdv ct : Value) (us : List Value), us.length = ps.length → bindArgs (PySem.W.fnOf x qual (defArgs st) (defBody st) (defScope st) .none kV doc pm an cdv ct) ⟨us, []⟩ = pure (ps.zip us)
theorem df_of {K : PySem.W.Frag} {mg : Str → Option Value} {x y : Str} {st : Stmt} {ps : List Str} (c : He.SaysD faA fnA K) (i : Nat) (hi : fnA[i]? = some ⟨(x, none), y, y, defArgs st, defBody st, defScope st, [], []⟩) (g : mg x = some (.ref (He.ga K x))) (b : BndsN y y st ps) : DfA K mg x y st ps := by
  obtain ⟨fd, F⟩ := He.SaysD.def_ c i hi
  exact ⟨_, fd, fun_of F, g, F.bindsN b⟩
theorem mdf_of {K : PySem.W.Frag} {cn m qual : Str} {st : Stmt} {ps : List Str} (c : He.SaysD faA fnA K) (i : Nat) (hi : fnA[i]? = some ⟨(cn, some m), m, qual, defArgs st, defBody st, defScope st, [], []⟩) (M : Meth K (He.ga K cn) m (He.ma K (He.ga K cn) m)) (b : BndsN m qual st ps) : Mdf K (He.ga K cn) m qual st ps := by
  obtain ⟨fd, F⟩ := He.SaysD.def_ c i hi
  exact ⟨_, fd, fun_of F, M, F.bindsN b⟩
theorem cdf_of {K : PySem.W.Frag} {mg : Str → Option Value} {cn qual : Str} {st : Stmt} {ps : List Str} (c : He.SaysD faA fnA K) (i : Nat) (hi : fnA[i]? = some ⟨(cn, some "__init__"), "__init__", qual, defArgs st, defBody st, defScope st, [], []⟩) (g : mg cn = some (.ref (He.ga K cn))) (M : Mk K (He.ga K cn) (He.ma K (He.ga K cn) "__init__")) (b : BndsN "__init__" qual st ps) : Cdf K mg cn (He.ga K cn) qual st ps := by
  obtain ⟨fd, F⟩ := He.SaysD.def_ c i hi
  exact ⟨g, _, fd, fun_of F, M, F.bindsN b⟩
section
variable {K : PySem.W.Frag} {h : Heap} {mg : Str → Option Value} (c : He.SaysD faA fnA K) (X : K.In h) (G : h.Ns mainGlobals mg)
include c
theorem r_PC : PgC K (He.ga K "Program") := ⟨He.cls_ok (c.fact 75), He.noat_ok (c.fact 77), He.noat_ok (c.fact 78), He.noat_ok (c.fact 79), He.noat_ok (c.fact 80), He.noat_ok (c.fact 81), He.noat_ok (c.fact 82)⟩
theorem r_PP : PcC K (He.ga K "Pieces") := ⟨He.cls_ok (c.fact 83), He.noat_ok (c.fact 85), He.noat_ok (c.fact 86)⟩
theorem r_WC : WtC K (He.ga K "Written") := ⟨He.cls_ok (c.fact 87), He.noat_ok (c.fact 89), He.noat_ok (c.fact 90), He.noat_ok (c.fact 91)⟩
theorem r_RC : RdC K (He.ga K "Rounds") := ⟨He.cls_ok (c.fact 92), He.noat_ok (c.fact 94), He.noat_ok (c.fact 95), He.noat_ok (c.fact 96), He.noat_ok (c.fact 97), He.noat_ok (c.fact 98)⟩
include X G
theorem r_Z : Zs mg (He.ga K "Program") := ⟨He.glo_ok X G (c.fact 47), He.free_ok X G (c.fact 51), He.free_ok X G (c.fact 52), He.free_ok X G (c.fact 53), He.free_ok X G (c.fact 54), He.free_ok X G (c.fact 55), He.free_ok X G (c.fact 56), He.free_ok X G (c.fact 57), He.free_ok X G (c.fact 58), He.free_ok X G (c.fact 59), He.free_ok X G (c.fact 60), He.free_ok X G (c.fact 61), He.free_ok X G (c.fact 62), He.free_ok X G (c.fact 63), He.free_ok X G (c.fact 64), He.free_ok X G (c.fact 65), He.free_ok X G (c.fact 66), He.free_ok X G (c.fact 67), He.str_ok X G (c.fact 68), He.str_ok X G (c.fact 69), He.int_ok X G (c.fact 70), He.int_ok X G (c.fact 71), He.int_ok X G (c.fact 72), He.int_ok X G (c.fact 73), He.int_ok X G (c.fact 74)⟩
theorem r_d_is_number : DfA K mg "is_number" "is_number" s_is_number ["thing"] := df_of c 0 rfl (He.glo_ok X G (c.fact 0)) fun _ _ _ _ _ _ us hl => match us, hl with
  | [_], _ => rfl
theorem r_d_is_made_of : DfA K mg "is_made_of" "is_made_of" s_is_made_of ["thing", "signs"] := df_of c 1 rfl (He.glo_ok X G (c.fact 1)) fun _ _ _ _ _ _ us hl => match us, hl with
  | [_, _], _ => rfl
theorem r_d_is_text : DfA K mg "is_text" "is_text" s_is_text ["thing"] := df_of c 2 rfl (He.glo_ok X G (c.fact 2)) fun _ _ _ _ _ _ us hl => match us, hl with
  | [_], _ => rfl
theorem r_d_is_word : DfA K mg "is_word" "is_word" s_is_word ["thing"] := df_of c 3 rfl (He.glo_ok X G (c.fact 3)) fun _ _ _ _ _ _ us hl => match us, hl with
  | [_], _ => rfl
theorem r_d_is_state : DfA K mg "is_state" "is_state" s_is_state ["state", "states"] := df_of c 4 rfl (He.glo_ok X G (c.fact 4)) fun _ _ _ _ _ _ us hl => match us, hl with
  | [_, _], _ => rfl
theorem r_d_is_row : DfA K mg "is_row" "is_row" s_is_row ["row", "known"] := df_of c 5 rfl (He.glo_ok X G (c.fact 5)) fun _ _ _ _ _ _ us hl => match us, hl with
  | [_, _], _ => rfl
theorem r_d_are_rows : DfA K mg "are_rows" "are_rows" s_are_rows ["rows", "known"] := df_of c 6 rfl (He.glo_ok X G (c.fact 6)) fun _ _ _ _ _ _ us hl => match us, hl with
  | [_, _], _ => rfl
theorem r_d_is_place : DfA K mg "is_place" "is_place" s_is_place ["key", "letters", "states"] := df_of c 7 rfl (He.glo_ok X G (c.fact 7)) fun _ _ _ _ _ _ us hl => match us, hl with
  | [_, _, _], _ => rfl
theorem r_d_is_step : DfA K mg "is_step" "is_step" s_is_step ["step", "states", "known"] := df_of c 8 rfl (He.glo_ok X G (c.fact 8)) fun _ _ _ _ _ _ us hl => match us, hl with
  | [_, _, _], _ => rfl
theorem r_d_are_steps : DfA K mg "are_steps" "are_steps" s_are_steps ["steps", "letters", "states", "known"] := df_of c 9 rfl (He.glo_ok X G (c.fact 9)) fun _ _ _ _ _ _ us hl => match us, hl with
  | [_, _, _, _], _ => rfl
theorem r_d_are_firsts : DfA K mg "are_firsts" "are_firsts" s_are_firsts ["firsts", "known"] := df_of c 10 rfl (He.glo_ok X G (c.fact 10)) fun _ _ _ _ _ _ us hl => match us, hl with
  | [_, _], _ => rfl
theorem r_d_are_ends : DfA K mg "are_ends" "are_ends" s_are_ends ["ends", "states", "known"] := df_of c 11 rfl (He.glo_ok X G (c.fact 11)) fun _ _ _ _ _ _ us hl => match us, hl with
  | [_, _, _], _ => rfl
theorem r_d_are_letters : DfA K mg "are_letters" "are_letters" s_are_letters ["letters"] := df_of c 12 rfl (He.glo_ok X G (c.fact 12)) fun _ _ _ _ _ _ us hl => match us, hl with
  | [_], _ => rfl
theorem r_d_are_registers : DfA K mg "are_registers" "are_registers" s_are_registers ["registers"] := df_of c 13 rfl (He.glo_ok X G (c.fact 13)) fun _ _ _ _ _ _ us hl => match us, hl with
  | [_], _ => rfl
theorem r_d_first_wrong : DfA K mg "first_wrong" "first_wrong" s_first_wrong ["letters", "states", "registers", "firsts", "steps", "ends"] := df_of c 14 rfl (He.glo_ok X G (c.fact 14)) fun _ _ _ _ _ _ us hl => match us, hl with
  | [_, _, _, _, _, _], _ => rfl
theorem r_d_check_word : DfA K mg "check_word" "check_word" s_check_word ["letters", "text"] := df_of c 15 rfl (He.glo_ok X G (c.fact 15)) fun _ _ _ _ _ _ us hl => match us, hl with
  | [_, _], _ => rfl
theorem r_d_row_of : DfA K mg "row_of" "row_of" s_row_of ["items"] := df_of c 16 rfl (He.glo_ok X G (c.fact 16)) fun _ _ _ _ _ _ us hl => match us, hl with
  | [_], _ => rfl
theorem r_d_put_text : DfA K mg "put_text" "put_text" s_put_text ["row", "texts"] := df_of c 17 rfl (He.glo_ok X G (c.fact 17)) fun _ _ _ _ _ _ us hl => match us, hl with
  | [_, _], _ => rfl
theorem r_d_text_of : DfA K mg "text_of" "text_of" s_text_of ["row", "held"] := df_of c 18 rfl (He.glo_ok X G (c.fact 18)) fun _ _ _ _ _ _ us hl => match us, hl with
  | [_, _], _ => rfl
theorem r_d_filled : DfA K mg "filled" "filled" s_filled ["row", "rows"] := df_of c 19 rfl (He.glo_ok X G (c.fact 19)) fun _ _ _ _ _ _ us hl => match us, hl with
  | [_, _], _ => rfl
theorem r_d_names_in : DfA K mg "names_in" "names_in" s_names_in ["row"] := df_of c 20 rfl (He.glo_ok X G (c.fact 20)) fun _ _ _ _ _ _ us hl => match us, hl with
  | [_], _ => rfl
theorem r_d_names_in_rows : DfA K mg "names_in_rows" "names_in_rows" s_names_in_rows ["rows", "names"] := df_of c 21 rfl (He.glo_ok X G (c.fact 21)) fun _ _ _ _ _ _ us hl => match us, hl with
  | [_, _], _ => rfl
theorem r_d_first_double : DfA K mg "first_double" "first_double" s_first_double ["names"] := df_of c 22 rfl (He.glo_ok X G (c.fact 22)) fun _ _ _ _ _ _ us hl => match us, hl with
  | [_], _ => rfl
theorem r_d_all_rows : DfA K mg "all_rows" "all_rows" s_all_rows ["rows", "registers"] := df_of c 23 rfl (He.glo_ok X G (c.fact 23)) fun _ _ _ _ _ _ us hl => match us, hl with
  | [_, _], _ => rfl
theorem r_d_check_program : DfA K mg "check_program" "check_program" s_check_program ["thing"] := df_of c 24 rfl (He.glo_ok X G (c.fact 24)) fun _ _ _ _ _ _ us hl => match us, hl with
  | [_], _ => rfl
theorem r_d_is_plain : DfA K mg "is_plain" "is_plain" s_is_plain ["program"] := df_of c 25 rfl (He.glo_ok X G (c.fact 25)) fun _ _ _ _ _ _ us hl => match us, hl with
  | [_], _ => rfl
theorem r_d_behind_word : DfA K mg "behind_word" "behind_word" s_behind_word ["program", "state", "word", "names"] := df_of c 26 rfl (He.glo_ok X G (c.fact 26)) fun _ _ _ _ _ _ us hl => match us, hl with
  | [_, _, _, _], _ => rfl
theorem r_d_once : DfA K mg "once" "once" s_once ["names"] := df_of c 27 rfl (He.glo_ok X G (c.fact 27)) fun _ _ _ _ _ _ us hl => match us, hl with
  | [_], _ => rfl
theorem r_d_written_for : DfA K mg "written_for" "written_for" s_written_for ["program", "ahead", "word", "many", "behind"] := df_of c 28 rfl (He.glo_ok X G (c.fact 28)) fun _ _ _ _ _ _ us hl => match us, hl with
  | [_, _, _, _, _], _ => rfl
theorem r_d_through : DfA K mg "through" "through" s_through ["moves", "names"] := df_of c 29 rfl (He.glo_ok X G (c.fact 29)) fun _ _ _ _ _ _ us hl => match us, hl with
  | [_, _], _ => rfl
theorem r_d_put_together : DfA K mg "put_together" "put_together" s_put_together ["row", "held", "ring", "turns"] := df_of c 30 rfl (He.glo_ok X G (c.fact 30)) fun _ _ _ _ _ _ us hl => match us, hl with
  | [_, _, _, _], _ => rfl
theorem r_d__law_cell_at : DfA K mg "_law_cell_at" "_law_cell_at" s_law_cell_at ["script", "k"] := df_of c 31 rfl (He.glo_ok X G (c.fact 31)) fun _ _ _ _ _ _ us hl => match us, hl with
  | [_, _], _ => rfl
theorem r_d__law_draw : DfA K mg "_law_draw" "_law_draw" s_law_draw ["cell", "k", "bound"] := df_of c 32 rfl (He.glo_ok X G (c.fact 32)) fun _ _ _ _ _ _ us hl => match us, hl with
  | [_, _, _], _ => rfl
theorem r_d__law_number : DfA K mg "_law_number" "_law_number" s_law_number ["cell", "k", "bound"] := df_of c 33 rfl (He.glo_ok X G (c.fact 33)) fun _ _ _ _ _ _ us hl => match us, hl with
  | [_, _, _], _ => rfl
theorem r_d__law_next : DfA K mg "_law_next" "_law_next" s_law_next ["draw", "bound"] := df_of c 34 rfl (He.glo_ok X G (c.fact 34)) fun _ _ _ _ _ _ us hl => match us, hl with
  | [_, _], _ => rfl
theorem r_d__law_pick : DfA K mg "_law_pick" "_law_pick" s_law_pick ["draw", "things"] := df_of c 35 rfl (He.glo_ok X G (c.fact 35)) fun _ _ _ _ _ _ us hl => match us, hl with
  | [_, _], _ => rfl
theorem r_d__law_rows : DfA K mg "_law_rows" "_law_rows" s_law_rows ["draw", "registers", "signs"] := df_of c 36 rfl (He.glo_ok X G (c.fact 36)) fun _ _ _ _ _ _ us hl => match us, hl with
  | [_, _, _], _ => rfl
theorem r_d__law_end : DfA K mg "_law_end" "_law_end" s_law_end ["draw", "registers", "signs"] := df_of c 37 rfl (He.glo_ok X G (c.fact 37)) fun _ _ _ _ _ _ us hl => match us, hl with
  | [_, _, _], _ => rfl
theorem r_d__law_program : DfA K mg "_law_program" "_law_program" s_law_program ["draw", "signs"] := df_of c 38 rfl (He.glo_ok X G (c.fact 38)) fun _ _ _ _ _ _ us hl => match us, hl with
  | [_, _], _ => rfl
theorem r_d__law_write : DfA K mg "_law_write" "_law_write" s_law_write ["row", "held"] := df_of c 39 rfl (He.glo_ok X G (c.fact 39)) fun _ _ _ _ _ _ us hl => match us, hl with
  | [_, _], _ => rfl
theorem r_d__law_run : DfA K mg "_law_run" "_law_run" s_law_run ["program", "text"] := df_of c 40 rfl (He.glo_ok X G (c.fact 40)) fun _ _ _ _ _ _ us hl => match us, hl with
  | [_, _], _ => rfl
theorem r_d__law_made : DfA K mg "_law_made" "_law_made" s_law_made ["program"] := df_of c 41 rfl (He.glo_ok X G (c.fact 41)) fun _ _ _ _ _ _ us hl => match us, hl with
  | [_], _ => rfl
theorem r_d__law_word : DfA K mg "_law_word" "_law_word" s_law_word ["draw", "letters", "most"] := df_of c 42 rfl (He.glo_ok X G (c.fact 42)) fun _ _ _ _ _ _ us hl => match us, hl with
  | [_, _, _], _ => rfl
theorem r_d__law_is_as : DfA K mg "_law_is_as" "_law_is_as" s_law_is_as ["found", "text"] := df_of c 43 rfl (He.glo_ok X G (c.fact 43)) fun _ _ _ _ _ _ us hl => match us, hl with
  | [_, _], _ => rfl
theorem r_d_law : DfA K mg "law" "law" s_law ["script"] := df_of c 44 rfl (He.glo_ok X G (c.fact 44)) fun _ _ _ _ _ _ us hl => match us, hl with
  | [_], _ => rfl
theorem r_d_is_held_parts : DfA K mg "is_held_parts" "is_held" s_is_held ["item", "known"] := df_of c 45 rfl (He.glo_ok X G (c.fact 45)) fun _ _ _ _ _ _ us hl => match us, hl with
  | [_, _], _ => rfl
theorem r_d_is_held_pieces : DfA K mg "is_held_pieces" "is_held" s_is_held_pieces ["item"] := df_of c 46 rfl (He.glo_ok X G (c.fact 46)) fun _ _ _ _ _ _ us hl => match us, hl with
  | [_], _ => rfl
theorem r_c_Program : Cdf K mg "Program" (He.ga K "Program") "Program.__init__" s_Program__init ["self", "letters", "states", "registers", "firsts", "steps", "ends"] := cdf_of c 47 rfl (He.glo_ok X G (c.fact 47)) (He.mkr_ok (c.fact 76)) fun _ _ _ _ _ _ us hl => match us, hl with
  | [_, _, _, _, _, _, _], _ => rfl
theorem r_m_Program__put : Mdf K (He.ga K "Program") "_put" "Program._put" s_Program_put ["self", "letters", "states", "registers", "firsts", "steps", "ends"] := mdf_of (cn := "Program") c 48 rfl (He.meth_ok (c.fact 99)) fun _ _ _ _ _ _ us hl => match us, hl with
  | [_, _, _, _, _, _, _], _ => rfl
theorem r_m_Program_after : Mdf K (He.ga K "Program") "after" "Program.after" s_Program_after ["self", "text"] := mdf_of (cn := "Program") c 49 rfl (He.meth_ok (c.fact 100)) fun _ _ _ _ _ _ us hl => match us, hl with
  | [_, _], _ => rfl
theorem r_c_Pieces : Cdf K mg "Pieces" (He.ga K "Pieces") "Pieces.__init__" s_Pieces__init ["self"] := cdf_of c 50 rfl (He.glo_ok X G (c.fact 48)) (He.mkr_ok (c.fact 84)) fun _ _ _ _ _ _ us hl => match us, hl with
  | [_], _ => rfl
theorem r_m_Pieces_text : Mdf K (He.ga K "Pieces") "text" "Pieces.text" s_Pieces_text ["self", "text"] := mdf_of (cn := "Pieces") c 51 rfl (He.meth_ok (c.fact 101)) fun _ _ _ _ _ _ us hl => match us, hl with
  | [_, _], _ => rfl
theorem r_m_Pieces_joined : Mdf K (He.ga K "Pieces") "joined" "Pieces.joined" s_Pieces_joined ["self", "numbers"] := mdf_of (cn := "Pieces") c 52 rfl (He.meth_ok (c.fact 102)) fun _ _ _ _ _ _ us hl => match us, hl with
  | [_, _], _ => rfl
theorem r_m_Pieces_row_of : Mdf K (He.ga K "Pieces") "row_of" "Pieces.row_of" s_Pieces_row_of ["self", "row"] := mdf_of (cn := "Pieces") c 53 rfl (He.meth_ok (c.fact 103)) fun _ _ _ _ _ _ us hl => match us, hl with
  | [_, _], _ => rfl
theorem r_m_Pieces_held_behind : Mdf K (He.ga K "Pieces") "held_behind" "Pieces.held_behind" s_Pieces_held_behind ["self", "rows", "held"] := mdf_of (cn := "Pieces") c 54 rfl (He.meth_ok (c.fact 104)) fun _ _ _ _ _ _ us hl => match us, hl with
  | [_, _, _], _ => rfl
theorem r_m_Pieces_twice : Mdf K (He.ga K "Pieces") "twice" "Pieces.twice" s_Pieces_twice ["self", "rows"] := mdf_of (cn := "Pieces") c 55 rfl (He.meth_ok (c.fact 105)) fun _ _ _ _ _ _ us hl => match us, hl with
  | [_, _], _ => rfl
theorem r_m_Pieces_within : Mdf K (He.ga K "Pieces") "within" "Pieces.within" s_Pieces_within ["self", "row", "rows"] := mdf_of (cn := "Pieces") c 56 rfl (He.meth_ok (c.fact 106)) fun _ _ _ _ _ _ us hl => match us, hl with
  | [_, _, _], _ => rfl
theorem r_c_Written : Cdf K mg "Written" (He.ga K "Written") "Written.__init__" s_Written__init ["self", "pieces", "number"] := cdf_of c 57 rfl (He.glo_ok X G (c.fact 49)) (He.mkr_ok (c.fact 88)) fun _ _ _ _ _ _ us hl => match us, hl with
  | [_, _, _], _ => rfl
theorem r_m_Written_size : Mdf K (He.ga K "Written") "size" "Written.size" s_Written_size ["self"] := mdf_of (cn := "Written") c 58 rfl (He.meth_ok (c.fact 107)) fun _ _ _ _ _ _ us hl => match us, hl with
  | [_], _ => rfl
theorem r_m_Written_sign : Mdf K (He.ga K "Written") "sign" "Written.sign" s_Written_sign ["self", "place"] := mdf_of (cn := "Written") c 59 rfl (He.meth_ok (c.fact 108)) fun _ _ _ _ _ _ us hl => match us, hl with
  | [_, _], _ => rfl
theorem r_m_Written_part : Mdf K (He.ga K "Written") "part" "Written.part" s_Written_part ["self", "first", "last"] := mdf_of (cn := "Written") c 60 rfl (He.meth_ok (c.fact 109)) fun _ _ _ _ _ _ us hl => match us, hl with
  | [_, _, _], _ => rfl
theorem r_c_Rounds : Cdf K mg "Rounds" (He.ga K "Rounds") "Rounds.__init__" s_Rounds__init ["self", "program", "word", "state", "many"] := cdf_of c 61 rfl (He.glo_ok X G (c.fact 50)) (He.mkr_ok (c.fact 93)) fun _ _ _ _ _ _ us hl => match us, hl with
  | [_, _, _, _, _], _ => rfl
theorem r_m_Rounds_last_state : Mdf K (He.ga K "Rounds") "last_state" "Rounds.last_state" s_Rounds_last_state ["self"] := mdf_of (cn := "Rounds") c 62 rfl (He.meth_ok (c.fact 110)) fun _ _ _ _ _ _ us hl => match us, hl with
  | [_], _ => rfl
theorem r_m_Rounds_moves_ahead : Mdf K (He.ga K "Rounds") "moves_ahead" "Rounds.moves_ahead" s_Rounds_moves_ahead ["self"] := mdf_of (cn := "Rounds") c 63 rfl (He.meth_ok (c.fact 111)) fun _ _ _ _ _ _ us hl => match us, hl with
  | [_], _ => rfl
theorem r_m_Rounds_moves_of_ring : Mdf K (He.ga K "Rounds") "moves_of_ring" "Rounds.moves_of_ring" s_Rounds_moves_of_ring ["self"] := mdf_of (cn := "Rounds") c 64 rfl (He.meth_ok (c.fact 112)) fun _ _ _ _ _ _ us hl => match us, hl with
  | [_], _ => rfl
theorem r_m_Rounds_moves_behind : Mdf K (He.ga K "Rounds") "moves_behind" "Rounds.moves_behind" s_Rounds_moves_behind ["self"] := mdf_of (cn := "Rounds") c 65 rfl (He.meth_ok (c.fact 113)) fun _ _ _ _ _ _ us hl => match us, hl with
  | [_], _ => rfl
end
end KX
end
section
set_option Elab.async false
set_option linter.all false
set_option maxRecDepth 100000
set_option maxHeartbeats 8000000
/-! Ha4: all that the law stands on. -/
namespace KX
open PySem PySem.Spec PyProof.Rows L2 Evl
abbrev psPut : List Str := ["self", "letters", "states", "registers", "firsts", "steps", "ends"]
theorem r_IC {K : PySem.W.Frag} (x : exB K = true) : IsP K (He.ga K "Program") := by
  obtain ⟨h1, h2⟩ := He.ba x
  obtain ⟨h3, h4⟩ := He.ba h2
  obtain ⟨h5, h6⟩ := He.ba h4
  exact ⟨of_decide_eq_true h1, of_decide_eq_true h3, of_decide_eq_true h5, of_decide_eq_true h6⟩
theorem law17_ok {P : Program} {w : World} {K : PySem.W.Frag} {mg : Str → Option Value} {base : Heap} {h : Heap} (c : He.SaysD faA fnA K) (x : exB K = true) (X : K.In h) (G : h.Ns mainGlobals mg) {f : Addr} {fd : FuncData} (F : Fun K "law" "law" s_law f fd) : FnOk P w K mg base CX0 11 f fd ["script"] (sp_law17 K) := by
  have Z := r_Z c X G
  have PC := r_PC c
  have PP := r_PP c
  have WC := r_WC c
  have RC := r_RC c
  have IC := r_IC x
  have G_is_number := Has.mkA (P := P) (w := w) (base := base) (r_d_is_number c X G) fun f fd F => ok_is_number F Z
  have G_is_made_of := Has.mkA (P := P) (w := w) (base := base) (r_d_is_made_of c X G) fun f fd F => ok_is_made_of F Z
  have G_is_text := Has.mkA (P := P) (w := w) (base := base) (r_d_is_text c X G) fun f fd F => ok_is_text F Z G_is_made_of
  have G_is_word := Has.mkA (P := P) (w := w) (base := base) (r_d_is_word c X G) fun f fd F => ok_is_word F Z G_is_made_of
  have G_is_state := Has.mkA (P := P) (w := w) (base := base) (r_d_is_state c X G) fun f fd F => ok_is_state F Z G_is_number
  have G_is_held := Has.mkA (P := P) (w := w) (base := base) (r_d_is_held_parts c X G) fun f fd F => ok_is_held F Z
  have G_is_row := Has.mkA (P := P) (w := w) (base := base) (r_d_is_row c X G) fun f fd F => ok_is_row F Z G_is_text G_is_held
  have G_are_rows := Has.mkA (P := P) (w := w) (base := base) (r_d_are_rows c X G) fun f fd F => ok_are_rows F Z G_is_row
  have G_is_place := Has.mkA (P := P) (w := w) (base := base) (r_d_is_place c X G) fun f fd F => ok_is_place F Z G_is_state
  have G_is_step := Has.mkA (P := P) (w := w) (base := base) (r_d_is_step c X G) fun f fd F => ok_is_step F Z G_is_state G_are_rows
  have G_are_steps := Has.mkA (P := P) (w := w) (base := base) (r_d_are_steps c X G) fun f fd F => ok_are_steps F Z G_is_place G_is_step
  have G_are_firsts := Has.mkA (P := P) (w := w) (base := base) (r_d_are_firsts c X G) fun f fd F => ok_are_firsts F Z G_is_text
  have G_are_ends := Has.mkA (P := P) (w := w) (base := base) (r_d_are_ends c X G) fun f fd F => ok_are_ends F Z G_is_state G_is_row
  have G_are_letters := Has.mkA (P := P) (w := w) (base := base) (r_d_are_letters c X G) fun f fd F => ok_are_letters F Z G_is_text
  have G_are_registers := Has.mkA (P := P) (w := w) (base := base) (r_d_are_registers c X G) fun f fd F => ok_are_registers F Z G_is_word
  have G_first_wrong := Has.mkA (P := P) (w := w) (base := base) (r_d_first_wrong c X G) fun f fd F => ok_first_wrong F Z G_are_ends G_are_firsts G_are_letters G_are_registers G_are_steps G_is_number
  have G_text_of := Has.mkA (P := P) (w := w) (base := base) (r_d_text_of c X G) fun f fd F => ok_text_of F Z
  have G_put_text := Has.mkA (P := P) (w := w) (base := base) (r_d_put_text c X G) fun f fd F => ok_put_text F Z
  have G_row_of := Has.mkA (P := P) (w := w) (base := base) (r_d_row_of c X G) fun f fd F => ok_row_of F Z G_put_text
  have G_row_ofL := Has.mkA (P := P) (w := w) (base := base) (r_d_row_of c X G) fun f fd F => ok_row_ofL F Z G_put_text
  have G_all_rows := Has.mkA (P := P) (w := w) (base := base) (r_d_all_rows c X G) fun f fd F => ok_all_rows F Z G_row_of
  have G_check_word := Has.mkA (P := P) (w := w) (base := base) (r_d_check_word c X G) fun f fd F => ok_check_word F Z
  have G_check_program := Has.mkA (P := P) (w := w) (base := base) (r_d_check_program c X G) fun f fd F => ok_check_program F Z PC IC
  have G_names_in := Has.mkA (P := P) (w := w) (base := base) (r_d_names_in c X G) fun f fd F => ok_names_in F Z
  have G_first_double := Has.mkA (P := P) (w := w) (base := base) (r_d_first_double c X G) fun f fd F => ok_first_double F Z
  have G_names_in_rows := Has.mkA (P := P) (w := w) (base := base) (r_d_names_in_rows c X G) fun f fd F => ok_names_in_rows F Z G_names_in
  have G_is_plain := Has.mkA (P := P) (w := w) (base := base) (r_d_is_plain c X G) fun f fd F => ok_is_plain F Z PC G_check_program G_first_double G_names_in G_names_in_rows
  have G_filled := Has.mkA (P := P) (w := w) (base := base) (r_d_filled c X G) fun f fd F => ok_filled F Z G_row_ofL
  have G_once := Has.mkA (P := P) (w := w) (base := base) (r_d_once c X G) fun f fd F => ok_once F Z
  have G_through := Has.mkA (P := P) (w := w) (base := base) (r_d_through c X G) fun f fd F => ok_through F Z G_filled
  have G_behind_word := Has.mkA (P := P) (w := w) (base := base) (r_d_behind_word c X G) fun f fd F => ok_behind_word F Z PC G_filled G_once G_names_in_rows
  have G_is_held_pieces := Has.mkA (P := P) (w := w) (base := base) (r_d_is_held_pieces c X G) fun f fd F => ok_is_held_pieces F Z
  obtain ⟨f_put, fd_put, F_put, M_put, b_put⟩ := r_m_Program__put c X G
  have G_put : HasM P w K mg base (He.ga K "Program") "_put" 4 f_put fd_put psPut (sp_Program_put (He.ga K "Program")) := ⟨PC.cl, M_put, ok_Program_put F_put Z PC G_all_rows G_row_of, b_put⟩
  obtain ⟨g_pinit, f_pinit, fd_pinit, F_pinit, M_pinit, b_pinit⟩ := r_c_Program c X G
  have G_pinit : HasC P w K mg base "Program" (He.ga K "Program") 8 psPut (sp_Program_init (He.ga K "Program")) := ⟨g_pinit, f_pinit, fd_pinit, ok_Program_init F_pinit Z G_put G_first_wrong, M_pinit, b_pinit⟩
  obtain ⟨f_after, fd_after, F_after, M_after, b_after⟩ := r_m_Program_after c X G
  have G_after : HasM P w K mg base (He.ga K "Program") "after" 2 f_after fd_after ["self", "text"] (sp_Program_after (He.ga K "Program")) := ⟨PC.cl, M_after, ok_Program_after F_after Z PC G_check_word G_text_of, b_after⟩
  obtain ⟨g_ri, f_ri, fd_ri, F_ri, M_ri, b_ri⟩ := r_c_Rounds c X G
  have G_ri : HasC P w K mg base "Rounds" (He.ga K "Rounds") 5 ["self", "program", "word", "state", "many"] (sp_Rounds_init (He.ga K "Rounds") (He.ga K "Program")) := ⟨g_ri, f_ri, fd_ri, ok_Rounds_init F_ri Z PC RC G_behind_word, M_ri, b_ri⟩
  obtain ⟨g_pci, f_pci, fd_pci, F_pci, M_pci, b_pci⟩ := r_c_Pieces c X G
  have G_pci : HasC P w K mg base "Pieces" (He.ga K "Pieces") 1 ["self"] (sp_Pieces_init (He.ga K "Pieces")) := ⟨g_pci, f_pci, fd_pci, ok_Pieces_init F_pci Z PP, M_pci, b_pci⟩
  obtain ⟨g_wi, f_wi, fd_wi, F_wi, M_wi, b_wi⟩ := r_c_Written c X G
  have G_wi : HasC P w K mg base "Written" (He.ga K "Written") 1 ["self", "pieces", "number"] (sp_Written_init (He.ga K "Written") (He.ga K "Pieces")) := ⟨g_wi, f_wi, fd_wi, ok_Written_init F_wi Z PP WC, M_wi, b_wi⟩
  obtain ⟨f_text, fd_text, F_text, M_text, b_text⟩ := r_m_Pieces_text c X G
  have G_text : HasM P w K mg base (He.ga K "Pieces") "text" 1 f_text fd_text ["self", "text"] (sp_Pieces_text (He.ga K "Pieces")) := ⟨PP.cl, M_text, ok_Pieces_text F_text Z PP, b_text⟩
  obtain ⟨f_joined, fd_joined, F_joined, M_joined, b_joined⟩ := r_m_Pieces_joined c X G
  have G_joined : HasM P w K mg base (He.ga K "Pieces") "joined" 2 f_joined fd_joined ["self", "numbers"] (sp_Pieces_joined (He.ga K "Pieces")) := ⟨PP.cl, M_joined, ok_Pieces_joined F_joined Z PP G_text, b_joined⟩
  obtain ⟨f_prow, fd_prow, F_prow, M_prow, b_prow⟩ := r_m_Pieces_row_of c X G
  have G_prow : HasM P w K mg base (He.ga K "Pieces") "row_of" 2 f_prow fd_prow ["self", "row"] (sp_Pieces_row_of (He.ga K "Pieces")) := ⟨PP.cl, M_prow, ok_Pieces_row_of F_prow Z PP G_text, b_prow⟩
  obtain ⟨f_hb, fd_hb, F_hb, M_hb, b_hb⟩ := r_m_Pieces_held_behind c X G
  have G_hb : HasM P w K mg base (He.ga K "Pieces") "held_behind" 3 f_hb fd_hb ["self", "rows", "held"] (sp_held_behind (He.ga K "Pieces")) := ⟨PP.cl, M_hb, ok_held_behind F_hb Z PP G_is_held_pieces G_joined, b_hb⟩
  obtain ⟨f_within, fd_within, F_within, M_within, b_within⟩ := r_m_Pieces_within c X G
  have G_within : HasM P w K mg base (He.ga K "Pieces") "within" 3 f_within fd_within ["self", "row", "rows"] (sp_within (He.ga K "Pieces")) := ⟨PP.cl, M_within, ok_within F_within Z PP G_is_held_pieces G_joined, b_within⟩
  obtain ⟨f_twice, fd_twice, F_twice, M_twice, b_twice⟩ := r_m_Pieces_twice c X G
  have G_twice : HasM P w K mg base (He.ga K "Pieces") "twice" 4 f_twice fd_twice ["self", "rows"] (sp_twice (He.ga K "Pieces")) := ⟨PP.cl, M_twice, ok_twice F_twice Z PP G_within, b_twice⟩
  obtain ⟨f_size, fd_size, F_size, M_size, b_size⟩ := r_m_Written_size c X G
  have G_size : HasM P w K mg base (He.ga K "Written") "size" 1 f_size fd_size ["self"] (sp_Written_size (He.ga K "Written")) := ⟨WC.cl, M_size, ok_Written_size F_size Z WC, b_size⟩
  obtain ⟨f_part, fd_part, F_part, M_part, b_part⟩ := r_m_Written_part c X G
  have G_part : HasM P w K mg base (He.ga K "Written") "part" 2 f_part fd_part ["self", "first", "last"] (sp_Written_part (He.ga K "Written")) := ⟨WC.cl, M_part, ok_Written_part F_part Z WC G_is_number G_size, b_part⟩
  obtain ⟨f_sign, fd_sign, F_sign, M_sign, b_sign⟩ := r_m_Written_sign c X G
  have G_sign : HasM P w K mg base (He.ga K "Written") "sign" 3 f_sign fd_sign ["self", "place"] (sp_Written_sign (He.ga K "Written")) := ⟨WC.cl, M_sign, ok_Written_sign F_sign Z WC G_is_number G_size G_part, b_sign⟩
  obtain ⟨f_ls, fd_ls, F_ls, M_ls, b_ls⟩ := r_m_Rounds_last_state c X G
  have G_ls : HasM P w K mg base (He.ga K "Rounds") "last_state" 1 f_ls fd_ls ["self"] (sp_Rounds_last (He.ga K "Rounds")) := ⟨RC.cl, M_ls, ok_Rounds_last F_ls Z RC, b_ls⟩
  obtain ⟨f_ma, fd_ma, F_ma, M_ma, b_ma⟩ := r_m_Rounds_moves_ahead c X G
  have G_ma : HasM P w K mg base (He.ga K "Rounds") "moves_ahead" 1 f_ma fd_ma ["self"] (sp_Rounds_ahead (He.ga K "Rounds")) := ⟨RC.cl, M_ma, ok_Rounds_ahead F_ma Z RC, b_ma⟩
  obtain ⟨f_mr, fd_mr, F_mr, M_mr, b_mr⟩ := r_m_Rounds_moves_of_ring c X G
  have G_mr : HasM P w K mg base (He.ga K "Rounds") "moves_of_ring" 1 f_mr fd_mr ["self"] (sp_Rounds_ring (He.ga K "Rounds")) := ⟨RC.cl, M_mr, ok_Rounds_ring F_mr Z RC, b_mr⟩
  obtain ⟨f_mb, fd_mb, F_mb, M_mb, b_mb⟩ := r_m_Rounds_moves_behind c X G
  have G_mb : HasM P w K mg base (He.ga K "Rounds") "moves_behind" 1 f_mb fd_mb ["self"] (sp_Rounds_behind (He.ga K "Rounds")) := ⟨RC.cl, M_mb, ok_Rounds_behind F_mb Z RC, b_mb⟩
  have G_put_together := Has.mkA (P := P) (w := w) (base := base) (r_d_put_together c X G) fun f fd F => ok_put_together F Z PP G_pci G_wi G_text G_prow G_hb G_twice G_joined
  have G_written_for := Has.mkA (P := P) (w := w) (base := base) (r_d_written_for c X G) fun f fd F => ok_written_for F Z PC RC G_check_program G_is_plain G_check_word G_is_number G_after G_ri G_ls G_ma G_mr G_mb G_behind_word G_filled G_through G_text_of G_put_together
  have G_law_cell_at := Has.mkA (P := P) (w := w) (base := base) (r_d__law_cell_at c X G) fun f fd F => ok_law_cell_at F Z
  have G_law_draw := Has.mkA (P := P) (w := w) (base := base) (r_d__law_draw c X G) fun f fd F => ok_law_draw F Z
  have G_law_number := Has.mkA (P := P) (w := w) (base := base) (r_d__law_number c X G) fun f fd F => ok_law_number F Z G_law_draw
  have G_law_next := Has.mkA (P := P) (w := w) (base := base) (r_d__law_next c X G) fun f fd F => ok_law_next F Z G_law_cell_at G_law_number
  have G_law_pick := Has.mkA (P := P) (w := w) (base := base) (r_d__law_pick c X G) fun f fd F => ok_law_pick F Z G_law_next
  have G_law_rows := Has.mkA (P := P) (w := w) (base := base) (r_d__law_rows c X G) fun f fd F => ok_law_rows F Z G_law_next G_law_pick
  have G_law_end := Has.mkA (P := P) (w := w) (base := base) (r_d__law_end c X G) fun f fd F => ok_law_end F Z G_law_next G_law_pick
  have G_law_program := Has.mkA (P := P) (w := w) (base := base) (r_d__law_program c X G) fun f fd F => ok_law_program F Z G_law_next G_law_pick G_law_rows G_law_end
  have G_law_write := Has.mkA (P := P) (w := w) (base := base) (r_d__law_write c X G) fun f fd F => ok_law_write F Z
  have G_law_run := Has.mkA (P := P) (w := w) (base := base) (r_d__law_run c X G) fun f fd F => ok_law_run F Z G_law_write
  have G_law_made := Has.mkA (P := P) (w := w) (base := base) (r_d__law_made c X G) fun f fd F => ok_law_made F G_pinit
  have G_law_word := Has.mkA (P := P) (w := w) (base := base) (r_d__law_word c X G) fun f fd F => ok_law_word F Z G_law_next G_law_pick
  have G_law_is_as := Has.mkA (P := P) (w := w) (base := base) (r_d__law_is_as c X G) fun f fd F => ok_law_is_as F Z G_size G_part G_sign
  exact ok_law17 F Z G_law_program G_law_made G_law_word G_law_is_as G_written_for G_law_run G_law_next G_size G_part G_sign
end KX
end
section
set_option Elab.async false
set_option linter.all false
set_option maxRecDepth 100000
set_option maxHeartbeats 0
/-! Ha6: the end. -/
namespace KX
open PySem PySem.Spec PyProof.Rows L2 Evl
theorem law17_at (w : World) (mg : Str → Option Value) (fa : Addr) (h : Heap) (Y : hookP.says w h) (G : h.Ns mainGlobals mg) (hmg : mg ("law" : Str) = some (.ref fa)) :
    ∃ (K : PySem.W.Frag) (fd : FuncData) (sp : Sp), K.In h ∧ (∀ (s : Shared) (u : Value), BindsTo s fd ⟨[u], []⟩ [("script", u)]) ∧
        (∀ (H : Hp) (a : Addr) (ns : List Int), ns.length ≤ 63 → Only H → SqL K H a (ns.map V.int) → sp [.ref a] H (fun v _ => v = .bl true) fun _ _ _ => False) ∧
        ∀ base : Heap, K.In base → base.Ns mainGlobals mg → FnOk (PySem.Challenge.rw_passtexts_k17_whole_powers_written).prog w K mg base CX0 11 fa fd ["script"] sp := by
  obtain ⟨K, X, c, x⟩ := Y
  obtain ⟨fd, F⟩ := He.SaysD.def_ c 44 (d := ⟨("law", none), "law", "law", defArgs s_law, defBody s_law, defScope s_law, [], []⟩) rfl
  have hb := F.bindsA (ps := ["script"]) fun _ _ _ _ _ _ us hl => match us, hl with
    | [_], _ => rfl
  have e := hmg.symm.trans (He.glo_ok X G (c.fact 44 (f := .glo "law") rfl))
  have e2 : fa = He.ga K "law" := by
    injection e with e3
    injection e3
  subst e2
  exact ⟨K, fd, sp_law17 K, X, fun s u => hb s [u] rfl, fun H a ns _ _ hS => ⟨a, ns, rfl, hS, fun _ => rfl⟩, fun base _ _ => law17_ok c x X G (fun_of F)⟩
theorem ob_eq (s : PySem.W.SharedT) : obsP (HandSHeadRun.getT s) = hookP.obs s.abs := obsP_eq (HandSHeadRun.getT_eq s)
end KX
open PySem PySem.W PySem.Calls PyProof.Rows
theorem PySem.Challenge.cw_passtexts_k17_whole_powers_written_holds : PySem.Challenge.rw_passtexts_k17_whole_powers_written.Holds := by
  w_on; o_law
  refine HandSHeadRun.head_any (r := OpenLaw.row PySem.Challenge.rw_passtexts_k17_whole_powers_written) (q := view (OpenLaw.row PySem.Challenge.rw_passtexts_k17_whole_powers_written).prog [75]) (H := KX.hookP) (ob := fun s => KX.obsP (HandSHeadRun.getT s)) (M := 6000) (loose := KX.nmA) (d := HandSHeadRun.topDef (OpenLaw.row PySem.Challenge.rw_passtexts_k17_whole_powers_written).prog 75) (kwd := []) KX.ob_eq
    (by kernel_rfl) (fun s => by kernel_rfl) KX.run17 (by kernel_rfl) (by kernel_rfl) (by kernel_rfl) (by rfl) (by first | assumption | decide +kernel) (by decide +kernel) ⟨rfl, rfl, rfl, rfl, rfl, by decide +kernel⟩ ?hw ?hc
  case hw => w_witness2
  case hc =>
    refine L2.walk_ofE (l := PySem.Challenge.rw_passtexts_k17_whole_powers_written) (n := 63) (k := 11) (x := "script") (CX := L2.CX0) rfl (by decide) (by kernel_rfl) ⟨rfl, by decide, by decide⟩ ?F (fun H s e s' z => by cases z)
    intro w mg fa h Y G hmg0
    have hmg : mg ("law" : PySem.Str) = some (.ref fa) := by
      have e : (HandSHeadRun.topDef (OpenLaw.row PySem.Challenge.rw_passtexts_k17_whole_powers_written).prog 75).name = ("law" : PySem.Str) := by kernel_rfl
      rw [← e]
      exact hmg0
    exact KX.law17_at w mg fa h Y G hmg
end
