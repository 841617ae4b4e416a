import PyProof.Rows.All
import Wide.All
import OpenK.AllK
import Wide.FinOn
import HandS.ForMost
import HandS.Exc
import HandS.TryOnly
import HandS.AnyAll
import HandS.IsInst
import HandS.Defaults
import HandS.MakeKw
import HandS.Zip
import HandS.Strs
import HandS.Wide
import HandS.EndTab
import HandS.Codes
import HandS.Style
import KE.KDictWalk
import HandS.Iter
import HandS.DictComp
import HandS.More
import HandS.Conv
import HandS.Finally
import HandS.Lambda
import HandS.SortKw
import KE.SortKeyHeap
import HandS.GenList
import HandS.Nested
import HandS.Gcd
import HandS.FStr
import PyProof.Rows.StrMeet
import KE.KNestM
import PySem.Challenge.RW_howfar_k06_hands
set_option Elab.async false
set_option maxRecDepth 100000
set_option maxHeartbeats 4000000
namespace Hf
open PySem L2 PySem.Spec PyProof.Rows
/-! ## heaps: all that is tracked stays, tables may grow -/
def NTb (o : HO) : Prop := ∀ q, o ≠ .tbl q
structure Sm (H H' : Hp) : Prop where
  keep : ∀ b o, H b = some o → NTb o → H' b = some o
  tab : ∀ b q, H b = some (.tbl q) → ∃ q', H' b = some (.tbl q') ∧ (TriplesOk q.toList → TriplesOk q'.toList)
theorem Sm.refl (H : Hp) : Sm H H := ⟨fun _ _ h _ => h, fun _ q h => ⟨q, h, fun z => z⟩⟩
theorem Sm.trans {H H1 H2 : Hp} (a : Sm H H1) (b : Sm H1 H2) : Sm H H2 :=
  ⟨fun c o h n => b.keep c o (a.keep c o h n) n, fun c q h => by
    obtain ⟨q1, h1, t1⟩ := a.tab c q h
    obtain ⟨q2, h2, t2⟩ := b.tab c q1 h1
    exact ⟨q2, h2, fun z => t2 (t1 z)⟩⟩
theorem Sm.free {H H' : Hp} (e : Sm H H') {l : Addr} (h : H' l = Option.none) : H l = Option.none := by
  cases q : H l with
  | none => rfl
  | some o =>
    by_cases hn : NTb o
    · rw [e.keep l o q hn] at h
      cases h
    · cases o with
      | tbl ps =>
        obtain ⟨q', h', _⟩ := e.tab l ps q
        rw [h'] at h
        cases h
      | _ => exact absurd (fun _ z => by cases z) hn
theorem ntb_lst {xs : List V} : NTb (.lst xs) := fun _ z => by cases z
theorem ntb_tup {xs : List V} : NTb (.tup xs) := fun _ z => by cases z
theorem ntb_ins {C dx : Addr} {fs : List (Str × V)} : NTb (.ins C dx fs) := fun _ z => by cases z
theorem ntb_frz {o : Obj} {u : HO} : NTb (.frz o u) := fun _ z => by cases z
theorem ntb_dK {k : List (Key × V)} : NTb (.dK k) := fun _ z => by cases z
theorem Sm.lst {H H' : Hp} (e : Sm H H') {a : Addr} {xs : List V} (h : H a = some (.lst xs)) : H' a = some (.lst xs) := e.keep _ _ h ntb_lst
theorem Sm.tup {H H' : Hp} (e : Sm H H') {a : Addr} {xs : List V} (h : H a = some (.tup xs)) : H' a = some (.tup xs) := e.keep _ _ h ntb_tup
theorem Sm.ins {H H' : Hp} (e : Sm H H') {a C dx : Addr} {fs : List (Str × V)} (h : H a = some (.ins C dx fs)) : H' a = some (.ins C dx fs) := e.keep _ _ h ntb_ins
theorem Sm.dK {H H' : Hp} (e : Sm H H') {a : Addr} {k : List (Key × V)} (h : H a = some (.dK k)) : H' a = some (.dK k) := e.keep _ _ h ntb_dK
theorem Sm.new {H : Hp} {p : Addr} {o : HO} (h : H p = Option.none) : Sm H (upd H p o) :=
  ⟨fun b u q _ => by rw [upd_ne (ne_of_none q h)]; exact q, fun b q z => ⟨q, by rw [upd_ne (ne_of_none z h)]; exact z, fun z => z⟩⟩
/-- what was new since H is written -/
theorem Sm.put {H H' : Hp} (e : Sm H H') {p : Addr} {o : HO} (h : H p = Option.none) : Sm H (upd H' p o) :=
  ⟨fun b u q n => by rw [upd_ne (ne_of_none q h)]; exact e.keep b u q n, fun b q z => by
    obtain ⟨q', h', t⟩ := e.tab b q z
    exact ⟨q', by rw [upd_ne (ne_of_none z h)]; exact h', t⟩⟩
theorem Sm.seqL {K : PySem.W.Frag} {H H' : Hp} {a : Addr} {xs : List V} (e : Sm H H') (h : SqL K H a xs) : SqL K H' a xs := by
  rcases h with (h | ⟨o, h⟩) | h
  · exact .inl (.inl (e.lst h))
  · exact .inl (.inr ⟨o, e.keep _ _ h ntb_frz⟩)
  · exact .inr h
abbrev Tab (H : Hp) (P : Addr) : Prop := GxR.TabG H P
theorem Sm.tabG {H H' : Hp} (e : Sm H H') {P : Addr} (h : Tab H P) : Tab H' P := by
  obtain ⟨ps, h1, h2⟩ := h
  obtain ⟨q, h3, h4⟩ := e.tab P ps h1
  exact ⟨q, h3, h4 h2⟩
theorem Sm.tabbed {H H' : Hp} {P : Addr} (h : Tab H P) (t : GxR.Tabbed P H H') : Sm H H' := by
  obtain ⟨ps, h1, _⟩ := h
  obtain ⟨⟨qs, h3, h4⟩, h5⟩ := t
  refine ⟨fun b o e n => ?_, fun b q e => ?_⟩
  · by_cases hb : b = P
    · rw [hb, h1] at e
      cases e
      exact absurd rfl (n ps)
    · rw [h5 b hb]
      exact e
  · by_cases hb : b = P
    · rw [hb]
      exact ⟨qs, h3, fun _ => h4⟩
    · exact ⟨q, by rw [h5 b hb]; exact e, fun z => z⟩
/-! ## plans -/
mutual
inductive Tr where
  | leaf (nm : Str) (st : Option Int)
  | node (b : Bool) (nm : Str) (ps : Ps)
inductive Ps where
  | nil
  | cons (w : Int) (t : Tr) (r : Ps)
end
def Ps.toL : Ps → List (Int × Tr)
  | .nil => []
  | .cons w t r => (w, t) :: r.toL
def Ps.ofL : List (Int × Tr) → Ps
  | [] => .nil
  | (w, t) :: r => .cons w t (Ps.ofL r)
theorem Ps.toL_ofL : ∀ l : List (Int × Tr), (Ps.ofL l).toL = l
  | [] => rfl
  | (_, _) :: r => by show _ :: (Ps.ofL r).toL = _; rw [Ps.toL_ofL r]
theorem Ps.ofL_toL : ∀ l : Ps, Ps.ofL l.toL = l
  | .nil => rfl
  | .cons w t r => by show Ps.cons w t (Ps.ofL r.toL) = _; rw [Ps.ofL_toL r]
def Tr.nm : Tr → Str
  | .leaf n _ => n
  | .node _ n _ => n
mutual
def Tr.names : Tr → List Str
  | .leaf n _ => [n]
  | .node _ n ps => n :: ps.names
def Ps.names : Ps → List Str
  | .nil => []
  | .cons _ t r => t.names ++ r.names
end
mutual
def Tr.lev : Tr → Nat
  | .leaf _ _ => 1
  | .node _ _ ps => ps.lev + 1
def Ps.lev : Ps → Nat
  | .nil => 0
  | .cons _ t r => max t.lev r.lev
end
theorem Ps.names_toL : ∀ p : Ps, p.names = p.toL.flatMap (fun x => x.2.names)
  | .nil => rfl
  | .cons w t r => by
    show t.names ++ r.names = ((w, t) :: r.toL).flatMap _
    rw [List.flatMap_cons, Ps.names_toL r]
theorem Ps.lev_toL : ∀ p : Ps, p.lev = p.toL.foldl (fun d x => max d x.2.lev) 0 := by
  have key : ∀ (p : Ps) (d : Nat), max d p.lev = p.toL.foldl (fun d x => max d x.2.lev) d := by
    intro p
    induction p using Ps.rec (motive_1 := fun _ => True) with
    | leaf => trivial
    | node => trivial
    | nil => intro d; show max d 0 = d; omega
    | cons w t r _ ih =>
      intro d
      show max d (max t.lev r.lev) = r.toL.foldl _ (max d t.lev)
      rw [← ih]; omega
  intro p
  rw [← key p 0]; omega
theorem Ps.lev_mem : ∀ {p : Ps} {w : Int} {t : Tr}, (w, t) ∈ p.toL → t.lev ≤ p.lev
  | .nil, _, _, h => by cases h
  | .cons w' t' r, w, t, h => by
    show t.lev ≤ max t'.lev r.lev
    rcases List.mem_cons.mp h with e | h
    · cases e; omega
    · have := Ps.lev_mem (p := r) h
      omega
/-! ## names, steps, weights -/
def nameOk (z : Str) : Bool := decide (1 ≤ z.length) && decide (z.length ≤ 8) && z.cps.toList.all fun c => decide (97 ≤ c) && decide (c ≤ 122)
def numOk (lo hi i : Int) : Bool := decide (lo ≤ i) && decide (i ≤ hi)
def stOk : Option Int → Bool
  | none => true
  | some i => numOk 1 1000 i
def stV : Option Int → V
  | none => .non
  | some i => .int i
def kindS (b : Bool) : Str := if b = true then "row" else "bundle"
/-- as many, as deep, as differently named as a plan's works are -/
def planOk (t : Tr) : Bool := decide (t.names.length ≤ 20) && decide t.names.Nodup && decide (t.lev ≤ 5)
mutual
def Tr.Ok : Tr → Prop
  | .leaf n st => nameOk n = true ∧ stOk st = true
  | .node b n ps => nameOk n = true ∧ ps.toL ≠ [] ∧ ps.toL.length ≤ 6 ∧ ps.Ok ∧ planOk (.node b n ps) = true
def Ps.Ok : Ps → Prop
  | .nil => True
  | .cons w t r => numOk 1 100 w = true ∧ t.Ok ∧ r.Ok
end
theorem Ps.Ok.mem : ∀ {p : Ps} {w : Int} {t : Tr}, p.Ok → (w, t) ∈ p.toL → numOk 1 100 w = true ∧ t.Ok
  | .nil, _, _, _, h => by cases h
  | .cons w' t' r, w, t, o, h => by
    obtain ⟨o1, o2, o3⟩ := o
    rcases List.mem_cons.mp h with e | h
    · cases e; exact ⟨o1, o2⟩
    · exact Ps.Ok.mem o3 h
/-! ## plans as the program keeps them: tuples -/
mutual
def TrAt (H : Hp) : Tr → V → Prop
  | .leaf n st, v => ∃ a e, v = .ref a ∧ H a = some (.tup [.str "leaf", .str n, stV st, .ref e]) ∧ H e = some (.tup [])
  | .node b n ps, v => ∃ a e xs, v = .ref a ∧ H a = some (.tup [.str (kindS b), .str n, .non, .ref e]) ∧ H e = some (.tup xs) ∧ PsAt H ps xs
def PsAt (H : Hp) : Ps → List V → Prop
  | .nil, xs => xs = []
  | .cons w t r, xs => ∃ p v ys, xs = .ref p :: ys ∧ H p = some (.tup [.int w, v]) ∧ TrAt H t v ∧ PsAt H r ys
end
mutual
theorem TrAt.mono {H H' : Hp} (e : Sm H H') : ∀ {t : Tr} {v : V}, TrAt H t v → TrAt H' t v
  | .leaf n st, v, h => by
    obtain ⟨a, b, h1, h2, h3⟩ := h
    exact ⟨a, b, h1, e.tup h2, e.tup h3⟩
  | .node b n ps, v, h => by
    obtain ⟨a, c, xs, h1, h2, h3, h4⟩ := h
    exact ⟨a, c, xs, h1, e.tup h2, e.tup h3, PsAt.mono e h4⟩
theorem PsAt.mono {H H' : Hp} (e : Sm H H') : ∀ {p : Ps} {xs : List V}, PsAt H p xs → PsAt H' p xs
  | .nil, xs, h => h
  | .cons w t r, xs, h => by
    obtain ⟨p, v, ys, h1, h2, h3, h4⟩ := h
    exact ⟨p, v, ys, h1, e.tup h2, TrAt.mono e h3, PsAt.mono e h4⟩
end
theorem PsAt.length {H : Hp} : ∀ {p : Ps} {xs : List V}, PsAt H p xs → xs.length = p.toL.length
  | .nil, xs, h => by cases h; rfl
  | .cons w t r, xs, h => by
    obtain ⟨p, v, ys, rfl, h2, h3, h4⟩ := h
    show ys.length + 1 = r.toL.length + 1
    rw [PsAt.length h4]
theorem PsAt.get {H : Hp} : ∀ {p : Ps} {xs : List V} {i : Nat} {x : V}, PsAt H p xs → xs[i]? = some x → ∃ (w : Int) (t : Tr) (q : Addr) (v : V), p.toL[i]? = some (w, t) ∧ x = V.ref q ∧ H q = some (.tup [.int w, v]) ∧ TrAt H t v
  | .nil, xs, i, x, h, e => by cases h; simp at e
  | .cons w t r, xs, i, x, h, e => by
    obtain ⟨p, v, ys, rfl, h2, h3, h4⟩ := h
    cases i with
    | zero =>
      simp at e
      exact ⟨w, t, p, v, rfl, e.symm, h2, h3⟩
    | succ i =>
      have e' : ys[i]? = some x := by simpa using e
      obtain ⟨w', t', q, v', g1, g2, g3, g4⟩ := PsAt.get h4 e'
      exact ⟨w', t', q, v', by show ((w, t) :: r.toL)[i + 1]? = _; rw [List.getElem?_cons_succ]; exact g1, g2, g3, g4⟩
theorem PsAt.of {H : Hp} : ∀ {l : List (Int × Tr)} {xs : List V}, xs.length = l.length → (∀ (i : Nat) (w : Int) (t : Tr), l[i]? = some (w, t) → ∃ (q : Addr) (v : V), xs[i]? = some (V.ref q) ∧ H q = some (.tup [.int w, v]) ∧ TrAt H t v) → PsAt H (Ps.ofL l) xs
  | [], [], _, _ => rfl
  | [], _ :: _, e, _ => by simp at e
  | _ :: _, [], e, _ => by simp at e
  | (w, t) :: l, x :: xs, e, h => by
    obtain ⟨q, v, h1, h2, h3⟩ := h 0 w t rfl
    simp at h1
    subst h1
    refine ⟨q, v, xs, rfl, h2, h3, PsAt.of (by simpa using e) fun i w' t' z => ?_⟩
    obtain ⟨q', v', g1, g2, g3⟩ := h (i + 1) w' t' (by simpa using z)
    exact ⟨q', v', by simpa using g1, g2, g3⟩
end Hf
set_option Elab.async false
set_option maxRecDepth 100000
set_option maxHeartbeats 4000000
namespace Hf
open PySem L2 PySem.Spec PyProof.Rows
/-! ## lo <= sign <= hi as the test of a generator over a text -/
theorem elt_between {prog : Program} {w : World} {scope : Scope} {x lo hi : Str} {j1 j2 : Nat} {p1 p2 p3 p4 : Pos} (hk : scope.kind = .function) (hl : scope.names.lookup x = some .local)
    (hd : (x == ("__debug__" : Str)) = false := by decide) :
    GxR.EltP prog w scope x (.Compare (.Constant (.str lo) j1 p1) [.LtE, .LtE] [.Name x p2, .Constant (.str hi) j2 p3] p4)
      (fun c => (!decide ([c] < lo.cps.toList)) && !decide (hi.cps.toList < [c])) := by
  intro cenv A' E' c t s2 m2 hs hn hm
  refine Compare_chain (Calls.Constant_str (chain_link (wpAny_Name (wpAny_loadName_local (by rw [hs]; exact hk) (show cenv.scope.names.lookup x = some .local by rw [hs]; exact hl) hn hm (PySem.P.le_str (wpAny_truthy_bool ?_))) hd)))
  by_cases h : ([c] : List Nat) < lo.cps.toList
  · rw [decide_eq_true (p := ([c] : List Nat) < lo.cps.toList) h]
    exact ite_ff ⟨by show Value.bool (!true) = Value.bool ((!decide (([c] : List Nat) < lo.cps.toList)) && _); rw [decide_eq_true h]; rfl, GxR.keeps_tok _ _⟩
  · rw [decide_eq_false (p := ([c] : List Nat) < lo.cps.toList) h]
    exact ite_tt (chain_last (Calls.Constant_str (PySem.P.le_str ⟨by show Value.bool _ = Value.bool ((!decide (([c] : List Nat) < lo.cps.toList)) && _); rw [decide_eq_false h]; rfl, GxR.keeps_tok _ _⟩)))
/-! ## calls that keep all that stands: frames unknown -/
theorem kps_refl (s : Shared) : Keeps s s := GxR.keeps_refl s
theorem kps_trans {a b c : Shared} (x : Keeps a b) (y : Keeps b c) : Keeps a c := by
  obtain ⟨h1, t1, rfl, k1⟩ := x
  obtain ⟨h2, t2, rfl, k2⟩ := y
  exact ⟨h2, t2, rfl, fun b o e => k2 b o (k1 b o e)⟩
theorem kps_tok (s : Shared) (t : Nat) : Keeps s { s with toks := t } := GxR.keeps_tok s t
theorem mod_keeps {K : PySem.W.Frag} {mg : Str → Option Value} {h h' : Heap} (M : Mod K mg h) (k : ∀ b o, h.get? b = some o → h'.get? b = some o) : Mod K mg h' :=
  ⟨M.kin.keeps k, M.glob.keeps k, let ⟨mb, a, b⟩ := M.blt; ⟨mb, a.keeps k, b⟩, M.nolimit.keeps k⟩
/-- a frame of a def that keeps what stands -/
structure Fm (K : PySem.W.Frag) (mg : Str → Option Value) (env : Env) (m : Str → Option Value) (s0 s : Shared) : Prop where
  kp : Keeps s0 s
  ns : s.heap.Ns env.locals m
  md : Mod K mg s.heap
theorem Fm.step {K : PySem.W.Frag} {mg : Str → Option Value} {env : Env} {m : Str → Option Value} {s0 s s' : Shared} (F : Fm K mg env m s0 s) (k : Keeps s s') : Fm K mg env m s0 s' := by
  refine ⟨kps_trans F.kp k, ?_, ?_⟩
  · obtain ⟨h, t, rfl, kk⟩ := k
    exact F.ns.keeps kk
  · obtain ⟨h, t, rfl, kk⟩ := k
    exact mod_keeps F.md kk
theorem kps_get {s s' : Shared} (k : Keeps s s') {b : Addr} {o : Obj} (e : s.heap.get? b = some o) : s'.heap.get? b = some o := by
  obtain ⟨h, t, rfl, kk⟩ := k
  exact kk b o e
structure Fn (env : Env) (x : Str) : Prop where
  kind : env.scope.kind = .function
  glob : env.globals = mainGlobals
  blt : env.builtins = builtinsNs
section
variable {P : Program} {w : World} {A : Around} {E : Value → Shared → Prop} {K : PySem.W.Frag} {mg : Str → Option Value} {env : Env} {m : Str → Option Value} {s0 s : Shared} {x : Str} {pos : Pos} {Q : Value → Shared → Prop}
theorem rn_loc {v : Value} (F : Fm K mg env m s0 s) (hk : env.scope.kind = .function) (hl : env.kindOf x = some .local) (hv : m x = some v) (h : Q v s) (hd : (x == ("__debug__" : Str)) = false := by decide) : wpAny (model P w) A (eval (.Name x pos) env) Q E s :=
  wpAny_Name (wpAny_loadName_local hk hl F.ns hv h) hd
theorem rn_glob {v : Value} (F : Fm K mg env m s0 s) (e : Fn env x) (hg : env.kindOf x = some .globalImplicit) (hv : mg x = some v) (h : Q v s) (hd : (x == ("__debug__" : Str)) = false := by decide) : wpAny (model P w) A (eval (.Name x pos) env) Q E s :=
  Calls.Name_function_global e.kind hg (Calls.loadGlobal_global (by rw [e.glob]; exact F.md.glob) hv h) hd
theorem rn_blt {v : Value} (F : Fm K mg env m s0 s) (e : Fn env x) (hg : env.kindOf x = some .globalImplicit) (hm : mg x = none) (hv : bootBuiltins x = some v) (h : Q v s) (hn : x ≠ "__name__" := by decide) (hd : (x == ("__debug__" : Str)) = false := by decide) :
    wpAny (model P w) A (eval (.Name x pos) env) Q E s := by
  obtain ⟨mb, h1, h2⟩ := F.md.blt
  exact Calls.Name_function_global e.kind hg (Calls.loadGlobal_builtin (by rw [e.glob]; exact F.md.glob) hm (by rw [e.blt]; exact h1) ((h2 x hn).trans hv) h) hd
end
/-- called with us at a heap of which R holds, the def at f answers b and keeps what stands -/
def KC (P : Program) (w : World) (K : PySem.W.Frag) (mg : Str → Option Value) (k : Nat) (f : Addr) (us : List Value) (R : Heap → Prop) (b : Bool) : Prop :=
  ∀ (A : Around) (s : Shared) (Q : Value → Shared → Prop) (E : Value → Shared → Prop), Room k A → Mod K mg s.heap → R s.heap → (∀ s', Keeps s s' → Q (.bool b) s') → wpAny (model P w) A (call (.ref f) us) Q E s
end Hf
set_option Elab.async false
set_option linter.all false
set_option maxRecDepth 100000
set_option maxHeartbeats 4000000
namespace Hf
open PySem L2 PySem.Spec PyProof.Rows
/-! ## d.items() of a dict with tuple keys -/
section
variable {X : Cx} {pins : List (Addr × Obj)} {σ : L2.St} {H : Hp} {s : Shared} {d : Addr} {o : Obj}
theorem frzTv {kvs : List (List Key × V)} (I : Inv X pins σ H s) (h : H d = some (.frz o (.dT kvs))) :
    (d == sysModules) = false ∧ s.heap.get? d = some o ∧ o.ExactDict ∧ ∃ (es : Array DictEntry) (ep : Nat), o.data = .dict es ep ∧ es.size = kvs.length ∧
      ∀ (i : Nat) (k : List Key) (v : V), kvs[i]? = some (k, v) → ∃ (en : DictEntry) (q : Addr), es[i]? = some en ∧ en.key = .ref q ∧ H q = some (.tup (k.map kV)) ∧ L2.RelV v en.val := by
  obtain ⟨hd, z, hs, xs, pr, o', es, ep, ho, hx, hdt, he, _⟩ := I.hok d _ h
  rw [hd] at ho
  cases ho
  refine ⟨hs, hd, hx, es, ep, hdt, ?_, fun i k v e => ?_⟩
  · have l1 : es.size = xs.length := size_of_entries he
    have l2 : kvs.length = xs.length := Paired.length pr
    omega
  · obtain ⟨b, hb, e1, e2, e3⟩ := paired_get pr e
    have q := entry_at he i
    rw [hb] at q
    exact ⟨_, b.2.1, q, rfl, e2, e3⟩
end
def ItT (d : Addr) (o : Obj) (kvs : List (List Key × V)) : It :=
  ⟨fun i H => H d = some (.frz o (.dT kvs)) ∧ i < kvs.length, fun i H x H' => ∃ (T : Addr) (k : List Key) (v : V) (q : Addr), kvs[i]? = some (k, v) ∧ x = .ref T ∧ H T = none ∧ H q = some (.tup (k.map kV)) ∧ H' = upd H T (.tup [.ref q, v]),
    fun i H => H d = some (.frz o (.dT kvs)) ∧ kvs.length ≤ i⟩
section
variable {P : Program} {w : World} {K : PySem.W.Frag} {d : Addr} {o : Obj} {es : Array DictEntry} {ep : Nat}
theorem turn_itemsT {kvs : List (List Key × V)} {elts : List Expr} {kk : Nat} {tpos : Pos} (it : Addr) (hod : o.data = .dict es ep) (hsz0 : es.size = kvs.length) :
    Turn P w K (.Tuple elts kk tpos) (ItT d o kvs) [it] it (fun i h => ∃ ok ov, IsItemIter h it d i es.size ep ok ov) where
  mem := by simp
  obj := fun i h st b hb => by
    have e : b = it := by simpa using hb
    subst e
    obtain ⟨ok, ov, e⟩ := st
    exact ⟨_, e, fun v z => nomatch z⟩
  keep := fun i h h' st k => let ⟨ok, ov, e⟩ := st; ⟨ok, ov, k it (by simp) _ e⟩
  item := by
    intro X hP hw hK hc i pins s σ H E I hf st hg
    subst hP hw hK
    obtain ⟨hd, hi⟩ := hg
    obtain ⟨hs, hgd, hx, es', ep', hdt, hsz, ent⟩ := frzTv I hd
    obtain ⟨rfl, rfl⟩ := dict_ep hod hdt
    obtain ⟨⟨k, v⟩, hkv⟩ : ∃ p, kvs[i]? = some p := ⟨kvs[i], List.getElem?_eq_getElem hi⟩
    obtain ⟨en, q, hen, hkey, hq, rv⟩ := ent i k v hkv
    obtain ⟨ok, ov, he⟩ := st
    have hlt : it < s.heap.objs.size := Heap.lt_size he
    have hi' : i < es'.size := by omega
    have een : es'[i] = en := by
      rw [Array.getElem?_eq_getElem hi'] at hen
      exact Option.some.inj hen
    refine wpAny_pyNext_items_item_raw he ⟨o, hgd, hx, hod⟩ hi' fun h' ho hT hz hk => ?_
    rw [een, hkey] at ho hT
    refine ⟨_, rfl, wpAny_letOwnedTupleGo_items (s := { s with heap := h' }) ho fun h'' he' sb => ?_⟩
    have hT2 : h''.get? s.heap.objs.size = some { cls := .type "tuple", data := .seq #[.ref q, en.val] } := (sb.2 _ (Nat.ne_of_gt hlt)).trans hT
    have new : ObjOk X.prog X.w (upd H s.heap.objs.size (.tup [.ref q, v])) h'' s.heap.objs.size (.tup [.ref q, v]) :=
      ⟨by show 2 ≤ sizeLine; decide, [.ref q, en.val], .cons rfl (.cons rv .nil), ⟨_, hT2, rfl, _, rfl⟩⟩
    have I1 : Inv X pins σ (upd H s.heap.objs.size (.tup [.ref q, v])) { s with heap := h'' } :=
      I.turnedNew (t' := s.toks) (ch := [it]) (fun b ob hb e => (sb.2 b (by simpa using hb)).trans (hk b ob (by simpa using hb) e)) hf (Nat.le_refl _) new
    refine ⟨.ref s.heap.objs.size, _, I1, rfl, ⟨_, k, v, q, hkv, rfl, I.hok.fresh (Nat.le_refl _), hq, rfl⟩, ⟨.ref q, en.val, he'⟩, fun b hb => ?_⟩
    have e : b = it := by simpa using hb
    rw [e, upd_ne (Nat.ne_of_lt hlt)]
    exact (hf it (by simp)).1
  done := by
    intro X hP hw hK hc i pins s σ H E I hf st hg
    subst hP hw hK
    obtain ⟨hd, hi⟩ := hg
    obtain ⟨f0, f1, f2, f3, f4, f5⟩ := hf it (by simp)
    obtain ⟨hs, hgd, hx, es', ep', hdt, hsz, ent⟩ := frzTv I hd
    obtain ⟨rfl, rfl⟩ := dict_ep hod hdt
    obtain ⟨ok, ov, he⟩ := st
    exact wpAny_pyNext_items_end_raw (I.ok.hd hc) he ⟨o, hgd, hx, hod⟩ (by omega) fun h' eb => ⟨rfl, I.turned (t' := s.toks) (fun b ob hb e => eb b ob hb e) f0 f1 f3 f4 f5⟩
  self := fun A i s Q E st h => let ⟨_, _, e⟩ := st; PySem.W.kcp_self e h
end
def iItemsT (td : TE) : TI := fun σ H R => td σ H fun x H1 => ∃ d o kvs, x = .ref d ∧ H1 d = some (.frz o (.dT kvs)) ∧ R (ItT d o kvs) H1
/-- the values of a new dict -/
def iValsF (td : TE) : TI := fun σ H R => td σ H fun x H1 => ∃ d kvs, x = .ref d ∧ H1 d = some (.dK kvs) ∧ ∀ o, R (Itd d o kvs) (upd H1 d (.frz o (.dK kvs)))
section
variable {X : Cx} {tg e : Expr} {td : TE} {apos cpos : Pos}
theorem pi_itemsT {elts : List Expr} {kk : Nat} {tpos : Pos} (he : PE X e td) (hbase : attributeBase e "items" X.env (eval e X.env) = eval e X.env := by rfl) (hline : (apos.endLine == cpos.line) = true := by rfl) :
    PI X (.Tuple elts kk tpos) (.Call (.Attribute e "items" apos) [] [] cpos) (iItemsT td) := by
  refine ⟨fun pins s σ H R I h => ?_⟩
  refine wpAny_Call_method (T := "dict") (id := "dict.items") hbase rfl hline F.plainAttrs_dict F.slot_dict_items F.type_dict_items (thn (he.run pins s σ H _ I h) fun u s1 ⟨x, H1, I1, rx, d, o, kvs, ex, hd, q⟩ => ?_)
  subst ex
  obtain rfl : u = Value.ref d := rx
  obtain ⟨hs, hgd, hx, es, ep, hdt, hsz, ent⟩ := frzTv I1 hd
  have hm : s1.heap.DictRaw d es ep := ⟨o, hgd, hx, hdt⟩
  refine ⟨hm.typeIs, fun a e => (by cases e; exact ⟨o, hgd, hx.2.1⟩), ?_⟩
  have I2 : Inv X pins σ H1 { s1 with heap := s1.heap.push { cls := .type "dict_items", data := .fields #[.ref d] } } := I1.kept (t' := s1.toks) fun b ob q => Heap.get?_push_of_some _ q
  have fin : wpAny (model X.prog X.w) X.A (pyIter (.ref s1.heap.objs.size)) (PIE X pins σ (.Tuple elts kk tpos) R) X.xe { s1 with heap := s1.heap.push { cls := .type "dict_items", data := .fields #[.ref d] } } := by
    refine wpAny_pyIter_items_raw (d := d) ⟨_, Heap.get?_push_size _ rfl, rfl, rfl⟩ (hm.at fun _ e => Heap.get?_push_of_some _ e) (pi_one (tk := s1.toks) I2 _ (turn_itemsT _ hdt hsz) ⟨.none, .none, ?_⟩ q)
    exact Heap.get?_push_size _ rfl
  show wpAny _ _ (callWith cpos (.builtin "dict.items") [.ref d] [] []) _ X.xe s1
  exact method_meetsIn F.slot_dict_items F.entry_dict_items rfl (PySem.evalArgs_none ⟨rfl, hm.typeIs, F.args_dict_items_1 _, _, meets_dict_items_raw d hs, ⟨_, _, hm⟩, fin⟩)
theorem pi_valuesF (he : PE X e td) (hbase : attributeBase e "values" X.env (eval e X.env) = eval e X.env := by rfl) (hline : (apos.endLine == cpos.line) = true := by rfl) : PI X tg (.Call (.Attribute e "values" apos) [] [] cpos) (iValsF td) := by
  refine ⟨fun pins s σ H R I h => ?_⟩
  refine wpAny_Call_method (T := "dict") (id := "dict.values") hbase rfl hline F.plainAttrs_dict F.slot_dict_values F.type_dict_values (thn (he.run pins s σ H _ I h) fun u s1 ⟨x, H1, I0, rx, d, kvs, ex, hd0, q0⟩ => ?_)
  subst ex
  obtain rfl : u = Value.ref d := rx
  obtain ⟨o, I1⟩ := I0.lock hd0 True.intro
  have q := q0 o
  have hd : (upd H1 d (.frz o (.dK kvs))) d = some (.frz o (.dK kvs)) := upd_same
  obtain ⟨hs, hgd, hx, es, ep, vs, hdt, hsz, kv, hm⟩ := I1.frzK hd
  have hl : kvs.length = vs.length := Paired.length kv
  refine ⟨hm.dictOf.typeIs, hm.dictOf.mapOf.noDict, ?_⟩
  have I2 : Inv X pins σ (upd H1 d (.frz o (.dK kvs))) { s1 with heap := s1.heap.push { cls := .type "dict_values", data := .fields #[.ref d] } } := I1.kept (t' := s1.toks) fun b ob q => Heap.get?_push_of_some _ q
  have fin : wpAny (model X.prog X.w) X.A (pyIter (.ref s1.heap.objs.size)) (PIE X pins σ tg R) X.xe { s1 with heap := s1.heap.push { cls := .type "dict_values", data := .fields #[.ref d] } } := by
    refine wpAny_pyIter_values (d := d) (knd := mixKind X.prog X.w) ⟨_, Heap.get?_push_size _ rfl, rfl, rfl⟩ (hm.push _) (pi_one (tk := s1.toks) I2 _ (turn_vals _ hdt) ⟨_, Heap.get?_push_size _ rfl, rfl, ?_⟩ q)
    rw [hl] <;> rfl
  show wpAny _ _ (callWith cpos (.builtin "dict.values") [.ref d] [] []) _ X.xe s1
  exact method_meetsIn F.slot_dict_values F.entry_dict_values rfl (PySem.evalArgs_none ⟨rfl, hm.dictOf.typeIs, F.args_dict_values_1 _, _, meets_dict_values (mixKind X.prog X.w) d hs, ⟨vs, hm.dictOf⟩, fin⟩)
end
theorem for_itT {d : Addr} {o : Obj} {kvs : List (List Key × V)} {g : TG} {tb : TS} {D : Ends} {σ : L2.St} {H : Hp} (Pv : Nat → L2.St → Hp → Prop) (h0 : Pv 0 σ H) (hl : ∀ i σ H, i ≤ kvs.length → Pv i σ H → H d = some (.frz o (.dT kvs)))
    (hs : ∀ i (k : List Key) (v : V) (T q : Addr) σ H, kvs[i]? = some (k, v) → Pv i σ H → H T = none → H q = some (.tup (k.map kV)) → g (.ref T) σ (upd H T (.tup [.ref q, v])) fun σ2 H2 => tb { D with nx := Pv (i + 1), ct := Pv (i + 1), bk := D.nx } σ2 H2) (hd : ∀ σ H, Pv kvs.length σ H → D.nx σ H) :
    ∃ W : Nat → Nat → L2.St → Hp → Prop, (∃ m, W 0 m σ H) ∧ ∀ i m σ H, W i m σ H →
      ((ItT d o kvs).stop i H ∧ D.nx σ H) ∨ ((ItT d o kvs).go i H ∧ ∃ N : L2.St → Hp → Prop, (∀ σ' H', N σ' H' → ∃ m', m' < m ∧ W (i + 1) m' σ' H') ∧ ∀ x H', (ItT d o kvs).yld i H x H' → g x σ H' fun σ2 H2 => tb { D with nx := N, ct := N, bk := D.nx } σ2 H2) := by
  refine ⟨fun i m σ H => m = kvs.length - i ∧ i ≤ kvs.length ∧ Pv i σ H, ⟨kvs.length, by simp, Nat.zero_le _, h0⟩, ?_⟩
  rintro i m σ H ⟨rfl, hi, p⟩
  have q := hl i σ H hi p
  by_cases hlt : i < kvs.length
  · refine .inr ⟨⟨q, hlt⟩, Pv (i + 1), fun σ' H' p' => ⟨kvs.length - (i + 1), by omega, rfl, hlt, p'⟩, fun x H' y => ?_⟩
    obtain ⟨T, k, v, r, e, rfl, hT, hq, rfl⟩ := y
    exact hs i k v T r σ _ e p hT hq
  · have e : i = kvs.length := by omega
    subst e
    exact .inl ⟨⟨q, Nat.le_refl _⟩, hd σ H p⟩
/-- a dict comprehension over a list that stays -/
theorem dc_list {K : PySem.W.Frag} {a : Addr} {xs : List V} {g : TG} {tt : TT} {tk tv : TE} {vs : List Nat} {σ : L2.St} {H1 : Hp} {D : Addr} {Qd : Hp → Prop} (Pv : Nat → Hp → Prop) (h0 : Pv 0 (upd H1 D (.dK []))) (hl : ∀ i H, i ≤ xs.length → Pv i H → SqL K H a xs)
    (hs : ∀ i x H, xs[i]? = some x → Pv i H → g x (wipe σ vs) H fun σ2 H2 => wipe σ2 vs = wipe σ vs ∧ tt σ2 H2 fun b H3 =>
      if b = true then tk σ2 H3 fun y H4 => tv σ2 H4 fun z H5 => ∃ kvs k, y = kV k ∧ H5 D = some (.dK kvs) ∧ kvs.length < sizeLine ∧ Pv (i + 1) (upd H5 D (.dK (putK kvs k z))) else Pv (i + 1) H3) (hd : ∀ H, Pv xs.length H → Qd H) :
    ∃ W : Nat → Nat → Hp → Prop, (∃ m, W 0 m (upd H1 D (.dK []))) ∧ ∀ i m H, W i m H →
      ((Itl K a).stop i H ∧ Qd H) ∨ ((Itl K a).go i H ∧ ∃ Nx : Hp → Prop, (∀ H', Nx H' → ∃ m', m' < m ∧ W (i + 1) m' H') ∧ ∀ x H', (Itl K a).yld i H x H' → g x (wipe σ vs) H' fun σ2 H2 => wipe σ2 vs = wipe σ vs ∧ tt σ2 H2 fun b H3 =>
        if b = true then tk σ2 H3 fun y H4 => tv σ2 H4 fun z H5 => ∃ kvs k, y = kV k ∧ H5 D = some (.dK kvs) ∧ kvs.length < sizeLine ∧ Nx (upd H5 D (.dK (putK kvs k z))) else Nx H3) := by
  refine ⟨fun i m H => m = xs.length - i ∧ i ≤ xs.length ∧ Pv i H, ⟨xs.length, by simp, Nat.zero_le _, h0⟩, ?_⟩
  rintro i m H ⟨rfl, hi, p⟩
  have q := hl i H hi p
  by_cases hlt : i < xs.length
  · refine .inr ⟨⟨xs, xs[i], q, by simp [hlt]⟩, Pv (i + 1), fun H' p' => ⟨xs.length - (i + 1), by omega, rfl, hlt, p'⟩, fun x H' y => ?_⟩
    obtain ⟨e, y⟩ := y
    subst e
    exact hs i x _ (y xs q) p
  · have e : i = xs.length := by omega
    subst e
    exact .inl ⟨⟨xs, q, Nat.le_refl _⟩, hd H p⟩
end Hf
set_option Elab.async false
set_option maxRecDepth 100000
set_option maxHeartbeats 4000000
namespace Hf
open PySem L2 PySem.Spec PyProof.Rows LamX
/-! ## sorted(xs, key=lambda ..): a captured number, triples of two texts and a number -/
section
variable {X : Cx} {pins : List (Addr × Obj)} {σ : L2.St} {H : Hp} {s : Shared}
theorem lam_new {c P : Addr} {params : Arguments} {body : Expr} {scope : Scope} {pos : Pos} {ps : Array Value} {E : Value → Shared → Prop} {Q : Value → Shared → Prop} (I : Inv X pins σ H s) (TB : TabB X.base X.mg c P) (hcode : X.env.code = .ref c)
    (hP : H P = some (.tbl ps)) (ht : TriplesOk ps.toList) (hc : codeAmong pos ps.toList = none) (hdef : defaultsOf params X.env = ([], [])) (hfree : ∀ y ∈ scope.names, y.2 = .free → ∃ c, X.env.cells.lookup y.1 = some c)
    (h : ∀ (f c' : Addr) (pm ctv : Value) (H1 : Hp) (s' : Shared), Inv X pins σ H1 s' → Sm H H1 →
      s'.heap.get? f = some (PySem.W.kla_obj "<lambda>" (X.env.qual ++ "<lambda>") params body scope (cloFrom X.env.cells scope.names []) pm c' ctv) → s'.heap.CodeRec (.ref c') (X.env.qual ++ "<lambda>") → Q (.ref f) s') :
    wpAny (model X.prog X.w) X.A (eval (.Lambda params body scope pos) X.env) Q E s := by
  refine PySem.W.kla_eval hdef ?_
  have bP : s.heap.BuiltinsAt X.mg P := TB.bm.keeps I.bk
  have hP' : s.heap.get? P = some { cls := .none, data := .fields ps } := I.hok P _ hP
  refine PySem.W.kla_makeFunction (mg := X.mg) (c := c) (P := P) (ps := ps) (closure_ok hfree) I.ok.glob (I.mod.glob.keeps I.bk) hcode (TB.code.keeps I.bk) hP' ht hc TB.gP bP fun c' ctv h' tk hx hge hlt hrec htb => ?_
  obtain ⟨c2, oc, vs, t, e2, hoc, hd, hv⟩ := hrec
  cases e2
  have nC : H c' = none := I.hok.fresh hge
  have I1 := inv_table (t' := tk) (more := #[rawInt pos.line, rawInt pos.col, .ref c']) (h' := h'.push (PySem.W.kla_obj "<lambda>" (X.env.qual ++ "<lambda>") params body scope (cloFrom X.env.cells scope.names []) ((X.mg "__name__").getD .none) c' ctv)) I hP
    (fun b o hb e => Heap.get?_push_of_some _ (hx b o hb e)) (Heap.get?_push_of_some _ htb) hge ⟨oc, vs, t, Heap.get?_push_of_some _ hoc, hd, hv⟩
  refine h h'.objs.size c' ((X.mg "__name__").getD .none) ctv _ _ I1 ⟨fun b o e n => ?_, fun b q e => ?_⟩ (Heap.get?_push_size _ rfl) ⟨c', oc, vs, t, rfl, Heap.get?_push_of_some _ hoc, hd, hv⟩
  · rw [upd_ne (ne_of_none e nC), upd_ne (fun z => n ps (Option.some.inj (e.symm.trans (by rw [z]; exact hP))))]
    exact e
  · by_cases z : b = P
    · subst z
      rw [hP] at e
      cases e
      refine ⟨_, by rw [upd_ne (ne_of_none hP nC), upd_same], fun _ => ?_⟩
      have eL : (ps ++ #[rawInt pos.line, rawInt pos.col, .ref c']).toList = ps.toList ++ [rawInt pos.line, rawInt pos.col, .ref c'] := by simp
      rw [eL]
      exact PySem.TriplesOk_snoc _ _ _ _ ht
    · exact ⟨q, by rw [upd_ne (ne_of_none e nC), upd_ne z]; exact e, fun z => z⟩
end
/-- the key -/
def lamKey (cell : Int) (z : Str) (n : Int) : Int := ((cell + 31 * n + 7 * (z.length : Int)) * 48271).fmod 1009
abbrev lamBody (j1 j2 j3 j4 j5 j6 : Nat) (p0 p1 p2 p3 p4 p5 p6 p7 p8 p9 q0 q1 q2 q3 q4 q5 q6 q7 q8 _q9 : Pos) : Expr :=
  .BinOp (.BinOp (.BinOp (.BinOp (.Name "_law_cell" p0) .Add (.BinOp (.Constant (.int 31) j1 p1) .Mult (.Subscript (.Name "_law_tally" p2) (.Constant (.int 2) j2 p3) p4) p5) p6) .Add
    (.BinOp (.Constant (.int 7) j3 p7) .Mult (.Call (.Name "len" p8) [.Subscript (.Name "_law_tally" p9) (.Constant (.int 0) j4 q0) q1] [] q2) q3) q4) .Mult (.Constant (.int 48271) j5 q5) q6) .Mod (.Constant (.int 1009) j6 q7) q8
section
variable {P : Program} {w : World} {A : Around} {E : Value → Shared → Prop} {K : PySem.W.Frag} {mg : Str → Option Value} {env : Env} {m : Str → Option Value} {s0 s : Shared} {Q : Value → Shared → Prop}
theorem lam_key {q c : Addr} {z y : Str} {t1 t2 t3 tc : Tok} {n cell : Int} (F : Fm K mg env m s0 s) (hk : env.scope.kind = .function) (hl : env.kindOf "_law_tally" = some .local) (hm : m "_law_tally" = some (.ref q)) (hT : IsTup s.heap q #[.str z t1, .str y t2, .int n t3])
    (hf : env.kindOf "_law_cell" = some .free) (hc : env.cells.lookup ("_law_cell" : Str) = some c) (hC : s.heap.IsCell c (some (.int cell tc))) (en : Fn env "len") (hg : env.kindOf "len" = some .globalImplicit) (bl : mg "len" = none) (zl : z.length < 1000)
    {j1 j2 j3 j4 j5 j6 : Nat} {p0 p1 p2 p3 p4 p5 p6 p7 p8 p9 q0 q1 q2 q3 q4 q5 q6 q7 q8 q9 : Pos} (h : ∀ t s', Keeps s0 s' → Q (.int (lamKey cell z n) t) s') :
    wpAny (model P w) A (eval (lamBody j1 j2 j3 j4 j5 j6 p0 p1 p2 p3 p4 p5 p6 p7 p8 p9 q0 q1 q2 q3 q4 q5 q6 q7 q8 q9) env) Q E s := by
  refine wpAny_BinOp (wpAny_BinOp (wpAny_BinOp (wpAny_BinOp (wpAny_Name (wpAny_loadName_free hk hf hc hC ?_)))))
  refine wpAny_BinOp (wpAny_Constant_int ?_)
  have F1 := F.step (kps_tok s (s.toks + 1))
  refine Subscript_ (rn_loc F1 hk hl hm (wpAny_Constant_int ?_))
  have F2 := F1.step (kps_tok _ (s.toks + 1 + 1))
  refine subscriptTail_builtinR (x := .int n t3) hT.typeIs slot_tuple_getitem.lookup (getItem_tuple (j := 2) hT (by decide) (by decide) rfl rfl ⟨rfl, ?_⟩) rfl
  refine mul_int (add_int ?_)
  have F3 := F2.step (kps_tok _ (s.toks + 1 + 1 + 1 + 1))
  refine wpAny_BinOp (wpAny_Constant_int (wpAny_Call_Name_kw (rn_blt (F3.step (kps_tok _ _)) en hg bl boot_len ?_)))
  refine PyProof.Rows.callWith_builtin1 (Calls.spliced_cons (Subscript_ (rn_loc (F3.step (kps_tok _ _)) hk hl hm (wpAny_Constant_int ?_))))
  refine subscriptTail_builtinR (x := .str z t1) hT.typeIs slot_tuple_getitem.lookup (getItem_tuple (j := 0) hT (by decide) (by decide) rfl rfl ⟨rfl, ?_⟩) rfl
  refine Calls.spliced_nil (len_str (by omega) (mul_int (add_int (wpAny_Constant_int (mul_int (wpAny_Constant_int (mod_int (by decide) (h _ _ ?_))))))))
  exact (F.step ⟨_, _, rfl, fun b o e => e⟩).kp
/-- what the lambda's scope and parameters are -/
structure LamSc (scope : Scope) (params : Arguments) : Prop where
  kind : scope.kind = .function
  co : scope.isCoroutine = false
  gen : scope.isGenerator = false
  cell : ∀ x ∈ scope.names, x.2 ≠ .cell
  t : scope.names.lookup ("_law_tally" : Str) = some .local
  c : scope.names.lookup ("_law_cell" : Str) = some .free
  len : scope.names.lookup ("len" : Str) = some .globalImplicit
  dbg : ∀ (e : Env), defaultsOf params e = ([], [])
  bind : ∀ (body : Expr) (q : Str) (cl : List (Str × Addr)) (pm cv ctv v : Value), bindArgs (PySem.W.kla_fn "<lambda>" q params body scope cl pm cv ctv) ⟨[v], []⟩ = pure [(("_law_tally" : Str), v)]
theorem lam_call {f c' q c : Addr} {qual : Str} {params : Arguments} {scope : Scope} {cl : List (Str × Addr)} {pm ctv : Value} {z y : Str} {t1 t2 t3 tc : Tok} {n cell : Int} {j1 j2 j3 j4 j5 j6 : Nat} {p0 p1 p2 p3 p4 p5 p6 p7 p8 p9 q0 q1 q2 q3 q4 q5 q6 q7 q8 q9 : Pos}
    (hd : A.depth < recursionLimit) (M : Mod K mg s.heap) (S : LamSc scope params) (hf : s.heap.get? f = some (PySem.W.kla_obj "<lambda>" qual params (lamBody j1 j2 j3 j4 j5 j6 p0 p1 p2 p3 p4 p5 p6 p7 p8 p9 q0 q1 q2 q3 q4 q5 q6 q7 q8 q9) scope cl pm c' ctv))
    (hrec : s.heap.CodeRec (.ref c') qual) (hc : cl.lookup ("_law_cell" : Str) = some c) (hC : s.heap.IsCell c (some (.int cell tc))) (hT : IsTup s.heap q #[.str z t1, .str y t2, .int n t3]) (bl : mg "len" = none) (zl : z.length < 1000) :
    wpAny (model P w) A (call (.ref f) [.ref q]) (PySem.W.KeyPure (.int (lamKey cell z n)) s) (fun _ _ => False) s := by
  refine wpAny_call (PySem.W.kla_callFunE hd hf rfl S.co S.gen rfl hrec ?_)
  rw [S.bind]
  refine wpAny_pure (wpAny_newFunctionEnv S.cell (fun x hx => ?_) (fun h₁ hns hsb => ⟨M.nolimit.fresh _ hsb, ?_⟩) S.kind)
  · obtain rfl := List.mem_singleton.mp hx
    exact S.t
  have kp : ∀ b o, s.heap.get? b = some o → h₁.get? b = some o := fun b o e => hsb.extBut b o (Nat.ne_of_lt (Heap.lt_size e)) (Heap.get?_push_of_some _ e)
  have F : Fm K mg (PySem.W.envX qual scope s.heap.objs.size f (.ref c') cl) (fun x => ([("_law_tally", .ref q)] : List (Str × Value)).reverse.lookup x) s { s with heap := h₁, toks := s.toks + ([("_law_tally", Value.ref q)] : List (Str × Value)).length } :=
    ⟨⟨h₁, _, rfl, kp⟩, hns, mod_keeps M kp⟩
  refine PySem.W.kla_codeExpr ?_
  refine lam_key (env := PySem.W.envX qual scope s.heap.objs.size f (.ref c') cl) F S.kind S.t rfl (hT.keeps kp) S.c hc (hC.keeps kp) ⟨S.kind, rfl, rfl⟩ S.len bl zl fun t s' k => ?_
  obtain ⟨h', tk, rfl, kk⟩ := k
  exact ⟨h', tk, rfl, kk, .int _ t⟩
end
abbrev Trp := Addr × Str × Str × Int
def trpV (b : Trp) : List V := [.str b.2.1, .str b.2.2.1, .int b.2.2.2]
def trpsV (bs : List Trp) : List V := bs.map fun b => V.ref b.1
def tSortLam (K : PySem.W.Frag) (T : Addr) (i : Nat) (t : TE) : TE := fun σ H Q => t σ H fun v H1 => ∃ (a : Addr) (bs : List Trp) (cell : Int), v = .ref a ∧ SqL K H1 a (trpsV bs) ∧ (∀ b ∈ bs, H1 b.1 = some (.tup (trpV b)) ∧ b.2.1.length < 1000) ∧
  σ[i]? = some (some (.int cell)) ∧ H1 T = some (.tbl #[]) ∧ ∀ (H2 : Hp) (p : Addr) (bs' : List Trp), Sm H1 H2 → H2 p = none → bs'.Perm bs → Q (.ref p) (upd H2 p (.lst (trpsV bs')))
theorem each_refs : ∀ {bs : List Trp} {us : List Value}, Vals (trpsV bs) us → PySem.W.EachIs (fun (v : Value) (b : Trp) => v = .ref b.1) us bs
  | [], _, r => by
    cases r
    exact .nil
  | b :: bs, _, r => by
    cases r with
    | cons h t =>
      cases h
      exact .cons rfl (each_refs t)
theorem refs_each : ∀ {bs : List Trp} {us : List Value}, PySem.W.EachIs (fun (v : Value) (b : Trp) => v = .ref b.1) us bs → Vals (trpsV bs) us
  | _, _, .nil => .nil
  | _, _, .cons h t => by
    subst h
    exact .cons rfl (refs_each t)
section
variable {X : Cx} {c T : Addr} {i : Nat} {k : Nat} {e : Expr} {t : TE} {params : Arguments} {scope : Scope} {j1 j2 j3 j4 j5 j6 : Nat} {p0 p1 p2 p3 p4 p5 p6 p7 p8 p9 q0 q1 q2 q3 q4 q5 q6 q7 q8 q9 p lpos kpos pos : Pos}
theorem pe_sortLam (hr : Room (k + 1) X.A) (hgl : Gl X "sorted") (hm : X.mg "sorted" = none) (hb : bootBuiltins "sorted" = some (.builtin "sorted")) (hlen : X.mg "len" = none) (TB : GxR.TabB X.base X.mg c T) (hcode : X.env.code = .ref c)
    (S : LamSc scope params) (hN : X.N[i]? = some ("_law_cell" : Str)) (hcl : X.env.scope.names.lookup ("_law_cell" : Str) = some .cell) (hfree : ∀ y ∈ scope.names, y.2 = .free → y.1 = "_law_cell") (he : PE X e t)
    (hs1 : backTo pos (starEach [e] X.env) = (false, eval e X.env) :: backTo pos (starEach [] X.env) := by rfl) :
    PE X (.Call (.Name "sorted" p) [e] [⟨some "key", .Lambda params (lamBody j1 j2 j3 j4 j5 j6 p0 p1 p2 p3 p4 p5 p6 p7 p8 p9 q0 q1 q2 q3 q4 q5 q6 q7 q8 q9) scope lpos, kpos⟩] pos) (tSortLam X.K T i t) := by
  refine ⟨fun pins s σ H Q I h => ?_⟩
  refine wpAny_Call_Name_kw (ld_blt I hgl hm hb ?_)
  refine PyProof.Rows.callWith_kw ?_ hs1 (by rw [hs1]; rfl)
  rw [hs1]
  refine Calls.spliced_cons (thn (he.run pins s σ H _ I h) fun u s1 ⟨v, H1, I1, r1, q1⟩ => Calls.spliced_nil ?_)
  obtain ⟨a, bs, cell, rfl, hL, hT, hσ, hP, q⟩ := q1
  cases r1
  have hF : ∀ y ∈ scope.names, y.2 = .free → ∃ c, X.env.cells.lookup y.1 = some c := fun y hy e => by
    rw [hfree y hy e]
    exact I.ok.has _ (.inl hcl)
  show wpAny _ _ (evalAll [(do let v ← eval (.Lambda params _ scope lpos) X.env; standAt pos; pure v)]) _ _ s1
  refine wpAny_evalAll_cons (wpAny_bind (lam_new (ps := #[]) I1 ⟨TB.code, TB.bm, TB.gP⟩ hcode hP True.intro rfl (S.dbg _) hF fun f c' pm ctv H2 s2 I2 sm hf hrec => wpAny_bind (wpAny_standAt (wpAny_pure (wpAny_evalAll_nil ?_)))))
  show wpAny _ _ (call (.builtin "sorted") [.ref a] [(Str.ofString "key", .ref f)]) _ _ s2
  obtain ⟨its, rv, hl, hz⟩ := I2.list (sm.seqL hL)
  obtain ⟨m, hn, hloc⟩ := I2.loc
  obtain ⟨u, ru, lk⟩ := hloc i "_law_cell" (.int cell) hN hσ (.inr (.inl hcl))
  obtain ⟨tc, rfl⟩ := (show ∃ t, u = Value.int cell t from ru)
  obtain ⟨cc, hcc, hcell⟩ : ∃ cc, X.env.cells.lookup ("_law_cell" : Str) = some cc ∧ s2.heap.IsCell cc (some (.int cell tc)) := by
    rcases lk with ⟨z, _⟩ | ⟨_, z⟩
    · have z : X.env.scope.names.lookup ("_law_cell" : Str) = some .local := z
      rw [hcl] at z
      cases z
    · exact z
  have hcc2 : (cloFrom X.env.cells scope.names []).lookup ("_law_cell" : Str) = some cc := by
    obtain ⟨c3, h3⟩ := mem_lookup (cloFrom_has (cells := X.env.cells) (acc := []) (PySem.mem_of_lookup S.c))
    rw [h3]
    rcases cloFrom_mem (PySem.mem_of_lookup h3) with hm | ⟨h1, h2⟩
    · cases hm
    · rw [h2, hcc] <;> rfl
  have hlen2 : bs.length ≤ sizeLine := by
    have := rv.length
    unfold trpsV at this hz
    rw [List.length_map] at this hz
    exact hz
  refine PySem.W.sorted_key_data (b := false) (R := fun (v : Value) (b : Trp) => v = .ref b.1) (fun b : Trp => PyData.int (lamKey cell b.2.1 b.2.2.2)) hl.isList (each_refs rv) (PySem.W.AllAlike.of fun _ _ => by simp [PySem.W.alike]) (PySem.W.Sortable.others fun _ => ⟨nofun, nofun⟩) hlen2
    (fun b _ => ?_) (PyProof.Rows.ksk_s1 _ _) (fun _ => PyProof.Rows.ksk_l1 _ _) (fun _ => PyProof.Rows.ksk_t1 _ _) (fun v b e hb h tk kp => ?_) fun out cc h' tk kp hfr hD ho eo => ?_
  · have := hr.un
    show X.A.units + 2 + (PyData.int _).depth < cLine
    simp only [PyData.depth]
    omega
  · subst e
    obtain ⟨h1, h2⟩ := hT b hb
    obtain ⟨its2, r2, ht, _⟩ := I2.tuple (.inl (.inl (sm.tup h1)))
    unfold trpV at r2
    obtain ⟨w1, w2, w3, rfl, e1, e2, e3⟩ : ∃ w1 w2 w3, its2 = [w1, w2, w3] ∧ L2.RelV (.str b.2.1) w1 ∧ L2.RelV (.str b.2.2.1) w2 ∧ L2.RelV (.int b.2.2.2) w3 := by
      cases r2 with
      | cons a r => cases r with
        | cons b r => cases r with
          | cons c r =>
            cases r
            exact ⟨_, _, _, rfl, a, b, c⟩
    obtain ⟨t1, rfl⟩ := (show ∃ t, w1 = Value.str b.2.1 t from e1)
    obtain ⟨t2, rfl⟩ := (show ∃ t, w2 = Value.str b.2.2.1 t from e2)
    obtain ⟨t3, rfl⟩ := (show ∃ t, w3 = Value.int b.2.2.2 t from e3)
    exact lam_call (s := { s2 with heap := h, toks := tk }) (A := X.A.in1.in1) (by have := hr.dp; show X.A.depth < _; omega) (mod_keeps (mod_keeps I.ok.mod I2.bk) kp) S (kp _ _ hf) (by
      obtain ⟨c5, oc, vs, t, e, hoc, hd, hv⟩ := hrec
      exact ⟨c5, oc, vs, t, e, kp _ _ hoc, hd, hv⟩) hcc2 (hcell.keeps kp) (ht.keeps kp) hlen h2
  · have hp : (bs.mergeSort (PySem.W.dataLe false fun b : Trp => PyData.int (lamKey cell b.2.1 b.2.2.2))).Perm bs := List.mergeSort_perm _ _
    have np : H2 (s2.heap.objs.size + 1) = none := I2.hok.fresh (Nat.le_succ _)
    refine ⟨.ref (s2.heap.objs.size + 1), _, I2.laid (t' := tk) (o := .lst (trpsV (bs.mergeSort (PySem.W.dataLe false fun b : Trp => PyData.int (lamKey cell b.2.1 b.2.2.2))))) kp (Nat.le_succ _) ⟨?_, out, cc, refs_each eo, hD⟩, rfl, q _ _ _ sm np hp⟩
    unfold trpsV
    rw [List.length_map, hp.length_eq]
    exact hlen2
end
end Hf
set_option Elab.async false
set_option maxRecDepth 100000
set_option maxHeartbeats 4000000
namespace Hf
open PySem L2 PySem.Spec PyProof.Rows GenW
/-! ## all(e for x in xs), any(..): the element any expression -/
abbrev gEnv (X : Cx) (scope : Scope) (C : Addr) (cd : Value) : Env := genEnv scope (cloFrom X.env.cells scope.names []) C cd builtinsNs X.env
/-- the generator's frame -/
abbrev gex (X : Cx) (s : Shared) (H : Hp) (scope : Scope) (C : Addr) (cd : Value) (A : Around) (fp : List Addr) (pn : List (Addr × Obj)) : Cx :=
  { X with A := A, s_0 := s, H_0 := H, env := gEnv X scope C cd, outer := X.stack, stack := gEnv X scope C cd :: X.stack, ex := fp, fn := fun _ => false, calm := true, pn := pn, xe := fun _ _ => False }
structure GOk (scope : Scope) : Prop where
  co : scope.isCoroutine = false
  cell : ∀ y ∈ scope.names, y.2 ≠ .cell
  dot : scope.names.lookup (".0" : Str) = some NameKind.local
theorem inv_same {Y : Cx} {pins : List (Addr × Obj)} {σ : L2.St} {H : Hp} {s s' : Shared} (I : Inv Y pins σ H s) (h : s'.heap = s.heap) (o : s'.os = s.os) (b : AllBare s'.gens) : Inv Y pins σ H s' :=
  ⟨I.ok, o.trans I.os, b, by rw [h]; exact I.base, by rw [h]; exact I.loc, by rw [h]; exact I.cell, I.free, I.freeC, by rw [h]; exact I.pin, by rw [h]; exact I.hok, I.len⟩
/-- turn i: the iterator stands at i -/
structure GSt (Y : Cx) (fp : List Addr) (tn : Nat → Heap → Prop) (σ0 : L2.St) (i : Nat) (H : Hp) (s : Shared) : Prop where
  inv : Inv Y [] σ0 H s
  tn : tn i s.heap
  fr : ∀ b ∈ fp, H b = none
theorem GSt.same {Y : Cx} {fp : List Addr} {tn : Nat → Heap → Prop} {σ0 : L2.St} {i : Nat} {H : Hp} {s s' : Shared} (G : GSt Y fp tn σ0 i H s) (h : s'.heap = s.heap) (o : s'.os = s.os) (b : AllBare s'.gens) : GSt Y fp tn σ0 i H s' :=
  ⟨inv_same G.inv h o b, by rw [h]; exact G.tn, G.fr⟩
def RAll (Y : Cx) (σ0 : L2.St) (st : Bool) (Q : VK) : GenEnd := fun _ _ r s => ((r = .ok (.ret .none) ∨ r = .ok .next) ∧ ∃ H, Inv Y [] σ0 H s ∧ Q (.bl (!st)) H) ∨ ∃ e, r = .error e ∧ False
def YAll (Y : Cx) (fp : List Addr) (tn : Nat → Heap → Prop) (σ0 : L2.St) (st : Bool) (Q : VK) : Protocol := fun _ _ v s kap =>
  ∃ (b : Bool) (i : Nat) (H : Hp), v = .bool b ∧ GSt Y fp tn σ0 i H s ∧ if b = st then Q (.bl st) H else ∀ s', s'.heap = s.heap → s'.os = s.os → AllBare s'.gens → kap (.send .none) s'
/-- one turn -/
def GTurn (J : It) (g : TG) (te : TE) (vs : List Nat) (σ0 : L2.St) (st : Bool) (W : Nat → Nat → Hp → Prop) (Q : VK) : Prop := ∀ i m H, W i m H →
  (J.stop i H ∧ Q (.bl (!st)) H) ∨ (J.go i H ∧ ∃ N : Hp → Prop, (∀ H', N H' → ∃ m', m' < m ∧ W (i + 1) m' H') ∧ ∀ x H', J.yld i H x H' → g x σ0 H' fun σ2 H2 => wipe σ2 vs = σ0 ∧ te σ2 H2 fun y H3 => ∃ b : Bool, y = .bl b ∧ if b = st then Q (.bl st) H3 else N H3)
theorem seg_gloop {Y : Cx} {tg iter elt : Expr} {scope : Scope} {pos : Pos} {Aw : Around} {it : Addr} {fp : List Addr} {tn : Nat → Heap → Prop} {J : It} {vs : List Nat} {σ0 : L2.St} {g : TG} {te : TE} {st : Bool} {Q : VK} {W : Nat → Nat → Hp → Prop}
    (hA : Aw.over (.compLoop (.GeneratorExp elt [⟨tg, iter, [], 0⟩] scope pos) 0 (.ref it) .none Y.env) [] = Y.A) (hxe : Y.xe = fun _ _ => False) (hc : Y.calm = true) (hco : Y.env.scope.isCoroutine = false)
    (T : Turn Y.prog Y.w Y.K tg J fp it tn) (hg : PG Y tg g) (he : PE Y elt te) (stat : ∀ {H' : Hp}, (∀ b ∈ fp, H' b = none) → ∀ b ∈ fp, FpOk Y [] H' b) (turn : GTurn J g te vs σ0 st W Q) :
    ∀ (n i m : Nat) (H : Hp) (s₀ s : Shared), m + 1 ≤ n → GSt Y fp tn σ0 i H s → W i m H →
      Seg (model Y.prog Y.w) Aw (RAll Y σ0 st Q) (YAll Y fp tn σ0 st Q) n s₀ (.compLoop (.GeneratorExp elt [⟨tg, iter, [], 0⟩] scope pos) 0 (.ref it) .none Y.env)
        ((model Y.prog Y.w).den (.compLoop (.GeneratorExp elt [⟨tg, iter, [], 0⟩] scope pos) 0 (.ref it) .none Y.env)) [] s := by
  have bad : ∀ {P : Prop} (x : Value) (s' : Shared), Y.xe x s' → P := fun x s' e => by rw [hxe] at e; exact e.elim
  intro n
  induction n with
  | zero => intro i m H s₀ s hm; omega
  | succ n ih =>
    intro i m H s₀ s hm G hw
    show Seg _ Aw _ _ _ s₀ _ ((compTurn (.GeneratorExp elt [⟨tg, iter, [], 0⟩] scope pos) 0 (.ref it) .none Y.env).onRaise (leaving Y.env)) [] s
    rw [compTurn_gen, Sem.onRaise_eq_wrap]
    refine seg_bind_wrap (wpAny_standAt ?_)
    rcases turn i m H hw with ⟨stop, q⟩ | ⟨go, N, hN, step⟩
    · refine seg_bind_wrap ?_
      rw [hA]
      refine wpAny_mono (T.done Y rfl rfl rfl hc i [] s σ0 H (fun _ _ => False) G.inv (stat G.fr) G.tn stop) (fun r s4 h4 => ?_) fun _ _ e => e.elim
      obtain ⟨hr, I4⟩ := h4
      subst hr
      exact seg_end (.ok .next) (.inl ⟨.inr rfl, H, I4, q⟩)
    · refine seg_bind_wrap ?_
      rw [hA]
      refine wpAny_mono (T.item Y rfl rfl rfl hc i [] s σ0 H (fun _ _ => False) G.inv (stat G.fr) G.tn go) (fun r s4 h4 => ?_) fun _ _ e => e.elim
      obtain ⟨u, hr, h4⟩ := h4
      subst hr
      refine seg_bind_wrap ?_
      rw [hA]
      refine wpAny_mono h4 (fun _ s5 h5 => ?_) fun _ _ e => e.elim
      obtain ⟨x, H5, I5, r5, y5, st5, fr5⟩ := h5
      have I5' := I5.pinned (stat fr5) (T.obj _ _ st5)
      refine seg_bind_wrap ?_
      rw [hA]
      refine wpAny_mono (hg.run _ s5 σ0 H5 x u _ I5' r5 (step x H5 y5)) (fun _ s6 h6 => ?_) fun x s' e => bad x s' e
      obtain ⟨σ6, H6, I6, hwp, q6⟩ := h6
      refine seg_bind_wrap ?_
      simp only [List.forIn_nil]
      refine wpAny_pure ?_
      simp only [if_true]
      have hy : ∀ v, yieldOut Y.env v = yieldValue v := fun v => by simp only [yieldOut, hco, Bool.false_eq_true, if_false]
      simp only [hy]
      rw [Sem.bind_eq_wrap', Sem.bind_eq_wrap', Sem.wrap_wrap, Sem.wrap_wrap]
      refine seg_wrap ?_
      rw [hA]
      refine wpAny_mono (he.run _ s6 σ6 H6 _ I6 q6) (fun y s7 h7 => ?_) fun x s' e => bad x s' e
      obtain ⟨yv, H7, I7, r7, b, rfl, q7⟩ := h7
      obtain rfl : y = Value.bool b := r7
      have I7' : Inv Y ([] ++ pinsAt fp s5.heap) σ0 H7 s7 := by
        rw [← hwp]
        exact I7.weak (wipe_length _ _) fun j v e => (wipe_some e).1
      have G7 : GSt Y fp tn σ0 (i + 1) H7 s7 := by
        refine ⟨I7'.unpinned, T.keep _ _ _ st5 fun b hb o e => (I7'.pin (b, o) (List.mem_append_right _ (List.mem_append_right _ (mem_pinsAt hb e)))).1, fun b hb => ?_⟩
        obtain ⟨o, e, d⟩ := T.obj _ _ st5 b hb
        exact (I7'.pin (b, o) (List.mem_append_right _ (List.mem_append_right _ (mem_pinsAt hb e)))).2.1
      refine seg_at (seg_yield rfl rfl rfl ⟨b, i + 1, H7, rfl, G7, ?_⟩)
      by_cases hb : b = st
      · rw [if_pos hb] at q7 ⊢
        exact q7
      · rw [if_neg hb] at q7 ⊢
        obtain ⟨m', hm', hw'⟩ := hN _ q7
        intro s' e1 e2 e3
        exact seg_again rfl (ih (i + 1) m' H7 s' s' (by omega) (G7.same e1 e2 e3) hw')
theorem seg_gstart {Y : Cx} {tg iter elt : Expr} {scope : Scope} {pos : Pos} {Aw : Around} {it : Addr} {fp : List Addr} {tn : Nat → Heap → Prop} {J : It} {vs : List Nat} {σ0 : L2.St} {g : TG} {te : TE} {st : Bool} {Q : VK} {W : Nat → Nat → Hp → Prop}
    (hA : Aw.over (.compLoop (.GeneratorExp elt [⟨tg, iter, [], 0⟩] scope pos) 0 (.ref it) .none Y.env) [] = Y.A) (hxe : Y.xe = fun _ _ => False) (hc : Y.calm = true) (hco : Y.env.scope.isCoroutine = false)
    (T : Turn Y.prog Y.w Y.K tg J fp it tn) (hg : PG Y tg g) (he : PE Y elt te) (stat : ∀ {H' : Hp}, (∀ b ∈ fp, H' b = none) → ∀ b ∈ fp, FpOk Y [] H' b) (turn : GTurn J g te vs σ0 st W Q)
    (n m : Nat) (H : Hp) (s₀ s : Shared) (hm : m + 1 ≤ n) (G : GSt Y fp tn σ0 0 H s) (hw : W 0 m H) :
      Seg (model Y.prog Y.w) Aw (RAll Y σ0 st Q) (YAll Y fp tn σ0 st Q) n s₀ (.compStart (.GeneratorExp elt [⟨tg, iter, [], 0⟩] scope pos) 0 (.ref it) .none Y.env)
        ((model Y.prog Y.w).den (.compStart (.GeneratorExp elt [⟨tg, iter, [], 0⟩] scope pos) 0 (.ref it) .none Y.env)) [] s := by
  have loop := seg_gloop (iter := iter) (scope := scope) (pos := pos) hA hxe hc hco T hg he stat turn n 0 m H s₀ s hm G hw
  show Seg _ Aw _ _ _ s₀ _ ((compStart (.GeneratorExp elt [⟨tg, iter, [], 0⟩] scope pos) 0 (.ref it) .none Y.env).onRaise (leaving Y.env)) [] s
  unfold compStart
  rw [Sem.onRaise_eq_wrap]
  show Seg _ Aw _ _ _ s₀ _ ((ask >>= _).wrap _ _ _ _) [] s
  refine seg_bind_wrap (wpAny_askSetting ?_)
  split
  · exact seg_again rfl loop
  · first
      | exact seg_bind_wrap (wpAny_rule (seg_bind_wrap (wpAny_standAt (seg_bind_wrap (T.self _ 0 s _ _ G.tn (seg_again rfl loop))))))
      | (refine seg_bind_wrap (wpAny_rule ?_); show Seg _ Aw _ _ _ s₀ _ ((standAt iter.pos >>= _).wrap _ _ _ _) [] s; exact seg_bind_wrap (wpAny_standAt (seg_bind_wrap (T.self _ 0 s _ _ G.tn (seg_again rfl loop)))))
end Hf
set_option Elab.async false
set_option maxRecDepth 100000
set_option maxHeartbeats 4000000
namespace Hf
open PySem L2 PySem.Spec PyProof.Rows GenW
section
variable {Y : Cx} {fp : List Addr} {tn : Nat → Heap → Prop} {σ0 : L2.St} {st : Bool} {Q : VK} {a : Addr} {g : Nat} {go : Obj}
/-- the generator sleeps, or has not begun -/
structure Slp (Y : Cx) (fp : List Addr) (tn : Nat → Heap → Prop) (σ0 : L2.St) (st : Bool) (Q : VK) (a : Addr) (g : Nat) (Aw : Around) (n : Nat) (s : Shared) : Prop where
  gen : s.heap.IsGen a g
  lim : s.heap.NoLimit
  goes : ∃ gs, s.gens[g]? = some gs ∧ gs.Goes (model Y.prog Y.w) Aw (RAll Y σ0 st Q) (YAll Y fp tn σ0 st Q) n (.send .none) (s.setGen g .running)
theorem next_all {B : Around} {n : Nat} {s : Shared} {Q' : Option Value → Shared → Prop} {E : Value → Shared → Prop} (hh : B.handled = none) (hd : B.depth < recursionLimit) (hpn : Y.pn = [(a, go)]) (hgo : ∀ h : Heap, h.get? a = some go → h.IsGen a g) (S : Slp Y fp tn σ0 st Q a g B.in1 n s)
    (hY : ∀ (b : Bool) (i : Nat) (H : Hp) (s' : Shared), GSt Y fp tn σ0 i H s' → (if b = st then Q (.bl st) H else ∃ m, n = m + 1 ∧ Slp Y fp tn σ0 st Q a g B.in1 m s') → Q' (some (.bool b)) s')
    (hP : ∀ (H : Hp) (s' : Shared), Inv Y [] σ0 H s' → Q (.bl (!st)) H → Q' none s') : wpAny (model Y.prog Y.w) B (pyNext (.ref a)) Q' E s := by
  obtain ⟨hg, hl, gs, hgs, hgo'⟩ := S
  have hgl : g < s.gens.size := (Array.getElem?_eq_some_iff.mp hgs).1
  refine wpAny_gsz (n := g + 1) hgl (next_genG (Er := fun _ _ => False) (F := fun _ _ s₁ => ∃ H, Inv Y [] σ0 H s₁ ∧ Q (.bl (!st)) H) hh hl hd hg hgs hgo' (fun v s₁ gs' hbare hv => ?_) (fun s₁ hp h' hk => ?_) fun e s₁ he => he.elim)
  · intro hsz
    obtain ⟨b, i, H, rfl, G, q⟩ := hv
    have G' : GSt Y fp tn σ0 i H (s₁.setGen g gs') := G.same rfl rfl (allBare_setGen G.inv.bare hbare)
    refine hY b i H _ G' ?_
    by_cases hb : b = st
    · rw [if_pos hb] at q ⊢
      exact q
    · rw [if_neg hb] at q ⊢
      have hsz1 : g < s₁.gens.size := by
        have q : (s₁.setGen g gs').gens.size = s₁.gens.size := setGen_size _ _ _
        have hsz' : g + 1 ≤ (s₁.setGen g gs').gens.size := hsz
        omega
      cases n with
      | zero => exact (q s₁ rfl rfl G.inv.bare).elim
      | succ m =>
        refine ⟨m, rfl, hgo _ (G'.inv.pin (a, go) (List.mem_append_left _ (by rw [hpn]; exact List.mem_singleton.mpr rfl))).1, G'.inv.nolimit, gs', setGen_at hsz1, ?_⟩
        exact q _ rfl rfl (allBare_setGen (s := s₁.setGen g gs') (allBare_setGen G.inv.bare hbare) rfl)
  · intro _
    obtain ⟨H, I, q⟩ := hp
    refine hP H _ ?_ q
    have I1 : Inv Y [] σ0 H (s₁.setGen g .finished) := inv_same I rfl rfl (allBare_setGen I.bare rfl)
    exact I1.kept (t' := (s₁.setGen g .finished).toks) hk
theorem all_loop {A : Around} {R : Result → Shared → Prop} (hh : A.handled = none) (hd : A.depth < recursionLimit) (hpn : Y.pn = [(a, go)]) (hgo : ∀ h : Heap, h.get? a = some go → h.IsGen a g)
    (hR : ∀ (b : Bool) (H : Hp) (s' : Shared), Inv Y [] σ0 H s' → Q (.bl b) H → R (.ok (.ret (.bool b))) s') :
    ∀ (n : Nat) (s : Shared), Slp Y fp tn σ0 false Q a g A.in1.in1 n s → codeAny (model Y.prog Y.w) A (.builtin "all.loop" ⟨[.ref a], []⟩) R s := by
  intro n
  induction n with
  | zero =>
    intro s S
    refine codeAny_builtin F.entry_all_loop ?_
    rw [Around.under_plainId F.plain_all_loop _]
    show wpAny _ A.in1 (pyNext (.ref a) >>= _) _ _ s
    refine wpAny_bind (next_all (B := A.in1) hh hd hpn hgo S (fun b i H s' G q => ?_) fun H s' I q => ?_)
    · by_cases hb : b = false
      · rw [if_pos hb] at q
        subst hb
        refine wpAny_bind (wpAny_holding (wpAny_truthy_bool ?_))
        refine wpAny_bind (wpAny_letGo ?_)
        simp only [Bool.false_eq_true, if_false]
        exact wpAny_bind (wpAny_rule (wpAny_pure (hR false H s' G.inv q)))
      · rw [if_neg hb] at q
        obtain ⟨m, e, _⟩ := q
        cases e
    · exact wpAny_bind (wpAny_rule (wpAny_pure (hR true H s' I q)))
  | succ n ih =>
    intro s S
    refine codeAny_builtin F.entry_all_loop ?_
    rw [Around.under_plainId F.plain_all_loop _]
    show wpAny _ A.in1 (pyNext (.ref a) >>= _) _ _ s
    refine wpAny_bind (next_all (B := A.in1) hh hd hpn hgo S (fun b i H s' G q => ?_) fun H s' I q => ?_)
    · refine wpAny_bind (wpAny_holding (wpAny_truthy_bool ?_))
      refine wpAny_bind (wpAny_letGo ?_)
      cases b with
      | false =>
        rw [if_pos rfl] at q
        simp only [Bool.false_eq_true, if_false]
        exact wpAny_bind (wpAny_rule (wpAny_pure (hR false H s' G.inv q)))
      | true =>
        rw [if_neg (by decide)] at q
        obtain ⟨m, e, S'⟩ := q
        cases e
        simp only [if_true]
        exact wpAny_pure ⟨plainId_quiet F.plain_all_loop _, ih _ S'⟩
    · exact wpAny_bind (wpAny_rule (wpAny_pure (hR true H s' I q)))
theorem any_loop {A : Around} {R : Result → Shared → Prop} (hh : A.handled = none) (hd : A.depth < recursionLimit) (hpn : Y.pn = [(a, go)]) (hgo : ∀ h : Heap, h.get? a = some go → h.IsGen a g)
    (hR : ∀ (b : Bool) (H : Hp) (s' : Shared), Inv Y [] σ0 H s' → Q (.bl b) H → R (.ok (.ret (.bool b))) s') :
    ∀ (n : Nat) (s : Shared), Slp Y fp tn σ0 true Q a g A.in1.in1 n s → codeAny (model Y.prog Y.w) A (.builtin "any.loop" ⟨[.ref a], []⟩) R s := by
  intro n
  induction n with
  | zero =>
    intro s S
    refine codeAny_builtin F.entry_any_loop ?_
    rw [Around.under_plainId F.plain_any_loop _]
    show wpAny _ A.in1 (pyNext (.ref a) >>= _) _ _ s
    refine wpAny_bind (next_all (B := A.in1) hh hd hpn hgo S (fun b i H s' G q => ?_) fun H s' I q => ?_)
    · by_cases hb : b = true
      · rw [if_pos hb] at q
        subst hb
        refine wpAny_bind (wpAny_holding (wpAny_truthy_bool ?_))
        refine wpAny_bind (wpAny_letGo ?_)
        simp only [if_true]
        exact wpAny_bind (wpAny_rule (wpAny_pure (hR true H s' G.inv q)))
      · rw [if_neg hb] at q
        obtain ⟨m, e, _⟩ := q
        cases e
    · exact wpAny_bind (wpAny_rule (wpAny_pure (hR false H s' I q)))
  | succ n ih =>
    intro s S
    refine codeAny_builtin F.entry_any_loop ?_
    rw [Around.under_plainId F.plain_any_loop _]
    show wpAny _ A.in1 (pyNext (.ref a) >>= _) _ _ s
    refine wpAny_bind (next_all (B := A.in1) hh hd hpn hgo S (fun b i H s' G q => ?_) fun H s' I q => ?_)
    · refine wpAny_bind (wpAny_holding (wpAny_truthy_bool ?_))
      refine wpAny_bind (wpAny_letGo ?_)
      cases b with
      | true =>
        rw [if_pos rfl] at q
        simp only [if_true]
        exact wpAny_bind (wpAny_rule (wpAny_pure (hR true H s' G.inv q)))
      | false =>
        rw [if_neg (by decide)] at q
        obtain ⟨m, e, S'⟩ := q
        cases e
        simp only [Bool.false_eq_true, if_false]
        exact wpAny_pure ⟨plainId_quiet F.plain_any_loop _, ih _ S'⟩
    · exact wpAny_bind (wpAny_rule (wpAny_pure (hR false H s' I q)))
end
end Hf
set_option Elab.async false
set_option maxRecDepth 100000
set_option maxHeartbeats 4000000
namespace Hf
open PySem L2 PySem.Spec PyProof.Rows GenW NdefX
section
variable {X : Cx} {pins : List (Addr × Obj)} {σ : L2.St} {H H5 : Hp} {s s5 : Shared} {scope : Scope} {own : List (Str × Nat)} {fp : List Addr} {pn : List (Addr × Obj)} {C : Addr} {cd : Value} {A : Around}
theorem gfree (I : Inv X pins σ H s) (ok : BlkOk X.N X.env.scope scope own) : ∀ y ∈ scope.names, y.2 = .free → ∃ c, X.env.cells.lookup y.1 = some c := fun y hy e => by
  rcases ok.free y hy e with k | k
  · exact I.ok.has _ (.inl k)
  · exact I.ok.has _ (.inr k)
theorem gex_start (I : Inv X pins σ H s) (I5 : Inv X pins σ H5 s5) (ok : BlkOk X.N X.env.scope scope own) (go : GOk scope) (hN : X.N.Nodup) (hfp : ∀ b ∈ fp, FpOk X pins H b ∧ b < s.heap.objs.size) (hC : s.heap.objs.size ≤ C) (hAh : A.handled = none)
    (hAf : A.frames = some (gEnv X scope C cd :: X.stack)) (un : Un (frs X.stack) fp H H5 s.heap s5.heap) (os : s5.os = s.os) (nsC : ∃ m, s5.heap.Ns C m)
    (hpn : ∀ p ∈ pn, s5.heap.get? p.1 = some p.2 ∧ H5 p.1 = none ∧ p.1 ≠ C ∧ p.1 ∉ frs X.stack ∧ ∀ v, p.2.data ≠ .cell v) (hC5 : H5 C = none) :
    Inv (gex X s H scope C cd A fp pn) [] (wipe σ (own.map (·.2))) H5 s5 := by
  have hfree := gfree I ok
  have cm : ∀ {y c}, (gEnv X scope C cd).cells.lookup y = some c → X.env.cells.lookup y = some c := fun {y c} e => clo_cm hfree e
  have nst : ∀ b ∈ fp, b ∉ frs X.stack := fun b hb z => by
    obtain ⟨⟨_, f1, f2, _⟩, _⟩ := hfp b hb
    rcases List.mem_cons.mp (I.stkSub b z) with z | z
    · exact f1 z
    · exact f2 z
  have okY : (gex X s H scope C cd A fp pn).Ok := by
    refine ⟨I.ok.mod, ok.kind, I.ok.glob, rfl, hC, fun y z c e1 e2 => I.ok.inj y z c (cm e1) (cm e2), fun y hy => ?_, fun y c z _ => (by cases z), fun _ => hAh, hAf, .inr ⟨rfl, rfl⟩, fun b hb => ⟨Nat.ne_of_lt (Nat.lt_of_lt_of_le (hfp b hb).2 hC), fun y c e z => (hfp b hb).1.2.2.2.2.1 y c (cm e) z⟩,
      I.bs, Nat.le_trans I.ok.bsz I.sz, fun b o e hb => ?_, nst, I.stack, I.stkFree⟩
    · have hy : scope.names.lookup y = some .cell ∨ scope.names.lookup y = some .free := hy
      rcases hy with hy | hy
      · exact absurd rfl (go.cell _ (PySem.mem_of_lookup hy))
      · obtain ⟨c, hc⟩ := hfree _ (PySem.mem_of_lookup hy) rfl
        exact ⟨c, clo_has hfree (PySem.mem_of_lookup hy) hc⟩
    · rcases (hfp b hb).1.2.2.2.1 with z | z
      · exact I.ok.noex b o e z
      · have h1 := Heap.lt_size e
        exact absurd (Nat.lt_of_lt_of_le h1 (Nat.le_trans I.ok.bsz z)) (Nat.lt_irrefl _)
  obtain ⟨m, hm⟩ := nsC
  refine ⟨okY, os, I5.bare, un, ⟨m, hm, fun i x v e1 e2 e3 => ?_⟩, fun x c e => I5.cell x c (cm e), hC5, fun x c e => I5.freeC x c (cm e), fun p hp => ?_, I5.hok, ?_⟩
  · obtain ⟨e4, ni⟩ := wipe_some e2
    have e3 : Vis scope x := e3
    rcases e3 with k | k | k
    · exfalso
      rcases ok.own _ (PySem.mem_of_lookup k) (.inl rfl) with q | q
      · obtain ⟨p, hp, ep⟩ := List.mem_map.mp q
        have ep : p.1 = x := ep
        have e5 := ok.ix p hp
        rw [ep] at e5
        exact ni (by rw [nodup_ix hN e1 e5]; exact List.mem_map_of_mem hp)
      · exact q (List.mem_of_getElem? e1)
    · exact absurd rfl (go.cell _ (PySem.mem_of_lookup k))
    · have hx := ok.free _ (PySem.mem_of_lookup k) rfl
      obtain ⟨m5, _, l5⟩ := I5.loc
      obtain ⟨u, ru, lk⟩ := l5 i x v e1 e4 (hx.elim (fun z => .inr (.inl z)) fun z => .inr (.inr z))
      refine ⟨u, ru, .inr ⟨.inr k, ?_⟩⟩
      rcases lk with ⟨z, _⟩ | ⟨_, c, hc, hcell⟩
      · have z : X.env.scope.names.lookup x = some .local := z
        have hx : X.env.scope.names.lookup x = some .cell ∨ X.env.scope.names.lookup x = some .free := hx
        rw [z] at hx
        rcases hx with q | q <;> cases q
      · exact ⟨c, clo_has hfree (PySem.mem_of_lookup k) hc, hcell⟩
  · rcases List.mem_append.mp hp with z | z
    · exact hpn p z
    · cases z
  · rw [wipe_length]
    exact I5.len
theorem gex_stat (I : Inv X pins σ H s) (ok : BlkOk X.N X.env.scope scope own) (hfp : ∀ b ∈ fp, FpOk X pins H b ∧ b < s.heap.objs.size) (hC : s.heap.objs.size ≤ C) (hpn : ∀ p ∈ pn, s.heap.objs.size ≤ p.1) {H' : Hp} (hn : ∀ b ∈ fp, H' b = none) :
    ∀ b ∈ fp, FpOk (gex X s H scope C cd A fp pn) [] H' b := fun b hb => by
  obtain ⟨⟨_, f1, f2, _, f4, _⟩, lt⟩ := hfp b hb
  refine ⟨hn b hb, Nat.ne_of_lt (Nat.lt_of_lt_of_le lt hC), fun z => ?_, .inl hb, fun x c e z => f4 x c (clo_cm (gfree I ok) e) z, fun p hp z => ?_⟩
  · rcases List.mem_cons.mp (I.stkSub b z) with z | z
    · exact f1 z
    · exact f2 z
  · rcases List.mem_append.mp hp with q | q
    · have := hpn p q
      rw [z] at this
      exact absurd (Nat.lt_of_lt_of_le lt this) (Nat.lt_irrefl _)
    · cases q
abbrev tblO' (ps : Array Value) : Obj := { cls := .none, data := .fields ps }
theorem code_step0 {c T : Addr} {ps : Array Value} {scope : Scope} {gpos : Pos} {q : Str} {R : Value → Addr → Shared → Prop} {E : Value → Shared → Prop} (TB : GxR.TabB X.base X.mg c T) (hcode : X.env.code = .ref c) (I : Inv X pins σ H s)
    (hT : H T = some (.tbl ps)) (tr : TriplesOk ps.toList)
    (k : ∀ (cd : Value) (g : Heap) (tk : Nat) (qs : Array Value), Heap.ExtBut T s.heap g → s.heap.objs.size ≤ g.objs.size → g.get? T = some (tblO' qs) → (∃ more, qs = ps ++ more) → TriplesOk qs.toList → R cd builtinsNs { s with heap := g, toks := tk }) :
    wpAny (model X.prog X.w) X.A (genexprCode X.env gpos q scope) (fun cd s3 => wpAny (model X.prog X.w) X.A (builtinsFor X.env.globals X.env.builtins) (fun bi s4 => R cd bi s4) E s3) E s := by
  have hTs : s.heap.get? T = some (tblO' ps) := I.hok T _ hT
  have CH := TB.code.keeps I.bk
  obtain ⟨bm, oo, b1, b2, b3, b4, b5, b6, b7, b8⟩ := TB.bm
  have fin : ∀ (cd : Value) (g : Heap) (tk : Nat) (qs : Array Value), Heap.ExtBut T s.heap g → s.heap.objs.size ≤ g.objs.size → g.get? T = some (tblO' qs) → (∃ more, qs = ps ++ more) → TriplesOk qs.toList →
      wpAny (model X.prog X.w) X.A (builtinsFor X.env.globals X.env.builtins) (fun bi s4 => R cd bi s4) E { s with heap := g, toks := tk } := fun cd g tk qs ex sz e more tq => by
    have gl : g.Ns X.env.globals X.mg := by
      rw [I.ok.glob]
      exact (I.mod.glob.keeps I.bk).extBut ex TB.gP
    exact wpAny_builtinsFor (m := X.mg) gl b1 b2 (ex bm oo b4 (I.bk _ _ b5)) b6 b7 b8 (k cd g tk qs ex sz e more tq)
  cases found : codeAmong gpos ps.toList with
  | some cv => exact wpAny_genexprCode_hit hcode (CH.code hTs tr) found (fin cv _ s.toks ps (Heap.ExtBut.refl _ _) (Nat.le_refl _) hTs ⟨#[], by simp⟩ tr)
  | none =>
    refine wpAny_genexprCodeX hcode (CH.code hTs tr) (CH.tab hTs) found fun c2 g tk ex g1 g2 isC _ isT _ => ?_
    obtain ⟨_, _, _, _, _, _, _, _, _, _, _, _, _, _, _, _, _, _, _, tq, _⟩ := isC
    exact fin (.ref c2) g tk _ ex (Nat.le_trans g1 (Nat.le_of_lt g2)) isT.2 ⟨_, rfl⟩ tq
def tGen (T : Addr) (st : Bool) (wi : TI) (g : TG) (te : TE) (vs : List Nat) : TE := fun σ H Q => wi σ H fun J H1 => GxR.TabG H1 T ∧ ∃ W : Nat → Nat → Hp → Prop, (∀ H2, GxR.Tabbed T H1 H2 → ∃ m, W 0 m H2) ∧ GTurn J g te vs (wipe σ vs) st W Q
/-- what the two share: the generator made, ready to be walked -/
theorem gen_any {c T : Addr} {elt iter tg : Expr} {gpos : Pos} {wi : TI} {g : TG} {te : TE} {k : Nat} {st : Bool} {Q : VK} {Q' : Value → Shared → Prop} (hr : Room (k + 1) X.A) (TB : GxR.TabB X.base X.mg c T) (hcode : X.env.code = .ref c) (hN : X.N.Nodup) (ok : BlkOk X.N X.env.scope scope own) (go : GOk scope)
    (hi : PI X tg iter wi) (hg : ∀ (s : Shared) (H : Hp) (C : Addr) (cd : Value) (A : Around) (fp : List Addr) (pn : List (Addr × Obj)), Room k A → PG (gex X s H scope C cd A fp pn) tg g)
    (he : ∀ (s : Shared) (H : Hp) (C : Addr) (cd : Value) (A : Around) (fp : List Addr) (pn : List (Addr × Obj)), Room k A → PE (gex X s H scope C cd A fp pn) elt te) (hs : ∀ v, genFold iter X.env v = pure v) (I : Inv X pins σ H s) (h : tGen T st wi g te (own.map (·.2)) σ H Q)
    (hQ : ∀ (Y : Cx) (fp : List Addr) (tn : Nat → Heap → Prop) (a : Addr) (gg : Nat) (o : Obj) (n : Nat) (s5 : Shared), Y.prog = X.prog → Y.w = X.w → Y.pn = [(a, o)] → (∀ h : Heap, h.get? a = some o → h.IsGen a gg) → Slp Y fp tn (wipe σ (own.map (·.2))) st Q a gg X.A.in1.in1 n s5 →
      (∀ (H' : Hp) (s' : Shared), Inv Y [] (wipe σ (own.map (·.2))) H' s' → Inv X pins σ H' s') → Q' (.ref a) s5) :
    wpAny (model X.prog X.w) X.A (eval (.GeneratorExp elt [⟨tg, iter, [], 0⟩] scope gpos) X.env) Q' X.xe s := by
  refine wpAny_GeneratorExp_make go.co (closure_ok (gfree I ok)) go.cell go.dot ok.kind (by have := hr.dp; omega) ?_ hs
  refine thn (hi.run pins s σ H _ I h) fun v s1 h1 => thn h1 fun itv s2 h2 => ?_
  obtain ⟨it, fp, tn, J, H2, rfl, I2, Tn, st2, f2, ⟨ps, hT, tr⟩, W, w0, turn⟩ := h2
  refine ⟨I2.nolimit, code_step0 (q := X.env.qual ++ "<genexpr>") TB hcode I2 hT tr fun cd g4 tk qs ex sz eT more tq => ?_⟩
  intro h' hn' hs'
  replace hs' : Heap.SameBut g4.objs.size (g4.push { cls := .type "frame", data := .dict #[] }) h' := hs'
  have hsz : h'.objs.size = g4.objs.size + 1 := by rw [hs'.1, Heap.size_push]
  obtain ⟨more, em⟩ := more
  have up4 : ∀ b o, g4.get? b = some o → h'.get? b = some o := fun b o e => hs'.extBut b o (Nat.ne_of_lt (Heap.lt_size e)) (Heap.get?_push_of_some _ e)
  have up5 : ∀ {ob : Obj} b o, g4.get? b = some o → (h'.push ob).get? b = some o := fun {ob} b o e => Heap.get?_push_of_some _ (up4 b o e)
  have old : ∀ {ob : Obj} b o, b ≠ T → s2.heap.get? b = some o → (h'.push ob).get? b = some o := fun {ob} b o hb e => up5 b o (ex b o hb e)
  have nT : ∀ b, H2 b = none → b ≠ T := fun b e z => by rw [z, hT] at e; cases e
  have sz5 : s2.heap.objs.size ≤ h'.objs.size := by omega
  -- the generator's object
  have main : ∀ (go5 : Obj) (t5 : Nat) (nm qn : Value), go5.cls = .type "generator" → go5.data = .fields #[.int s2.gens.size 0, nm, qn] → go5.slots = #[] → (∀ h : Heap, (h.push go5).get? h.objs.size = some go5) →
      Q' (.ref h'.objs.size) { s2 with gens := s2.gens.push (.fresh (.compStart (.GeneratorExp elt [⟨tg, iter, [], 0⟩] scope gpos) 0 (.ref it) .none (genEnv scope (cloFrom X.env.cells scope.names []) g4.objs.size cd builtinsNs X.env))), toks := t5, heap := h'.push go5 } := by
    intro go5 t5 nm qn hc5 hd5 hsl5 hp5
    have hgen : ∀ h : Heap, h.get? h'.objs.size = some go5 → h.IsGen h'.objs.size s2.gens.size := fun h e => ⟨go5, nm, qn, e, hc5, hd5, hsl5⟩
    generalize hs5 : ({ s2 with gens := s2.gens.push (.fresh (.compStart (.GeneratorExp elt [⟨tg, iter, [], 0⟩] scope gpos) 0 (.ref it) .none (genEnv scope (cloFrom X.env.cells scope.names []) g4.objs.size cd builtinsNs X.env))), toks := t5, heap := h'.push go5 } : Shared) = s5
    have h5 : s5.heap = h'.push go5 := by rw [← hs5]
    have o5 : s5.os = s2.os := by rw [← hs5]
    have I5 : Inv X pins σ (upd H2 T (.tbl (ps ++ more))) s5 := by
      rw [← hs5]
      exact GxR.inv_tab (d' := s2.drawn) I2 hT (fun b o hb e => old b o hb e) (by rw [← em]; exact up5 T _ eT) (I2.bare.push rfl)
    have tabd : GxR.Tabbed T H2 (upd H2 T (.tbl (ps ++ more))) := ⟨⟨ps ++ more, upd_same, by rw [← em]; exact tq⟩, fun b hb => upd_ne hb⟩
    obtain ⟨m0, w0'⟩ := w0 _ tabd
    have hfp : ∀ b ∈ fp, FpOk X pins H2 b ∧ b < s2.heap.objs.size := fun b hb => ⟨f2 b hb, by
      obtain ⟨o, e, _⟩ := Tn.obj _ _ st2 b hb
      exact Heap.lt_size e⟩
    have ntbl : ∀ b u, H2 b = some u → (∀ q, u ≠ .tbl q) → b ≠ T := fun b u e q z => by
      rw [z, hT] at e
      exact q ps (Option.some.inj e).symm
    have un : Un (frs X.stack) fp H2 (upd H2 T (.tbl (ps ++ more))) s2.heap s5.heap := by
      rw [h5]
      refine ⟨fun b o e n _ _ => old b o (nT b n) e, fun b o e n _ _ => ⟨o.slots, old b o (nT b n) e⟩, fun b o e n _ => by rw [upd_ne (nT b n)]; exact n, fun b o e _ => ?_, fun b xs e => by rw [upd_ne (ntbl b _ e fun q z => by cases z)]; exact e, fun b o u e => by rw [upd_ne (ntbl b _ e fun q z => by cases z)]; exact e, fun b qs2 e => ?_⟩
      · by_cases hb : b = T
        · rw [hb]
          exact ⟨_, up5 T _ eT⟩
        · exact ⟨o, old b o hb e⟩
      · by_cases hb : b = T
        · rw [hb, hT] at e
          cases e
          rw [hb, upd_same]
          exact ⟨more, rfl⟩
        · rw [upd_ne hb, e]
          exact ⟨#[], by simp⟩
    have fresh5 : ∀ b, s2.heap.objs.size ≤ b → upd H2 T (.tbl (ps ++ more)) b = none := fun b hb => by
      have n := I2.hok.fresh hb
      rw [upd_ne (nT b n)]
      exact n
    have Aw : (X.A.in1.in1.over (.compLoop (.GeneratorExp elt [⟨tg, iter, [], 0⟩] scope gpos) 0 (.ref it) .none (gEnv X scope g4.objs.size cd)) []).frames = some (gEnv X scope g4.objs.size cd :: X.stack) := by
      have e : X.A.in1.in1.frames = some X.stack := I2.ok.frames
      show pushEnvs [gEnv X scope g4.objs.size cd] (pushEnvs [] X.A.in1.in1.frames) = _
      rw [e]
      rfl
    have rA : Room k (X.A.in1.in1.over (.compLoop (.GeneratorExp elt [⟨tg, iter, [], 0⟩] scope gpos) 0 (.ref it) .none (gEnv X scope g4.objs.size cd)) []) := by
      refine ⟨hr.hd, ?_, ?_⟩
      · have := hr.dp
        show X.A.depth + 0 + 1 + 3 * k + 5 < _
        omega
      · have := hr.un
        show X.A.units + 1 + 1 + 0 + 3 + 16 * k + 200 < _
        omega
    have pnh : ∀ p ∈ [(h'.objs.size, go5)], s2.heap.objs.size ≤ p.1 := fun p hp => by
      rw [List.mem_singleton.mp hp]
      exact sz5
    have J5 : Inv (gex X s2 H2 scope g4.objs.size cd (X.A.in1.in1.over (.compLoop (.GeneratorExp elt [⟨tg, iter, [], 0⟩] scope gpos) 0 (.ref it) .none (gEnv X scope g4.objs.size cd)) []) fp [(h'.objs.size, go5)]) [] (wipe σ (own.map (·.2))) (upd H2 T (.tbl (ps ++ more))) s5 := by
      refine gex_start I2 I5 ok go hN hfp sz hr.hd Aw un o5 ⟨_, by rw [h5]; exact hn'.push _⟩ (fun p hp => ?_) (fresh5 _ sz)
      rw [List.mem_singleton.mp hp]
      refine ⟨by rw [h5]; exact hp5 _, fresh5 _ sz5, by show h'.objs.size ≠ g4.objs.size; omega, fun z => ?_, fun v z => by rw [hd5] at z; cases z⟩
      have hz := I2.stkSub _ z
      rcases List.mem_cons.mp hz with z | z
      · have := I2.lt
        rw [← z] at this
        exact absurd (Nat.lt_of_lt_of_le this sz5) (Nat.lt_irrefl _)
      · exact I2.nofs sz5 z
    have G5 : GSt (gex X s2 H2 scope g4.objs.size cd (X.A.in1.in1.over (.compLoop (.GeneratorExp elt [⟨tg, iter, [], 0⟩] scope gpos) 0 (.ref it) .none (gEnv X scope g4.objs.size cd)) []) fp [(h'.objs.size, go5)]) fp tn (wipe σ (own.map (·.2))) 0 (upd H2 T (.tbl (ps ++ more))) s5 := by
      refine ⟨J5, Tn.keep _ _ _ st2 fun b hb o e => by rw [h5]; exact old b o (nT b (f2 b hb).1) e, fun b hb => ?_⟩
      rw [upd_ne (nT b (f2 b hb).1)]
      exact (f2 b hb).1
    refine hQ (gex X s2 H2 scope g4.objs.size cd (X.A.in1.in1.over (.compLoop (.GeneratorExp elt [⟨tg, iter, [], 0⟩] scope gpos) 0 (.ref it) .none (gEnv X scope g4.objs.size cd)) []) fp [(h'.objs.size, go5)]) fp tn h'.objs.size s2.gens.size go5 (m0 + 1) s5 rfl rfl rfl hgen ⟨hgen _ (by rw [h5]; exact hp5 _), I5.nolimit, .fresh (.compStart (.GeneratorExp elt [⟨tg, iter, [], 0⟩] scope gpos) 0 (.ref it) .none (gEnv X scope g4.objs.size cd)), by rw [← hs5]; exact Array.getElem?_push_size .., rfl, ?_⟩ fun H' s' J => ?_
    · have G6 := G5.same (s' := s5.setGen s2.gens.size .running) rfl rfl (allBare_setGen J5.bare rfl)
      exact seg_gstart (Y := gex X s2 H2 scope g4.objs.size cd (X.A.in1.in1.over (.compLoop (.GeneratorExp elt [⟨tg, iter, [], 0⟩] scope gpos) 0 (.ref it) .none (gEnv X scope g4.objs.size cd)) []) fp [(h'.objs.size, go5)]) rfl rfl rfl go.co Tn (hg _ _ _ _ _ _ _ rA) (he _ _ _ _ _ _ _ rA) (gex_stat I2 ok hfp sz pnh) turn (m0 + 1) m0 _ _ _ (Nat.le_refl _) G6 w0'
    · exact I2.call' J.os J.base J.hok J.bare fun b hb => by
        obtain ⟨_, q1, _, q3, q4, q5⟩ := f2 b hb
        exact ⟨q3, q1, q4, q5⟩
  exact main _ _ _ _ rfl rfl rfl fun h => Heap.get?_push_size _ rfl
end
end Hf
set_option Elab.async false
set_option maxRecDepth 100000
set_option maxHeartbeats 4000000
namespace Hf
open PySem L2 PySem.Spec PyProof.Rows GenW NdefX
/-! ### the forms one uses -/
theorem g_list {K : PySem.W.Frag} {T a : Addr} {xs : List V} {g : TG} {te : TE} {vs : List Nat} {σ0 : L2.St} {st : Bool} {Q : VK} {H1 : Hp} (Pv : Nat → Hp → Prop) (h0 : ∀ H2, GxR.Tabbed T H1 H2 → Pv 0 H2) (hl : ∀ i H, i ≤ xs.length → Pv i H → SqL K H a xs)
    (hs : ∀ i x H, xs[i]? = some x → Pv i H → g x σ0 H fun σ2 H2 => wipe σ2 vs = σ0 ∧ te σ2 H2 fun y H3 => ∃ b : Bool, y = .bl b ∧ if b = st then Q (.bl st) H3 else Pv (i + 1) H3) (hd : ∀ H, Pv xs.length H → Q (.bl (!st)) H) :
    ∃ W : Nat → Nat → Hp → Prop, (∀ H2, GxR.Tabbed T H1 H2 → ∃ m, W 0 m H2) ∧ GTurn (Itl K a) g te vs σ0 st W Q := by
  refine ⟨fun i m H => m = xs.length - i ∧ i ≤ xs.length ∧ Pv i H, fun H2 h => ⟨_, rfl, Nat.zero_le _, h0 H2 h⟩, ?_⟩
  rintro i m H ⟨rfl, hi, p⟩
  have q := hl i H hi p
  by_cases hlt : i < xs.length
  · refine .inr ⟨⟨xs, xs[i], q, by simp [hlt]⟩, Pv (i + 1), fun H' p' => ⟨xs.length - (i + 1), by omega, rfl, hlt, p'⟩, fun x H' y => ?_⟩
    obtain ⟨e, y⟩ := y
    subst e
    exact hs i x H' (y xs q) p
  · have : i = xs.length := by omega
    subst this
    exact .inl ⟨⟨xs, q, Nat.le_refl _⟩, hd H p⟩
theorem g_range {T : Addr} {lo : Int} {n : Nat} {g : TG} {te : TE} {vs : List Nat} {σ0 : L2.St} {st : Bool} {Q : VK} {H1 : Hp} (Pv : Nat → Hp → Prop) (h0 : ∀ H2, GxR.Tabbed T H1 H2 → Pv 0 H2)
    (hs : ∀ i H, i < n → Pv i H → g (.int (lo + i)) σ0 H fun σ2 H2 => wipe σ2 vs = σ0 ∧ te σ2 H2 fun y H3 => ∃ b : Bool, y = .bl b ∧ if b = st then Q (.bl st) H3 else Pv (i + 1) H3) (hd : ∀ H, Pv n H → Q (.bl (!st)) H) :
    ∃ W : Nat → Nat → Hp → Prop, (∀ H2, GxR.Tabbed T H1 H2 → ∃ m, W 0 m H2) ∧ GTurn (Itr lo n) g te vs σ0 st W Q := by
  refine ⟨fun i m H => m = n - i ∧ i ≤ n ∧ Pv i H, fun H2 h => ⟨_, rfl, Nat.zero_le _, h0 H2 h⟩, ?_⟩
  rintro i m H ⟨rfl, hi, p⟩
  by_cases hlt : i < n
  · refine .inr ⟨hlt, Pv (i + 1), fun H' p' => ⟨n - (i + 1), by omega, rfl, hlt, p'⟩, fun x H' y => ?_⟩
    obtain ⟨e, y⟩ := y
    subst e
    subst y
    exact hs i H' hlt p
  · have : i = n := by omega
    subst this
    exact .inl ⟨Nat.le_refl _, hd H p⟩
section
variable {X : Cx} {scope : Scope} {own : List (Str × Nat)} {c T : Addr} {elt iter tg : Expr} {gpos p pos : Pos} {wi : TI} {g : TG} {te : TE} {k : Nat}
theorem pe_allG (hr : Room (k + 1) X.A) (hgl : Gl X "all") (hm : X.mg "all" = none) (TB : GxR.TabB X.base X.mg c T) (hcode : X.env.code = .ref c) (hN : X.N.Nodup) (ok : BlkOk X.N X.env.scope scope own) (go : GOk scope)
    (hi : PI X tg iter wi) (hg : ∀ (s : Shared) (H : Hp) (C : Addr) (cd : Value) (A : Around) (fp : List Addr) (pn : List (Addr × Obj)), Room k A → PG (gex X s H scope C cd A fp pn) tg g)
    (he : ∀ (s : Shared) (H : Hp) (C : Addr) (cd : Value) (A : Around) (fp : List Addr) (pn : List (Addr × Obj)), Room k A → PE (gex X s H scope C cd A fp pn) elt te) (hs : ∀ v, genFold iter X.env v = pure v := by intro v; rfl)
    (hse : starEach [.GeneratorExp elt [⟨tg, iter, [], 0⟩] scope gpos] X.env = (false, eval (.GeneratorExp elt [⟨tg, iter, [], 0⟩] scope gpos) X.env) :: starEach [] X.env := by rfl) :
    PE X (.Call (.Name "all" p) [.GeneratorExp elt [⟨tg, iter, [], 0⟩] scope gpos] [] pos) (tGen T false wi g te (own.map (·.2))) := by
  refine ⟨fun pins s σ H Q I h => ?_⟩
  refine wpAny_Call_Name_kw (ld_blt I hgl hm boot_all (PyProof.Rows.callWith_builtin1 ?_ hse (by rfl)))
  rw [hse]
  refine Calls.spliced_cons (gen_any hr TB hcode hN ok go hi hg he hs I h fun Y fp tn a gg o n s5 e1 e2 hpn hgo S back => ?_)
  refine Calls.spliced_nil ?_
  refine call_function_tree F.kind_all F.plain_all F.entry_all (F.args_all1 _) ?_
  unfold Builtin.«all»
  refine wpAny_bind (m := oneArg "all" _) (wpAny_pure ?_)
  refine wpAny_bind (wpAny_pyIter_gen S.gen ?_)
  refine wpAny_pure ⟨plainId_quiet F.plain_all_loop _, ?_⟩
  rw [← e1, ← e2]
  refine all_loop hr.hd (by have := hr.dp; omega) hpn hgo (fun b H' s' J q => ?_) n s5 S
  exact ⟨.bl b, H', back H' s' J, rfl, q⟩
theorem pe_anyG (hr : Room (k + 1) X.A) (hgl : Gl X "any") (hm : X.mg "any" = none) (TB : GxR.TabB X.base X.mg c T) (hcode : X.env.code = .ref c) (hN : X.N.Nodup) (ok : BlkOk X.N X.env.scope scope own) (go : GOk scope)
    (hi : PI X tg iter wi) (hg : ∀ (s : Shared) (H : Hp) (C : Addr) (cd : Value) (A : Around) (fp : List Addr) (pn : List (Addr × Obj)), Room k A → PG (gex X s H scope C cd A fp pn) tg g)
    (he : ∀ (s : Shared) (H : Hp) (C : Addr) (cd : Value) (A : Around) (fp : List Addr) (pn : List (Addr × Obj)), Room k A → PE (gex X s H scope C cd A fp pn) elt te) (hs : ∀ v, genFold iter X.env v = pure v := by intro v; rfl)
    (hse : starEach [.GeneratorExp elt [⟨tg, iter, [], 0⟩] scope gpos] X.env = (false, eval (.GeneratorExp elt [⟨tg, iter, [], 0⟩] scope gpos) X.env) :: starEach [] X.env := by rfl) :
    PE X (.Call (.Name "any" p) [.GeneratorExp elt [⟨tg, iter, [], 0⟩] scope gpos] [] pos) (tGen T true wi g te (own.map (·.2))) := by
  refine ⟨fun pins s σ H Q I h => ?_⟩
  refine wpAny_Call_Name_kw (ld_blt I hgl hm boot_any (PyProof.Rows.callWith_builtin1 ?_ hse (by rfl)))
  rw [hse]
  refine Calls.spliced_cons (gen_any hr TB hcode hN ok go hi hg he hs I h fun Y fp tn a gg o n s5 e1 e2 hpn hgo S back => ?_)
  refine Calls.spliced_nil ?_
  refine call_function_tree F.kind_any F.plain_any F.entry_any (F.args_any1 _) ?_
  unfold Builtin.«any»
  refine wpAny_bind (m := oneArg "any" _) (wpAny_pure ?_)
  refine wpAny_bind (wpAny_pyIter_gen S.gen ?_)
  refine wpAny_pure ⟨plainId_quiet F.plain_any_loop _, ?_⟩
  rw [← e1, ← e2]
  refine any_loop hr.hd (by have := hr.dp; omega) hpn hgo (fun b H' s' J q => ?_) n s5 S
  exact ⟨.bl b, H', back H' s' J, rfl, q⟩
end
end Hf
set_option Elab.async false
set_option maxRecDepth 100000
set_option maxHeartbeats 4000000
namespace Hf
open PySem L2 PySem.Spec PyProof.Rows
theorem b_int : bootBuiltins "int" = some (.type "int") := by decide +kernel
theorem b_bool : bootBuiltins "bool" = some (.type "bool") := by decide +kernel
theorem b_str : bootBuiltins "str" = some (.type "str") := by decide +kernel
theorem b_tuple : bootBuiltins "tuple" = some (.type "tuple") := by decide +kernel
theorem b_list : bootBuiltins "list" = some (.type "list") := by decide +kernel
theorem b_dict : bootBuiltins "dict" = some (.type "dict") := by decide +kernel
theorem b_isi : bootBuiltins "isinstance" = some (.builtin "isinstance") := by decide +kernel
theorem b_sum : bootBuiltins "sum" = some (.builtin "sum") := by decide +kernel
theorem b_max : bootBuiltins "max" = some (.builtin "max") := by decide +kernel
theorem b_min : bootBuiltins "min" = some (.builtin "min") := by decide +kernel
section
variable {K : PySem.W.Frag}
theorem kit_int_int : PySem.W.kitOne K (.type "int") (.type "int") = some true := kit_ty (by decide +kernel)
theorem kit_int_bool : PySem.W.kitOne K (.type "int") (.type "bool") = some false := kit_ty (by decide +kernel)
theorem kit_tup_tup : PySem.W.kitOne K (.type "tuple") (.type "tuple") = some true := kit_ty (by decide +kernel)
theorem kit_str_str : PySem.W.kitOne K (.type "str") (.type "str") = some true := kit_ty (by decide +kernel)
theorem kit_list_list : PySem.W.kitOne K (.type "list") (.type "list") = some true := kit_ty (by decide +kernel)
theorem kit_dict_dict : PySem.W.kitOne K (.type "dict") (.type "dict") = some true := kit_ty (by decide +kernel)
theorem Sm.seqT {H H' : Hp} {a : Addr} {xs : List V} (e : Sm H H') (h : SqT K H a xs) : SqT K H' a xs := by
  rcases h with (h | ⟨o, h⟩) | h
  · exact .inl (.inl (e.tup h))
  · exact .inl (.inr ⟨o, e.keep _ _ h ntb_frz⟩)
  · exact .inr h
theorem hu64 {A : Around} {k : Nat} (hr : Room k A) : A.units + 64 < cLine := by have := hr.un; omega
theorem intsDp {H : Hp} : ∀ ns : List Int, DpAll K H (ns.map V.int) (ns.map PyData.int)
  | [] => .nil
  | n :: r => .cons (.int n) (intsDp r)
end
theorem ints_lay : ∀ ns : List Int, PyData.canLayAll0 (ns.map PyData.int) = true
  | [] => rfl
  | _ :: r => by show (true && PyData.canLayAll0 (r.map PyData.int)) = true; rw [ints_lay r]; rfl
theorem ints_dep : ∀ ns : List Int, PyData.depthAll (ns.map PyData.int) = 0
  | [] => rfl
  | _ :: r => by show max 0 (PyData.depthAll (r.map PyData.int)) = 0; rw [ints_dep r]; rfl
theorem ints_shaped (ns : List Int) : SeqAt.shaped (.list (ns.map PyData.int)) = true := by
  unfold SeqAt.shaped
  rw [show (PyData.list (ns.map PyData.int)).canLay0 = PyData.canLayAll0 (ns.map PyData.int) from rfl, ints_lay, show (PyData.list (ns.map PyData.int)).depth = PyData.depthAll (ns.map PyData.int) + 1 from rfl, ints_dep]
  rfl
theorem nil_shaped : SeqAt.shaped (.list []) = true := by decide +kernel
/-- the built-in names are the built-ins' -/
structure Bi (mg : Str → Option Value) : Prop where
  isinstance : mg "isinstance" = none
  int : mg "int" = none
  bool : mg "bool" = none
  str : mg "str" = none
  list : mg "list" = none
  tuple : mg "tuple" = none
  dict : mg "dict" = none
  len : mg "len" = none
  all : mg "all" = none
  any : mg "any" = none
  set : mg "set" = none
  max : mg "max" = none
  min : mg "min" = none
  range : mg "range" = none
  zip : mg "zip" = none
  sum : mg "sum" = none
  sorted : mg "sorted" = none
  abs : mg "abs" = none
  enumerate : mg "enumerate" = none
/-- a def of the module's own -/
structure Gf (K : PySem.W.Frag) (mg : Str → Option Value) (x : Str) (st : Stmt) (ps : List Str) (f : Addr) (fd : FuncData) : Prop where
  F : Fun K x x st f fd
  m : mg x = some (.ref f)
  b : Binds K fd ps []
theorem Gf.kp {K : PySem.W.Frag} {mg : Str → Option Value} {x : Str} {st : Stmt} {ps : List Str} {f : Addr} {fd : FuncData} (D : Gf K mg x st ps f fd) : PySem.W.keepIn K (.ref f) = true := D.F.kp
/-- one with defaults -/
structure Gd (K : PySem.W.Frag) (mg : Str → Option Value) (x : Str) (st : Stmt) (dvs : List V) (f : Addr) (fd : FuncData) : Prop where
  F : FunD K x x (defArgs st) (defBody st) (defScope st) dvs [] f fd
  m : mg x = some (.ref f)
theorem Gd.kp {K : PySem.W.Frag} {mg : Str → Option Value} {x : Str} {st : Stmt} {dvs : List V} {f : Addr} {fd : FuncData} (D : Gd K mg x st dvs f fd) : PySem.W.keepIn K (.ref f) = true := D.F.kp
/-- a def whose code object stands at c, its table at T -/
structure Gt (K : PySem.W.Frag) (mg : Str → Option Value) (base : Heap) (x : Str) (st : Stmt) (ps : List Str) (f : Addr) (fd : FuncData) (T : Addr) : Prop where
  g : Gf K mg x st ps f fd
  tab : ∃ c, fd.code = .ref c ∧ GxR.TabB base mg c T
theorem Gt.kp {K : PySem.W.Frag} {mg : Str → Option Value} {base : Heap} {x : Str} {st : Stmt} {ps : List Str} {f : Addr} {fd : FuncData} {T : Addr} (D : Gt K mg base x st ps f fd T) : PySem.W.keepIn K (.ref f) = true := D.g.F.kp
theorem Gt.m {K : PySem.W.Frag} {mg : Str → Option Value} {base : Heap} {x : Str} {st : Stmt} {ps : List Str} {f : Addr} {fd : FuncData} {T : Addr} (D : Gt K mg base x st ps f fd T) : mg x = some (.ref f) := D.g.m
theorem Gt.b {K : PySem.W.Frag} {mg : Str → Option Value} {base : Heap} {x : Str} {st : Stmt} {ps : List Str} {f : Addr} {fd : FuncData} {T : Addr} (D : Gt K mg base x st ps f fd T) : Binds K fd ps [] := D.g.b
theorem Gt.ok {P : Program} {w : World} {K : PySem.W.Frag} {mg : Str → Option Value} {base : Heap} {x : Str} {st : Stmt} {ps N : List Str} {f : Addr} {fd : FuncData} {T : Addr} {k : Nat} {sp : Sp} (D : Gt K mg base x st ps f fd T) (S : FnScope N ps (defScope st)) (len : ∀ vs H Q E, sp vs H Q E → vs.length = ps.length)
    (hbody : ∀ (c : Addr) (A : Around) (outer : List Env) (s : Shared) (H : Hp) (vs : List V) (Q : VK) (E : XK), GxR.TabB base mg c T → Room k (A.deeper (envOfC x (defScope st) s.heap.objs.size f (.ref c))) → sp vs H Q E →
      ∃ t, PSs (cxOf CX0 P w K mg base N x (defScope st) f (.ref c) A outer s H E).nox (defBody st) t ∧ t { nx := fun _ H' => Q .non H', rt := Q } (start N vs) H) : FnOk P w K mg base CX0 (k + 1) f fd ps sp := by
  obtain ⟨c, hc, TB⟩ := D.tab
  obtain ⟨oc, od, kV, doc, pm, an, cdv, ct, osl, rfl, lk, hcd⟩ := D.g.F.ex
  obtain rfl : cdv = .ref c := hc
  refine fn_of lk hcd S len fun A outer s H vs Q E hr h => ?_
  obtain ⟨t, h1, h2⟩ := hbody c A outer s H vs Q E TB hr h
  exact ⟨t, h1.nox, h2⟩
theorem small1000' {n : Nat} (h : n ≤ 1000) : n ≤ sizeLine := Nat.le_trans h (by decide)
/-! ## a sign, so many times -/
def repS (c n : Nat) : Str := ⟨(List.replicate n c).toArray⟩
theorem rep_fold (c : Nat) : ∀ (n : Nat) (a : Array Nat), (List.replicate n (#[c] : Array Nat)).foldl (· ++ ·) a = a ++ (List.replicate n c).toArray
  | 0, a => by simp
  | n + 1, a => by
    rw [List.replicate_succ, List.foldl_cons, rep_fold c n, List.replicate_succ]
    apply Array.ext'
    simp
theorem repS_len (c n : Nat) : (repS c n).length = n := by
  show (List.replicate n c).toArray.size = n
  simp
theorem op_mulS {X : Cx} : OpR X (binaryOp .Mult) (fun x y H Q => ∃ (c : Nat) (n : Int), x = .str ⟨#[c]⟩ ∧ y = .int n ∧ 0 ≤ n ∧ n ≤ 1000 ∧ Q (.str (repS c n.toNat)) H) := by
  intro pins s σ H x y v u Q I rx ry h
  obtain ⟨c, n, rfl, rfl, h0, h1, q⟩ := h
  obtain ⟨t, rfl⟩ := rx
  obtain ⟨t', rfl⟩ := ry
  have l1 : (⟨#[c]⟩ : Str).length = 1 := rfl
  refine PySem.P.mul_str ?_ (fun a _ => ?_) (fun a _ => ?_) ?_
  · rw [decide_eq_false (by omega), decide_eq_false (by omega)]
    rfl
  · rw [l1]
    have : (1 : Int) ≤ (2 ^ 63 - 1) / n := by
      rw [Int.le_ediv_iff_mul_le (by omega)]
      omega
    omega
  · rw [l1]
    unfold PySem.Builtin.Str.tooLong
    have : 1 * n.toNat ≤ sizeLine := Nat.le_trans (show 1 * n.toNat ≤ 1000 by omega) (by decide)
    simp only [decide_eq_false_iff_not]
    omega
  · by_cases c1 : n < 1
    · rw [if_pos c1]
      have e : repS c n.toNat = Str.empty := by
        have : n.toNat = 0 := by omega
        rw [this]
        rfl
      rw [e] at q
      exact ⟨by decide, .str Str.empty, H, I.tok _, ⟨_, rfl⟩, q⟩
    · rw [if_neg c1]
      by_cases c2 : (n == 1 || (⟨#[c]⟩ : Str).length == 0) = true
      · rw [if_pos c2]
        rw [l1] at c2
        have n1 : n = 1 := by simpa using c2
        have e : repS c n.toNat = ⟨#[c]⟩ := by
          rw [n1]
          rfl
        rw [e] at q
        exact ⟨.str _, H, I, ⟨_, rfl⟩, q⟩
      · rw [if_neg c2]
        have e : (⟨(List.replicate n.toNat (⟨#[c]⟩ : Str).cps).foldl (· ++ ·) #[]⟩ : Str) = repS c n.toNat := by
          show (⟨(List.replicate n.toNat (#[c] : Array Nat)).foldl (· ++ ·) #[]⟩ : Str) = _
          rw [rep_fold]
          unfold repS
          simp
        rw [e]
        refine ⟨?_, .str _, H, I.tok _, ⟨_, rfl⟩, q⟩
        rw [repS_len]
        exact small1000' (by omega)
end Hf
set_option linter.all false
set_option Elab.async false
set_option maxRecDepth 100000
set_option maxHeartbeats 4000000
namespace Hf
open PySem L2
/-- the greatest number that the hand h told of the leaf l, 0 if none -/
def mx : List (Str × Str × Int) → Str → Str → Int
  | [], _, _ => 0
  | x :: r, h, l => if x.1 = h ∧ x.2.1 = l then max x.2.2 (mx r h l) else mx r h l
theorem mx_nn : ∀ (T : List (Str × Str × Int)) (h l : Str), 0 ≤ mx T h l
  | [], _, _ => Int.le_refl _
  | x :: r, h, l => by
    have := mx_nn r h l
    unfold mx
    split <;> omega
theorem mx_ge : ∀ {T : List (Str × Str × Int)} {h l : Str} {m : Int}, (h, l, m) ∈ T → m ≤ mx T h l
  | [], _, _, _, e => by simp at e
  | x :: r, h, l, m, e => by
    unfold mx
    rcases List.mem_cons.mp e with rfl | e
    · rw [if_pos ⟨rfl, rfl⟩]
      show m ≤ max m _
      omega
    · have := mx_ge e
      split <;> omega
theorem mx_le {B : Int} (b0 : 0 ≤ B) : ∀ {T : List (Str × Str × Int)} {h l : Str}, (∀ m, (h, l, m) ∈ T → m ≤ B) → mx T h l ≤ B
  | [], _, _, _ => b0
  | x :: r, h, l, e => by
    have := mx_le b0 (T := r) (h := h) (l := l) fun m hm => e m (List.mem_cons_of_mem _ hm)
    unfold mx
    split
    · rename_i z
      have := e x.2.2 (by rw [← z.1, ← z.2]; exact List.mem_cons_self ..)
      omega
    · exact this
theorem mx_same {T U : List (Str × Str × Int)} (e : ∀ x, x ∈ T ↔ x ∈ U) (h l : Str) : mx T h l = mx U h l :=
  Int.le_antisymm (mx_le (mx_nn _ _ _) fun _ hm => mx_ge ((e _).mp hm)) (mx_le (mx_nn _ _ _) fun _ hm => mx_ge ((e _).mpr hm))
theorem mx_snoc (x : Str × Str × Int) (h l : Str) : ∀ T : List (Str × Str × Int), mx (T ++ [x]) h l = if x.1 = h ∧ x.2.1 = l then max x.2.2 (mx T h l) else mx T h l
  | [] => rfl
  | y :: r => by
    have ih := mx_snoc x h l r
    rw [List.cons_append]
    unfold mx
    rw [ih]
    by_cases c : x.1 = h ∧ x.2.1 = l
    · rw [if_pos c, if_pos c]
      split <;> omega
    · rw [if_neg c, if_neg c]
/-- all hands' together -/
def due (hs : List Str) (T : List (Str × Str × Int)) (l : Str) : Int := (hs.map fun h => mx T h l).sum
theorem due_same {T U : List (Str × Str × Int)} (e : ∀ x, x ∈ T ↔ x ∈ U) (hs : List Str) (l : Str) : due hs T l = due hs U l := by
  unfold due
  congr 1
  exact List.map_congr_left fun h _ => mx_same e h l
theorem sum_zero : ∀ {xs : List Int}, (∀ x ∈ xs, x = 0) → xs.sum = 0
  | [], _ => rfl
  | x :: r, h => by
    rw [List.sum_cons, h x (List.mem_cons_self ..), sum_zero fun y hy => h y (List.mem_cons_of_mem _ hy)]
    rfl
/-- one place of a list without twins -/
theorem sum_one {α : Type} [DecidableEq α] {a : α} {v : Int} : ∀ {hs : List α}, hs.Nodup → a ∈ hs → (hs.map fun h => if h = a then v else 0).sum = v
  | [], _, e => by simp at e
  | h :: r, n, e => by
    obtain ⟨n1, n2⟩ := List.nodup_cons.mp n
    rw [List.map_cons, List.sum_cons]
    by_cases c : h = a
    · subst c
      rw [if_pos rfl, sum_zero fun x hx => ?_, Int.add_zero]
      obtain ⟨y, hy, rfl⟩ := List.mem_map.mp hx
      exact if_neg fun z => n1 (by rw [← z]; exact hy)
    · rw [if_neg c, Int.zero_add]
      refine sum_one n2 ?_
      rcases List.mem_cons.mp e with z | z
      · exact absurd z.symm c
      · exact z
theorem sum_add {α : Type} {f g : α → Int} : ∀ {hs : List α}, (hs.map fun h => f h + g h).sum = (hs.map f).sum + (hs.map g).sum
  | [] => rfl
  | h :: r => by
    simp only [List.map_cons, List.sum_cons]
    rw [sum_add (hs := r)]
    omega
/-! ### dicts of numbers -/
section
variable {κ κ' : Type} [DecidableEq κ] [DecidableEq κ'] {f : κ → κ'}
def eput (es : List (κ × Int)) (k : κ) (v : Int) : List (κ × Int) := if (es.any fun e => decide (e.1 = k)) = true then es.map (fun e => if e.1 = k then (e.1, v) else e) else es ++ [(k, v)]
def entF (f : κ → κ') (e : κ × Int) : κ' × V := (f e.1, V.int e.2)
theorem ent_any (inj : ∀ a b, f a = f b → a = b) (k : κ) (es : List (κ × Int)) : ((es.map (entF f)).any fun kv => decide (kv.1 = f k)) = es.any fun e => decide (e.1 = k) := by
  rw [List.any_map]
  congr 1
  funext e
  exact decide_eq_decide.mpr ⟨inj _ _, fun z => congrArg f z⟩
theorem ent_put (inj : ∀ a b, f a = f b → a = b) (k : κ) (v : Int) (es : List (κ × Int)) : putK (es.map (entF f)) (f k) (.int v) = (eput es k v).map (entF f) := by
  unfold putK eput
  rw [ent_any inj]
  split
  · rw [List.map_map, List.map_map]
    refine List.map_congr_left fun e _ => ?_
    show (if f e.1 = f k then (f e.1, V.int v) else entF f e) = entF f (if e.1 = k then (e.1, v) else e)
    by_cases c : e.1 = k
    · rw [if_pos c, if_pos (congrArg f c)]; rfl
    · rw [if_neg c, if_neg fun z => c (inj _ _ z)]
  · rw [List.map_append]; rfl
theorem nodup_len {l : List κ} : ∀ {m : List κ}, l.Nodup → (∀ x ∈ l, x ∈ m) → l.length ≤ m.length := by
  induction l with
  | nil => intro m _ _; exact Nat.zero_le _
  | cons x r ih =>
    intro m n h
    obtain ⟨n1, n2⟩ := List.nodup_cons.mp n
    have hx := h x (List.mem_cons_self ..)
    have := ih (m := m.erase x) n2 fun y hy => (List.mem_erase_of_ne fun z => n1 (by rw [← z]; exact hy)).mpr (h y (List.mem_cons_of_mem _ hy))
    rw [List.length_erase_of_mem hx] at this
    have p := List.length_pos_of_mem hx
    rw [List.length_cons]
    omega
structure DOk (es : List (κ × Int)) (S : κ → Prop) (F : κ → Int) : Prop where
  nd : (es.map (·.1)).Nodup
  v : ∀ e ∈ es, e.2 = F e.1
  s : ∀ k, S k ↔ ∃ e ∈ es, e.1 = k
theorem DOk.congr {es : List (κ × Int)} {S S' : κ → Prop} {F F' : κ → Int} (D : DOk es S F) (hS : ∀ k, S' k ↔ S k) (hF : ∀ k, S k → F' k = F k) : DOk es S' F' :=
  ⟨D.nd, fun e he => by rw [D.v e he, hF _ ((D.s _).mpr ⟨e, he, rfl⟩)], fun k => (hS k).trans (D.s k)⟩
theorem DOk.nil {F : κ → Int} : DOk ([] : List (κ × Int)) (fun _ => False) F := ⟨.nil, fun e he => by simp at he, fun k => ⟨False.elim, fun ⟨e, he, _⟩ => by simp at he⟩⟩
theorem DOk.put {es : List (κ × Int)} {S : κ → Prop} {F : κ → Int} (D : DOk es S F) (k : κ) (v : Int) : DOk (eput es k v) (fun x => S x ∨ x = k) (fun x => if x = k then v else F x) := by
  unfold eput
  by_cases c : (es.any fun e => decide (e.1 = k)) = true
  · rw [if_pos c]
    have ck : ∃ e ∈ es, e.1 = k := by
      obtain ⟨e, he, z⟩ := List.any_eq_true.mp c
      exact ⟨e, he, of_decide_eq_true z⟩
    have km : (es.map fun e => if e.1 = k then (e.1, v) else e).map (·.1) = es.map (·.1) := by
      rw [List.map_map]
      refine List.map_congr_left fun e _ => ?_
      show (if e.1 = k then (e.1, v) else e).1 = e.1
      split <;> rfl
    refine ⟨by rw [km]; exact D.nd, fun e he => ?_, fun x => ?_⟩
    · obtain ⟨e0, h0, rfl⟩ := List.mem_map.mp he
      by_cases z : e0.1 = k
      · rw [if_pos z]
        show v = if e0.1 = k then v else F e0.1
        rw [if_pos z]
      · rw [if_neg z, if_neg z]
        exact D.v e0 h0
    · have a : (∃ e ∈ (es.map fun e => if e.1 = k then (e.1, v) else e), e.1 = x) ↔ x ∈ es.map (·.1) := by
        rw [← km]
        exact ⟨fun ⟨e, he, z⟩ => z ▸ List.mem_map_of_mem he, fun z => by obtain ⟨e, he, q⟩ := List.mem_map.mp z; exact ⟨e, he, q⟩⟩
      have b : (∃ e ∈ es, e.1 = x) ↔ x ∈ es.map (·.1) := ⟨fun ⟨e, he, z⟩ => z ▸ List.mem_map_of_mem he, fun z => by obtain ⟨e, he, q⟩ := List.mem_map.mp z; exact ⟨e, he, q⟩⟩
      rw [a, ← b, D.s x]
      refine ⟨fun z => z.elim id fun z => ?_, .inl⟩
      subst z
      exact ck
  · rw [if_neg c]
    have ck : ∀ e ∈ es, e.1 ≠ k := fun e he z => c (List.any_eq_true.mpr ⟨e, he, decide_eq_true z⟩)
    refine ⟨?_, fun e he => ?_, fun x => ?_⟩
    · rw [List.map_append, List.nodup_append]
      refine ⟨D.nd, by simp, fun a ha b hb z => ?_⟩
      obtain ⟨e, he, q⟩ := List.mem_map.mp ha
      rw [List.map_cons, List.map_nil, List.mem_singleton] at hb
      exact ck e he (q.trans (z.trans hb))
    · rcases List.mem_append.mp he with he | he
      · rw [if_neg (ck e he)]
        exact D.v e he
      · rw [List.mem_singleton] at he
        subst he
        exact (if_pos rfl).symm
    · rw [D.s x]
      constructor
      · rintro (⟨e, he, z⟩ | z)
        · exact ⟨e, List.mem_append_left _ he, z⟩
        · exact ⟨(k, v), List.mem_append_right _ (List.mem_singleton.mpr rfl), z.symm⟩
      · rintro ⟨e, he, z⟩
        rcases List.mem_append.mp he with he | he
        · exact .inl ⟨e, he, z⟩
        · rw [List.mem_singleton] at he
          subst he
          exact .inr z.symm
theorem ent_val (inj : ∀ a b, f a = f b → a = b) (k : κ) : ∀ es : List (κ × Int), valV (es.map (entF f)) (f k) = (es.find? fun e => decide (e.1 = k)).map fun e => V.int e.2
  | [] => rfl
  | e :: r => by
    rw [List.map_cons]
    by_cases c : e.1 = k
    · rw [valV_pos (p := entF f e) (congrArg f c), List.find?_cons_of_pos (by exact decide_eq_true c)]
      rfl
    · rw [valV_neg (p := entF f e) (fun z => c (inj _ _ z)), List.find?_cons_of_neg (by simp [c]), ent_val inj k r]
theorem DOk.val {es : List (κ × Int)} {S : κ → Prop} {F : κ → Int} (D : DOk es S F) (inj : ∀ a b, f a = f b → a = b) {k : κ} (h : S k) : valV (es.map (entF f)) (f k) = some (V.int (F k)) := by
  rw [ent_val inj]
  obtain ⟨e, he, z⟩ := (D.s k).mp h
  cases q : es.find? fun e => decide (e.1 = k) with
  | none => exact absurd (decide_eq_true z) (by simpa using List.find?_eq_none.mp q e he)
  | some e' =>
    have h1 := List.find?_some q
    have h2 := List.mem_of_find?_eq_some q
    rw [Option.map_some, D.v e' h2, of_decide_eq_true h1]
theorem DOk.get0 {es : List (κ × Int)} {S : κ → Prop} {F : κ → Int} (D : DOk es S F) (inj : ∀ a b, f a = f b → a = b) {k : κ} (h : ¬ S k → F k = 0) : (valV (es.map (entF f)) (f k)).getD (V.int 0) = V.int (F k) := by
  by_cases c : S k
  · rw [D.val inj c]; rfl
  · rw [ent_val inj]
    have : (es.find? fun e => decide (e.1 = k)) = none := List.find?_eq_none.mpr fun e he z => c ((D.s k).mpr ⟨e, he, of_decide_eq_true z⟩)
    rw [this, h c]
    rfl
/-- two that hold the same -/
theorem DOk.eq {es es' : List (κ × Int)} {S : κ → Prop} {F : κ → Int} (D : DOk es S F) (D' : DOk es' S F) (inj : ∀ a b, f a = f b → a = b) :
    (es.map (entF f)).length = (es'.map (entF f)).length ∧ ∀ p ∈ es.map (entF f), valV (es'.map (entF f)) p.1 = some p.2 ∧ flatB p.2 = true := by
  refine ⟨?_, fun p hp => ?_⟩
  · rw [List.length_map, List.length_map, ← List.length_map (·.1), ← List.length_map (as := es') (·.1)]
    have a : ∀ {l : List (κ × Int)} {x : κ}, x ∈ l.map (·.1) ↔ ∃ e ∈ l, e.1 = x := fun {l x} => ⟨fun z => by obtain ⟨e, he, q⟩ := List.mem_map.mp z; exact ⟨e, he, q⟩, fun ⟨e, he, z⟩ => z ▸ List.mem_map_of_mem he⟩
    exact Nat.le_antisymm (nodup_len D.nd fun x hx => by rw [a, ← D'.s, D.s, ← a]; exact hx) (nodup_len D'.nd fun x hx => by rw [a, ← D.s, D'.s, ← a]; exact hx)
  · obtain ⟨e, he, rfl⟩ := List.mem_map.mp hp
    refine ⟨?_, rfl⟩
    show valV _ (f e.1) = some (V.int e.2)
    rw [D'.val inj ((D.s _).mpr ⟨e, he, rfl⟩), D.v e he]
end
/-- what stands of the leaf l together -/
abbrev Grt := List ((Str × Str) × Int)
def smL (gs : Grt) (l : Str) : Int := (gs.map fun g => if g.1.2 = l then g.2 else 0).sum
theorem sm_snoc (gs : Grt) (g : (Str × Str) × Int) (l : Str) : smL (gs ++ [g]) l = smL gs l + if g.1.2 = l then g.2 else 0 := by
  unfold smL
  rw [List.map_append, List.sum_append]
  simp
/-- by hands or by what stands -/
theorem sm_by {hs : List Str} (n : hs.Nodup) (l : Str) : ∀ {gs : Grt}, (∀ g ∈ gs, g.1.1 ∈ hs) → smL gs l = (hs.map fun h => (gs.map fun g => if g.1 = (h, l) then g.2 else 0).sum).sum
  | [], _ => (sum_zero fun x hx => by
      obtain ⟨y, _, rfl⟩ := List.mem_map.mp hx
      rfl).symm
  | g :: r, h => by
    have ih := sm_by n l (gs := r) fun x hx => h x (List.mem_cons_of_mem _ hx)
    unfold smL at ih ⊢
    simp only [List.map_cons, List.sum_cons]
    rw [sum_add (f := fun h => if g.1 = (h, l) then g.2 else 0), ← ih]
    congr 1
    by_cases c : g.1.2 = l
    · rw [if_pos c]
      have := sum_one (v := g.2) n (h g (List.mem_cons_self ..))
      refine this.symm.trans ?_
      congr 1
      refine List.map_congr_left fun x _ => ?_
      by_cases z : x = g.1.1
      · rw [if_pos z, if_pos (by rw [z, ← c])]
      · rw [if_neg z, if_neg fun q => z (by rw [q])]
    · rw [if_neg c]
      refine (sum_zero fun x hx => ?_).symm
      obtain ⟨y, _, rfl⟩ := List.mem_map.mp hx
      exact if_neg fun q => c (by rw [q])
theorem sm_at {k : Str × Str} : ∀ {gs : Grt}, (gs.map (·.1)).Nodup → ∀ {v : Int}, (∀ g ∈ gs, g.1 = k → g.2 = v) → ((∀ g ∈ gs, g.1 ≠ k) → v = 0) → (gs.map fun g => if g.1 = k then g.2 else 0).sum = v
  | [], _, v, _, h0 => (h0 fun g hg => by simp at hg).symm
  | g :: r, n, v, hv, h0 => by
    rw [List.map_cons] at n ⊢
    obtain ⟨n1, n2⟩ := List.nodup_cons.mp n
    rw [List.sum_cons]
    by_cases c : g.1 = k
    · rw [if_pos c, hv g (List.mem_cons_self ..) c, sum_zero fun x hx => ?_, Int.add_zero]
      obtain ⟨y, hy, rfl⟩ := List.mem_map.mp hx
      exact if_neg fun q => n1 (List.mem_map.mpr ⟨y, hy, q.trans c.symm⟩)
    · rw [if_neg c, Int.zero_add]
      refine sm_at n2 (fun x hx => hv x (List.mem_cons_of_mem _ hx)) fun q => h0 fun x hx => ?_
      rcases List.mem_cons.mp hx with rfl | hx
      · exact c
      · exact q x hx
abbrev Tel := Str × Str × Int
def gS (T : List Tel) (k : Str × Str) : Prop := ∃ x ∈ T, (x.1, x.2.1) = k
def gF (T : List Tel) (k : Str × Str) : Int := mx T k.1 k.2
def lS (T : List Tel) (l : Str) : Prop := ∃ x ∈ T, x.2.1 = l
theorem g_none {T : List Tel} {k : Str × Str} (h : ¬ gS T k) : gF T k = 0 := by
  refine Int.le_antisymm (mx_le (Int.le_refl _) fun m hm => ?_) (mx_nn _ _ _)
  exact absurd ⟨_, hm, rfl⟩ h
theorem g_step {gs : Grt} {T : List Tel} (D : DOk gs (gS T) (gF T)) (x : Tel) : DOk (eput gs (x.1, x.2.1) (max x.2.2 (gF T (x.1, x.2.1)))) (gS (T ++ [x])) (gF (T ++ [x])) := by
  refine (D.put (x.1, x.2.1) _).congr (fun k => ?_) fun k _ => ?_
  · constructor
    · rintro ⟨y, hy, z⟩
      rcases List.mem_append.mp hy with hy | hy
      · exact .inl ⟨y, hy, z⟩
      · rw [List.mem_singleton] at hy
        subst hy
        exact .inr z.symm
    · rintro (⟨y, hy, z⟩ | z)
      · exact ⟨y, List.mem_append_left _ hy, z⟩
      · exact ⟨x, List.mem_append_right _ (List.mem_singleton.mpr rfl), z.symm⟩
  · show mx (T ++ [x]) k.1 k.2 = if k = (x.1, x.2.1) then max x.2.2 (mx T x.1 x.2.1) else mx T k.1 k.2
    rw [mx_snoc]
    by_cases c : k = (x.1, x.2.1)
    · subst c
      rw [if_pos rfl, if_pos ⟨rfl, rfl⟩]
    · rw [if_neg c, if_neg fun z => c (by rw [z.1, z.2])]
theorem gr_sum {gs : Grt} {T : List Tel} (G : DOk gs (gS T) (gF T)) {hs : List Str} (n : hs.Nodup) (hT : ∀ x ∈ T, x.1 ∈ hs) (l : Str) : smL gs l = due hs T l := by
  rw [sm_by n l fun g hg => by
    obtain ⟨x, hx, e⟩ := (G.s g.1).mpr ⟨g, hg, rfl⟩
    rw [← e]
    exact hT x hx]
  unfold due
  congr 1
  refine List.map_congr_left fun h _ => ?_
  refine sm_at G.nd (fun g hg e => by rw [G.v g hg, e]; rfl) fun z => ?_
  exact g_none (T := T) (k := (h, l)) fun q => by
    obtain ⟨g, hg, e⟩ := (G.s _).mp q
    exact z g hg e
def hS (gs : Grt) (l : Str) : Prop := ∃ g ∈ gs, g.1.2 = l
theorem s_none {gs : Grt} {l : Str} (h : ¬ hS gs l) : smL gs l = 0 := sum_zero fun x hx => by
  obtain ⟨g, hg, rfl⟩ := List.mem_map.mp hx
  exact if_neg fun z => h ⟨g, hg, z⟩
theorem s_step {es : List (Str × Int)} {gs : Grt} (D : DOk es (hS gs) (smL gs)) (g : (Str × Str) × Int) : DOk (eput es g.1.2 (smL gs g.1.2 + g.2)) (hS (gs ++ [g])) (smL (gs ++ [g])) := by
  refine (D.put g.1.2 _).congr (fun k => ?_) fun k _ => ?_
  · constructor
    · rintro ⟨y, hy, z⟩
      rcases List.mem_append.mp hy with hy | hy
      · exact .inl ⟨y, hy, z⟩
      · rw [List.mem_singleton] at hy
        subst hy
        exact .inr z.symm
    · rintro (⟨y, hy, z⟩ | z)
      · exact ⟨y, List.mem_append_left _ hy, z⟩
      · exact ⟨g, List.mem_append_right _ (List.mem_singleton.mpr rfl), z.symm⟩
  · rw [sm_snoc]
    by_cases c : k = g.1.2
    · subst c
      rw [if_pos rfl, if_pos rfl]
    · rw [if_neg c, if_neg fun z => c z.symm, Int.add_zero]
theorem hS_lS {gs : Grt} {T : List Tel} (G : DOk gs (gS T) (gF T)) (l : Str) : hS gs l ↔ lS T l := by
  constructor
  · rintro ⟨g, hg, z⟩
    obtain ⟨x, hx, e⟩ := (G.s g.1).mpr ⟨g, hg, rfl⟩
    exact ⟨x, hx, by rw [← z, ← e]⟩
  · rintro ⟨x, hx, z⟩
    obtain ⟨g, hg, e⟩ := (G.s (x.1, x.2.1)).mp ⟨x, hx, rfl⟩
    exact ⟨g, hg, by rw [e]; exact z⟩
/-- one that is made of rising keys -/
def upTo (ys : List Str) (F : Str → Int) : List (Str × Int) := ys.map fun l => (l, F l)
theorem up_ok {ys : List Str} (n : ys.Nodup) (F : Str → Int) : DOk (upTo ys F) (fun l => l ∈ ys) F := by
  refine ⟨?_, fun e he => ?_, fun k => ⟨fun z => ⟨(k, F k), List.mem_map.mpr ⟨k, z, rfl⟩, rfl⟩, fun ⟨e, he, z⟩ => ?_⟩⟩
  · unfold upTo
    rw [List.map_map]
    exact (List.map_id' ys).symm ▸ n
  · obtain ⟨l, _, rfl⟩ := List.mem_map.mp he
    rfl
  · obtain ⟨l, hl, rfl⟩ := List.mem_map.mp he
    exact z ▸ hl
end Hf
set_option linter.all false
set_option Elab.async false
namespace Hf
open PySem L2 PyProof.Rows
theorem lt_tot (a b : List Nat) : ¬ a < b → b ≤ a := fun h => List.not_lt.mp h
theorem rising_pw : ∀ {r : List Str} {p : Str}, risingS p r = true → (p :: r).Pairwise fun a b : Str => a.cps.toList ≤ b.cps.toList
  | [], p, _ => by simp
  | x :: r, p, h => by
    unfold risingS at h
    rw [Bool.and_eq_true, Bool.not_eq_true', ltCps_eq, decide_eq_false_iff_not] at h
    have ih := rising_pw h.2
    have px := List.not_lt.mp h.1
    rw [List.pairwise_cons]
    refine ⟨fun y hy => ?_, ih⟩
    rcases List.mem_cons.mp hy with rfl | hy
    · exact px
    · exact List.le_trans px ((List.pairwise_cons.mp ih).1 y hy)
theorem sorted_pw : ∀ {l : List Str}, sortedS l = true → l.Pairwise fun a b : Str => a.cps.toList ≤ b.cps.toList
  | [], _ => .nil
  | _ :: _, h => rising_pw h
theorem str_ext {a b : Str} (h : a.cps.toList = b.cps.toList) : a = b := by
  cases a; cases b
  congr 1
  exact Array.toList_inj.mp h
theorem sorted_one {l m : List Str} (p : l.Perm m) (h1 : sortedS l = true) (h2 : sortedS m = true) : l = m :=
  List.Perm.eq_of_pairwise (fun a b _ _ x y => str_ext (List.le_antisymm x y)) (sorted_pw h1) (sorted_pw h2) p
end Hf
set_option linter.all false
set_option Elab.async false
namespace Hf
open PySem L2 PySem.Spec PyProof.Rows
/-- the table of the law's own code object -/
class LT where
  T : Addr
/-- as Sm, and the law's own table stays empty -/
structure Sm6 [LT] (H H' : Hp) : Prop where
  sm : Sm H H'
  e : H LT.T = some (.tbl #[]) → H' LT.T = some (.tbl #[])
section
variable [LT] {H H1 H' : Hp} {a p T : Addr} {xs : List V} {o : HO}
theorem Sm6.refl (H : Hp) : Sm6 H H := ⟨Sm.refl H, fun h => h⟩
theorem Sm6.trans (x : Sm6 H H1) (y : Sm6 H1 H') : Sm6 H H' := ⟨x.sm.trans y.sm, fun h => y.e (x.e h)⟩
theorem Sm6.new (h : H p = none) : Sm6 H (upd H p o) := ⟨Sm.new h, fun q => by rw [upd_ne (ne_of_none q h)]; exact q⟩
theorem Sm6.put (x : Sm6 H H') (h : H p = none) : Sm6 H (upd H' p o) := ⟨x.sm.put h, fun q => by rw [upd_ne (ne_of_none q h)]; exact x.e q⟩
theorem Sm6.tabbed (n : T ≠ LT.T) (h : Tab H T) (t : GxR.Tabbed T H H') : Sm6 H H' := ⟨Sm.tabbed h t, fun q => by rw [t.2 _ (Ne.symm n)]; exact q⟩
theorem Sm6.keep (x : Sm6 H H') : ∀ b o, H b = some o → NTb o → H' b = some o := x.sm.keep
theorem Sm6.lst (x : Sm6 H H') (h : H a = some (.lst xs)) : H' a = some (.lst xs) := x.sm.lst h
theorem Sm6.tup (x : Sm6 H H') (h : H a = some (.tup xs)) : H' a = some (.tup xs) := x.sm.tup h
theorem Sm6.dK {k : List (Key × V)} (x : Sm6 H H') (h : H a = some (.dK k)) : H' a = some (.dK k) := x.sm.dK h
theorem Sm6.seqL {K : PySem.W.Frag} (x : Sm6 H H') (h : SqL K H a xs) : SqL K H' a xs := x.sm.seqL h
theorem Sm6.tabG (x : Sm6 H H') (h : Tab H T) : Tab H' T := x.sm.tabG h
theorem Sm6.free (x : Sm6 H H') (h : H' a = none) : H a = none := x.sm.free h
end
end Hf
set_option Elab.async false
set_option maxRecDepth 100000
set_option maxHeartbeats 4000000
namespace Hf
open PySem L2
def top (i : Nat) : Stmt := PySem.Challenge.pw_howfar_k06_hands.main.body.getD i (.Pass ⟨0, 0, 0, 0⟩)
abbrev sIsNumber : Stmt := top 6
theorem scIsNumber : FnScope ["value", "least", "most"] ["value", "least", "most"] (defScope sIsNumber) := ⟨rfl, rfl, rfl, by decide +kernel, rfl, by decide +kernel, by decide +kernel⟩
abbrev sIsName : Stmt := top 7
theorem scIsName : FnScope ["value", "sign"] ["value"] (defScope sIsName) := ⟨rfl, rfl, rfl, by decide +kernel, rfl, by decide +kernel, by decide +kernel⟩
abbrev sJoined : Stmt := top 9
theorem scJoined : FnScope ["tallies", "greatest", "hand", "leaf", "many", "together", "_", "tally"] ["tallies"] (defScope sJoined) := ⟨rfl, rfl, rfl, by decide +kernel, rfl, by decide +kernel, by decide +kernel⟩
abbrev sIsTally : Stmt := top 10
theorem scIsTally : FnScope ["value"] ["value"] (defScope sIsTally) := ⟨rfl, rfl, rfl, by decide +kernel, rfl, by decide +kernel, by decide +kernel⟩
abbrev sLawCellAt : Stmt := top 12
theorem scLawCellAt : FnScope ["_law_script", "_law_k"] ["_law_script", "_law_k"] (defScope sLawCellAt) := ⟨rfl, rfl, rfl, by decide +kernel, rfl, by decide +kernel, by decide +kernel⟩
abbrev sLawNumbers : Stmt := top 13
theorem scLawNumbers : FnScope ["_law_cell", "_law_bounds", "_law_rest", "_law_found", "_law_bound"] ["_law_cell", "_law_bounds"] (defScope sLawNumbers) := ⟨rfl, rfl, rfl, by decide +kernel, rfl, by decide +kernel, by decide +kernel⟩
abbrev sLawTallies : Stmt := top 14
theorem scLawTallies : FnScope ["_law_script", "_law_hands", "_law_leaves", "_law_found", "_law_k", "_law_digits", "_law_many"] ["_law_script"] (defScope sLawTallies) := ⟨rfl, rfl, rfl, by decide +kernel, rfl, by decide +kernel, by decide +kernel⟩
abbrev sLawDue : Stmt := top 15
theorem scLawDue : FnScope ["_law_tallies_here", "_law_found", "_law_leaf", "_law_some", "_law_hand", "_law_tally"] ["_law_tallies_here"] (defScope sLawDue) := ⟨rfl, rfl, rfl, by decide +kernel, rfl, by decide +kernel, by decide +kernel⟩
abbrev sLawRight : Stmt := top 16
theorem scLawRight : FnScope ["_law_tallies_here", "_law_handed", "_law_got", "_law_one"] ["_law_tallies_here"] (defScope sLawRight) := ⟨rfl, rfl, rfl, by decide +kernel, rfl, by decide +kernel, by decide +kernel⟩
abbrev sLaw : Stmt := top 17
theorem scLaw : FnScope ["_law_script", "_law_tallies_here", "_law_other", "_law_cell"] ["_law_script"] (defScope sLaw) := ⟨rfl, rfl, rfl, by decide +kernel, rfl, by decide +kernel, by decide +kernel⟩
end Hf
set_option Elab.async false
set_option maxRecDepth 100000
set_option maxHeartbeats 4000000
namespace Hf
open PySem L2 PySem.Spec PyProof.Rows
abbrev NumF (K : PySem.W.Frag) (f : Addr) (fd : FuncData) : Prop := FunD K "is_number" "is_number" (defArgs sIsNumber) (defBody sIsNumber) (defScope sIsNumber) [.non] [] f fd
theorem num_b3 {K : PySem.W.Frag} {f : Addr} {fd : FuncData} (F : NumF K f fd) : Binds K fd ["value", "least", "most"] [] := by
  obtain ⟨ds, r, b⟩ := FunD.binds1 (ps := ["value", "least", "most"]) F 3 1 (by simp) rfl fun T kV doc pm an cdv ct us its hl hi => match us, hl, its, hi with
    | [_, _, _], _, [_], _ => ⟨_, rfl, rfl⟩
  cases (show Vals [] ds from r)
  exact b
structure Co (mg : Str → Option Value) : Prop where
  letters : ∃ t, mg "MOST_LETTERS" = some (.int 8 t)
  steps : ∃ t, mg "MOST_STEPS" = some (.int 1000 t)
theorem b_sorted : bootBuiltins "sorted" = some (.builtin "sorted") := by decide +kernel
theorem hu {A : Around} {k : Nat} (hr : Room k A) : A.units < cLine := hr.units0
theorem az_sign (c : Nat) : ((!decide ([c] < ("a" : Str).cps.toList)) && !decide (("z" : Str).cps.toList < [c])) = (decide (97 ≤ c) && decide (c ≤ 122)) := by
  have ea : ("a" : Str).cps.toList = [97] := by decide +kernel
  have ez : ("z" : Str).cps.toList = [122] := by decide +kernel
  rw [ea, ez]
  have h1 : decide ([c] < [97]) = decide (c < 97) := by simp [List.cons_lt_cons_iff]
  have h2 : decide ([122] < [c]) = decide (122 < c) := by simp [List.cons_lt_cons_iff]
  rw [h1, h2]
  by_cases a : 97 ≤ c <;> by_cases z : c ≤ 122 <;> simp [a, z, Nat.not_lt.mpr, Nat.lt_of_not_le]
  all_goals omega
def hs4 : List Str := ["did", "a", "zz", "leaf"]
def ls4 : List Str := ["row", "b", "did", "found"]
theorem hs4_nd : hs4.Nodup := by decide +kernel
structure TelOk (x : Tel) : Prop where
  h : x.1 ∈ hs4
  l : x.2.1 ∈ ls4
  n0 : 0 ≤ x.2.2
  n1 : x.2.2 ≤ 1000
theorem hs4_name {z : Str} (h : z ∈ hs4) : nameOk z = true ∧ z.length < 1000 := (by decide +kernel : ∀ z ∈ hs4, nameOk z = true ∧ z.length < 1000) z h
theorem ls4_name {z : Str} (h : z ∈ ls4) : nameOk z = true ∧ z.length < 1000 := (by decide +kernel : ∀ z ∈ ls4, nameOk z = true ∧ z.length < 1000) z h
def numO (lo hi i : Int) : Bool := decide (lo ≤ i) && decide (i ≤ hi)
def spNumber : Sp := fun vs H Q _ => ∃ i lo hi : Int, vs = [.int i, .int lo, .int hi] ∧ Q (.bl (numO lo hi i)) H
def spName [LT] (T : Addr) : Sp := fun vs H Q _ => ∃ z : Str, vs = [.str z] ∧ nameOk z = true ∧ z.length < 1000 ∧ Tab H T ∧ ∀ H', Sm6 H H' → Q (.bl true) H'
def spTally [LT] (T : Addr) : Sp := fun vs H Q _ => ∃ b : Trp, vs = [.ref b.1] ∧ H b.1 = some (.tup (trpV b)) ∧ TelOk b.2 ∧ Tab H T ∧ ∀ H', Sm6 H H' → Q (.bl true) H'
/-- the tallies at bs stand in H -/
def TrOk (H : Hp) (bs : List Trp) : Prop := ∀ b ∈ bs, H b.1 = some (.tup (trpV b)) ∧ TelOk b.2
theorem TrOk.sm0 {H H' : Hp} {bs : List Trp} (h : TrOk H bs) (s : Sm H H') : TrOk H' bs := fun b hb => ⟨s.tup (h b hb).1, (h b hb).2⟩
theorem TrOk.sm [LT] {H H' : Hp} {bs : List Trp} (h : TrOk H bs) (s : Sm6 H H') : TrOk H' bs := fun b hb => ⟨s.tup (h b hb).1, (h b hb).2⟩
def tels (bs : List Trp) : List Tel := bs.map (·.2)
def kS (l : Str) : Key := Sum.inr l
def kP (k : Str × Str) : List Key := [Sum.inr k.1, Sum.inr k.2]
theorem kS_inj : ∀ a b, kS a = kS b → a = b := fun a b e => by
  unfold kS at e
  injection e
theorem kP_inj : ∀ a b, kP a = kP b → a = b := fun a b e => by
  unfold kP at e
  injection e with e1 e2
  injection e2 with e2 _
  injection e1 with e1
  injection e2 with e2
  exact Prod.ext e1 e2
/-- what joined tells -/
structure JoOk (ys : List Str) (T : List Tel) : Prop where
  nd : ys.Nodup
  srt : sortedS ys = true
  mem : ∀ l, l ∈ ys ↔ lS T l
def joV (ys : List Str) (T : List Tel) : List (Key × V) := (upTo ys (due hs4 T)).map (entF kS)
def spJoined [LT] (K : PySem.W.Frag) (T0 T1 : Addr) : Sp := fun vs H Q _ => ∃ (l : Addr) (bs : List Trp), vs = [.ref l] ∧ H l = some (.lst (trpsV bs)) ∧ TrOk H bs ∧ bs.length ≤ 60 ∧ Tab H T0 ∧ Tab H T1 ∧
  ∀ (H' : Hp) (p : Addr) (ys : List Str), Sm6 H H' → H p = none → H' p = some (.dK (joV ys (tels bs))) → JoOk ys (tels bs) → Q (.ref p) H'
section
variable [LT] {P : Program} {w : World} {K : PySem.W.Frag} {mg : Str → Option Value} {base : Heap}
theorem ok_isNumber {f : Addr} {fd : FuncData} (D : Gd K mg "is_number" sIsNumber [.non] f fd) (b : Bi mg) : FnOk P w K mg base CX0 1 f fd ["value", "least", "most"] spNumber := by
  refine D.F.ok scIsNumber (fun vs H Q E h => ?_) (fun cdv A outer s H vs Q E hr h => ?_)
  · obtain ⟨i, lo, hi, rfl, _⟩ := h
    rfl
  obtain ⟨i, lo, hi, rfl, k⟩ := h
  refine ⟨_, (pss_cons (ps_if (PW.pt (pw_or (pt_not (pt_val (pe_callB call_isi (by rfl) b.isinstance b_isi (pa_cons (pv 0) (pa_cons (pe_bltn (v := .ty "int") (by rfl) b.int b_int rfl) pa_nil))))) (pw_or1 (pt_val (pe_callB call_isi (by rfl) b.isinstance b_isi (pa_cons (pv 0) (pa_cons (pe_bltn (v := .ty "bool") (by rfl) b.bool b_bool rfl) pa_nil))))))) (pss_one (ps_ret pe_bl)) pss_nil) (pss_one (ps_ret (pe_and (pe_cmpR op_le (pv 1) (pv 0) (nomark _)) (pe_one (pe_or (pe_cmpR op_isN (pv 2) pe_non (nomark _)) (pe_one (pe_cmpR op_le (pv 0) (pv 2) (nomark _))))))))), ?_⟩
  refine ⟨_, rfl, _, _, _, _, true, rfl, .ty _, .base (.int _), kit_int_int, true, rfl, iteF ?_⟩
  refine ⟨_, rfl, _, _, _, _, false, rfl, .ty _, .base (.int _), kit_int_bool, false, rfl, iteF ?_⟩
  refine ⟨_, rfl, _, rfl, _, _, rfl, rfl, _, rfl, ?_⟩
  unfold numO at k
  by_cases c : lo ≤ i
  · rw [decide_eq_true c] at k ⊢
    rw [Bool.true_and] at k
    exact iteT ⟨_, rfl, rfl, _, rfl, iteF ⟨_, rfl, _, rfl, _, _, rfl, rfl, k⟩⟩
  · rw [decide_eq_false c] at k ⊢
    exact iteF k
theorem ok_name {f : Addr} {fd : FuncData} {T : Addr} (nT : T ≠ LT.T) (D : Gt K mg base "is_name" sIsName ["value"] f fd T) (b : Bi mg) (k0 : Co mg) : FnOk P w K mg base CX0 2 f fd ["value"] (spName T) := by
  obtain ⟨t, hm⟩ := k0.letters
  refine D.ok scIsName (fun vs H Q E h => ?_) (fun c A outer s H vs Q E TB hr h => ?_)
  · obtain ⟨z, rfl, _⟩ := h
    rfl
  obtain ⟨z, rfl, hz, hl, hT, k⟩ := h
  refine ⟨_, pss_cons (ps_if (PW.pt (pw_or (pt_not (pt_val (pe_callB call_isi (by rfl) b.isinstance b_isi (pa_cons (pv 0) (pa_cons (pe_bltn (v := .ty "str") (by rfl) b.str b_str rfl) pa_nil)))))
      (pw_or1 (pt_not (pt_chain op_le op_le pe_int (pe_callB call_len_str (by rfl) b.len PySem.boot_len (pa_cons (pv 0) pa_nil)) (pe_glob (v := .int 8) (by rfl) hm ⟨_, rfl⟩)))))) (pss_one (ps_ret pe_bl)) pss_nil)
    (pss_one (ps_ret (GxR.pe_allS hr (by rfl) b.all PyProof.Rows.boot_all TB rfl (by exact ⟨rfl, rfl, by decide +kernel, rfl, rfl, fun y hy e => absurd e ((by decide +kernel : ∀ y ∈ _, y.2 ≠ NameKind.free) y hy)⟩) (pv 0) (elt_between rfl rfl) fun v => rfl))), ?_⟩
  unfold nameOk at hz
  simp only [Bool.and_eq_true, decide_eq_true_eq] at hz
  obtain ⟨⟨z1, z2⟩, z3⟩ := hz
  refine ⟨_, rfl, _, _, _, _, true, rfl, .ty _, .base (.str _), kit_str_str, true, rfl, iteF ?_⟩
  refine ⟨_, rfl, _, rfl, Nat.le_of_lt (small1000 (Nat.le_of_lt hl)), _, _, rfl, rfl, _, rfl, ?_⟩
  rw [decide_eq_true (show (1 : Int) ≤ (z.length : Int) by omega)]
  refine iteT ⟨_, _, rfl, rfl, _, rfl, ?_⟩
  rw [decide_eq_true (show (z.length : Int) ≤ 8 by omega)]
  refine iteF ⟨_, rfl, _, rfl, hT, fun H2 tb => ?_⟩
  have e : z.cps.toList.all (fun c => (!decide ([c] < ("a" : Str).cps.toList)) && !decide (("z" : Str).cps.toList < [c])) = true := by
    refine Eq.trans (congrArg _ (funext az_sign)) ?_
    exact z3
  have q := k H2 (Sm6.tabbed nT hT tb)
  rw [← e] at q
  exact q
theorem ok_tally {f f0 f1 T : Addr} {fd fd0 fd1 : FuncData} (nT : T ≠ LT.T) (D : Gf K mg "is_tally" sIsTally ["value"] f fd) (DIsName : Gt K mg base "is_name" sIsName ["value"] f0 fd0 T) (DIsNumber : Gd K mg "is_number" sIsNumber [.non] f1 fd1) (b : Bi mg) (k0 : Co mg) : FnOk P w K mg base CX0 3 f fd ["value"] (spTally T) := by
  obtain ⟨tk, k0s⟩ := k0.steps
  have GIsName : FnOk P w K mg base CX0 2 f0 fd0 ["value"] (spName T) := ok_name nT DIsName b k0
  have GIsNumber : FnOk P w K mg base CX0 1 f1 fd1 ["value", "least", "most"] spNumber := ok_isNumber DIsNumber b
  refine D.F.ok scIsTally (fun vs H Q E h => ?_) (fun cdv A outer s H vs Q E hr h => ?_)
  · obtain ⟨x, rfl, _⟩ := h
    rfl
  obtain ⟨x, rfl, hx, ok, hT, k⟩ := h
  refine ⟨_, (pss_cons (ps_if (PW.pt (pw_or (pt_not (pt_val (pe_callB call_isi (by rfl) b.isinstance b_isi (pa_cons (pv 0) (pa_cons (pe_bltn (v := .ty "tuple") (by rfl) b.tuple b_tuple rfl) pa_nil))))) (pw_or1 (pt_cmpR op_ne (pe_callB call_len_seq (by rfl) b.len PySem.boot_len (pa_cons (pv 0) pa_nil)) pe_int (nomark _))))) (pss_one (ps_ret pe_bl)) pss_nil) (pss_one (ps_ret (pe_and (pe_call GIsName (hr.mono (by decide)) (by rfl) DIsName.m DIsName.kp DIsName.b .nil pass0 (pa_cons (pe_ix ix_tup (pv 0) pe_int (fun _ _ => rfl)) pa_nil)) (pe_and (pe_call GIsName (hr.mono (by decide)) (by rfl) DIsName.m DIsName.kp DIsName.b .nil pass0 (pa_cons (pe_ix ix_tup (pv 0) pe_int (fun _ _ => rfl)) pa_nil)) (pe_one (pe_call GIsNumber (hr.mono (by decide)) (by rfl) DIsNumber.m DIsNumber.kp (num_b3 DIsNumber.F) .nil pass0 (pa_cons (pe_ix ix_tup (pv 0) pe_int (fun _ _ => rfl)) (pa_cons pe_int (pa_cons (pe_glob (v := .int 1000) (by rfl) k0s ⟨_, rfl⟩) pa_nil)))))))))), ?_⟩
  have l0 : atI (trpV x) 0 = some (.str x.2.1) := atI_nat (j := 0) rfl
  have l1 : atI (trpV x) 1 = some (.str x.2.2.1) := atI_nat (j := 1) rfl
  have l2 : atI (trpV x) 2 = some (.int x.2.2.2) := atI_nat (j := 2) rfl
  obtain ⟨a1, a2⟩ := hs4_name ok.h
  obtain ⟨b1, b2⟩ := ls4_name ok.l
  refine ⟨_, rfl, _, _, _, _, true, rfl, .ty _, .base (.tup hx), kit_tup_tup, true, rfl, iteF ?_⟩
  refine ⟨_, rfl, x.1, _, rfl, .inr (SqT.of hx), rfl, _, rfl, ?_⟩
  rw [decide_eq_true (p := V.int ((trpV x).length : Nat) = V.int 3) rfl]
  refine iteF ⟨_, rfl, x.1, _, _, _, rfl, rfl, SqT.of hx, l0, x.2.1, rfl, a1, a2, hT, fun H1 s1 => ⟨true, rfl, iteT ?_⟩⟩
  refine ⟨_, rfl, x.1, _, _, _, rfl, rfl, SqT.of (s1.tup hx), l1, x.2.2.1, rfl, b1, b2, s1.tabG hT, fun H2 s2 => ⟨true, rfl, iteT ?_⟩⟩
  have s12 := s1.trans s2
  refine ⟨_, rfl, x.1, _, _, _, rfl, rfl, SqT.of (s12.tup hx), l2, x.2.2.2, 0, 1000, rfl, ?_⟩
  rw [show numO 0 1000 x.2.2.2 = true by unfold numO; rw [decide_eq_true ok.n0, decide_eq_true ok.n1]; rfl]
  exact k H2 s12
end
end Hf
set_option Elab.async false
set_option maxRecDepth 100000
set_option maxHeartbeats 4000000
namespace Hf
open PySem L2 PySem.Spec PyProof.Rows
theorem trp_get {bs : List Trp} {i : Nat} {v : V} (h : (trpsV bs)[i]? = some v) : ∃ b, bs[i]? = some b ∧ v = .ref b.1 := by
  unfold trpsV at h
  rw [List.getElem?_map] at h
  cases e : bs[i]? with
  | none => rw [e] at h; cases h
  | some q => rw [e] at h; exact ⟨q, rfl, (Option.some.inj h).symm⟩
theorem trps_len (bs : List Trp) : (trpsV bs).length = bs.length := List.length_map _
theorem take_snoc' {α : Type} {xs : List α} {i : Nat} {x : α} (h : xs[i]? = some x) : xs.take (i + 1) = xs.take i ++ [x] := by
  rw [List.take_add_one, h]; rfl
section
variable [LT] {P : Program} {w : World} {K : PySem.W.Frag} {mg : Str → Option Value} {base : Heap}
theorem ok_joined {f f0 f1 f2 T0 T1 : Addr} {fd fd0 fd1 fd2 : FuncData} (nT0 : T0 ≠ LT.T) (nT1 : T1 ≠ LT.T) (D : Gt K mg base "joined" sJoined ["tallies"] f fd T1) (DIsTally : Gf K mg "is_tally" sIsTally ["value"] f2 fd2) (DIsName : Gt K mg base "is_name" sIsName ["value"] f0 fd0 T0) (DIsNumber : Gd K mg "is_number" sIsNumber [.non] f1 fd1) (b : Bi mg) (k0 : Co mg) :
    FnOk P w K mg base CX0 5 f fd ["tallies"] (spJoined K T0 T1) := by
  have GIsTally : FnOk P w K mg base CX0 3 f2 fd2 ["value"] (spTally T0) := ok_tally nT0 DIsTally DIsName DIsNumber b k0
  refine D.ok scJoined (fun vs H Q E h => ?_) (fun c A outer s H vs Q E TB hr h => ?_)
  · obtain ⟨l, bs, rfl, _⟩ := h
    rfl
  obtain ⟨l, bs, rfl, hl, ok, few, tab0, tab1, k⟩ := h
  refine ⟨_, (pss_cons (ps_if (PW.pt (pw_or (pt_not (pt_val (pe_callB call_isi (by rfl) b.isinstance b_isi (pa_cons (pv 0) (pa_cons (pe_bltn (v := .ty "list") (by rfl) b.list b_list rfl) pa_nil))))) (pw_or1 (pt_not (pt_val (pe_allG (k := 3) (own := [("tally", 7)]) (g := (gName 7)) (hr.mono (by decide)) (by rfl) b.all TB rfl scJoined.nd (blkOk_by (own := [("tally", 7)]) (N := ["tallies", "greatest", "hand", "leaf", "many", "together", "_", "tally"]) (sc := defScope sJoined) (by decide +kernel)) ⟨rfl, by decide +kernel, rfl⟩ (pi_list (pv 0)) (fun _ _ _ _ _ _ _ hrg => (pg_name (i := 7) scJoined.nd rfl (.inl rfl))) (fun _ _ _ _ _ _ _ hrg => (pe_call GIsTally (hrg.mono (by decide)) (by rfl) DIsTally.m DIsTally.kp DIsTally.b .nil pass0 (pa_cons (pv 7) pa_nil))))))))) (pss_one ps_never) pss_nil) (pss_cons (ps_set (i := 1) scJoined.nd rfl (.inl rfl) pe_dnewT) (pss_cons (ps_for PassesOwn.never rfl (pi_list (pv 0)) (pg_tup rfl (pgs_cons (pg_name (i := 2) scJoined.nd rfl (.inl rfl)) (pgs_cons (pg_name (i := 3) scJoined.nd rfl (.inl rfl)) (pgs_cons (pg_name (i := 4) scJoined.nd rfl (.inl rfl)) pgs_nil)))) (pss_one (ps_dput (hu_of hr) (pv 1) (pe_tup (pa_cons (pv 2) (pa_cons (pv 3) pa_nil))) (pe_callB (call_max2 rfl) (by rfl) b.max b_max (pa_cons (pv 4) (pa_cons (pe_dget2 (hu_of hr) (pv 1) (pe_tup (pa_cons (pv 2) (pa_cons (pv 3) pa_nil))) pe_int ⟨rfl, rfl, rfl, rfl⟩) pa_nil))) rfl))) (pss_cons (ps_set (i := 5) scJoined.nd rfl (.inr rfl) pe_dnewK) (pss_cons (ps_lock (ps_for PassesOwn.never rfl (pi_itemsT (pv 1)) (pg_tup rfl (pgs_cons (pg_tup rfl (pgs_cons (pg_name (i := 6) scJoined.nd rfl (.inl rfl)) (pgs_cons (pg_name (i := 3) scJoined.nd rfl (.inl rfl)) pgs_nil))) (pgs_cons (pg_name (i := 4) scJoined.nd rfl (.inl rfl)) pgs_nil))) (pss_one (ps_dput (hu_of hr) (pv 5) (pv 3) (pe_op op_add (pe_dget2 (hu_of hr) (pv 5) (pv 3) pe_int ⟨rfl, rfl, rfl, rfl⟩) (pv 4)) rfl)))) (pss_one (ps_ret (pe_dc (own := [("leaf", 3)]) (g := (gName 3)) rfl scJoined.nd (pi_list (pe_callB (call_sortedD rfl) (by rfl) b.sorted b_sorted (pa_cons (pv 5) pa_nil))) (blkOk_by (own := [("leaf", 3)]) (N := ["tallies", "greatest", "hand", "leaf", "many", "together", "_", "tally"]) (sc := defScope sJoined) (by decide +kernel)) (fun _ _ _ _ _ => (pg_name (i := 3) scJoined.nd rfl (.inl rfl))) (fun _ _ _ _ _ => pts_nil) (fun _ _ _ _ _ => (pv 3)) (fun _ _ _ _ _ => (pe_dget (hu_of hr) (pv 5) (pv 3) (fun _ _ => rfl))))))))))), ?_⟩
  refine ⟨_, rfl, _, _, _, _, true, rfl, .ty _, .base (.lst hl), kit_list_list, true, rfl, iteF ?_⟩
  refine ⟨_, rfl, l, rfl, ⟨_, SqL.of hl⟩, tab1, g_list (K := K) (xs := trpsV bs) (fun _ H2 => Sm6 H H2) (fun H2 h => Sm6.tabbed nT1 tab1 h) (fun i H2 _ s2 => s2.seqL (SqL.of hl)) (fun i x H2 hx s2 => ?_) fun H2 s2 => ?_⟩
  · obtain ⟨q, hq, rfl⟩ := trp_get hx
    obtain ⟨h1, h2⟩ := ok q (List.mem_of_getElem? hq)
    exact ⟨rfl, _, rfl, q, rfl, s2.tup h1, h2, s2.tabG tab0, fun H' s3 => ⟨true, rfl, s2.trans s3⟩⟩
  refine ⟨true, rfl, iteF ?_⟩
  refine fun g ng => ⟨_, rfl, l, rfl, ⟨trpsV bs, ?_⟩, for_list (K := K) (a := l) (xs := trpsV bs)
    (fun i σ H3 => ∃ (v2 v3 v4 : Option V) (es : Grt), σ = [some (.ref l), some (.ref g), v2, v3, v4, none, none, none] ∧ Sm6 H2 H3 ∧ H3 g = some (.dT (es.map (entF kP))) ∧ DOk es (gS ((tels bs).take i)) (gF ((tels bs).take i)) ∧ es.length ≤ i)
    ⟨none, none, none, [], rfl, Sm6.new ng, upd_same, ?_, Nat.le_refl _⟩ (fun i σ H3 _ hh => ?_) ?_ ?_⟩
  · exact (s2.trans (Sm6.new ng)).seqL (SqL.of hl)
  · exact (DOk.nil (F := fun _ => (0 : Int))).congr (fun k => ⟨fun ⟨x, hx, _⟩ => by simp at hx, False.elim⟩) fun k z => z.elim
  · obtain ⟨_, _, _, _, _, s3, _⟩ := hh
    exact (s2.trans s3).seqL (SqL.of hl)
  · rintro i x σ H3 hx ⟨v2, v3, v4, es, rfl, s3, hg, dk, le⟩
    obtain ⟨q, hq, rfl⟩ := trp_get hx
    obtain ⟨h1, h2⟩ := ok q (List.mem_of_getElem? hq)
    have hq3 := (s2.trans s3).tup h1
    have dTk : ∀ {H H' : Hp} {a : Addr} {kvs : List (List Key × V)}, Sm6 H H' → H a = some (.dT kvs) → H' a = some (.dT kvs) := fun s h => s.keep _ _ h fun _ z => by cases z
    have lz : (es.map (entF kP)).length < sizeLine := by rw [List.length_map]; have := (List.getElem?_eq_some_iff.mp hq).1; exact small1000 (by omega)
    refine ⟨q.1, trpV q, rfl, SqT.of hq3, rfl, _, _, rfl, _, _, rfl, _, _, rfl, rfl, ?_⟩
    refine ⟨_, rfl, _, rfl, g, rfl, .inr ⟨_, .inl hg⟩, _, rfl, _, rfl, by show 2 ≤ sizeLine; decide, fun p1 np1 => ?_⟩
    have s4 := Sm6.new (o := .tup [.str q.2.1, .str q.2.2.1]) np1
    refine ⟨_, DGet.t (k := kP (q.2.1, q.2.2.1)) (dTk s4 hg) upd_same, q.2.2.2, gF ((tels bs).take i) (q.2.1, q.2.2.1), by rw [dk.get0 kP_inj (k := (q.2.1, q.2.2.1)) g_none], ?_⟩
    refine ⟨_, rfl, _, rfl, _, rfl, by show 2 ≤ sizeLine; decide, fun p2 np2 => ?_⟩
    have s5 := s4.trans (Sm6.new (o := .tup [.str q.2.1, .str q.2.2.1]) np2)
    refine ⟨g, _, rfl, DPut.t (k := kP (q.2.1, q.2.2.1)) (dTk s5 hg) upd_same lz, _, _, _, eput es (q.2.1, q.2.2.1) (if gF ((tels bs).take i) (q.2.1, q.2.2.1) > q.2.2.2 then gF ((tels bs).take i) (q.2.1, q.2.2.1) else q.2.2.2), rfl, (s3.trans s5).put ng, ?_, ?_, ?_⟩
    · rw [upd_same, ent_put kP_inj]
    · have e : (tels bs).take (i + 1) = (tels bs).take i ++ [q.2] := take_snoc' (by unfold tels; rw [List.getElem?_map, hq]; rfl)
      rw [e, show (if gF ((tels bs).take i) (q.2.1, q.2.2.1) > q.2.2.2 then gF ((tels bs).take i) (q.2.1, q.2.2.1) else q.2.2.2) = max q.2.2.2 (gF ((tels bs).take i) (q.2.1, q.2.2.1)) by split <;> omega]
      exact g_step dk q.2
    · unfold eput
      split
      · rw [List.length_map]; omega
      · rw [List.length_append, List.length_singleton]; omega
  · rintro σ H3 ⟨v2, v3, v4, gs, rfl, s3, hg, dk, le⟩
    rw [trps_len] at dk le
    rw [List.take_of_length_le (by unfold tels; rw [List.length_map]; exact Nat.le_refl _)] at dk
    refine fun e ne => ?_
    have s4 := Sm6.new (o := .dK []) ne
    have ge : g ≠ e := ne_of_none hg ne
    have hg4 : (upd H3 e (.dK [])) g = some (.dT (gs.map (entF kP))) := by rw [upd_ne ge]; exact hg
    have nH2e : H2 e = none := s3.free ne
    refine ⟨g, _, hg4, True.intro, fun od => ⟨_, rfl, g, od, _, rfl, upd_same, for_itT
      (fun i σ H5 => ∃ (v3 v4 v6 : Option V) (es : List (Str × Int)), σ = [some (.ref l), some (.ref g), v2, v3, v4, some (.ref e), v6, none] ∧ Sm6 H2 H5 ∧ H5 g = some (.frz od (.dT (gs.map (entF kP)))) ∧ H5 e = some (.dK (es.map (entF kS))) ∧ DOk es (hS (gs.take i)) (smL (gs.take i)) ∧ es.length ≤ i)
      ⟨v3, v4, none, [], rfl, (s3.trans s4).put ng, upd_same, ?_, ?_, Nat.le_refl _⟩ (fun i σ H5 _ hh => ?_) ?_ ?_⟩⟩
    · rw [upd_ne ge.symm, upd_same]; rfl
    · exact (DOk.nil (F := fun _ => (0 : Int))).congr (fun k => ⟨fun ⟨x, hx, _⟩ => by simp at hx, False.elim⟩) fun k z => z.elim
    · obtain ⟨_, _, _, _, _, _, h, _⟩ := hh
      exact h
    · rintro i k v T q σ H5 hkv ⟨v3, v4, v6, es, rfl, s5, hg5, he5, dk2, le2⟩ nT hq5
      obtain ⟨gi, hgi, rfl, rfl⟩ : ∃ gi, gs[i]? = some gi ∧ kP gi.1 = k ∧ V.int gi.2 = v := by
        rw [List.getElem?_map] at hkv
        cases z : gs[i]? with
        | none => rw [z] at hkv; cases hkv
        | some y =>
          rw [z] at hkv
          have := Option.some.inj hkv
          unfold entF at this
          injection this with t1 t2
          exact ⟨y, rfl, t1, t2⟩
      have s6 := Sm6.new (o := .tup [.ref q, .int gi.2]) nT
      have he6 := s6.dK he5
      have lz : (es.map (entF kS)).length < sizeLine := by rw [List.length_map]; have := (List.getElem?_eq_some_iff.mp hgi).1; exact small1000 (by omega)
      refine ⟨T, _, rfl, SqT.of upd_same, rfl, _, _, rfl, q, _, rfl, SqT.of (s6.tup hq5), rfl, _, _, rfl, _, _, rfl, rfl, _, _, rfl, rfl, ?_⟩
      refine ⟨_, rfl, e, rfl, .inl ⟨_, .inl he6⟩, _, rfl, _, DGet.k (k := kS gi.1.2) he6, _, rfl, smL (gs.take i) gi.1.2, gi.2, dk2.get0 kS_inj s_none, rfl, ?_⟩
      refine ⟨_, rfl, _, rfl, e, _, rfl, DPut.k (k := kS gi.1.2) he6 lz, _, _, _, eput es gi.1.2 (smL (gs.take i) gi.1.2 + gi.2), rfl, (s5.trans s6).put nH2e, ?_, ?_, ?_, ?_⟩
      · rw [upd_ne ge, upd_ne (ne_of_none hg5 nT)]; exact hg5
      · rw [upd_same, ent_put kS_inj]
      · have e : gs.take (i + 1) = gs.take i ++ [gi] := take_snoc' hgi
        rw [e]
        exact s_step dk2 gi
      · unfold eput
        split
        · rw [List.length_map]; omega
        · rw [List.length_append, List.length_singleton]; omega
    · rintro σ H5 ⟨v3, v4, v6, es, rfl, s5, hg5, he5, dk2, le2⟩
      rw [List.length_map] at dk2 le2
      rw [List.take_of_length_le (Nat.le_refl _)] at dk2
      refine ⟨hg5, ?_⟩
      have he6 : (upd H5 g (.dT (gs.map (entF kP)))) e = some (.dK (es.map (entF kS))) := by rw [upd_ne ge.symm]; exact he5
      have s6 : Sm6 H2 (upd H5 g (.dT (gs.map (entF kP)))) := s5.put ng
      refine ⟨_, rfl, e, _, es.map (·.1), rfl, .inl he6, ?_, ?_, fun ys p perm srt np => ?_⟩
      · rw [List.map_map, List.map_map]; rfl
      · rw [List.length_map]; omega
      have s7 := Sm6.new (o := .lst (ys.map V.str)) np
      have yn : ys.Nodup := perm.nodup_iff.mpr dk2.nd
      have ym : ∀ l, l ∈ ys ↔ hS gs l := fun l => by
        rw [perm.mem_iff, dk2.s]
        exact ⟨fun z => by obtain ⟨e, he, q⟩ := List.mem_map.mp z; exact ⟨e, he, q⟩, fun ⟨e, he, z⟩ => z ▸ List.mem_map_of_mem he⟩
      have jo : JoOk ys (tels bs) := ⟨yn, srt, fun l => (ym l).trans (hS_lS dk l)⟩
      have ef : ∀ l, smL gs l = due hs4 (tels bs) l := fun l => gr_sum dk hs4_nd (fun x hx => by
        unfold tels at hx
        obtain ⟨y, hy, rfl⟩ := List.mem_map.mp hx
        exact (ok y hy).2.h) l
      refine ⟨p, rfl, ⟨_, SqL.of upd_same⟩, fun D nD => ?_⟩
      have s8 := Sm6.new (o := .dK []) nD
      refine dc_list (K := K) (a := p) (xs := ys.map V.str) (fun i H' => Sm6 (upd (upd H5 g (.dT (gs.map (entF kP)))) p (.lst (ys.map V.str))) H' ∧ H' D = some (.dK ((upTo (ys.take i) (due hs4 (tels bs))).map (entF kS)))) ⟨s8, upd_same⟩ (fun i H' _ hh => hh.1.seqL (SqL.of upd_same)) (fun i x H' hx hh => ?_) fun H' hh => ?_
      · obtain ⟨s9, hD⟩ := hh
        rw [List.getElem?_map] at hx
        obtain ⟨z, hz, rfl⟩ : ∃ z, ys[i]? = some z ∧ V.str z = x := by
          cases q : ys[i]? with
          | none => rw [q] at hx; cases hx
          | some y => rw [q] at hx; exact ⟨y, rfl, Option.some.inj hx⟩
        have zin : z ∈ ys := List.mem_of_getElem? hz
        have he9 := s9.dK (s7.dK he6)
        have gv : valV (es.map (entF kS)) (kS z) = some (V.int (due hs4 (tels bs) z)) := by rw [dk2.val kS_inj ((ym z).mp zin), ef]
        have lz : ((upTo (ys.take i) (due hs4 (tels bs))).map (entF kS)).length < sizeLine := by
          unfold upTo
          rw [List.length_map, List.length_map, List.length_take]
          have := (List.getElem?_eq_some_iff.mp hz).1
          have := perm.length_eq
          rw [List.length_map] at this
          exact small1000 (by omega)
        have nz : z ∉ ys.take i := fun q => by
          obtain ⟨j, hj⟩ := List.mem_iff_getElem?.mp q
          rw [List.getElem?_take] at hj
          split at hj
          · rename_i lt
            have := (List.getElem?_inj (List.getElem?_eq_some_iff.mp hj).1 yn).mp (hj.trans hz.symm)
            omega
          · cases hj
        have pe : putK ((upTo (ys.take i) (due hs4 (tels bs))).map (entF kS)) (kS z) (V.int (due hs4 (tels bs) z)) = (upTo (ys.take (i + 1)) (due hs4 (tels bs))).map (entF kS) := by
          rw [ent_put kS_inj, take_snoc' hz]
          unfold eput
          rw [if_neg]
          · unfold upTo; rw [List.map_append (f := fun l => (l, due hs4 (tels bs) l))]; rfl
          · intro q
            obtain ⟨y, hy, hyz⟩ := List.any_eq_true.mp q
            unfold upTo at hy
            obtain ⟨u, hu, rfl⟩ := List.mem_map.mp hy
            exact nz ((of_decide_eq_true hyz) ▸ hu)
        have gd : DGet H' e (.str z) (some (V.int (due hs4 (tels bs) z))) := gv ▸ DGet.k (k := kS z) he9
        exact ⟨rfl, _, rfl, _, rfl, _, rfl, e, _, rfl, gd, _, kS z, rfl, hD, lz, s9.put nD, by rw [upd_same, pe]⟩
      · obtain ⟨s9, hD⟩ := hh
        rw [List.length_map, List.take_of_length_le (Nat.le_refl _)] at hD
        have sA := (s2.trans s6).trans (s7.trans s9)
        exact k H' D ys sA ((s2.trans (s6.trans s7)).free nD) hD jo
end
end Hf
set_option Elab.async false
set_option maxRecDepth 100000
set_option maxHeartbeats 4000000
namespace Hf
open PySem L2 PySem.Spec PyProof.Rows
def spCell [LT] (K : PySem.W.Frag) : Sp := fun vs H Q _ => ∃ (a : Addr) (k : Int) (ns : List Int), vs = [.ref a, .int k] ∧ SqL K H a (ns.map V.int) ∧ ns.length ≤ 63 ∧ 0 ≤ k ∧ ∀ (i : Int) (H' : Hp), Sm6 H H' → Q (.int i) H'
def spNumbers [LT] (K : PySem.W.Frag) : Sp := fun vs H Q _ => ∃ (c : Int) (b : Addr) (bs : List Int), vs = [.int c, .ref b] ∧ SqL K H b (bs.map V.int) ∧ bs.length ≤ 900 ∧ (∀ x ∈ bs, 0 < x ∧ x < 1073741824) ∧
  ∀ (p : Addr) (ds : List Int) (H' : Hp), Sm6 H H' → H p = none → H' p = some (.lst (ds.map V.int)) → ds.length = bs.length → (∀ (i : Nat) (d b : Int), ds[i]? = some d → bs[i]? = some b → 0 ≤ d ∧ d < b) → Q (.ref p) H'
def spTallies [LT] (K : PySem.W.Frag) : Sp := fun vs H Q _ => ∃ (a : Addr) (ns : List Int), vs = [.ref a] ∧ SqL K H a (ns.map V.int) ∧ ns.length ≤ 63 ∧
  ∀ (H' : Hp) (p : Addr) (bs : List Trp), Sm6 H H' → H p = none → H' p = some (.lst (trpsV bs)) → TrOk H' bs → bs.length ≤ 40 → Q (.ref p) H'
def spDue [LT] : Sp := fun vs H Q _ => ∃ (l : Addr) (bs : List Trp), vs = [.ref l] ∧ H l = some (.lst (trpsV bs)) ∧ TrOk H bs ∧ bs.length ≤ 60 ∧
  ∀ (H' : Hp) (p : Addr) (es : List (Str × Int)), Sm6 H H' → H p = none → H' p = some (.dK (es.map (entF kS))) → DOk es (lS (tels bs)) (due hs4 (tels bs)) → Q (.ref p) H'
theorem pick4 {d : Int} (d0 : 0 ≤ d) (d1 : d < 4) (xs : List Str) (h : xs.length = 4) : ∃ z ∈ xs, atI (xs.map V.str) d = some (.str z) := by
  obtain ⟨n, rfl⟩ : ∃ n : Nat, d = (n : Int) := ⟨d.toNat, by omega⟩
  have hn : n < xs.length := by omega
  exact ⟨xs[n], List.getElem_mem hn, atI_nat (by rw [List.getElem?_map, List.getElem?_eq_getElem hn]; rfl)⟩
section
variable [LT] {P : Program} {w : World} {K : PySem.W.Frag} {mg : Str → Option Value} {base : Heap}
theorem ok_cell {f : Addr} {fd : FuncData} (D : Gf K mg "_law_cell_at" sLawCellAt ["_law_script", "_law_k"] f fd) (b : Bi mg) : FnOk P w K mg base CX0 6 f fd ["_law_script", "_law_k"] (spCell K) := by
  refine D.F.ok scLawCellAt (fun vs H Q E h => ?_) (fun cdv A outer s H vs Q E hr h => ?_)
  · obtain ⟨a, k, ns, rfl, _⟩ := h
    rfl
  obtain ⟨a, k, ns, rfl, hS, h63, h0, q⟩ := h
  have ln : (ns.map V.int).length = ns.length := List.length_map _
  refine ⟨_, (pss_cons (ps_if (pt_cmpR op_lt (pv 1) (pe_callB call_len_seq (by rfl) b.len PySem.boot_len (pa_cons (pv 0) pa_nil)) (nomark _)) (pss_one (ps_ret (pe_ix ix_list (pv 0) (pv 1) (fun _ _ => rfl)))) pss_nil) (pss_cons (ps_if (pt_cmpR (op_eqD (hu64 hr)) (pv 0) (pe_lst pa_nil) (nomark _)) (pss_one (ps_ret (pe_op op_mul (pv 1) pe_int))) pss_nil) (pss_one (ps_ret (pe_op op_mod (pe_op op_mul (pe_op op_add (pe_ix ix_list (pv 0) (pe_op op_mod (pv 1) (pe_callB call_len_seq (by rfl) b.len PySem.boot_len (pa_cons (pv 0) pa_nil))) (fun _ _ => rfl)) (pv 1)) pe_int) pe_int))))), ?_⟩
  refine ⟨_, rfl, _, rfl, a, _, rfl, .inl hS, _, _, rfl, rfl, _, rfl, ?_⟩
  rw [ln]
  by_cases c1 : k < ((ns.length : Nat) : Int)
  · rw [decide_eq_true c1]
    refine iteT ?_
    obtain ⟨j, rfl⟩ : ∃ j : Nat, k = (j : Int) := ⟨k.toNat, by omega⟩
    have hj : j < ns.length := by omega
    exact ⟨_, rfl, _, rfl, a, _, _, _, rfl, rfl, hS, atI_nat (by rw [List.getElem?_map, List.getElem?_eq_getElem hj]; rfl), q _ H (Sm6.refl H)⟩
  · rw [decide_eq_false c1]
    refine iteF ⟨_, rfl, by show 0 ≤ sizeLine; decide, fun p hp => ?_⟩
    have s1 : Sm6 H (upd H p (.lst [])) := Sm6.new hp
    refine ⟨_, _, .lst (s1.seqL hS) (intsDp ns), .lst (SqL.of upd_same) .nil, ints_shaped ns, nil_shaped, _, rfl, ?_⟩
    cases ns with
    | nil =>
      rw [show PyData.eqv (.list (([] : List Int).map PyData.int)) (.list []) = true from rfl]
      exact iteT ⟨_, rfl, _, _, rfl, rfl, .inr ⟨by decide, by decide⟩, q _ _ s1⟩
    | cons n r =>
      rw [show PyData.eqv (.list ((n :: r).map PyData.int)) (.list []) = false from rfl]
      have pos : (0 : Int) < (((n :: r).length : Nat) : Int) := by simp only [List.length_cons]; omega
      have m0 := Int.emod_nonneg k (show (((n :: r).length : Nat) : Int) ≠ 0 by omega)
      have m1 := Int.emod_lt_of_pos k pos
      obtain ⟨j, hj⟩ : ∃ j : Nat, k % (((n :: r).length : Nat) : Int) = (j : Int) := ⟨(k % (((n :: r).length : Nat) : Int)).toNat, by omega⟩
      have jl : j < (n :: r).length := by omega
      refine iteF ⟨_, rfl, _, rfl, _, rfl, a, _, rfl, .inl (s1.seqL hS), _, _, rfl, rfl, ?_⟩
      rw [ln]
      refine ⟨pos, a, _, _, _, rfl, rfl, s1.seqL hS, at_of (j := j) (v := V.int (n :: r)[j]) hj (by rw [List.getElem?_map, List.getElem?_eq_getElem jl]; rfl), _, rfl, _, _, rfl, rfl, _, _, rfl, rfl, .inr ⟨by decide, by decide⟩, _, _, rfl, rfl, by show (0 : Int) < 2147483647; decide, q _ _ s1⟩
theorem ok_numbers {f : Addr} {fd : FuncData} (D : Gf K mg "_law_numbers" sLawNumbers ["_law_cell", "_law_bounds"] f fd) : FnOk P w K mg base CX0 1 f fd ["_law_cell", "_law_bounds"] (spNumbers K) := by
  refine D.F.ok scLawNumbers (fun vs H Q E h => ?_) (fun cdv A outer s H vs Q E hr h => ?_)
  · obtain ⟨c, b, bs, rfl, _⟩ := h
    rfl
  obtain ⟨c, b, bs, rfl, hB, few, hb, q⟩ := h
  refine ⟨_, (pss_cons (ps_set (i := 2) scLawNumbers.nd rfl (.inl rfl) (pv 0)) (C8.pss_cut (ps_if (pt_cmpR op_lt (pv 0) (pe_op op_pow pe_int pe_int) (nomark _)) (pss_one (ps_set (i := 2) scLawNumbers.nd rfl (.inl rfl) (pe_op op_fdiv (pe_op op_pow (pe_op op_add (pe_op op_mul (pe_op op_mod (pv 0) pe_int) pe_int) pe_int) pe_int) pe_int))) pss_nil) (pss_cons (ps_set (i := 3) scLawNumbers.nd rfl (.inl rfl) (pe_lst pa_nil)) (pss_cons (ps_for PassesOwn.never rfl (pi_list (pv 1)) (pg_name (i := 4) scLawNumbers.nd rfl (.inl rfl)) (pss_cons (ps_expr (pe_bm PySem.F.plainAttrs_list PySem.F.slot_list_append PySem.F.type_list_append mt_append (pv 3) (pa_cons (pe_op op_mod (pv 2) (pv 4)) pa_nil))) (pss_one (ps_set (i := 2) scLawNumbers.nd rfl (.inl rfl) (pe_op op_fdiv (pv 2) (pv 4)))))) (pss_one (ps_ret (pv 3))))))), ?_⟩
  refine ⟨_, rfl, fun σ H1 => ∃ r : Int, σ = [some (.int c), some (.ref b), some (.int r), none, none] ∧ H1 = H, ?_, ?_⟩
  · refine ⟨_, rfl, _, _, rfl, rfl, ⟨by decide, by decide, by decide⟩, _, _, rfl, rfl, _, rfl, ?_⟩
    by_cases c1 : c < (10 : Int) ^ (18 : Int).toNat
    · rw [decide_eq_true c1]
      have m0 := Int.emod_nonneg c (show (2147483647 : Int) ≠ 0 by decide)
      have m1 := Int.emod_lt_of_pos c (show (0 : Int) < 2147483647 by decide)
      refine iteT ⟨_, rfl, _, _, rfl, rfl, by show (0 : Int) < 2147483647; decide, _, _, rfl, rfl, .inr ⟨by decide, by decide⟩, _, _, rfl, rfl, _, _, rfl, rfl, ⟨by decide, by decide, ?_⟩, _, _, rfl, rfl, ⟨by decide, by decide⟩, ⟨_, rfl, rfl⟩⟩
      show (c % 2147483647 * 48271 + 12345).natAbs < 2 ^ 64
      omega
    · rw [decide_eq_false c1]
      exact iteF ⟨_, rfl, rfl⟩
  rintro σ H1 ⟨r, rfl, rfl⟩
  refine ⟨by show 0 ≤ sizeLine; decide, fun p hp => ?_⟩
  have s1 : Sm6 H1 (upd H1 p (.lst [])) := Sm6.new hp
  refine ⟨_, rfl, b, rfl, ⟨_, s1.seqL hB⟩, for_list (K := K) (a := b) (xs := bs.map V.int)
    (fun i σ H2 => ∃ (z : Int) (v4 : Option V) (ds : List Int), σ = [some (.int c), some (.ref b), some (.int z), some (.ref p), v4] ∧ Sm6 H1 H2 ∧ H2 p = some (.lst (ds.map V.int)) ∧ ds.length = i ∧ ∀ (m : Nat) (d y : Int), ds[m]? = some d → bs[m]? = some y → 0 ≤ d ∧ d < y)
    ⟨r, none, [], rfl, s1, upd_same, rfl, fun m d y e _ => by simp at e⟩ (fun i σ H2 _ hh => ?_) ?_ ?_⟩
  · obtain ⟨_, _, _, _, s2, _⟩ := hh
    exact s2.seqL hB
  · rintro i x σ H2 hx ⟨z, v4, ds, rfl, s2, hp2, hl, hd⟩
    rw [List.getElem?_map] at hx
    obtain ⟨y, hy, rfl⟩ : ∃ y, bs[i]? = some y ∧ V.int y = x := by
      cases e : bs[i]? with
      | none => rw [e] at hx; cases hx
      | some y => rw [e] at hx; exact ⟨y, rfl, Option.some.inj hx⟩
    obtain ⟨y0, y1⟩ := hb y (List.mem_of_getElem? hy)
    have il : i < bs.length := (List.getElem?_eq_some_iff.mp hy).1
    refine ⟨_, rfl, .inl ⟨rfl, _, SqL.of hp2⟩, _, rfl, _, rfl, _, _, rfl, rfl, y0, p, _, _, rfl, rfl, hp2, ?_, ?_⟩
    · rw [List.length_map]
      exact Nat.lt_of_le_of_lt (show ds.length ≤ 1000 by omega) (by decide)
    refine ⟨_, rfl, _, rfl, _, _, rfl, rfl, ⟨y0, y1⟩, ?_⟩
    refine ⟨z / y, some (.int y), ds ++ [z % y], rfl, s2.put hp, ?_, by rw [List.length_append, hl]; rfl, fun m d u e1 e2 => ?_⟩
    · rw [upd_same, List.map_append]
      rfl
    · by_cases hm : m = i
      · subst hm
        rw [List.getElem?_append_right (by omega), hl, Nat.sub_self] at e1
        cases e1
        rw [hy] at e2
        cases e2
        exact ⟨Int.emod_nonneg _ (by omega), Int.emod_lt_of_pos _ y0⟩
      · have hm2 : m < ds.length := by
          have q1 := (List.getElem?_eq_some_iff.mp e1).1
          rw [List.length_append] at q1
          have q2 : ([z % y] : List Int).length = 1 := rfl
          omega
        rw [List.getElem?_append_left hm2] at e1
        exact hd m d u e1 e2
  · rintro σ H2 ⟨z, v4, ds, rfl, s2, hp2, hl, hd⟩
    refine ⟨_, rfl, q p ds H2 s2 hp hp2 ?_ hd⟩
    rw [hl, List.length_map]
theorem ok_tallies {f f1 f2 : Addr} {fd fd1 fd2 : FuncData} (D : Gf K mg "_law_tallies" sLawTallies ["_law_script"] f fd) (DLawNumbers : Gf K mg "_law_numbers" sLawNumbers ["_law_cell", "_law_bounds"] f1 fd1) (DLawCellAt : Gf K mg "_law_cell_at" sLawCellAt ["_law_script", "_law_k"] f2 fd2) (b : Bi mg) :
    FnOk P w K mg base CX0 7 f fd ["_law_script"] (spTallies K) := by
  have GLawNumbers : FnOk P w K mg base CX0 1 f1 fd1 ["_law_cell", "_law_bounds"] (spNumbers K) := ok_numbers DLawNumbers
  have GLawCellAt : FnOk P w K mg base CX0 6 f2 fd2 ["_law_script", "_law_k"] (spCell K) := ok_cell DLawCellAt b
  refine D.F.ok scLawTallies (fun vs H Q E h => ?_) (fun cdv A outer s H vs Q E hr h => ?_)
  · obtain ⟨a, ns, rfl, _⟩ := h
    rfl
  obtain ⟨a, ns, rfl, hS, h63, k⟩ := h
  refine ⟨_, (pss_cons (ps_set (i := 1) scLawTallies.nd rfl (.inl rfl) (pe_lst (pa_cons pe_str (pa_cons pe_str (pa_cons pe_str (pa_cons pe_str pa_nil)))))) (pss_cons (ps_set (i := 2) scLawTallies.nd rfl (.inl rfl) (pe_lst (pa_cons pe_str (pa_cons pe_str (pa_cons pe_str (pa_cons pe_str pa_nil)))))) (pss_cons (ps_set (i := 3) scLawTallies.nd rfl (.inl rfl) (pe_lst pa_nil)) (pss_cons (ps_for PassesOwn.never rfl (pi_range1 (by rfl) b.range (pa_cons (pe_op op_mod (pe_call GLawCellAt (hr.mono (by decide)) (by rfl) DLawCellAt.m DLawCellAt.kp DLawCellAt.b .nil pass0 (pa_cons (pv 0) (pa_cons pe_int pa_nil))) pe_int) pa_nil)) (pg_name (i := 4) scLawTallies.nd rfl (.inl rfl)) (pss_cons (ps_set (i := 5) scLawTallies.nd rfl (.inl rfl) (pe_call GLawNumbers (hr.mono (by decide)) (by rfl) DLawNumbers.m DLawNumbers.kp DLawNumbers.b .nil pass0 (pa_cons (pe_call GLawCellAt (hr.mono (by decide)) (by rfl) DLawCellAt.m DLawCellAt.kp DLawCellAt.b .nil pass0 (pa_cons (pv 0) (pa_cons (pe_op op_add pe_int (pe_op op_mod (pv 4) pe_int)) pa_nil))) (pa_cons (pe_lst (pa_cons pe_int (pa_cons pe_int (pa_cons pe_int (pa_cons pe_int pa_nil))))) pa_nil)))) (pss_cons (ps_set (i := 6) scLawTallies.nd rfl (.inl rfl) (pe_ifExp (pt_cmpR op_lt (pe_ix ix_list (pv 5) pe_int (fun _ _ => rfl)) pe_int (nomark _)) (pe_ix ix_list (pv 5) pe_int (fun _ _ => rfl)) (pe_ix ix_list (pe_lst (pa_cons pe_int (pa_cons pe_int pa_nil))) (pe_op op_sub (pe_ix ix_list (pv 5) pe_int (fun _ _ => rfl)) pe_int) (fun _ _ => rfl)))) (pss_one (ps_expr (pe_bm PySem.F.plainAttrs_list PySem.F.slot_list_append PySem.F.type_list_append mt_append (pv 3) (pa_cons (pe_tup (pa_cons (pe_ix ix_list (pv 1) (pe_ix ix_list (pv 5) pe_int (fun _ _ => rfl)) (fun _ _ => rfl)) (pa_cons (pe_ix ix_list (pv 2) (pe_ix ix_list (pv 5) pe_int (fun _ _ => rfl)) (fun _ _ => rfl)) (pa_cons (pv 6) pa_nil)))) pa_nil))))))) (pss_one (ps_ret (pv 3))))))), ?_⟩
  refine ⟨by show 4 ≤ sizeLine; decide, fun p np => ⟨by show 4 ≤ sizeLine; decide, fun q nq => ⟨by show 0 ≤ sizeLine; decide, fun S nS => ?_⟩⟩⟩
  have sp := Sm6.new (o := .lst (hs4.map V.str)) np
  have sq := sp.trans (Sm6.new (o := .lst (ls4.map V.str)) nq)
  have s3 := sq.trans (Sm6.new (o := .lst []) nS)
  have fS : H S = none := sq.free nS
  have hp3 : (upd (upd (upd H p (.lst (hs4.map V.str))) q (.lst (ls4.map V.str))) S (.lst [])) p = some (.lst (hs4.map V.str)) := (Sm6.new (o := .lst []) nS).lst ((Sm6.new (o := .lst (ls4.map V.str)) nq).lst upd_same)
  have hq3 : (upd (upd (upd H p (.lst (hs4.map V.str))) q (.lst (ls4.map V.str))) S (.lst [])) q = some (.lst (ls4.map V.str)) := (Sm6.new (o := .lst []) nS).lst upd_same
  have hS3 : (upd (upd (upd H p (.lst (hs4.map V.str))) q (.lst (ls4.map V.str))) S (.lst [])) S = some (.lst []) := upd_same
  refine ⟨_, rfl, a, 0, ns, rfl, s3.seqL hS, h63, by decide, fun c0 H4 s4 => ?_⟩
  have m0 := Int.emod_nonneg c0 (show (41 : Int) ≠ 0 by decide)
  have m1 := Int.emod_lt_of_pos c0 (show (0 : Int) < 41 by decide)
  have npS : p ≠ S := ne_of_none ((Sm6.new (o := .lst (ls4.map V.str)) nq).lst upd_same) nS
  have nqS : q ≠ S := ne_of_none upd_same nS
  refine ⟨_, _, rfl, rfl, by show (0 : Int) < 41; decide, c0 % 41, rfl, by omega, by omega, for_range (lo := 0) (n := (c0 % 41).toNat)
    (fun i σ H6 => ∃ (v4 v5 v6 : Option V) (bs : List Trp), σ = [some (.ref a), some (.ref p), some (.ref q), some (.ref S), v4, v5, v6] ∧ Sm6 H H6 ∧ H6 p = some (.lst (hs4.map V.str)) ∧ H6 q = some (.lst (ls4.map V.str)) ∧ H6 S = some (.lst (trpsV bs)) ∧ bs.length = i ∧ TrOk H6 bs)
    ⟨none, none, none, [], rfl, s3.trans s4, s4.lst hp3, s4.lst hq3, s4.lst hS3, rfl, fun b hb => by simp at hb⟩ ?_ ?_⟩
  · rintro i σ H6 hi ⟨v4, v5, v6, bs, rfl, s6, hp6, hq6, hS6, lb, ok⟩
    have k0 := Int.emod_nonneg (0 + (i : Int)) (show (40 : Int) ≠ 0 by decide)
    refine ⟨_, rfl, _, rfl, _, _, rfl, rfl, by show (0 : Int) < 40; decide, _, _, rfl, rfl, a, _, ns, rfl, s6.seqL hS, h63, by omega, fun c H7 s7 => ⟨by show 4 ≤ sizeLine; decide, fun L nL => ?_⟩⟩
    have sL := Sm6.new (o := .lst [V.int 4, V.int 4, V.int 12, V.int 8]) nL
    refine ⟨c, L, [4, 4, 12, 8], rfl, SqL.of upd_same, by decide, fun x hx => ?_, fun Dg ds H8 s8 nD hD ld hb => ?_⟩
    · simp only [List.mem_cons, List.not_mem_nil, or_false] at hx
      rcases hx with rfl | rfl | rfl | rfl <;> exact ⟨by decide, by decide⟩
    obtain ⟨d0, d1, d2, d3, rfl⟩ : ∃ d0 d1 d2 d3, ds = [d0, d1, d2, d3] := by
      match ds, ld with
      | [d0, d1, d2, d3], _ => exact ⟨d0, d1, d2, d3, rfl⟩
    obtain ⟨p00, p01⟩ := hb 0 d0 4 rfl rfl
    obtain ⟨p10, p11⟩ := hb 1 d1 4 rfl rfl
    obtain ⟨p20, p21⟩ := hb 2 d2 12 rfl rfl
    obtain ⟨p30, p31⟩ := hb 3 d3 8 rfl rfl
    have w0 : atI ([d0, d1, d2, d3].map V.int) 0 = some (.int d0) := atI_nat (j := 0) rfl
    have w1 : atI ([d0, d1, d2, d3].map V.int) 1 = some (.int d1) := atI_nat (j := 1) rfl
    have w2 : atI ([d0, d1, d2, d3].map V.int) 2 = some (.int d2) := atI_nat (j := 2) rfl
    have w3 : atI ([d0, d1, d2, d3].map V.int) 3 = some (.int d3) := atI_nat (j := 3) rfl
    obtain ⟨zh, mh, ah⟩ := pick4 p00 p01 hs4 rfl
    obtain ⟨zl, ml, al⟩ := pick4 p10 p11 ls4 rfl
    have s68 := s7.trans (sL.trans s8)
    -- the rest, behind the number
    have fin : ∀ (m : Int) (H9 : Hp), 0 ≤ m → m ≤ 1000 → Sm6 H8 H9 → ∀ T : Addr, H9 T = none → ∃ (v4 v5 v6 : Option V) (bs' : List Trp), [some (V.ref a), some (V.ref p), some (V.ref q), some (V.ref S), some (V.int (0 + (i : Int))), some (V.ref Dg), some (V.int m)] = [some (V.ref a), some (.ref p), some (.ref q), some (.ref S), v4, v5, v6] ∧
        Sm6 H (upd (upd H9 T (.tup [.str zh, .str zl, .int m])) S (.lst (trpsV bs ++ [V.ref T]))) ∧ (upd (upd H9 T (.tup [.str zh, .str zl, .int m])) S (.lst (trpsV bs ++ [V.ref T]))) p = some (.lst (hs4.map V.str)) ∧ (upd (upd H9 T (.tup [.str zh, .str zl, .int m])) S (.lst (trpsV bs ++ [V.ref T]))) q = some (.lst (ls4.map V.str)) ∧
        (upd (upd H9 T (.tup [.str zh, .str zl, .int m])) S (.lst (trpsV bs ++ [V.ref T]))) S = some (.lst (trpsV bs')) ∧ bs'.length = i + 1 ∧ TrOk (upd (upd H9 T (.tup [.str zh, .str zl, .int m])) S (.lst (trpsV bs ++ [V.ref T]))) bs' := by
      intro m H9 m0 m1 s9 T nT
      have sT := Sm6.new (o := .tup [.str zh, .str zl, .int m]) nT
      have s6T := s68.trans (s9.trans sT)
      refine ⟨_, _, _, bs ++ [(T, zh, zl, m)], rfl, (s6.trans s6T).put fS, by rw [upd_ne npS]; exact s6T.lst hp6, by rw [upd_ne nqS]; exact s6T.lst hq6, ?_, by rw [List.length_append, lb]; rfl, fun x hx => ?_⟩
      · rw [upd_same]
        unfold trpsV
        rw [List.map_append]
        rfl
      · have neS : ∀ {b : Addr} {xs : List V} {H' : Hp}, H' b = some (.tup xs) → H' S = some (.lst (trpsV bs)) → b ≠ S := fun e e2 z => by rw [z, e2] at e; cases e
        have hST := s6T.lst hS6
        rcases List.mem_append.mp hx with hx | hx
        · have e := s6T.tup (ok x hx).1
          exact ⟨by rw [upd_ne (neS e hST)]; exact e, (ok x hx).2⟩
        · rw [List.mem_singleton] at hx
          subst hx
          have e : (upd H9 T (.tup [.str zh, .str zl, .int m])) T = some (.tup [.str zh, .str zl, .int m]) := upd_same
          exact ⟨by show (upd _ S _) T = _; rw [upd_ne (neS e hST)]; exact e, ⟨mh, ml, m0, m1⟩⟩
    have lz : (trpsV bs).length < sizeLine := by rw [trps_len]; exact small1000 (by omega)
    refine ⟨_, rfl, Dg, _, _, _, rfl, rfl, SqL.of hD, w3, _, _, rfl, rfl, _, rfl, ?_⟩
    by_cases c6 : d3 < 6
    · rw [decide_eq_true c6]
      exact iteT ⟨_, rfl, Dg, _, _, _, rfl, rfl, SqL.of hD, w2, _, rfl, .inl ⟨rfl, _, SqL.of (s68.lst hS6)⟩, _, rfl, _, rfl, Dg, _, _, _, rfl, rfl, SqL.of (hD), w0, p, _, _, _, rfl, rfl, SqL.of (s68.lst hp6), ah, _, rfl, _, rfl, Dg, _, _, _, rfl, rfl, SqL.of (hD), w1, q, _, _, _, rfl, rfl, SqL.of (s68.lst hq6), al, _, rfl, by show 3 ≤ sizeLine; decide, fun T nT => ⟨S, _, _, rfl, rfl, (Sm6.new nT).lst (s68.lst hS6), lz, fin d2 _ p20 (by omega) (Sm6.refl _) T nT⟩⟩
    · rw [decide_eq_false c6]
      refine iteF ⟨by show 2 ≤ sizeLine; decide, fun L2 nL2 => ?_⟩
      have s9 := Sm6.new (o := .lst [V.int 0, V.int 1000]) nL2
      have s69 := s68.trans s9
      obtain ⟨m, hm, g0, g1⟩ : ∃ m : Int, atI [V.int 0, V.int 1000] (d3 - 6) = some (.int m) ∧ 0 ≤ m ∧ m ≤ 1000 := by
        rcases (show d3 - 6 = 0 ∨ d3 - 6 = 1 by omega) with e | e <;> rw [e]
        · exact ⟨0, atI_nat (j := 0) rfl, by decide, by decide⟩
        · exact ⟨1000, atI_nat (j := 1) rfl, by decide, by decide⟩
      exact ⟨_, rfl, Dg, _, _, _, rfl, rfl, SqL.of (s9.lst hD), w3, _, _, rfl, rfl, L2, _, _, _, rfl, rfl, SqL.of upd_same, hm, _, rfl, .inl ⟨rfl, _, SqL.of (s69.lst hS6)⟩, _, rfl, _, rfl, Dg, _, _, _, rfl, rfl, SqL.of (s9.lst hD), w0, p, _, _, _, rfl, rfl, SqL.of (s69.lst hp6), ah, _, rfl, _, rfl, Dg, _, _, _, rfl, rfl, SqL.of (s9.lst hD), w1, q, _, _, _, rfl, rfl, SqL.of (s69.lst hq6), al, _, rfl, by show 3 ≤ sizeLine; decide, fun T nT => ⟨S, _, _, rfl, rfl, (Sm6.new nT).lst (s69.lst hS6), lz, fin m _ g0 g1 s9 T nT⟩⟩
  · rintro σ H6 ⟨v4, v5, v6, bs, rfl, s6, hp6, hq6, hS6, lb, ok⟩
    exact ⟨_, rfl, k H6 S bs s6 fS hS6 ok (by omega)⟩
end
end Hf
set_option Elab.async false
set_option maxRecDepth 100000
set_option maxHeartbeats 4000000
namespace Hf
open PySem L2 PySem.Spec PyProof.Rows
theorem cut2 (b : Trp) : cutV (trpV b) none (some 2) = [V.str b.2.1, V.str b.2.2.1] := rfl
theorem shp2 {a b : Str} (ha : a ∈ hs4) (hb : b ∈ ls4) : SeqAt.shaped (.tuple [.str a, .str b]) = true := (by decide +kernel : ∀ a ∈ hs4, ∀ b ∈ ls4, SeqAt.shaped (.tuple [.str a, .str b]) = true) a ha b hb
theorem eqv2 (a b c d : Str) : PyData.eqv (.tuple [.str a, .str b]) (.tuple [.str c, .str d]) = decide (a = c ∧ b = d) := by
  show ((a == c) && ((b == d) && true)) = _
  rw [Bool.and_true]
  by_cases h : a = c <;> by_cases h2 : b = d <;> simp [h, h2]
section
variable [LT] {P : Program} {w : World} {K : PySem.W.Frag} {mg : Str → Option Value} {base : Heap}
theorem ok_due {f : Addr} {fd : FuncData} (D : Gf K mg "_law_due" sLawDue ["_law_tallies_here"] f fd) (b : Bi mg) : FnOk P w K mg base CX0 1 f fd ["_law_tallies_here"] spDue := by
  refine D.F.ok scLawDue (fun vs H Q E h => ?_) (fun cdv A outer s H vs Q E hr h => ?_)
  · obtain ⟨l, bs, rfl, _⟩ := h
    rfl
  obtain ⟨l, bs, rfl, hl, ok, few, k⟩ := h
  have lT : (tels bs).length = bs.length := List.length_map _
  have tget : ∀ {i : Nat} {q : Trp}, bs[i]? = some q → (tels bs)[i]? = some q.2 := fun {i q} e => by unfold tels; rw [List.getElem?_map, e]; rfl
  refine ⟨_, (pss_cons (ps_set (i := 1) scLawDue.nd rfl (.inl rfl) pe_dnewK) (pss_cons (ps_for PassesOwn.never rfl (pi_list (pe_callB cr_sortedS (by rfl) b.sorted b_sorted (pa_cons (pe_lc (own := [("_law_tally", 5)]) (g := (gName 5)) rfl scLawDue.nd (pi_list (pv 0)) (blkOk_by (own := [("_law_tally", 5)]) (N := ["_law_tallies_here", "_law_found", "_law_leaf", "_law_some", "_law_hand", "_law_tally"]) (sc := defScope sLawDue) (by decide +kernel)) (fun _ _ _ _ _ => (pg_name (i := 5) scLawDue.nd rfl (.inl rfl))) (fun _ _ _ _ _ => pts_nil) (fun _ _ _ _ _ => (pe_ix (r := rIxT K) ix_tup (pv 5) pe_int (fun _ _ => rfl)))) pa_nil))) (pg_name (i := 2) scLawDue.nd rfl (.inr rfl)) (pss_cons (ps_set (i := 3) scLawDue.nd rfl (.inl rfl) pe_int) (pss_cons (ps_for PassesOwn.never rfl (pi_list (pe_lst (pa_cons pe_str (pa_cons pe_str (pa_cons pe_str (pa_cons pe_str pa_nil)))))) (pg_name (i := 4) scLawDue.nd rfl (.inr rfl)) (pss_one (ps_set (i := 3) scLawDue.nd rfl (.inl rfl) (pe_op op_add (pv 3) (pe_callB (cr_max rfl) (by rfl) b.max boot_max (pa_cons (pe_op op_cat (pe_lst (pa_cons pe_int pa_nil)) (pe_lc (own := [("_law_tally", 5)]) (g := (gName 5)) rfl scLawDue.nd (pi_list (pv 0)) (blkOk_by (own := [("_law_tally", 5)]) (N := ["_law_tallies_here", "_law_found", "_law_leaf", "_law_some", "_law_hand", "_law_tally"]) (sc := defScope sLawDue) (by decide +kernel)) (fun _ _ _ _ _ => (pg_name (i := 5) scLawDue.nd rfl (.inl rfl))) (fun _ _ _ _ _ => (pts_one (pt_cmpR (r := rEqD K) (op_eqD (hu64 hr)) (pe_slice (r := rSlT K) sl_tup (pv 5) po_none (po_some pe_int)) (pe_tup (pa_cons (pv 4) (pa_cons (pv 2) pa_nil))) (nomark _)))) (fun _ _ _ _ _ => (pe_ix (r := rIxT K) ix_tup (pv 5) pe_int (fun _ _ => rfl))))) pa_nil)))))) (pss_one (ps_dput (hu_of hr) (pv 1) (pv 2) (pv 3) rfl))))) (pss_one (ps_ret (pv 1))))), ?_⟩
  refine fun F nF => ?_
  have sF := Sm6.new (o := .dK []) nF
  refine ⟨_, rfl, l, rfl, ⟨trpsV bs, SqL.of (sF.lst hl)⟩, fun D nD => lc_list (K := K) (a := l) (xs := trpsV bs) (fun i H3 => Sm6 (upd H F (.dK [])) H3 ∧ H3 D = some (.lst (((tels bs).take i).map fun x => V.str x.2.1)))
    ⟨Sm6.new nD, upd_same⟩ (fun i H3 _ hh => hh.1.seqL (SqL.of (sF.lst hl))) (fun i x H3 hx hh => ?_) fun H3 hh => ?_⟩
  · obtain ⟨s3, hD⟩ := hh
    obtain ⟨q, hq, rfl⟩ := trp_get hx
    have hq3 := (sF.trans s3).tup (ok q (List.mem_of_getElem? hq)).1
    have l1 : atI (trpV q) 1 = some (.str q.2.2.1) := atI_nat (j := 1) rfl
    refine ⟨rfl, _, rfl, q.1, _, _, _, rfl, rfl, SqT.of hq3, l1, _, hD, ?_, s3.put nD, ?_⟩
    · rw [List.length_map, List.length_take, lT]
      exact small1000 (by omega)
    · rw [upd_same, take_snoc' (tget hq), List.map_append]
      rfl
  obtain ⟨s3, hD⟩ := hh
  rw [trps_len, List.take_of_length_le (by rw [lT]; exact Nat.le_refl _)] at hD
  refine ⟨D, (tels bs).map (·.2.1), rfl, SqL.of (by rw [List.map_map]; exact hD), by rw [List.length_map, lT]; omega, fun ys p perm srt np => ?_⟩
  have s4 := s3.trans (Sm6.new (o := .lst (ys.map V.str)) np)
  have npF : p ≠ F := (ne_of_none (s3.dK upd_same) np).symm
  have sH4 := sF.trans s4
  have ym : ∀ l, l ∈ ys ↔ lS (tels bs) l := fun l => by
    rw [perm.mem_iff]
    exact ⟨fun z => by obtain ⟨e, he, q⟩ := List.mem_map.mp z; exact ⟨e, he, q⟩, fun ⟨e, he, z⟩ => z ▸ List.mem_map_of_mem (f := fun x : Tel => x.2.1) he⟩
  have yl : ys.length ≤ 60 := by have := perm.length_eq; rw [List.length_map, lT] at this; omega
  refine ⟨p, rfl, ⟨ys.map V.str, SqL.of upd_same⟩, for_list (K := K) (a := p) (xs := ys.map V.str)
    (fun i σ H5 => ∃ (v2 v3 v4 : Option V) (es : List (Str × Int)), σ = [some (.ref l), some (.ref F), v2, v3, v4, none] ∧ Sm6 H H5 ∧ H5 p = some (.lst (ys.map V.str)) ∧ H5 F = some (.dK (es.map (entF kS))) ∧ DOk es (fun l => l ∈ ys.take i) (due hs4 (tels bs)) ∧ es.length ≤ i)
    ⟨none, none, none, [], rfl, sH4, upd_same, s4.dK upd_same, ?_, Nat.le_refl _⟩ (fun i σ H5 _ hh => ?_) ?_ ?_⟩
  · exact (DOk.nil (F := fun _ => (0 : Int))).congr (fun k => ⟨fun h => by simp at h, False.elim⟩) fun k z => z.elim
  · obtain ⟨_, _, _, _, _, _, h, _⟩ := hh
    exact SqL.of h
  · rintro i x σ H5 hx ⟨v2, v3, v4, es, rfl, s5, hp5, hF5, dk, le⟩
    rw [List.getElem?_map] at hx
    obtain ⟨z, hz, rfl⟩ : ∃ z, ys[i]? = some z ∧ V.str z = x := by
      cases q : ys[i]? with
      | none => rw [q] at hx; cases hx
      | some y => rw [q] at hx; exact ⟨y, rfl, Option.some.inj hx⟩
    have il : i < ys.length := (List.getElem?_eq_some_iff.mp hz).1
    have zl : z ∈ ls4 := by
      obtain ⟨x, hx, e⟩ := (ym z).mp (List.mem_of_getElem? hz)
      unfold tels at hx
      obtain ⟨y, hy, rfl⟩ := List.mem_map.mp hx
      rw [← e]
      exact (ok y hy).2.l
    refine ⟨by show 4 ≤ sizeLine; decide, fun L nL => ?_⟩
    have sL := Sm6.new (o := .lst (hs4.map V.str)) nL
    refine ⟨L, rfl, ⟨hs4.map V.str, SqL.of upd_same⟩, for_list (K := K) (a := L) (xs := hs4.map V.str)
      (fun j σ H7 => ∃ v4 : Option V, σ = [some (.ref l), some (.ref F), some (.str z), some (.int ((hs4.take j).map fun h => mx (tels bs) h z).sum), v4, none] ∧ Sm6 (upd H5 L (.lst (hs4.map V.str))) H7)
      ⟨v4, rfl, Sm6.refl _⟩ (fun j σ H7 _ hh => ?_) ?_ ?_⟩
    · obtain ⟨_, _, s7⟩ := hh
      exact SqL.of (s7.lst upd_same)
    · rintro j x σ H7 hx ⟨v4, rfl, s7⟩
      rw [List.getElem?_map] at hx
      obtain ⟨h, hh, rfl⟩ : ∃ h, hs4[j]? = some h ∧ V.str h = x := by
        cases q : hs4[j]? with
        | none => rw [q] at hx; cases hx
        | some y => rw [q] at hx; exact ⟨y, rfl, Option.some.inj hx⟩
      have h4 : h ∈ hs4 := List.mem_of_getElem? hh
      have sH7 := s5.trans (sL.trans s7)
      refine ⟨_, rfl, by show 1 ≤ sizeLine; decide, fun Z nZ => ?_⟩
      have sZ := Sm6.new (o := .lst [V.int 0]) nZ
      have sHZ := sH7.trans sZ
      refine ⟨_, rfl, l, rfl, ⟨trpsV bs, SqL.of (sHZ.lst hl)⟩, fun D2 nD2 => lc_list (K := K) (a := l) (xs := trpsV bs) (fun i H8 => Sm6 (upd H7 Z (.lst [V.int 0])) H8 ∧ ∃ ms : List Int, H8 D2 = some (.lst (ms.map V.int)) ∧ ms.length ≤ i ∧ ∀ m, m ∈ ms ↔ (h, z, m) ∈ (tels bs).take i)
        ⟨Sm6.new nD2, [], upd_same, Nat.le_refl _, fun m => by simp⟩ (fun i H8 _ hh => hh.1.seqL (SqL.of (sHZ.lst hl))) (fun i x H8 hx hh => ?_) fun H8 hh => ?_⟩
      · obtain ⟨s8, ms, hD8, lm, hm⟩ := hh
        obtain ⟨q, hq, rfl⟩ := trp_get hx
        have il : i < bs.length := (List.getElem?_eq_some_iff.mp hq).1
        obtain ⟨q1, q2⟩ := ok q (List.mem_of_getElem? hq)
        have hq8 := (sHZ.trans s8).tup q1
        have l2 : atI (trpV q) 2 = some (.int q.2.2.2) := atI_nat (j := 2) rfl
        refine ⟨rfl, _, rfl, 2, rfl, q.1, _, rfl, SqT.of hq8, by show ¬ (HT.sIx 3 0 none = 0 ∧ HT.sIx 3 3 (some 2) = 3); decide, fun p1 np1 => ?_⟩
        rw [cut2]
        have t1 := Sm6.new (o := .tup [V.str q.2.1, V.str q.2.2.1]) np1
        refine ⟨_, rfl, _, rfl, by show 2 ≤ sizeLine; decide, fun p2 np2 => ?_⟩
        have t2 := Sm6.new (o := .tup [V.str h, V.str z]) np2
        refine ⟨_, _, .tup (SqT.of (t2.tup upd_same)) (.cons (.str _) (.cons (.str _) .nil)), .tup (SqT.of upd_same) (.cons (.str _) (.cons (.str _) .nil)), shp2 q2.h q2.l, shp2 h4 zl, _, rfl, ?_⟩
        rw [eqv2]
        have s10 := s8.trans (t1.trans t2)
        have st : ∀ m, (h, z, m) ∈ (tels bs).take (i + 1) ↔ (h, z, m) ∈ (tels bs).take i ∨ (h, z, m) = q.2 := fun m => by
          rw [take_snoc' (tget hq), List.mem_append, List.mem_singleton]
        by_cases c : q.2.1 = h ∧ q.2.2.1 = z
        · rw [decide_eq_true c]
          refine iteT ⟨_, rfl, q.1, _, _, _, rfl, rfl, SqT.of ((t1.trans t2).tup hq8), l2, _, (t1.trans t2).lst hD8, ?_, s10.put nD2, ms ++ [q.2.2.2], ?_, ?_, fun m => ?_⟩
          · rw [List.length_map]; exact small1000 (by omega)
          · rw [upd_same, List.map_append]; rfl
          · rw [List.length_append, List.length_singleton]; omega
          · rw [st, List.mem_append, hm, List.mem_singleton]
            refine or_congr Iff.rfl ⟨fun e => ?_, fun e => ?_⟩
            · rw [e, ← c.1, ← c.2]
            · rw [← e]
        · rw [decide_eq_false c]
          refine iteF ⟨s10, ms, (t1.trans t2).lst hD8, by omega, fun m => ?_⟩
          rw [hm, st]
          exact ⟨.inl, fun e => e.elim id fun e => absurd ⟨by rw [← e], by rw [← e]⟩ c⟩
      · obtain ⟨s8, ms, hD8, lm, hm⟩ := hh
        rw [trps_len] at hm lm
        rw [List.take_of_length_le (by rw [lT]; exact Nat.le_refl _)] at hm
        refine ⟨Z, D2, _, _, rfl, rfl, s8.lst upd_same, hD8, ?_, fun C nC => ⟨C, 0 :: ms, rfl, SqL.of (by rw [upd_same]; rfl), by simp, fun m hm' hall => ?_⟩⟩
        · rw [List.length_map]
          exact Nat.le_of_lt (small1000 (show 1 + ms.length ≤ 1000 by omega))
        have em : m = mx (tels bs) h z := by
          refine Int.le_antisymm ?_ (mx_le (hall 0 (List.mem_cons_self ..)) fun n hn => hall n (List.mem_cons_of_mem _ ((hm n).mpr hn)))
          rcases List.mem_cons.mp hm' with e | e
          · rw [e]; exact mx_nn _ _ _
          · exact mx_ge ((hm m).mp e)
        have es : ((hs4.take (j + 1)).map fun h => mx (tels bs) h z).sum = ((hs4.take j).map fun h => mx (tels bs) h z).sum + m := by
          rw [take_snoc' hh, List.map_append, List.sum_append, em]
          simp
        refine ⟨_, _, rfl, rfl, some (.str h), ?_, s7.trans (sZ.trans (s8.trans (Sm6.new nC)))⟩
        rw [es]
        rfl
    · rintro σ H7 ⟨v4, rfl, s7⟩
      rw [show ((hs4.take (hs4.map V.str).length).map fun h => mx (tels bs) h z).sum = due hs4 (tels bs) z from rfl]
      have sL7 := sL.trans s7
      have lz : (es.map (entF kS)).length < sizeLine := by rw [List.length_map]; exact small1000 (by omega)
      refine ⟨_, rfl, _, rfl, _, rfl, F, _, rfl, DPut.k (k := kS z) (sL7.dK hF5) lz, _, _, _, eput es z (due hs4 (tels bs) z), rfl, (s5.trans sL7).put nF, ?_, ?_, ?_, ?_⟩
      · rw [upd_ne npF]; exact sL7.lst hp5
      · rw [upd_same, ent_put kS_inj]
      · refine (dk.put z _).congr (fun l => by rw [take_snoc' hz, List.mem_append, List.mem_singleton]) fun l _ => ?_
        show due hs4 (tels bs) l = if l = z then _ else _
        by_cases c : l = z
        · rw [if_pos c, c]
        · rw [if_neg c]
      · unfold eput
        split
        · rw [List.length_map]; omega
        · rw [List.length_append, List.length_singleton]; omega
  · rintro σ H5 ⟨v2, v3, v4, es, rfl, s5, hp5, hF5, dk, le⟩
    rw [List.length_map, List.take_of_length_le (Nat.le_refl _)] at dk
    exact ⟨_, rfl, k H5 F es s5 nF hF5 (dk.congr (fun l => (ym l).symm) fun _ _ => rfl)⟩
end
end Hf
set_option Elab.async false
set_option maxRecDepth 100000
set_option maxHeartbeats 4000000
namespace Hf
open PySem L2 PySem.Spec PyProof.Rows
/-- a list comprehension over the values of a locked dict -/
theorem lc_vals {d : Addr} {o : Obj} {kvs : List (Key × V)} {g : TG} {tt : TT} {te : TE} {vs : List Nat} {σ : L2.St} {H1 : Hp} {D : Addr} {Qd : Hp → Prop} (Pv : Nat → Hp → Prop) (h0 : Pv 0 (upd H1 D (.lst []))) (hl : ∀ i H, i ≤ kvs.length → Pv i H → H d = some (.frz o (.dK kvs)))
    (hs : ∀ i k x H, kvs[i]? = some (k, x) → Pv i H → g x (wipe σ vs) H fun σ2 H2 => wipe σ2 vs = wipe σ vs ∧ tt σ2 H2 fun b H3 =>
      if b = true then te σ2 H3 fun y H4 => ∃ acc, H4 D = some (.lst acc) ∧ acc.length < sizeLine ∧ Pv (i + 1) (upd H4 D (.lst (acc ++ [y]))) else Pv (i + 1) H3) (hd : ∀ H, Pv kvs.length H → Qd H) :
    ∃ W : Nat → Nat → Hp → Prop, (∃ m, W 0 m (upd H1 D (.lst []))) ∧ ∀ i m H, W i m H →
      ((Itd d o kvs).stop i H ∧ Qd H) ∨ ((Itd d o kvs).go i H ∧ ∃ Nx : Hp → Prop, (∀ H', Nx H' → ∃ m', m' < m ∧ W (i + 1) m' H') ∧ ∀ x H', (Itd d o kvs).yld i H x H' → g x (wipe σ vs) H' fun σ2 H2 => wipe σ2 vs = wipe σ vs ∧ tt σ2 H2 fun b H3 =>
        if b = true then te σ2 H3 fun y H4 => ∃ acc, H4 D = some (.lst acc) ∧ acc.length < sizeLine ∧ Nx (upd H4 D (.lst (acc ++ [y]))) else Nx H3) := by
  refine ⟨fun i m H => m = kvs.length - i ∧ i ≤ kvs.length ∧ Pv i H, ⟨kvs.length, by simp, Nat.zero_le _, h0⟩, ?_⟩
  rintro i m H ⟨rfl, hi, p⟩
  have q := hl i H hi p
  by_cases hlt : i < kvs.length
  · refine .inr ⟨⟨q, hlt⟩, Pv (i + 1), fun H' p' => ⟨kvs.length - (i + 1), by omega, rfl, hlt, p'⟩, fun x H' y => ?_⟩
    obtain ⟨e, k, y⟩ := y
    subst e
    exact hs i k x _ y p
  · have e : i = kvs.length := by omega
    subst e
    exact .inl ⟨⟨q, Nat.le_refl _⟩, hd H p⟩
def telD (x : Tel) : PyData := .tuple [.str x.1, .str x.2.1, .int x.2.2]
theorem trpsDp {K : PySem.W.Frag} {H : Hp} : ∀ {bs : List Trp}, TrOk H bs → DpAll K H (trpsV bs) ((tels bs).map telD)
  | [], _ => .nil
  | b :: r, h => .cons (.tup (SqT.of (h b (List.mem_cons_self ..)).1) (.cons (.str _) (.cons (.str _) (.cons (.int _) .nil)))) (trpsDp (bs := r) fun x hx => h x (List.mem_cons_of_mem _ hx))
theorem str_lay {a : Str} (h : a ∈ hs4 ∨ a ∈ ls4) : PyData.canLay0 (.str a) = true := by
  rcases h with h | h
  · exact (by decide +kernel : ∀ a ∈ hs4, PyData.canLay0 (.str a) = true) a h
  · exact (by decide +kernel : ∀ a ∈ ls4, PyData.canLay0 (.str a) = true) a h
theorem tels_lay : ∀ {T : List Tel}, (∀ x ∈ T, TelOk x) → PyData.canLayAll0 (T.map telD) = true ∧ PyData.depthAll (T.map telD) ≤ 1
  | [], _ => ⟨rfl, by decide⟩
  | x :: r, h => by
    obtain ⟨i1, i2⟩ := tels_lay (T := r) fun y hy => h y (List.mem_cons_of_mem _ hy)
    have hx := h x (List.mem_cons_self ..)
    refine ⟨?_, ?_⟩
    · show ((PyData.canLay0 (.str x.1) && (PyData.canLay0 (.str x.2.1) && (true && true))) && PyData.canLayAll0 (r.map telD)) = true
      rw [str_lay (.inl hx.h), str_lay (.inr hx.l), i1]
      rfl
    · show max _ (PyData.depthAll (r.map telD)) ≤ 1
      have : (telD x).depth = 1 := by simp [telD, PyData.depth, PyData.depthAll]
      rw [this]
      omega
theorem tels_shaped {T : List Tel} (h : ∀ x ∈ T, TelOk x) : SeqAt.shaped (.list (T.map telD)) = true := by
  obtain ⟨i1, i2⟩ := tels_lay h
  unfold SeqAt.shaped
  rw [Bool.and_eq_true, decide_eq_true_eq]
  refine ⟨i1, ?_⟩
  show PyData.depthAll (T.map telD) + 1 ≤ 64
  omega
theorem strsDp {K : PySem.W.Frag} {H : Hp} : ∀ ys : List Str, DpAll K H (ys.map V.str) (ys.map PyData.str)
  | [] => .nil
  | y :: r => .cons (.str y) (strsDp r)
theorem strs_lay : ∀ {ys : List Str}, (∀ y ∈ ys, y ∈ ls4) → PyData.canLayAll0 (ys.map PyData.str) = true ∧ PyData.depthAll (ys.map PyData.str) = 0
  | [], _ => ⟨rfl, rfl⟩
  | y :: r, h => by
    obtain ⟨i1, i2⟩ := strs_lay (ys := r) fun z hz => h z (List.mem_cons_of_mem _ hz)
    refine ⟨?_, ?_⟩
    · show (PyData.canLay0 (.str y) && PyData.canLayAll0 (r.map PyData.str)) = true
      rw [str_lay (.inr (h y (List.mem_cons_self ..))), i1]
      rfl
    · show max 0 (PyData.depthAll (r.map PyData.str)) = 0
      rw [i2]
      rfl
theorem strs_shaped {ys : List Str} (h : ∀ y ∈ ys, y ∈ ls4) : SeqAt.shaped (.list (ys.map PyData.str)) = true := by
  obtain ⟨i1, i2⟩ := strs_lay h
  unfold SeqAt.shaped
  rw [Bool.and_eq_true, decide_eq_true_eq]
  refine ⟨i1, ?_⟩
  show PyData.depthAll (ys.map PyData.str) + 1 ≤ 64
  omega
theorem tels_ok {H : Hp} {bs : List Trp} (h : TrOk H bs) : ∀ x ∈ tels bs, TelOk x := fun x hx => by
  unfold tels at hx
  obtain ⟨y, hy, rfl⟩ := List.mem_map.mp hx
  exact (h y hy).2
theorem jo_ls {H : Hp} {bs : List Trp} {ys : List Str} (h : TrOk H bs) (j : JoOk ys (tels bs)) : ∀ y ∈ ys, y ∈ ls4 := fun y hy => by
  obtain ⟨x, hx, e⟩ := (j.mem y).mp hy
  rw [← e]
  exact (tels_ok h x hx).l
theorem jo_dk {T : List Tel} {ys : List Str} (j : JoOk ys T) : DOk (upTo ys (due hs4 T)) (lS T) (due hs4 T) := (up_ok j.nd _).congr (fun l => (j.mem l).symm) fun _ _ => rfl
theorem jo_len {H : Hp} {bs : List Trp} {ys : List Str} (h : TrOk H bs) (j : JoOk ys (tels bs)) : ys.length ≤ 4 := nodup_len (m := ls4) j.nd (jo_ls h j)
theorem jo_keys (ys : List Str) (T : List Tel) : (joV ys T).map (·.1) = ys.map Sum.inr := by
  unfold joV upTo
  rw [List.map_map, List.map_map]
  rfl
theorem jo_list (ys : List Str) (T : List Tel) : (joV ys T).map (fun kv => kV kv.1) = ys.map V.str := by
  unfold joV upTo
  rw [List.map_map, List.map_map]
  rfl
theorem jo_vlen (ys : List Str) (T : List Tel) : (joV ys T).length = ys.length := by
  unfold joV upTo
  rw [List.length_map, List.length_map]
def spRight [LT] (T0 T1 : Addr) : Sp := fun vs H Q _ => ∃ (l : Addr) (bs : List Trp), vs = [.ref l] ∧ H l = some (.lst (trpsV bs)) ∧ TrOk H bs ∧ bs.length ≤ 60 ∧ Tab H T0 ∧ Tab H T1 ∧ ∀ H', Sm6 H H' → Q (.bl true) H'
section
variable [LT] {P : Program} {w : World} {K : PySem.W.Frag} {mg : Str → Option Value} {base : Heap}
theorem ok_right {f f0 f1 f2 f3 f4 T0 T1 : Addr} {fd fd0 fd1 fd2 fd3 fd4 : FuncData} (nT0 : T0 ≠ LT.T) (nT1 : T1 ≠ LT.T) (D : Gf K mg "_law_right" sLawRight ["_law_tallies_here"] f fd) (DJoined : Gt K mg base "joined" sJoined ["tallies"] f3 fd3 T1) (DLawDue : Gf K mg "_law_due" sLawDue ["_law_tallies_here"] f4 fd4)
    (DIsTally : Gf K mg "is_tally" sIsTally ["value"] f2 fd2) (DIsName : Gt K mg base "is_name" sIsName ["value"] f0 fd0 T0) (DIsNumber : Gd K mg "is_number" sIsNumber [.non] f1 fd1) (b : Bi mg) (k0 : Co mg) :
    FnOk P w K mg base CX0 6 f fd ["_law_tallies_here"] (spRight T0 T1) := by
  have GJoined : FnOk P w K mg base CX0 5 f3 fd3 ["tallies"] (spJoined K T0 T1) := ok_joined nT0 nT1 DJoined DIsTally DIsName DIsNumber b k0
  have GLawDue : FnOk P w K mg base CX0 1 f4 fd4 ["_law_tallies_here"] spDue := ok_due DLawDue b
  refine D.F.ok scLawRight (fun vs H Q E h => ?_) (fun cdv A outer s H vs Q E hr h => ?_)
  · obtain ⟨l, bs, rfl, _⟩ := h
    rfl
  obtain ⟨l, bs, rfl, hl, ok, few, tab0, tab1, k⟩ := h
  have tsh := tels_shaped (tels_ok ok)
  have ter : PyData.eqv (.list ((tels bs).map telD)) (.list ((tels bs).map telD)) = true := SeqAt.eqv_refl _ (SeqAt.canLay_of_shaped tsh)
  refine ⟨_, (pss_cons (ps_set (i := 1) scLawRight.nd rfl (.inl rfl) (pe_callTy call_list_of (by rfl) b.list b_list (pa_cons (pv 0) pa_nil))) (pss_cons (ps_set (i := 2) scLawRight.nd rfl (.inl rfl) (pe_call GJoined (hr.mono (by decide)) (by rfl) DJoined.m DJoined.kp DJoined.b .nil pass0 (pa_cons (pv 1) pa_nil))) (pss_cons (ps_if (PW.pt (pw_or (pt_cmpR (op_neD (hu64 hr)) (pv 1) (pv 0) (nomark _)) (pw_or (pt_not (pt_val (pe_callB call_isi (by rfl) b.isinstance b_isi (pa_cons (pv 2) (pa_cons (pe_bltn (v := .ty "dict") (by rfl) b.dict b_dict rfl) pa_nil))))) (pw_or (pt_cmpR (op_ne_dictA (hu hr)) (pv 2) (pe_call GLawDue (hr.mono (by decide)) (by rfl) DLawDue.m DLawDue.kp DLawDue.b .nil pass0 (pa_cons (pv 0) pa_nil)) (nomark _)) (pw_or1 (pt_cmpR (op_neD (hu64 hr)) (pe_callTy (call_listD rfl) (by rfl) b.list b_list (pa_cons (pv 2) pa_nil)) (pe_callB (call_sortedD rfl) (by rfl) b.sorted b_sorted (pa_cons (pv 2) pa_nil)) (nomark _))))))) (pss_one (ps_ret pe_bl)) pss_nil) (pss_cons (ps_expr (pe_bm0 PySem.F.plainAttrs_dict PySem.F.slot_dict_clear PySem.F.type_dict_clear mtd_clear (pv 2))) (pss_one (ps_ret (pe_and (pe_cmpR (op_eq_dictA (hu hr)) (pe_call GJoined (hr.mono (by decide)) (by rfl) DJoined.m DJoined.kp DJoined.b .nil pass0 (pa_cons (pv 1) pa_nil)) (pe_call GLawDue (hr.mono (by decide)) (by rfl) DLawDue.m DLawDue.kp DLawDue.b .nil pass0 (pa_cons (pv 0) pa_nil)) (nomark _)) (pe_one (pe_not (pe_callB (cr_any rfl) (by rfl) b.any boot_any (pa_cons (pe_lc (own := [("_law_one", 3)]) (g := (gName 3)) rfl scLawRight.nd (pi_valuesF (pe_call GJoined (hr.mono (by decide)) (by rfl) DJoined.m DJoined.kp DJoined.b .nil pass0 (pa_cons (pv 1) pa_nil))) (blkOk_by (own := [("_law_one", 3)]) (N := ["_law_tallies_here", "_law_handed", "_law_got", "_law_one"]) (sc := defScope sLawRight) (by decide +kernel)) (fun _ _ _ _ _ => (pg_name (i := 3) scLawRight.nd rfl (.inl rfl))) (fun _ _ _ _ _ => pts_nil) (fun _ _ _ _ _ => (pe_callB (r := rIsi K) call_isi (by rfl) b.isinstance b_isi (pa_cons (pv 3) (pa_cons (pe_bltn (v := .ty "bool") (by rfl) b.bool b_bool rfl) pa_nil))))) pa_nil))))))))))), ?_⟩
  refine ⟨_, rfl, l, trpsV bs, rfl, .inl (SqL.of hl), fun a na => ?_⟩
  have sa := Sm6.new (o := .lst (trpsV bs)) na
  refine ⟨_, rfl, a, bs, rfl, upd_same, ok.sm sa, few, sa.tabG tab0, sa.tabG tab1, fun H1 p ys s1 np hp jo => ?_⟩
  have s01 := sa.trans s1
  have ha1 := s1.lst (a := a) (xs := trpsV bs) upd_same
  have fp : H p = none := sa.free np
  refine ⟨_, rfl, _, rfl, _, _, .lst (SqL.of ha1) (trpsDp (ok.sm s01)), .lst (SqL.of (s01.lst hl)) (trpsDp (ok.sm s01)), tsh, tsh, _, rfl, ?_⟩
  rw [ter]
  refine iteF ⟨_, rfl, _, _, _, _, true, rfl, .ty _, .base (.dK hp), kit_dict_dict, true, rfl, iteF ?_⟩
  refine ⟨_, rfl, _, rfl, l, bs, rfl, s01.lst hl, ok.sm s01, few, fun H2 d2 es s2 nd2 hd2 dk2 => ?_⟩
  have hp2 := s2.dK hp
  have s02 := s01.trans s2
  obtain ⟨e1, e2⟩ := (jo_dk jo).eq dk2 kS_inj
  refine ⟨p, d2, _, _, rfl, rfl, hp2, hd2, e1, e2, false, rfl, iteF ?_⟩
  refine ⟨_, rfl, p, _, rfl, .inl hp2, fun q1 nq1 => ?_⟩
  rw [jo_list]
  have sq1 := Sm6.new (o := .lst (ys.map V.str)) nq1
  refine ⟨_, rfl, p, _, ys, rfl, .inl (sq1.dK hp2), jo_keys _ _, by have := jo_len ok jo; omega, fun zs q2 perm srt nq2 => ?_⟩
  rw [sorted_one perm srt jo.srt]
  have sq2 := Sm6.new (o := .lst (ys.map V.str)) nq2
  have ssh := strs_shaped (jo_ls ok jo)
  have ser : PyData.eqv (.list (ys.map PyData.str)) (.list (ys.map PyData.str)) = true := SeqAt.eqv_refl _ (SeqAt.canLay_of_shaped ssh)
  refine ⟨_, _, .lst (SqL.of (sq2.lst upd_same)) (strsDp ys), .lst (SqL.of upd_same) (strsDp ys), ssh, ssh, _, rfl, ?_⟩
  rw [ser]
  refine iteF ?_
  have s2q := sq1.trans sq2
  have hp3 := s2q.dK hp2
  have s03 := s02.trans s2q
  refine ⟨_, rfl, ?_, p, _, rfl, rfl, hp3, ?_⟩
  · exact .inr (.inr (.inl ⟨rfl, .inl ⟨_, hp3⟩⟩))
  have s3p : Sm6 H (upd (upd (upd H2 q1 (.lst (ys.map V.str))) q2 (.lst (ys.map V.str))) p (.dK [])) := s03.put fp
  have neA : a ≠ p := ne_of_none (upd_same (o := .lst (trpsV bs))) np
  have ha3 : (upd (upd (upd H2 q1 (.lst (ys.map V.str))) q2 (.lst (ys.map V.str))) p (.dK [])) a = some (.lst (trpsV bs)) := by rw [upd_ne neA]; exact (s2.trans s2q).lst ha1
  refine ⟨_, rfl, a, bs, rfl, ha3, ok.sm s3p, few, s3p.tabG tab0, s3p.tabG tab1, fun H4 p4 ys4 s4 np4 hp4 jo4 => ?_⟩
  have s04 := s3p.trans s4
  refine ⟨_, rfl, l, bs, rfl, s04.lst hl, ok.sm s04, few, fun H5 d5 es5 s5 nd5 hd5 dk5 => ?_⟩
  obtain ⟨f1, f2⟩ := (jo_dk jo4).eq dk5 kS_inj
  have s05 := s04.trans s5
  have s45 := s4.trans s5
  refine ⟨p4, d5, _, _, rfl, rfl, s5.dK hp4, hd5, f1, f2, true, rfl, iteT ?_⟩
  refine ⟨_, rfl, a, bs, rfl, s45.lst ha3, ok.sm s05, few, s05.tabG tab0, s05.tabG tab1, fun H6 p6 ys6 s6 np6 hp6 jo6 => ?_⟩
  have s06 := s05.trans s6
  refine ⟨p6, _, rfl, hp6, fun o D nD => lc_vals (d := p6) (o := o) (kvs := joV ys6 (tels bs)) (fun i H7 => Sm6 H5 H7 ∧ H7 p6 = some (.frz o (.dK (joV ys6 (tels bs)))) ∧ H7 D = some (.lst ((List.replicate i false).map V.bl)))
    ⟨(s6.put np6).trans (Sm6.new nD), ?_, upd_same⟩ (fun i H7 _ hh => hh.2.1) (fun i key x H7 hx hh => ?_) fun H7 hh => ?_⟩
  · rw [upd_ne (ne_of_none upd_same nD)]; exact upd_same
  · obtain ⟨s7, hz, hD⟩ := hh
    obtain ⟨n, rfl⟩ : ∃ n : Int, x = .int n := by
      unfold joV at hx
      rw [List.getElem?_map] at hx
      cases q : (upTo ys6 (due hs4 (tels bs)))[i]? with
      | none => rw [q] at hx; cases hx
      | some y =>
        rw [q] at hx
        have := Option.some.inj hx
        unfold entF at this
        injection this with t1 t2
        exact ⟨_, t2.symm⟩
    have il : i < (joV ys6 (tels bs)).length := (List.getElem?_eq_some_iff.mp hx).1
    rw [jo_vlen] at il
    have := jo_len ok jo6
    refine ⟨rfl, _, rfl, _, _, _, _, false, rfl, .ty _, .base (.int _), kit_int_bool, _, hD, ?_, s7.put ?_, ?_, ?_⟩
    · rw [List.length_map, List.length_replicate]; exact small1000 (by omega)
    · exact (s6.put np6).free nD
    · rw [upd_ne (ne_of_none upd_same nD)]; exact hz
    · rw [upd_same, List.replicate_succ', List.map_append]; rfl
  · obtain ⟨s7, hz, hD⟩ := hh
    have an : ∀ n : Nat, (List.replicate n false).any id = false := fun n => by
      rw [List.any_eq_false]
      intro x hx
      rw [(List.mem_replicate.mp hx).2]
      decide
    refine ⟨D, _, rfl, SqL.of hD, ?_⟩
    rw [an]
    exact ⟨_, rfl, k H7 (s05.trans s7)⟩
end
end Hf
set_option Elab.async false
set_option maxRecDepth 100000
set_option maxHeartbeats 8000000
namespace Hf
open PySem L2 PySem.Spec PyProof.Rows
def spLaw [LT] (K : PySem.W.Frag) (T0 T1 : Addr) : Sp := fun vs H Q _ => ∃ (a : Addr) (ns : List Int), vs = [.ref a] ∧ SqL K H a (ns.map V.int) ∧ ns.length ≤ 63 ∧ Tab H T0 ∧ Tab H T1 ∧ H LT.T = some (.tbl #[]) ∧ ∀ H', Q (.bl true) H'
theorem cutN (bs : List Trp) (n : Nat) : cutV (trpsV bs) none (some (n : Int)) = trpsV (bs.take n) := by
  unfold cutV trpsV
  rw [HT.sIx_none, HT.sIx_nat, List.drop_zero, Nat.sub_zero, List.map_take]
  rw [List.length_map]
  rcases Nat.le_total n bs.length with h | h
  · rw [Nat.min_eq_left h]
  · rw [Nat.min_eq_right h, List.take_of_length_le (by rw [List.length_map]; exact Nat.le_refl _), List.take_of_length_le (by rw [List.length_map]; exact h)]
theorem TrOk.take {H : Hp} {bs : List Trp} (h : TrOk H bs) (n : Nat) : TrOk H (bs.take n) := fun b hb => h b (List.mem_of_mem_take hb)
theorem TrOk.perm {H : Hp} {bs cs : List Trp} (h : TrOk H bs) (p : cs.Perm bs) : TrOk H cs := fun b hb => h b (p.mem_iff.mp hb)
theorem TrOk.append {H : Hp} {bs cs : List Trp} (h : TrOk H bs) (k : TrOk H cs) : TrOk H (bs ++ cs) := fun b hb => (List.mem_append.mp hb).elim (h b) (k b)
theorem TrOk.rev {H : Hp} {bs : List Trp} (h : TrOk H bs) : TrOk H bs.reverse := fun b hb => h b (List.mem_reverse.mp hb)
theorem lS_same {T U : List Tel} (e : ∀ x, x ∈ T ↔ x ∈ U) (l : Str) : lS T l ↔ lS U l := ⟨fun ⟨x, h, z⟩ => ⟨x, (e x).mp h, z⟩, fun ⟨x, h, z⟩ => ⟨x, (e x).mpr h, z⟩⟩
theorem jo_same {ys zs : List Str} {T U : List Tel} (e : ∀ x, x ∈ T ↔ x ∈ U) (a : JoOk ys T) (b : JoOk zs U) :
    (joV ys T).length = (joV zs U).length ∧ ∀ p ∈ joV ys T, valV (joV zs U) p.1 = some p.2 ∧ flatB p.2 = true :=
  (jo_dk a).eq ((jo_dk b).congr (lS_same e) fun l _ => due_same e hs4 l) kS_inj
theorem tels_mem {bs cs : List Trp} (e : ∀ b, b ∈ bs ↔ b ∈ cs) : ∀ x, x ∈ tels bs ↔ x ∈ tels cs := fun x => by
  unfold tels
  rw [List.mem_map, List.mem_map]
  exact ⟨fun ⟨b, h, z⟩ => ⟨b, (e b).mp h, z⟩, fun ⟨b, h, z⟩ => ⟨b, (e b).mpr h, z⟩⟩
section
variable [LT] {P : Program} {w : World} {K : PySem.W.Frag} {mg : Str → Option Value} {base : Heap}
theorem ok_law {f f0 f1 f2 f3 f4 f5 f6 f7 f8 T0 T1 : Addr} {fd fd0 fd1 fd2 fd3 fd4 fd5 fd6 fd7 fd8 : FuncData} (nT0 : T0 ≠ LT.T) (nT1 : T1 ≠ LT.T) (D : Gt K mg base "law" sLaw ["_law_script"] f fd LT.T) (DLawRight : Gf K mg "_law_right" sLawRight ["_law_tallies_here"] f5 fd5) (DJoined : Gt K mg base "joined" sJoined ["tallies"] f3 fd3 T1) (DLawDue : Gf K mg "_law_due" sLawDue ["_law_tallies_here"] f4 fd4)
    (DIsTally : Gf K mg "is_tally" sIsTally ["value"] f2 fd2) (DIsName : Gt K mg base "is_name" sIsName ["value"] f0 fd0 T0) (DIsNumber : Gd K mg "is_number" sIsNumber [.non] f1 fd1)
    (DLawTallies : Gf K mg "_law_tallies" sLawTallies ["_law_script"] f6 fd6) (DLawNumbers : Gf K mg "_law_numbers" sLawNumbers ["_law_cell", "_law_bounds"] f7 fd7) (DLawCellAt : Gf K mg "_law_cell_at" sLawCellAt ["_law_script", "_law_k"] f8 fd8) (b : Bi mg) (k0 : Co mg) :
    FnOk P w K mg base CX0 9 f fd ["_law_script"] (spLaw K T0 T1) := by
  have GJoined : FnOk P w K mg base CX0 5 f3 fd3 ["tallies"] (spJoined K T0 T1) := ok_joined nT0 nT1 DJoined DIsTally DIsName DIsNumber b k0
  have GLawRight : FnOk P w K mg base CX0 6 f5 fd5 ["_law_tallies_here"] (spRight T0 T1) := ok_right nT0 nT1 DLawRight DJoined DLawDue DIsTally DIsName DIsNumber b k0
  have GLawTallies : FnOk P w K mg base CX0 7 f6 fd6 ["_law_script"] (spTallies K) := ok_tallies DLawTallies DLawNumbers DLawCellAt b
  have GLawCellAt : FnOk P w K mg base CX0 6 f8 fd8 ["_law_script", "_law_k"] (spCell K) := ok_cell DLawCellAt b
  refine D.ok scLaw (fun vs H Q E h => ?_) (fun c A outer s H vs Q E TB hr h => ?_)
  · obtain ⟨a, ns, rfl, _⟩ := h
    rfl
  obtain ⟨a, ns, rfl, hS, h63, tab0, tab1, hL, k⟩ := h
  refine ⟨_, (pss_cons (ps_set (i := 1) scLaw.nd rfl (.inl rfl) (pe_call GLawTallies (hr.mono (by decide)) (by rfl) DLawTallies.m DLawTallies.kp DLawTallies.b .nil pass0 (pa_cons (pv 0) pa_nil))) (pss_cons (ps_if (pt_not (pt_val (pe_call GLawRight (hr.mono (by decide)) (by rfl) DLawRight.m DLawRight.kp DLawRight.b .nil pass0 (pa_cons (pv 1) pa_nil)))) (pss_one (ps_ret pe_bl)) pss_nil) (pss_cons (ps_set (i := 3) scLaw.nd rfl (.inr rfl) (pe_call GLawCellAt (hr.mono (by decide)) (by rfl) DLawCellAt.m DLawCellAt.kp DLawCellAt.b .nil pass0 (pa_cons (pv 0) (pa_cons pe_int pa_nil)))) (pss_cons (ps_set (i := 2) scLaw.nd rfl (.inl rfl) (pe_sortLam (i := 3) (k := 2) (q9 := ⟨0, 0, 0, 0⟩) (hr.mono (by decide)) (by rfl) b.sorted b_sorted b.len TB rfl (by exact ⟨rfl, rfl, rfl, by decide +kernel, rfl, rfl, rfl, fun _ => rfl, fun _ _ _ _ _ _ _ => rfl⟩) rfl rfl (by decide +kernel) (pv 1))) (pss_cons (ps_if (PW.pt (pw_or (pt_not (pt_val (pe_call GLawRight (hr.mono (by decide)) (by rfl) DLawRight.m DLawRight.kp DLawRight.b .nil pass0 (pa_cons (pe_op op_cat (pv 2) (pe_slice sl_list (pv 1) po_none (po_some (pe_op op_mod (pv 3) pe_int)))) pa_nil)))) (pw_or1 (pt_cmpR (op_ne_dictA (hu hr)) (pe_call GJoined (hr.mono (by decide)) (by rfl) DJoined.m DJoined.kp DJoined.b .nil pass0 (pa_cons (pe_op op_cat (pv 2) (pe_slice sl_list (pv 1) po_none (po_some (pe_op op_mod (pv 3) pe_int)))) pa_nil)) (pe_call GJoined (hr.mono (by decide)) (by rfl) DJoined.m DJoined.kp DJoined.b .nil pass0 (pa_cons (pv 1) pa_nil)) (nomark _))))) (pss_one (ps_ret pe_bl)) pss_nil) (pss_one (ps_ret (pe_and (pe_cmpR (op_eq_dictA (hu hr)) (pe_call GJoined (hr.mono (by decide)) (by rfl) DJoined.m DJoined.kp DJoined.b .nil pass0 (pa_cons (pe_revL (pv 1)) pa_nil)) (pe_call GJoined (hr.mono (by decide)) (by rfl) DJoined.m DJoined.kp DJoined.b .nil pass0 (pa_cons (pv 1) pa_nil)) (nomark _)) (pe_one (pe_call GLawRight (hr.mono (by decide)) (by rfl) DLawRight.m DLawRight.kp DLawRight.b .nil pass0 (pa_cons (pe_slice sl_list (pv 1) po_none (po_some (pe_op op_mod (pv 3) pe_int))) pa_nil))))))))))), ?_⟩
  refine ⟨_, rfl, a, ns, rfl, hS, h63, fun H1 p bs s1 np hp ok few => ?_⟩
  refine ⟨_, rfl, p, bs, rfl, hp, ok, by omega, s1.tabG tab0, s1.tabG tab1, fun H2 s2 => ⟨true, rfl, iteF ?_⟩⟩
  have s12 := s1.trans s2
  refine ⟨_, rfl, a, 41, ns, rfl, s12.seqL hS, h63, by decide, fun cell H3 s3 => ?_⟩
  have s13 := s12.trans s3
  have ok3 := ok.sm (s2.trans s3)
  have hp3 := (s2.trans s3).lst hp
  refine ⟨_, rfl, p, bs, cell, rfl, SqL.of hp3, fun b hb => ⟨(ok3 b hb).1, (hs4_name (ok3 b hb).2.h).2⟩, rfl, s13.e hL, fun H4 q cs s4 nq perm => ?_⟩
  have sm5 := s4.trans (Sm.new (o := .lst (trpsV cs)) nq)
  have hp5 := sm5.lst hp3
  have okc : TrOk (upd H4 q (.lst (trpsV cs))) cs := (TrOk.sm0 ok3 sm5).perm perm
  have okb : TrOk (upd H4 q (.lst (trpsV cs))) bs := TrOk.sm0 ok3 sm5
  have tA := sm5.tabG (s13.tabG tab0)
  have tB := sm5.tabG (s13.tabG tab1)
  have hq5 : (upd H4 q (.lst (trpsV cs))) q = some (.lst (trpsV cs)) := upd_same
  generalize (upd H4 q (.lst (trpsV cs))) = H5 at sm5 hp5 okc okb tA tB hq5
  have lc := perm.length_eq
  obtain ⟨n7, e7⟩ : ∃ n : Nat, cell % 7 = (n : Int) := ⟨(cell % 7).toNat, by have := Int.emod_nonneg cell (show (7 : Int) ≠ 0 by decide); omega⟩
  have lt7 : (bs.take n7).length ≤ 6 := by have := Int.emod_lt_of_pos cell (show (0 : Int) < 7 by decide); rw [List.length_take]; omega
  obtain ⟨n5, e5⟩ : ∃ n : Nat, cell % 5 = (n : Int) := ⟨(cell % 5).toNat, by have := Int.emod_nonneg cell (show (5 : Int) ≠ 0 by decide); omega⟩
  have lt5 : (bs.take n5).length ≤ 4 := by have := Int.emod_lt_of_pos cell (show (0 : Int) < 5 by decide); rw [List.length_take]; omega
  have lz : (trpsV cs).length + (trpsV (bs.take n7)).length ≤ sizeLine := by rw [trps_len, trps_len]; exact Nat.le_of_lt (small1000 (by omega))
  have ap : trpsV cs ++ trpsV (bs.take n7) = trpsV (cs ++ bs.take n7) := by unfold trpsV; rw [List.map_append]
  have fw : (cs ++ bs.take n7).length ≤ 60 := by rw [List.length_append]; omega
  have mem1 : ∀ b, b ∈ cs ++ bs.take n7 ↔ b ∈ bs := fun b => by
    rw [List.mem_append, perm.mem_iff]
    exact ⟨fun h => h.elim id fun h => List.mem_of_mem_take h, .inl⟩
  refine ⟨_, rfl, _, rfl, _, rfl, _, _, rfl, rfl, by show (0 : Int) < 7; decide, _, rfl, p, _, rfl, SqL.of hp5, fun u nu => ?_⟩
  rw [e7, cutN]
  have su := Sm6.new (o := .lst (trpsV (bs.take n7))) nu
  refine ⟨q, u, _, _, rfl, rfl, su.lst hq5, upd_same, lz, fun v nv => ?_⟩
  rw [ap]
  have sv := su.trans (Sm6.new (o := .lst (trpsV (cs ++ bs.take n7))) nv)
  have okv := fun {H' : Hp} (s : Sm6 H5 H') => (okc.append (okb.take n7)).sm s
  refine ⟨v, _, rfl, upd_same, okv sv, fw, sv.tabG tA, sv.tabG tB, fun H6 s6 => ⟨true, rfl, iteF ?_⟩⟩
  have s56 := sv.trans s6
  refine ⟨_, rfl, _, rfl, _, rfl, _, _, rfl, rfl, by show (0 : Int) < 7; decide, _, rfl, p, _, rfl, SqL.of (s56.lst hp5), fun u2 nu2 => ?_⟩
  rw [e7, cutN]
  have su2 := s56.trans (Sm6.new (o := .lst (trpsV (bs.take n7))) nu2)
  refine ⟨q, u2, _, _, rfl, rfl, su2.lst hq5, upd_same, lz, fun v2 nv2 => ?_⟩
  rw [ap]
  have sv2 := su2.trans (Sm6.new (o := .lst (trpsV (cs ++ bs.take n7))) nv2)
  refine ⟨v2, _, rfl, upd_same, okv sv2, fw, sv2.tabG tA, sv2.tabG tB, fun H7 p7 y7 s7 n7' h7 j7 => ?_⟩
  have s57 := sv2.trans s7
  refine ⟨_, rfl, p, bs, rfl, s57.lst hp5, okb.sm s57, by omega, s57.tabG tA, s57.tabG tB, fun H8 p8 y8 s8 n8 h8 j8 => ?_⟩
  have s58 := s57.trans s8
  obtain ⟨g1, g2⟩ := jo_same (tels_mem mem1) j7 j8
  refine ⟨p7, p8, _, _, rfl, rfl, s8.dK h7, h8, g1, g2, false, rfl, iteF ?_⟩
  refine ⟨_, rfl, p, _, rfl, SqL.of (s58.lst hp5), fun r nr => ?_⟩
  have erv : (trpsV bs).reverse = trpsV bs.reverse := by unfold trpsV; rw [List.map_reverse]
  rw [erv]
  have sr := s58.trans (Sm6.new (o := .lst (trpsV bs.reverse)) nr)
  refine ⟨r, bs.reverse, rfl, upd_same, (okb.sm sr).rev, by rw [List.length_reverse]; omega, sr.tabG tA, sr.tabG tB, fun H9 p9 y9 s9 n9 h9 j9 => ?_⟩
  have s59 := sr.trans s9
  refine ⟨_, rfl, p, bs, rfl, s59.lst hp5, okb.sm s59, by omega, s59.tabG tA, s59.tabG tB, fun Ha pa ya sa na ha ja => ?_⟩
  have s5a := s59.trans sa
  obtain ⟨g3, g4⟩ := jo_same (tels_mem fun b => List.mem_reverse) j9 ja
  refine ⟨p9, pa, _, _, rfl, rfl, sa.dK h9, ha, g3, g4, true, rfl, iteT ?_⟩
  refine ⟨_, rfl, _, rfl, _, _, rfl, rfl, by show (0 : Int) < 5; decide, _, rfl, p, _, rfl, SqL.of (s5a.lst hp5), fun t nt => ?_⟩
  rw [e5, cutN]
  have st := s5a.trans (Sm6.new (o := .lst (trpsV (bs.take n5))) nt)
  exact ⟨t, bs.take n5, rfl, upd_same, (okb.take n5).sm st, by omega, st.tabG tA, st.tabG tB, fun Hb _ => k Hb⟩
end
abbrev spLawX (K : PySem.W.Frag) (T0 T1 T2 : Addr) : Sp := @spLaw ⟨T2⟩ K T0 T1
theorem ok_lawX {P : Program} {w : World} {K : PySem.W.Frag} {mg : Str → Option Value} {base : Heap} {f f0 f1 f2 f3 f4 f5 f6 f7 f8 T0 T1 T2 : Addr} {fd fd0 fd1 fd2 fd3 fd4 fd5 fd6 fd7 fd8 : FuncData} (nT0 : T0 ≠ T2) (nT1 : T1 ≠ T2) (D : Gt K mg base "law" sLaw ["_law_script"] f fd T2) (DLawRight : Gf K mg "_law_right" sLawRight ["_law_tallies_here"] f5 fd5) (DJoined : Gt K mg base "joined" sJoined ["tallies"] f3 fd3 T1) (DLawDue : Gf K mg "_law_due" sLawDue ["_law_tallies_here"] f4 fd4)
    (DIsTally : Gf K mg "is_tally" sIsTally ["value"] f2 fd2) (DIsName : Gt K mg base "is_name" sIsName ["value"] f0 fd0 T0) (DIsNumber : Gd K mg "is_number" sIsNumber [.non] f1 fd1)
    (DLawTallies : Gf K mg "_law_tallies" sLawTallies ["_law_script"] f6 fd6) (DLawNumbers : Gf K mg "_law_numbers" sLawNumbers ["_law_cell", "_law_bounds"] f7 fd7) (DLawCellAt : Gf K mg "_law_cell_at" sLawCellAt ["_law_script", "_law_k"] f8 fd8) (b : Bi mg) (k0 : Co mg) :
    FnOk P w K mg base CX0 9 f fd ["_law_script"] (spLawX K T0 T1 T2) :=
  @ok_law ⟨T2⟩ P w K mg base f f0 f1 f2 f3 f4 f5 f6 f7 f8 T0 T1 fd fd0 fd1 fd2 fd3 fd4 fd5 fd6 fd7 fd8 nT0 nT1 D DLawRight DJoined DLawDue DIsTally DIsName DIsNumber DLawTallies DLawNumbers DLawCellAt b k0
end Hf
set_option Elab.async false
set_option maxRecDepth 100000
set_option maxHeartbeats 8000000
namespace Hf
open PySem L2
theorem tab_mk {K : PySem.W.Frag} {x : Str} {q cc T : Addr} {oq oc : Value} {od od2 : Option Addr} {sq sl : Array (Option Value)} {fd : FuncData} {vs : Array Value} (a : PySem.W.nsIn K mainGlobals x = some (some (.ref q))) (l : K.lookup q = some ⟨oq, od, .func fd, sq⟩)
    (e : fd.code = .ref cc) (c : K.lookup cc = some ⟨oc, od2, .fields vs, sl⟩) (v : (vs[11]? : Option Value) = some (.ref T)) : PySem.W.tabIn K x = some (cc, T) := by
  unfold PySem.W.tabIn
  simp only [a, l, e, c, v]
theorem all_mk {l : PySem.W.OpenLaw} {w : World} {K : PySem.W.Frag} {h : Heap} {mg : Str → Option Value} {fa : Addr} (X : K.In h) (G : h.Ns mainGlobals mg) (hfa : mg "law" = some (.ref fa))
    {cc0 T0 cc1 T1 cc2 T2 : Addr}
    {q0 : Addr} {od0 an0 : Option Addr} {sl0 : Array (Option Value)} {oc0 kV0 dc0 pm0 ct0 : Value}
    {cd0 : Value}
    {dT0 : Addr} {oT0 : Value} {dd0 : Option Addr} {nT0 : Nat} {slT0 : Array (Option Value)}
    {q1 : Addr} {od1 an1 : Option Addr} {sl1 : Array (Option Value)} {oc1 kV1 dc1 pm1 ct1 : Value}
    {q2 : Addr} {od2 an2 : Option Addr} {sl2 : Array (Option Value)} {oc2 kV2 dc2 pm2 ct2 : Value}
    {cd2 : Value}
    {q3 : Addr} {od3 an3 : Option Addr} {sl3 : Array (Option Value)} {oc3 kV3 dc3 pm3 ct3 : Value}
    {q4 : Addr} {od4 an4 : Option Addr} {sl4 : Array (Option Value)} {oc4 kV4 dc4 pm4 ct4 : Value}
    {cd4 : Value}
    {q5 : Addr} {od5 an5 : Option Addr} {sl5 : Array (Option Value)} {oc5 kV5 dc5 pm5 ct5 : Value}
    {cd5 : Value}
    {q6 : Addr} {od6 an6 : Option Addr} {sl6 : Array (Option Value)} {oc6 kV6 dc6 pm6 ct6 : Value}
    {cd6 : Value}
    {q7 : Addr} {od7 an7 : Option Addr} {sl7 : Array (Option Value)} {oc7 kV7 dc7 pm7 ct7 : Value}
    {cd7 : Value}
    {q8 : Addr} {od8 an8 : Option Addr} {sl8 : Array (Option Value)} {oc8 kV8 dc8 pm8 ct8 : Value}
    {cd8 : Value}
    {q9 : Addr} {od9 an9 : Option Addr} {sl9 : Array (Option Value)} {oc9 kV9 dc9 pm9 ct9 : Value}
    {tk_MOST_LETTERS : Tok}
    {tk_MOST_STEPS : Tok}
    {oc_t0 : Value} {od_t0 : Option Addr} {vs_t0 : Array Value} {sl_t0 : Array (Option Value)}
    {oc_t1 : Value} {od_t1 : Option Addr} {vs_t1 : Array Value} {sl_t1 : Array (Option Value)}
    {oc_t2 : Value} {od_t2 : Option Addr} {vs_t2 : Array Value} {sl_t2 : Array (Option Value)}
    (a0 : PySem.W.nsIn K mainGlobals "is_number" = some (some (.ref q0)))
    (l0 : K.lookup q0 = some ⟨oc0, od0, .func (PySem.W.fnOf "is_number" "is_number" (defArgs sIsNumber) (defBody sIsNumber) (defScope sIsNumber) (.ref dT0) kV0 dc0 pm0 an0 cd0 ct0), sl0⟩)
    (c0 : PySem.W.codeIn K cd0 "is_number" = true)
    (k0 : PySem.W.keepIn K (.ref q0) = true)
    (lT0 : K.lookup dT0 = some ⟨oT0, dd0, .seq ([.none] : List Value).toArray nT0, slT0⟩)
    (a1 : PySem.W.nsIn K mainGlobals "is_name" = some (some (.ref q1)))
    (l1 : K.lookup q1 = some ⟨oc1, od1, .func (PySem.W.fnOf "is_name" "is_name" (defArgs sIsName) (defBody sIsName) (defScope sIsName) .none kV1 dc1 pm1 an1 (.ref cc0) ct1), sl1⟩)
    (c1 : PySem.W.codeIn K (.ref cc0) "is_name" = true)
    (k1 : PySem.W.keepIn K (.ref q1) = true)
    (a2 : PySem.W.nsIn K mainGlobals "is_tally" = some (some (.ref q2)))
    (l2 : K.lookup q2 = some ⟨oc2, od2, .func (PySem.W.fnOf "is_tally" "is_tally" (defArgs sIsTally) (defBody sIsTally) (defScope sIsTally) .none kV2 dc2 pm2 an2 cd2 ct2), sl2⟩)
    (c2 : PySem.W.codeIn K cd2 "is_tally" = true)
    (k2 : PySem.W.keepIn K (.ref q2) = true)
    (a3 : PySem.W.nsIn K mainGlobals "joined" = some (some (.ref q3)))
    (l3 : K.lookup q3 = some ⟨oc3, od3, .func (PySem.W.fnOf "joined" "joined" (defArgs sJoined) (defBody sJoined) (defScope sJoined) .none kV3 dc3 pm3 an3 (.ref cc1) ct3), sl3⟩)
    (c3 : PySem.W.codeIn K (.ref cc1) "joined" = true)
    (k3 : PySem.W.keepIn K (.ref q3) = true)
    (a4 : PySem.W.nsIn K mainGlobals "_law_cell_at" = some (some (.ref q4)))
    (l4 : K.lookup q4 = some ⟨oc4, od4, .func (PySem.W.fnOf "_law_cell_at" "_law_cell_at" (defArgs sLawCellAt) (defBody sLawCellAt) (defScope sLawCellAt) .none kV4 dc4 pm4 an4 cd4 ct4), sl4⟩)
    (c4 : PySem.W.codeIn K cd4 "_law_cell_at" = true)
    (k4 : PySem.W.keepIn K (.ref q4) = true)
    (a5 : PySem.W.nsIn K mainGlobals "_law_numbers" = some (some (.ref q5)))
    (l5 : K.lookup q5 = some ⟨oc5, od5, .func (PySem.W.fnOf "_law_numbers" "_law_numbers" (defArgs sLawNumbers) (defBody sLawNumbers) (defScope sLawNumbers) .none kV5 dc5 pm5 an5 cd5 ct5), sl5⟩)
    (c5 : PySem.W.codeIn K cd5 "_law_numbers" = true)
    (k5 : PySem.W.keepIn K (.ref q5) = true)
    (a6 : PySem.W.nsIn K mainGlobals "_law_tallies" = some (some (.ref q6)))
    (l6 : K.lookup q6 = some ⟨oc6, od6, .func (PySem.W.fnOf "_law_tallies" "_law_tallies" (defArgs sLawTallies) (defBody sLawTallies) (defScope sLawTallies) .none kV6 dc6 pm6 an6 cd6 ct6), sl6⟩)
    (c6 : PySem.W.codeIn K cd6 "_law_tallies" = true)
    (k6 : PySem.W.keepIn K (.ref q6) = true)
    (a7 : PySem.W.nsIn K mainGlobals "_law_due" = some (some (.ref q7)))
    (l7 : K.lookup q7 = some ⟨oc7, od7, .func (PySem.W.fnOf "_law_due" "_law_due" (defArgs sLawDue) (defBody sLawDue) (defScope sLawDue) .none kV7 dc7 pm7 an7 cd7 ct7), sl7⟩)
    (c7 : PySem.W.codeIn K cd7 "_law_due" = true)
    (k7 : PySem.W.keepIn K (.ref q7) = true)
    (a8 : PySem.W.nsIn K mainGlobals "_law_right" = some (some (.ref q8)))
    (l8 : K.lookup q8 = some ⟨oc8, od8, .func (PySem.W.fnOf "_law_right" "_law_right" (defArgs sLawRight) (defBody sLawRight) (defScope sLawRight) .none kV8 dc8 pm8 an8 cd8 ct8), sl8⟩)
    (c8 : PySem.W.codeIn K cd8 "_law_right" = true)
    (k8 : PySem.W.keepIn K (.ref q8) = true)
    (a9 : PySem.W.nsIn K mainGlobals "law" = some (some (.ref q9)))
    (l9 : K.lookup q9 = some ⟨oc9, od9, .func (PySem.W.fnOf "law" "law" (defArgs sLaw) (defBody sLaw) (defScope sLaw) .none kV9 dc9 pm9 an9 (.ref cc2) ct9), sl9⟩)
    (c9 : PySem.W.codeIn K (.ref cc2) "law" = true)
    (k9 : PySem.W.keepIn K (.ref q9) = true)
    (co_MOST_LETTERS : PySem.W.nsIn K mainGlobals "MOST_LETTERS" = some (some (.int 8 tk_MOST_LETTERS)))
    (co_MOST_STEPS : PySem.W.nsIn K mainGlobals "MOST_STEPS" = some (some (.int 1000 tk_MOST_STEPS)))
    (z_isinstance : PySem.W.nsIn K mainGlobals "isinstance" = some none)
    (z_int : PySem.W.nsIn K mainGlobals "int" = some none)
    (z_bool : PySem.W.nsIn K mainGlobals "bool" = some none)
    (z_str : PySem.W.nsIn K mainGlobals "str" = some none)
    (z_list : PySem.W.nsIn K mainGlobals "list" = some none)
    (z_tuple : PySem.W.nsIn K mainGlobals "tuple" = some none)
    (z_dict : PySem.W.nsIn K mainGlobals "dict" = some none)
    (z_len : PySem.W.nsIn K mainGlobals "len" = some none)
    (z_all : PySem.W.nsIn K mainGlobals "all" = some none)
    (z_any : PySem.W.nsIn K mainGlobals "any" = some none)
    (z_set : PySem.W.nsIn K mainGlobals "set" = some none)
    (z_max : PySem.W.nsIn K mainGlobals "max" = some none)
    (z_min : PySem.W.nsIn K mainGlobals "min" = some none)
    (z_range : PySem.W.nsIn K mainGlobals "range" = some none)
    (z_zip : PySem.W.nsIn K mainGlobals "zip" = some none)
    (z_sum : PySem.W.nsIn K mainGlobals "sum" = some none)
    (z_sorted : PySem.W.nsIn K mainGlobals "sorted" = some none)
    (z_abs : PySem.W.nsIn K mainGlobals "abs" = some none)
    (z_enumerate : PySem.W.nsIn K mainGlobals "enumerate" = some none)
    (lc0 : K.lookup cc0 = some ⟨oc_t0, od_t0, .fields vs_t0, sl_t0⟩)
    (vc0 : (vs_t0[11]? : Option Value) = some (.ref T0))
    (nl0 : K.lookup T0 = none)
    (lc1 : K.lookup cc1 = some ⟨oc_t1, od_t1, .fields vs_t1, sl_t1⟩)
    (vc1 : (vs_t1[11]? : Option Value) = some (.ref T1))
    (nl1 : K.lookup T1 = none)
    (lc2 : K.lookup cc2 = some ⟨oc_t2, od_t2, .fields vs_t2, sl_t2⟩)
    (vc2 : (vs_t2[11]? : Option Value) = some (.ref T2))
    (nl2 : K.lookup T2 = none)
    (nqT0 : T0 ≠ T2)
    (nqT1 : T1 ≠ T2) :
    ∃ cc0 T0 cc1 T1 cc2 T2 : Addr, PySem.W.tabIn K "is_name" = some (cc0, T0) ∧ K.lookup T0 = none ∧ PySem.W.tabIn K "joined" = some (cc1, T1) ∧ K.lookup T1 = none ∧ PySem.W.tabIn K "law" = some (cc2, T2) ∧ K.lookup T2 = none ∧ ∃ fd : FuncData, (∀ (s : Shared) (v : Value), BindsTo s fd ⟨[v], []⟩ [("_law_script", v)]) ∧ ∀ base : Heap, K.In base → base.Ns mainGlobals mg → GxR.TabB base mg cc0 T0 → GxR.TabB base mg cc1 T1 → GxR.TabB base mg cc2 T2 → FnOk l.prog w K mg base CX0 9 fa fd ["_law_script"] (spLawX K T0 T1 T2) := by
  have e := hfa.symm.trans (PySem.W.mg_of X G a9)
  cases e
  have g0 : Gd K mg "is_number" sIsNumber [.non] q0 _ := ⟨⟨⟨oc0, od0, .ref dT0, kV0, dc0, pm0, an0, cd0, ct0, sl0, rfl, l0, c0, .inr ⟨by simp, dT0, _, _, _, rfl, lT0, rfl, .cons rfl .nil⟩, .inl rfl⟩, k0⟩, PySem.W.mg_of X G a0⟩
  have F1 := fun_mk (st := sIsName) l1 c1 k1
  have b1 := F1.binds (ps := ["value"]) fun _ _ _ _ _ _ us hl => match us, hl with | [_], _ => rfl
  have g1 : Gf K mg "is_name" sIsName ["value"] q1 _ := ⟨F1, PySem.W.mg_of X G a1, b1⟩
  have F2 := fun_mk (st := sIsTally) l2 c2 k2
  have b2 := F2.binds (ps := ["value"]) fun _ _ _ _ _ _ us hl => match us, hl with | [_], _ => rfl
  have g2 : Gf K mg "is_tally" sIsTally ["value"] q2 _ := ⟨F2, PySem.W.mg_of X G a2, b2⟩
  have F3 := fun_mk (st := sJoined) l3 c3 k3
  have b3 := F3.binds (ps := ["tallies"]) fun _ _ _ _ _ _ us hl => match us, hl with | [_], _ => rfl
  have g3 : Gf K mg "joined" sJoined ["tallies"] q3 _ := ⟨F3, PySem.W.mg_of X G a3, b3⟩
  have F4 := fun_mk (st := sLawCellAt) l4 c4 k4
  have b4 := F4.binds (ps := ["_law_script", "_law_k"]) fun _ _ _ _ _ _ us hl => match us, hl with | [_, _], _ => rfl
  have g4 : Gf K mg "_law_cell_at" sLawCellAt ["_law_script", "_law_k"] q4 _ := ⟨F4, PySem.W.mg_of X G a4, b4⟩
  have F5 := fun_mk (st := sLawNumbers) l5 c5 k5
  have b5 := F5.binds (ps := ["_law_cell", "_law_bounds"]) fun _ _ _ _ _ _ us hl => match us, hl with | [_, _], _ => rfl
  have g5 : Gf K mg "_law_numbers" sLawNumbers ["_law_cell", "_law_bounds"] q5 _ := ⟨F5, PySem.W.mg_of X G a5, b5⟩
  have F6 := fun_mk (st := sLawTallies) l6 c6 k6
  have b6 := F6.binds (ps := ["_law_script"]) fun _ _ _ _ _ _ us hl => match us, hl with | [_], _ => rfl
  have g6 : Gf K mg "_law_tallies" sLawTallies ["_law_script"] q6 _ := ⟨F6, PySem.W.mg_of X G a6, b6⟩
  have F7 := fun_mk (st := sLawDue) l7 c7 k7
  have b7 := F7.binds (ps := ["_law_tallies_here"]) fun _ _ _ _ _ _ us hl => match us, hl with | [_], _ => rfl
  have g7 : Gf K mg "_law_due" sLawDue ["_law_tallies_here"] q7 _ := ⟨F7, PySem.W.mg_of X G a7, b7⟩
  have F8 := fun_mk (st := sLawRight) l8 c8 k8
  have b8 := F8.binds (ps := ["_law_tallies_here"]) fun _ _ _ _ _ _ us hl => match us, hl with | [_], _ => rfl
  have g8 : Gf K mg "_law_right" sLawRight ["_law_tallies_here"] q8 _ := ⟨F8, PySem.W.mg_of X G a8, b8⟩
  have F9 := fun_mk (st := sLaw) l9 c9 k9
  have b9 := F9.binds (ps := ["_law_script"]) fun _ _ _ _ _ _ us hl => match us, hl with | [_], _ => rfl
  have g9 : Gf K mg "law" sLaw ["_law_script"] fa _ := ⟨F9, PySem.W.mg_of X G a9, b9⟩
  have b : Bi mg := ⟨PySem.W.mg_none_of X G z_isinstance, PySem.W.mg_none_of X G z_int, PySem.W.mg_none_of X G z_bool, PySem.W.mg_none_of X G z_str, PySem.W.mg_none_of X G z_list, PySem.W.mg_none_of X G z_tuple, PySem.W.mg_none_of X G z_dict, PySem.W.mg_none_of X G z_len, PySem.W.mg_none_of X G z_all, PySem.W.mg_none_of X G z_any, PySem.W.mg_none_of X G z_set, PySem.W.mg_none_of X G z_max, PySem.W.mg_none_of X G z_min, PySem.W.mg_none_of X G z_range, PySem.W.mg_none_of X G z_zip, PySem.W.mg_none_of X G z_sum, PySem.W.mg_none_of X G z_sorted, PySem.W.mg_none_of X G z_abs, PySem.W.mg_none_of X G z_enumerate⟩
  have tb0 : PySem.W.tabIn K "is_name" = some (cc0, T0) := tab_mk a1 l1 rfl lc0 vc0
  have tb1 : PySem.W.tabIn K "joined" = some (cc1, T1) := tab_mk a3 l3 rfl lc1 vc1
  have tb2 : PySem.W.tabIn K "law" = some (cc2, T2) := tab_mk a9 l9 rfl lc2 vc2
  refine ⟨cc0, T0, cc1, T1, cc2, T2, tb0, nl0, tb1, nl1, tb2, nl2, PySem.W.fnOf "law" "law" (defArgs sLaw) (defBody sLaw) (defScope sLaw) .none kV9 dc9 pm9 an9 (.ref cc2) ct9, fun s v => .of_eq rfl, fun base _ _ tB0 tB1 tB2 => ?_⟩
  have gt0 : Gt K mg base "is_name" sIsName ["value"] q1 _ T0 := ⟨g1, cc0, PySem.W.law_code X G tb0 (PySem.W.mg_of X G a1) (X _ _ l1) rfl, tB0⟩
  have gt1 : Gt K mg base "joined" sJoined ["tallies"] q3 _ T1 := ⟨g3, cc1, PySem.W.law_code X G tb1 (PySem.W.mg_of X G a3) (X _ _ l3) rfl, tB1⟩
  have gt2 : Gt K mg base "law" sLaw ["_law_script"] fa _ T2 := ⟨g9, cc2, PySem.W.law_code X G tb2 (PySem.W.mg_of X G a9) (X _ _ l9) rfl, tB2⟩
  exact ok_lawX nqT0 nqT1 gt2 g8 gt1 g7 g2 gt0 g0 g6 g5 g4 b ⟨⟨_, PySem.W.mg_of X G co_MOST_LETTERS⟩, ⟨_, PySem.W.mg_of X G co_MOST_STEPS⟩⟩
section
open PySem.Spec PyProof.Rows
theorem walk {l : PySem.W.OpenLaw} {q : Program} {loose : List Str} {XP : (Str → Option Value) → Heap → Prop} {YP : World → Heap → Prop} {d d0 d1 d2 : DefRec} {K : Params → PySem.W.Frag} (hn : l.most = some 63) (hdf : d.params.defaults = [])
    (hY : ∀ (w : World) (h : Heap), YP w h → (K w.params).In h) (r0 : (recsOf q).find? (fun e => e.name == ("is_name" : Str)) = some d0) (r1 : (recsOf q).find? (fun e => e.name == ("joined" : Str)) = some d1) (r2 : (recsOf q).find? (fun e => e.name == ("law" : Str)) = some d2)
    (F : ∀ (w : World) (mg : Str → Option Value) (fa : Addr) (h : Heap), (K w.params).In h → h.Ns mainGlobals mg → mg d.name = some (.ref fa) →
      ∃ cc0 T0 cc1 T1 cc2 T2 : Addr, PySem.W.tabIn (K w.params) "is_name" = some (cc0, T0) ∧ (K w.params).lookup T0 = none ∧ PySem.W.tabIn (K w.params) "joined" = some (cc1, T1) ∧ (K w.params).lookup T1 = none ∧ PySem.W.tabIn (K w.params) "law" = some (cc2, T2) ∧ (K w.params).lookup T2 = none ∧ ∃ fd : FuncData, (∀ (s : Shared) (v : Value), BindsTo s fd ⟨[v], []⟩ [("_law_script", v)]) ∧ ∀ base : Heap, (K w.params).In base → base.Ns mainGlobals mg → GxR.TabB base mg cc0 T0 → GxR.TabB base mg cc1 T1 → GxR.TabB base mg cc2 T2 → FnOk l.prog w (K w.params) mg base CX0 9 fa fd ["_law_script"] (spLawX (K w.params) T0 T1 T2)) :
    PySem.W.WalkO q loose XP YP l.row.toRowW d [] (fun f vs => PySem.call f vs) := by
  refine Att.attach_callB hn hdf fun w s0 s1 mg mb fa o pm cd doc a vs ns G Y ho hd hcd hmg hobj hints hlen hbits hg => ?_
  have KX := hY w _ Y
  obtain ⟨cc0, T0, cc1, T1, cc2, T2, t0, n0, t1, n1, t2, n2, fd, hb, hF⟩ := F w mg fa _ KX G.T.g hmg
  obtain ⟨e0, f0⟩ := PySem.W.tab_of G.T KX r0 t0
  obtain ⟨e1, f1⟩ := PySem.W.tab_of G.T KX r1 t1
  obtain ⟨e2, f2⟩ := PySem.W.tab_of G.T KX r2 t2
  have each : ∀ {R : Addr × Addr → Prop}, R (cc0, T0) → R (cc1, T1) → R (cc2, T2) → ∀ p ∈ [(cc0, T0), (cc1, T1), (cc2, T2)], R p := by
    intro R h0 h1 h2 p hp
    simp only [List.mem_cons, List.not_mem_nil, or_false] at hp
    rcases hp with hp | hp | hp
    · rw [hp]; exact h0
    · rw [hp]; exact h1
    · rw [hp]; exact h2
  exact LamX.law_callTs (k := 9) (CX := CX0) (cs := [(cc0, T0), (cc1, T1), (cc2, T2)]) (sp := spLawX (K w.params) T0 T1 T2) KX G.T.g G.T.b G.T.builtins G.T.nolimit hg (each f0 f1 f2) (each n0 n1 n2) (each e0 e1 e2) G.T.bmain hobj hints (Nat.le_trans hlen (by decide)) ⟨rfl, by decide, by decide⟩
    (fun base kb gb tb => hF base kb gb (let t := tb (cc0, T0) (by simp); ⟨t.code, t.bm, t.gP⟩) (let t := tb (cc1, T1) (by simp); ⟨t.code, t.bm, t.gP⟩) (let t := tb (cc2, T2) (by simp); ⟨t.code, t.bm, t.gP⟩)) hb
    (fun H hH hS => ⟨a, ns, rfl, hS, hlen, ⟨#[], hH (cc0, T0) (by simp), trivial⟩, ⟨#[], hH (cc1, T1) (by simp), trivial⟩, hH (cc2, T2) (by simp), fun _ => rfl⟩) fun H e s' z => z
end
end Hf
open PySem PySem.W PyProof.Rows
set_option Elab.async false
set_option maxRecDepth 100000 in
set_option maxHeartbeats 0 in
theorem PySem.Challenge.cw_howfar_k06_hands_holds : PySem.Challenge.rw_howfar_k06_hands.Holds := by
  w_on; o_law; k_head; (case hw => w_witness2)
  k_fill
  refine Hf.walk (l := PySem.Challenge.rw_howfar_k06_hands) rfl rfl (fun w h Y => PySem.W.km_in_of Y) rfl rfl rfl ?F
  case F =>
    intro w mg fa h KX G hmg
    refine' Hf.all_mk KX G hmg ?a0 ?l0 ?c0 ?k0 ?lT0 ?a1 ?l1 ?c1 ?k1 ?a2 ?l2 ?c2 ?k2 ?a3 ?l3 ?c3 ?k3 ?a4 ?l4 ?c4 ?k4 ?a5 ?l5 ?c5 ?k5 ?a6 ?l6 ?c6 ?k6 ?a7 ?l7 ?c7 ?k7 ?a8 ?l8 ?c8 ?k8 ?a9 ?l9 ?c9 ?k9 ?co_MOST_LETTERS ?co_MOST_STEPS ?z_isinstance ?z_int ?z_bool ?z_str ?z_list ?z_tuple ?z_dict ?z_len ?z_all ?z_any ?z_set ?z_max ?z_min ?z_range ?z_zip ?z_sum ?z_sorted ?z_abs ?z_enumerate ?lc0 ?vc0 ?nl0 ?lc1 ?vc1 ?nl1 ?lc2 ?vc2 ?nl2 ?nqT0 ?nqT1
    (case a0 => k_is)
    (case a1 => k_is)
    (case a2 => k_is)
    (case a3 => k_is)
    (case a4 => k_is)
    (case a5 => k_is)
    (case a6 => k_is)
    (case a7 => k_is)
    (case a8 => k_is)
    (case a9 => k_is)
    (case l0 => k_is)
    (case l1 => k_is)
    (case l2 => k_is)
    (case l3 => k_is)
    (case l4 => k_is)
    (case l5 => k_is)
    (case l6 => k_is)
    (case l7 => k_is)
    (case l8 => k_is)
    (case l9 => k_is)
    (case lc0 => k_is)
    (case lc1 => k_is)
    (case lc2 => k_is)
    (case vc0 => rfl)
    (case vc1 => rfl)
    (case vc2 => rfl)
    (case c0 => k_is)
    (case k0 => k_is)
    (case lT0 => k_is)
    (case c1 => k_is)
    (case k1 => k_is)
    (case c2 => k_is)
    (case k2 => k_is)
    (case c3 => k_is)
    (case k3 => k_is)
    (case c4 => k_is)
    (case k4 => k_is)
    (case c5 => k_is)
    (case k5 => k_is)
    (case c6 => k_is)
    (case k6 => k_is)
    (case c7 => k_is)
    (case k7 => k_is)
    (case c8 => k_is)
    (case k8 => k_is)
    (case c9 => k_is)
    (case k9 => k_is)
    (case co_MOST_LETTERS => k_is)
    (case co_MOST_STEPS => k_is)
    (case z_isinstance => k_is)
    (case z_int => k_is)
    (case z_bool => k_is)
    (case z_str => k_is)
    (case z_list => k_is)
    (case z_tuple => k_is)
    (case z_dict => k_is)
    (case z_len => k_is)
    (case z_all => k_is)
    (case z_any => k_is)
    (case z_set => k_is)
    (case z_max => k_is)
    (case z_min => k_is)
    (case z_range => k_is)
    (case z_zip => k_is)
    (case z_sum => k_is)
    (case z_sorted => k_is)
    (case z_abs => k_is)
    (case z_enumerate => k_is)
    (case nl0 => rfl)
    (case nl1 => rfl)
    (case nl2 => rfl)
    (case nqT0 => decide)
    (case nqT1 => decide)
