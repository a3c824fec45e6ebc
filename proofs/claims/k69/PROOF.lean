import PyProof.Rows.All
import Wide.All
import OpenK.AllK
import Wide.FinOn
import HandS.ForMost
import HandS.Zip
import HandS.AnyAll
import PyProof.TupleOfGen
import PyProof.GenCompT
import KE.GoesEnum
import HandS.IsInst
import HandS.Walk
import HandS.EndOwn
import HandS.TupMul
import HandS.Wide
import HandS.TupAny
import HandS.SortKw
import KE.DataMinMax
import KE.KEqSeq
import PyProof.StrBlock2
import HandS.Codes
import KE.SortKeyHeap
import HandS.Rev
import HandS.SetFor
import KE.DataFind
import HandS.More
import HandS.Style
import HandS.Star
import HandS.SetBool
import HandS.SetIn
import KE.SortData
import HandS.Strs
import HandS.TupSets
import PySem.Challenge.RW_clusterhall_k69_overborne
set_option Elab.async false
set_option linter.all false
set_option maxRecDepth 100000
set_option maxHeartbeats 2000000
namespace GX
open PySem PySem.Spec PyProof.Rows L2 GxR
/-- what the element of a generator expression meets: its own frame, and all that stood when the walked thing was made, but for the table at P -/
structure Ask (X : Cx) (scope : Scope) (P : Addr) (s1 : Shared) (cenv : Env) (s2 : Shared) (m2 : Str → Option Value) : Prop where
  sc : cenv.scope = scope
  gl : cenv.globals = X.env.globals
  bl : cenv.builtins = builtinsNs
  ce : cenv.cells = cloFrom X.env.cells scope.names []
  ns : s2.heap.Ns cenv.locals m2
  kp : ∀ b o, b ≠ P → s1.heap.get? b = some o → s2.heap.get? b = some o
  tb : ∃ ps, s1.heap.get? P = some { cls := .none, data := .fields ps }
/-- the element, over one name -/
def Elt1 (X : Cx) (scope : Scope) (P : Addr) (x : Str) (elt : Expr) (pre : L2.St → V → Prop) (g : L2.St → V → V) : Prop :=
  ∀ (pins : List (Addr × Obj)) (σ : L2.St) (H : Hp) (s1 : Shared) (cenv : Env) (B : Around) (Er : Value → Shared → Prop) (s2 : Shared) (m2 : Str → Option Value) (v : V) (u : Value),
    Inv X pins σ H s1 → Ask X scope P s1 cenv s2 m2 → B.handled = none → m2 x = some u → RelV v u → pre σ v →
    wpAny (model X.prog X.w) B (eval elt cenv) (fun y s3 => RelV (g σ v) y ∧ Keeps s2 s3) Er s2
/-- the element, over two names -/
def Elt2 (X : Cx) (scope : Scope) (P : Addr) (xa xb : Str) (elt : Expr) (pre : L2.St → V → V → Prop) (g : L2.St → V → V → V) : Prop :=
  ∀ (pins : List (Addr × Obj)) (σ : L2.St) (H : Hp) (s1 : Shared) (cenv : Env) (B : Around) (Er : Value → Shared → Prop) (s2 : Shared) (m2 : Str → Option Value) (v w : V) (u z : Value),
    Inv X pins σ H s1 → Ask X scope P s1 cenv s2 m2 → B.handled = none → m2 xa = some u → m2 xb = some z → RelV v u → RelV w z → pre σ v w →
    wpAny (model X.prog X.w) B (eval elt cenv) (fun y s3 => RelV (g σ v w) y ∧ Keeps s2 s3) Er s2
/-- the walked thing stands ready: its items are vs -/
def Begun (X : Cx) (P : Addr) (s1 : Shared) (vs : List V) (it : Value) (s2 : Shared) : Prop :=
  ∃ (Ia : Addr) (fp wr : List Addr) (Pf : Nat → Value → Prop) (Sf : Nat → Heap → Prop) (h2 : Heap) (t2 : Nat), it = .ref Ia ∧ s2 = { s1 with heap := h2, toks := t2 } ∧ (∀ b o, s1.heap.get? b = some o → h2.get? b = some o) ∧ s1.heap.objs.size ≤ h2.objs.size ∧
    (∀ B : Around, B.handled = none → Walks X.prog X.w B Ia fp wr vs.length Pf Sf) ∧ Sf 0 h2 ∧ (∀ b ∈ fp, b < h2.objs.size ∧ b ≠ P) ∧ (∀ b ∈ wr, s1.heap.objs.size ≤ b) ∧ ∀ i u, Pf i u → ∃ v, vs[i]? = some v ∧ RelV v u
/-- the same, its items pairs -/
def Begun2 (X : Cx) (P : Addr) (s1 : Shared) (vs : List (V × V)) (it : Value) (s2 : Shared) : Prop :=
  ∃ (Ia : Addr) (fp wr : List Addr) (Pf : Nat → Array Value → Prop) (Sf : Nat → Heap → Prop) (Mid : Nat → Addr → Heap → Prop) (h2 : Heap) (t2 : Nat), it = .ref Ia ∧ s2 = { s1 with heap := h2, toks := t2 } ∧ (∀ b o, s1.heap.get? b = some o → h2.get? b = some o) ∧ s1.heap.objs.size ≤ h2.objs.size ∧
    (∀ B : Around, B.handled = none → WalksU X.prog X.w B Ia fp wr vs.length Pf Sf Mid) ∧ Sf 0 h2 ∧ (∀ b ∈ fp, b < h2.objs.size ∧ b ≠ P) ∧ (∀ b ∈ wr, s1.heap.objs.size ≤ b) ∧ ∀ i us, Pf i us → ∃ v w u z, us = #[u, z] ∧ vs[i]? = some (v, w) ∧ RelV v u ∧ RelV w z
/-- a generator at g stands ready in s5; it will give the values of ws; H1: what was held before -/
def Ready (X : Cx) (pins : List (Addr × Obj)) (σ : L2.St) (H1 : Hp) (P : Addr) (ws : List V) (g : Addr) (s5 : Shared) : Prop :=
  ∃ (fp wr : List Addr) (G : Array GenState → Array GenState → Prop) (F : Nat → Value → Prop) (Sf : Nat → Shared → Prop),
    WalksS X.prog X.w X.A.in4 g fp wr G ws.length F Sf ∧ Sf 0 s5 ∧ (∀ b ∈ fp, b < s5.heap.objs.size) ∧ g ∈ fp ∧ (∀ i s9, Sf i s9 → s9.TypeIs (.ref g) "generator") ∧ (∀ j y, F j y → ∃ v, ws[j]? = some v ∧ RelV v y) ∧
    ∀ s', Moved wr G s5 s' → ∃ H2, Tabbed P H1 H2 ∧ Inv X pins σ H2 s'
/-- what the scope of a generator expression, with its first name x, is, within a def of the scope sc -/
structure GenV (sc scope : Scope) (x : Str) : Prop where
  kind : scope.kind = .function
  co : scope.isCoroutine = false
  cell : ∀ y ∈ scope.names, y.2 ≠ .cell
  dot : scope.names.lookup (".0" : Str) = some NameKind.local
  loc : scope.names.lookup x = some .local
  free : ∀ y ∈ scope.names, y.2 = .free → sc.names.lookup y.1 = some .cell ∨ sc.names.lookup y.1 = some .free
section
variable {X : Cx} {pins : List (Addr × Obj)} {σ : L2.St} {H : Hp} {s : Shared}
theorem GenV.to {scope : Scope} {x : Str} (S : GenV X.env.scope scope x) (I : Inv X pins σ H s) : GenS X.env scope x :=
  ⟨S.kind, S.co, S.cell, S.dot, S.loc, fun y hy e => by
    rcases S.free y hy e with k | k
    · exact I.ok.has _ (.inl k)
    · exact I.ok.has _ (.inr k)⟩
theorem all_pass (n : Nat) : passing (fun _ => true) n 0 = List.range n := by
  simp [passing]
theorem gen1 {c P : Addr} {elt iter : Expr} {x : Str} {px gpos : Pos} {scope : Scope} {pre : L2.St → V → Prop} {g : L2.St → V → V} {k : Nat} {Qg : Value → Shared → Prop}
    (hr : Room k X.A) (TB : TabB X.base X.mg c P) (hcode : X.env.code = .ref c) (S : GenS X.env scope x) (hel : Elt1 X scope P x elt pre g) (hs : ∀ v, genFold iter X.env v = pure v)
    (h : wpAny (model X.prog X.w) X.A (eval iter X.env) (fun xv sA => ∃ H1 s1, Inv X pins σ H1 s1 ∧ TabG H1 P ∧
      wpAny (model X.prog X.w) X.A (pyIter xv) (fun it s2 => ∃ vs, Begun X P s1 vs it s2 ∧ (∀ v ∈ vs, pre σ v) ∧ ∀ a s5, Ready X pins σ H1 P (vs.map (g σ)) a s5 → Qg (.ref a) s5) X.xe sA) X.xe s) :
    wpAny (model X.prog X.w) X.A (eval (.GeneratorExp elt [⟨.Name x px, iter, [], 0⟩] scope gpos) X.env) Qg X.xe s := by
  refine wpAny_GeneratorExp_walksQ hr.hd S.co (closure_ok S.free) S.cell S.dot S.loc S.kind (by have := hr.dp; omega) ?_ hs
  refine wpAny_mono h (fun xv sA h1 => ?_) (fun _ _ e => e)
  obtain ⟨H1, s1, I1, ⟨ps, hP, ht⟩, hit⟩ := h1
  refine wpAny_mono hit (fun it s2 h2 => ?_) (fun _ _ e => e)
  obtain ⟨vs, ⟨Ia, fp, wr, Pf, Sf, hp2, t2, rfl, rfl, kp, sz, W, st0, hfp, hwr, hPf⟩, hpre, hQ⟩ := h2
  have tabS : s1.heap.get? P = some { cls := .none, data := .fields ps } := I1.hok P _ hP
  have tabL : P < s1.heap.objs.size := Heap.lt_size tabS
  have tab2 : hp2.get? P = some { cls := .none, data := .fields ps } := kp _ _ tabS
  have cd : PySem.W.CodeHd hp2 c P := TB.code.keeps fun b u e => kp b u (I1.bk b u e)
  have lim : hp2.NoLimit := I1.nolimit.keeps kp
  refine ⟨lim, ?_⟩
  have cont : ∀ (code : Value) (h3 : Heap) (tk : Nat) (ps' : Array Value), Heap.ExtBut P hp2 h3 → hp2.objs.size ≤ h3.objs.size → h3.get? P = some { cls := .none, data := .fields ps' } → (∃ more, ps' = ps ++ more) → TriplesOk ps'.toList →
      wpAny (model X.prog X.w) X.A (builtinsFor X.env.globals X.env.builtins) (fun bi s4 =>
        ∃ I fp wr n0 P0 St0 pz F, Value.ref Ia = .ref I ∧ (∀ B : Around, B.handled = none → Walks X.prog X.w B I fp wr n0 P0 St0) ∧ St0 0 s4.heap ∧ (∀ b ∈ fp, b < s4.heap.objs.size) ∧ s4.heap.NoLimit ∧ cStatics ∉ wr ∧
          (∀ hf : Heap, (∀ b o, s4.heap.get? b = some o → hf.get? b = some o) →
            QuietGen X.prog X.w (genEnv scope (cloFrom X.env.cells scope.names []) s4.heap.objs.size code bi X.env) x [] elt (List.range s4.heap.objs.size) wr P0 pz F hf) ∧
          (∀ a h5 tk gs, gs.bare = true → s4.heap.objs.size < a → h5.objs.size = a + 1 → (∀ b o, s4.heap.get? b = some o → h5.get? b = some o) →
            WalksS X.prog X.w X.A.in4 a (a :: s4.heap.objs.size :: List.range s4.heap.objs.size) (s4.heap.objs.size :: wr) (GenOnlyQ s4.gens.size) (passing pz n0 0).length
              (fun j y => ∃ i, (passing pz n0 0)[j]? = some i ∧ F i y) (GenAt X.prog X.w X.A.in4 a s4.gens.size s4.heap.objs.size (List.range s4.heap.objs.size) wr pz n0 F) →
            GenAt X.prog X.w X.A.in4 a s4.gens.size s4.heap.objs.size (List.range s4.heap.objs.size) wr pz n0 F 0 { s4 with gens := s4.gens.push gs, toks := tk, heap := h5 } →
            Qg (.ref a) { s4 with gens := s4.gens.push gs, toks := tk, heap := h5 })) X.xe { s1 with heap := h3, toks := tk } := by
    intro code h3 tk ps' hx hsz hP3 hmore ht3
    obtain ⟨bm, ob, e1, e2, e3, e4, e5, e6, e7, e8⟩ := TB.bm
    have kp3 : ∀ b u, b ≠ P → s1.heap.get? b = some u → h3.get? b = some u := fun b u hb e => hx b u hb (kp b u e)
    have ncs : cStatics < s1.heap.objs.size := let ⟨_, hns, _⟩ := I1.nolimit; hns.lt
    have ncP : cStatics ≠ P := fun e => by
      obtain ⟨_, ⟨o', es, ep, ho, hd, _⟩, _⟩ := I1.nolimit
      rw [e, tabS] at ho
      cases ho
      cases hd
    refine wpAny_builtinsFor (m := X.mg) (by rw [I1.ok.glob]; exact ((I1.mod.glob.keeps I1.bk).keeps kp).extBut hx TB.gP) e1 e2 (kp3 _ _ e4 (I1.bk _ _ e5)) e6 e7 e8 ?_
    refine ⟨Ia, fp, wr, vs.length, Pf, Sf, (fun _ => true), (fun i y => ∃ v, vs[i]? = some v ∧ RelV (g σ v) y), rfl, W, ?_, fun b hb => Nat.lt_of_lt_of_le (hfp b hb).1 hsz, lim.extBut hx ncP, fun z => Nat.lt_irrefl _ (Nat.lt_of_lt_of_le ncs (hwr _ z)), ?_, ?_⟩
    · exact (W X.A hr.hd).frame _ _ _ st0 fun b hb u e => hx b u (hfp b hb).2 e
    · intro hf hkf
      refine ⟨fun B Er i v s2 m2 hB hv hn hm hk => ?_, fun B Er i v s2 m2 hB hv hp hn hm hk => ?_⟩
      · simp only [List.forIn_nil]
        exact wpAny_pure ⟨rfl, keeps_refl _⟩
      · obtain ⟨v', hv', rv⟩ := hPf i v hv
        have ask : Ask X scope P s1 (genEnv scope (cloFrom X.env.cells scope.names []) h3.objs.size code builtinsNs X.env) s2 m2 := by
          refine ⟨rfl, rfl, rfl, rfl, hn, fun b o hb e => ?_, ⟨ps, tabS⟩⟩
          have hl : b < s1.heap.objs.size := Heap.lt_size e
          refine hk b (List.mem_range.mpr (Nat.lt_of_lt_of_le hl (Nat.le_trans sz hsz))) (fun z => ?_) o (hkf b o (kp3 b o hb e))
          exact Nat.lt_irrefl _ (Nat.lt_of_lt_of_le hl (hwr b z))
        exact wpAny_mono (hel pins σ H1 s1 _ B Er s2 m2 v' v I1 ask hB hm rv (hpre v' (List.mem_of_getElem? hv'))) (fun y s3 r => ⟨⟨v', hv', r.1⟩, r.2⟩) fun _ _ e => e
    · intro a h5 tk5 gs hgb hag hsz5 hk5 W5 hat
      simp only [all_pass, List.length_range] at W5
      refine hQ a _ ⟨_, _, _, _, _, by rw [List.length_map]; exact W5, hat, fun b hb => ?_, List.mem_cons_self, fun i s9 st => ?_, fun j y hy => ?_, fun s' hm => ?_⟩
      · show b < h5.objs.size
        rcases List.mem_cons.mp hb with z | z
        · rw [z, hsz5]
          exact Nat.lt_succ_self _
        · rcases List.mem_cons.mp z with z | z
          · rw [z, hsz5]
            exact Nat.lt_succ_of_lt hag
          · rw [hsz5]
            exact Nat.lt_succ_of_lt (Nat.lt_trans (List.mem_range.mp z) hag)
      · exact st.1.typeIs
      · obtain ⟨i, hij, v, hv, ry⟩ := hy
        obtain ⟨hj, ej⟩ := List.getElem?_eq_some_iff.mp hij
        rw [List.getElem_range] at ej
        subst ej
        exact ⟨g σ v, by rw [List.getElem?_map, hv]; rfl, ry⟩
      · obtain ⟨more, em⟩ := hmore
        have nwr : ∀ b u, s1.heap.get? b = some u → b ∉ h3.objs.size :: wr := fun b u e hb => by
          have hl := Heap.lt_size e
          rcases List.mem_cons.mp hb with z | z
          · rw [z] at hl
            exact Nat.lt_irrefl _ (Nat.lt_of_lt_of_le hl (Nat.le_trans sz hsz))
          · exact Nat.lt_irrefl _ (Nat.lt_of_lt_of_le hl (hwr b z))
        have J := inv_tab (more := more) (h' := s'.heap) (g' := s'.gens) (d' := s'.drawn) (t' := s'.toks) I1 hP (fun b u hb e => hm.heap b u (nwr b u e) (hk5 b u (kp3 b u hb e)))
          (by rw [← em]; exact hm.heap P _ (nwr P _ tabS) (hk5 P _ hP3)) (AllBare.movedS (I1.bare.push hgb) hm)
        rw [sh_eta s1 s' hm.os] at J
        exact ⟨upd H1 P (.tbl (ps ++ more)), ⟨⟨ps ++ more, upd_same, by rw [← em]; exact ht3⟩, fun b hb => upd_ne hb⟩, J⟩
  cases hf : codeAmong gpos ps.toList with
  | none =>
    refine wpAny_genexprCodeX hcode (cd.code tab2 ht) (cd.tab tab2) hf fun c' h' tk hx hge hlt hco' _ htab' _ => ?_
    obtain ⟨o1, us, f1, tf, fl, tg, inF, tx, tt, op, _, _, _, _, _, _, _, _, _, htr, _⟩ := hco'
    exact cont _ h' tk _ hx (Nat.le_trans hge (Nat.le_of_lt hlt)) htab'.2 ⟨_, rfl⟩ htr
  | some cv =>
    refine wpAny_genexprCode_hit hcode (cd.code tab2 ht) hf ?_
    exact cont cv hp2 t2 ps (Heap.ExtBut.refl _ _) (Nat.le_refl _) tab2 ⟨#[], by simp⟩ ht
theorem gen2 {c P : Addr} {elt iter : Expr} {xa xb : Str} {pa pb pt gpos : Pos} {kt : Nat} {scope : Scope} {pre : L2.St → V → V → Prop} {g : L2.St → V → V → V} {k : Nat} {Qg : Value → Shared → Prop}
    (hr : Room k X.A) (TB : TabB X.base X.mg c P) (hcode : X.env.code = .ref c) (S : GenS X.env scope xa) (Sb : scope.names.lookup xb = some .local) (hab : xa ≠ xb) (hel : Elt2 X scope P xa xb elt pre g) (hs : ∀ v, genFold iter X.env v = pure v)
    (h : wpAny (model X.prog X.w) X.A (eval iter X.env) (fun xv sA => ∃ H1 s1, Inv X pins σ H1 s1 ∧ TabG H1 P ∧
      wpAny (model X.prog X.w) X.A (pyIter xv) (fun it s2 => ∃ vs, Begun2 X P s1 vs it s2 ∧ (∀ v ∈ vs, pre σ v.1 v.2) ∧ ∀ a s5, Ready X pins σ H1 P (vs.map fun v => g σ v.1 v.2) a s5 → Qg (.ref a) s5) X.xe sA) X.xe s) :
    wpAny (model X.prog X.w) X.A (eval (.GeneratorExp elt [⟨.Tuple [.Name xa pa, .Name xb pb] kt pt, iter, [], 0⟩] scope gpos) X.env) Qg X.xe s := by
  refine wpAny_GeneratorExp_walksQT hr.hd S.co (closure_ok S.free) S.cell S.dot S.loc Sb hab S.kind (by have := hr.dp; omega) ?_ hs
  refine wpAny_mono h (fun xv sA h1 => ?_) (fun _ _ e => e)
  obtain ⟨H1, s1, I1, ⟨ps, hP, ht⟩, hit⟩ := h1
  refine wpAny_mono hit (fun it s2 h2 => ?_) (fun _ _ e => e)
  obtain ⟨vs, ⟨Ia, fp, wr, Pf, Sf, Mid, hp2, t2, rfl, rfl, kp, sz, W, st0, hfp, hwr, hPf⟩, hpre, hQ⟩ := h2
  have tabS : s1.heap.get? P = some { cls := .none, data := .fields ps } := I1.hok P _ hP
  have tabL : P < s1.heap.objs.size := Heap.lt_size tabS
  have tab2 : hp2.get? P = some { cls := .none, data := .fields ps } := kp _ _ tabS
  have cd : PySem.W.CodeHd hp2 c P := TB.code.keeps fun b u e => kp b u (I1.bk b u e)
  have lim : hp2.NoLimit := I1.nolimit.keeps kp
  refine ⟨lim, ?_⟩
  have cont : ∀ (code : Value) (h3 : Heap) (tk : Nat) (ps' : Array Value), Heap.ExtBut P hp2 h3 → hp2.objs.size ≤ h3.objs.size → h3.get? P = some { cls := .none, data := .fields ps' } → (∃ more, ps' = ps ++ more) → TriplesOk ps'.toList →
      wpAny (model X.prog X.w) X.A (builtinsFor X.env.globals X.env.builtins) (fun bi s4 =>
        ∃ I fp wr n0 P0 St0 M0 pz F, Value.ref Ia = .ref I ∧ (∀ B : Around, B.handled = none → WalksU X.prog X.w B I fp wr n0 P0 St0 M0) ∧ (∀ i vals, P0 i vals → ∃ va vb, vals = #[va, vb]) ∧ St0 0 s4.heap ∧ (∀ b ∈ fp, b < s4.heap.objs.size) ∧ s4.heap.NoLimit ∧ cStatics ∉ wr ∧
          (∀ hf : Heap, (∀ b o, s4.heap.get? b = some o → hf.get? b = some o) →
            QuietGenT X.prog X.w (genEnv scope (cloFrom X.env.cells scope.names []) s4.heap.objs.size code bi X.env) xa xb [] elt (List.range s4.heap.objs.size) wr P0 pz F hf) ∧
          (∀ a h5 tk gs, gs.bare = true → s4.heap.objs.size < a → h5.objs.size = a + 1 → (∀ b o, s4.heap.get? b = some o → h5.get? b = some o) →
            WalksS X.prog X.w X.A.in4 a (a :: s4.heap.objs.size :: List.range s4.heap.objs.size) (s4.heap.objs.size :: wr) (GenOnlyQ s4.gens.size) (passing pz n0 0).length
              (fun j y => ∃ i, (passing pz n0 0)[j]? = some i ∧ F i y) (GenAt X.prog X.w X.A.in4 a s4.gens.size s4.heap.objs.size (List.range s4.heap.objs.size) wr pz n0 F) →
            GenAt X.prog X.w X.A.in4 a s4.gens.size s4.heap.objs.size (List.range s4.heap.objs.size) wr pz n0 F 0 { s4 with gens := s4.gens.push gs, toks := tk, heap := h5 } →
            Qg (.ref a) { s4 with gens := s4.gens.push gs, toks := tk, heap := h5 })) X.xe { s1 with heap := h3, toks := tk } := by
    intro code h3 tk ps' hx hsz hP3 hmore ht3
    obtain ⟨bm, ob, e1, e2, e3, e4, e5, e6, e7, e8⟩ := TB.bm
    have kp3 : ∀ b u, b ≠ P → s1.heap.get? b = some u → h3.get? b = some u := fun b u hb e => hx b u hb (kp b u e)
    have ncs : cStatics < s1.heap.objs.size := let ⟨_, hns, _⟩ := I1.nolimit; hns.lt
    have ncP : cStatics ≠ P := fun e => by
      obtain ⟨_, ⟨o', es, ep, ho, hd, _⟩, _⟩ := I1.nolimit
      rw [e, tabS] at ho
      cases ho
      cases hd
    refine wpAny_builtinsFor (m := X.mg) (by rw [I1.ok.glob]; exact ((I1.mod.glob.keeps I1.bk).keeps kp).extBut hx TB.gP) e1 e2 (kp3 _ _ e4 (I1.bk _ _ e5)) e6 e7 e8 ?_
    refine ⟨Ia, fp, wr, vs.length, Pf, Sf, Mid, (fun _ => true), (fun i y => ∃ v, vs[i]? = some v ∧ RelV (g σ v.1 v.2) y), rfl, W, (fun i vals hv => by obtain ⟨_, _, u, z, e, _⟩ := hPf i vals hv; exact ⟨u, z, e⟩), ?_, fun b hb => Nat.lt_of_lt_of_le (hfp b hb).1 hsz, lim.extBut hx ncP, fun z => Nat.lt_irrefl _ (Nat.lt_of_lt_of_le ncs (hwr _ z)), ?_, ?_⟩
    · exact (W X.A hr.hd).frame _ _ _ st0 fun b hb u e => hx b u (hfp b hb).2 e
    · intro hf hkf
      refine ⟨fun B Er i va vb s2 m2 hB hv hn hm hm' hk => ?_, fun B Er i va vb s2 m2 hB hv hp hn hm hm' hk => ?_⟩
      · simp only [List.forIn_nil]
        exact wpAny_pure ⟨rfl, keeps_refl _⟩
      · obtain ⟨v', w', u', z', eq, hv', rv, rw'⟩ := hPf i _ hv
        obtain ⟨rfl, rfl⟩ : va = u' ∧ vb = z' := by simpa using congrArg Array.toList eq
        have ask : Ask X scope P s1 (genEnv scope (cloFrom X.env.cells scope.names []) h3.objs.size code builtinsNs X.env) s2 m2 := by
          refine ⟨rfl, rfl, rfl, rfl, hn, fun b o hb e => ?_, ⟨ps, tabS⟩⟩
          have hl : b < s1.heap.objs.size := Heap.lt_size e
          refine hk b (List.mem_range.mpr (Nat.lt_of_lt_of_le hl (Nat.le_trans sz hsz))) (fun z => ?_) o (hkf b o (kp3 b o hb e))
          exact Nat.lt_irrefl _ (Nat.lt_of_lt_of_le hl (hwr b z))
        exact wpAny_mono (hel pins σ H1 s1 _ B Er s2 m2 v' w' va vb I1 ask hB hm hm' rv rw' (hpre (v', w') (List.mem_of_getElem? hv'))) (fun y s3 r => ⟨⟨(v', w'), hv', r.1⟩, r.2⟩) fun _ _ e => e
    · intro a h5 tk5 gs hgb hag hsz5 hk5 W5 hat
      simp only [all_pass, List.length_range] at W5
      refine hQ a _ ⟨_, _, _, _, _, by rw [List.length_map]; exact W5, hat, fun b hb => ?_, List.mem_cons_self, fun i s9 st => ?_, fun j y hy => ?_, fun s' hm => ?_⟩
      · show b < h5.objs.size
        rcases List.mem_cons.mp hb with z | z
        · rw [z, hsz5]
          exact Nat.lt_succ_self _
        · rcases List.mem_cons.mp z with z | z
          · rw [z, hsz5]
            exact Nat.lt_succ_of_lt hag
          · rw [hsz5]
            exact Nat.lt_succ_of_lt (Nat.lt_trans (List.mem_range.mp z) hag)
      · exact st.1.typeIs
      · obtain ⟨i, hij, v, hv, ry⟩ := hy
        obtain ⟨hj, ej⟩ := List.getElem?_eq_some_iff.mp hij
        rw [List.getElem_range] at ej
        subst ej
        exact ⟨g σ v.1 v.2, by rw [List.getElem?_map, hv]; rfl, ry⟩
      · obtain ⟨more, em⟩ := hmore
        have nwr : ∀ b u, s1.heap.get? b = some u → b ∉ h3.objs.size :: wr := fun b u e hb => by
          have hl := Heap.lt_size e
          rcases List.mem_cons.mp hb with z | z
          · rw [z] at hl
            exact Nat.lt_irrefl _ (Nat.lt_of_lt_of_le hl (Nat.le_trans sz hsz))
          · exact Nat.lt_irrefl _ (Nat.lt_of_lt_of_le hl (hwr b z))
        have J := inv_tab (more := more) (h' := s'.heap) (g' := s'.gens) (d' := s'.drawn) (t' := s'.toks) I1 hP (fun b u hb e => hm.heap b u (nwr b u e) (hk5 b u (kp3 b u hb e)))
          (by rw [← em]; exact hm.heap P _ (nwr P _ tabS) (hk5 P _ hP3)) (AllBare.movedS (I1.bare.push hgb) hm)
        rw [sh_eta s1 s' hm.os] at J
        exact ⟨upd H1 P (.tbl (ps ++ more)), ⟨⟨ps ++ more, upd_same, by rw [← em]; exact ht3⟩, fun b hb => upd_ne hb⟩, J⟩
  cases hf : codeAmong gpos ps.toList with
  | none =>
    refine wpAny_genexprCodeX hcode (cd.code tab2 ht) (cd.tab tab2) hf fun c' h' tk hx hge hlt hco' _ htab' _ => ?_
    obtain ⟨o1, us, f1, tf, fl, tg, inF, tx, tt, op, _, _, _, _, _, _, _, _, _, htr, _⟩ := hco'
    exact cont _ h' tk _ hx (Nat.le_trans hge (Nat.le_of_lt hlt)) htab'.2 ⟨_, rfl⟩ htr
  | some cv =>
    refine wpAny_genexprCode_hit hcode (cd.code tab2 ht) hf ?_
    exact cont cv hp2 t2 ps (Heap.ExtBut.refl _ _) (Nat.le_refl _) tab2 ⟨#[], by simp⟩ ht
/-- a generator expression: it will give the list that the reading hands on -/
structure PGn (X : Cx) (P : Addr) (ge : Expr) (t : L2.St → Hp → (List V → Hp → Prop) → Prop) : Prop where
  run : ∀ (pins : List (Addr × Obj)) (s : Shared) (σ : L2.St) (H : Hp) (R : List V → Hp → Prop) (Qg : Value → Shared → Prop), Inv X pins σ H s → t σ H R →
    (∀ ws H1 a s5, R ws H1 → Ready X pins σ H1 P ws a s5 → Qg (.ref a) s5) → wpAny (model X.prog X.w) X.A (eval ge X.env) Qg X.xe s
/-- over the signs of a text -/
theorem pgn_str {c P : Addr} {elt iter : Expr} {x : Str} {px gpos : Pos} {scope : Scope} {pre : L2.St → V → Prop} {g : L2.St → V → V} {k : Nat} {te : TE}
    (hr : Room k X.A) (TB : TabB X.base X.mg c P) (hcode : X.env.code = .ref c) (S : GenV X.env.scope scope x) (hi : PE X iter te) (hel : Elt1 X scope P x elt pre g) (hs : ∀ v, genFold iter X.env v = pure v) :
    PGn X P (.GeneratorExp elt [⟨.Name x px, iter, [], 0⟩] scope gpos) (fun σ H R => te σ H fun v H1 => ∃ a : Str, v = .str a ∧ TabG H1 P ∧ (∀ c ∈ a.cps.toList, pre σ (.str ⟨#[c]⟩)) ∧ R (a.cps.toList.map fun c => g σ (.str ⟨#[c]⟩)) H1) := by
  refine ⟨fun pins s σ H R Qg I h hQ => gen1 (pins := pins) (σ := σ) hr TB hcode (S.to I) hel hs ?_⟩
  refine thn (hi.run pins s σ H _ I h) fun xv s1 ⟨v, H1, I1, r1, a, ea, hT, hp, q1⟩ => ?_
  subst ea
  obtain ⟨t, rfl⟩ := r1
  refine ⟨H1, s1, I1, hT, wpAny_pyIter_str fun o Sf W hst => ⟨a.cps.toList.map fun c => .str ⟨#[c]⟩, ?_, ?_, fun b s5 hR => ?_⟩⟩
  · obtain ⟨ps, hP, _⟩ := hT
    have tabL : P < s1.heap.objs.size := Heap.lt_size (I1.hok P _ hP)
    refine ⟨s1.heap.objs.size, [s1.heap.objs.size], [s1.heap.objs.size], SignAt a, Sf, s1.heap.push o, s1.toks, rfl, rfl, fun b u e => Heap.get?_push_of_some _ e, ?_, ?_, hst, fun b hb => ?_, fun b hb => ?_, fun i u hu => ?_⟩
    · rw [Heap.size_push]
      exact Nat.le_succ _
    · rw [List.length_map, Array.length_toList]
      exact W
    · rw [List.mem_singleton.mp hb, Heap.size_push]
      exact ⟨Nat.lt_succ_self _, fun z => Nat.ne_of_lt tabL z.symm⟩
    · rw [List.mem_singleton.mp hb]
      exact Nat.le_refl _
    · obtain ⟨cc, tt, hc, rfl⟩ := hu
      refine ⟨.str ⟨#[cc]⟩, ?_, tt, rfl⟩
      rw [List.getElem?_map, Array.getElem?_toList, hc]
      rfl
  · intro v hv
    obtain ⟨cc, hc, rfl⟩ := List.mem_map.mp hv
    exact hp cc hc
  · rw [List.map_map] at hR
    exact hQ _ H1 b s5 q1 hR
/-- over the items of a tuple -/
theorem pgn_tup {c P : Addr} {elt iter : Expr} {x : Str} {px gpos : Pos} {scope : Scope} {pre : L2.St → V → Prop} {g : L2.St → V → V} {k : Nat} {te : TE}
    (hr : Room k X.A) (TB : TabB X.base X.mg c P) (hcode : X.env.code = .ref c) (S : GenV X.env.scope scope x) (hi : PE X iter te) (hel : Elt1 X scope P x elt pre g) (hs : ∀ v, genFold iter X.env v = pure v) :
    PGn X P (.GeneratorExp elt [⟨.Name x px, iter, [], 0⟩] scope gpos) (fun σ H R => te σ H fun v H1 => ∃ (a : Addr) (xs : List V), v = .ref a ∧ SqT X.K H1 a xs ∧ TabG H1 P ∧ (∀ v ∈ xs, pre σ v) ∧ R (xs.map (g σ)) H1) := by
  refine ⟨fun pins s σ H R Qg I h hQ => gen1 (pins := pins) (σ := σ) hr TB hcode (S.to I) hel hs ?_⟩
  refine thn (hi.run pins s σ H _ I h) fun xv s1 ⟨v, H1, I1, r1, a, xs, ea, hX, hT, hp, q1⟩ => ?_
  subst ea
  obtain rfl : xv = Value.ref a := r1
  obtain ⟨its, rv, pt, _⟩ := I1.tuple hX
  obtain ⟨ot, hot, hoc, hod⟩ := _root_.id pt
  have aL : a < s1.heap.objs.size := Heap.lt_size hot
  refine ⟨H1, s1, I1, hT, wpAny_pyIter_tuple pt ⟨xs, ?_, hp, fun b s5 hR => hQ _ H1 b s5 q1 hR⟩⟩
  obtain ⟨ps, hP, _⟩ := hT
  have tabS := I1.hok P _ hP
  have tabL : P < s1.heap.objs.size := Heap.lt_size tabS
  have hn : xs.length = its.toArray.size := by rw [rv.length, List.size_toArray]
  have W := fun (B : Around) (hB : B.handled = none) => Walks.tuple (prog := X.prog) (w := X.w) (A := B) hB s1.heap.objs.size a (Nat.ne_of_lt aL) its.toArray
  rw [← hn] at W
  refine ⟨s1.heap.objs.size, [s1.heap.objs.size, a], [s1.heap.objs.size], _, _, _, s1.toks, rfl, rfl, fun b u e => Heap.get?_push_of_some _ e, ?_, W, ⟨⟨_, Heap.get?_push_size _ rfl, rfl, rfl⟩, ⟨ot, Heap.get?_push_of_some _ hot, hoc, hod⟩⟩, fun b hb => ?_, fun b hb => ?_, fun i u hu => ?_⟩
  · rw [Heap.size_push]
    exact Nat.le_succ _
  · rw [Heap.size_push]
    rcases List.mem_cons.mp hb with z | z
    · rw [z]
      exact ⟨Nat.lt_succ_self _, fun z => Nat.ne_of_lt tabL z.symm⟩
    · rw [List.mem_singleton.mp z]
      refine ⟨Nat.lt_succ_of_lt aL, fun z2 => ?_⟩
      have e2 : s1.heap.get? P = some ot := by rw [← z2]; exact hot
      have e3 := e2.symm.trans tabS
      cases e3
      cases hoc
  · rw [List.mem_singleton.mp hb]
    exact Nat.le_refl _
  · have hu2 : its[i]? = some u := by simpa using hu
    have hi2 : i < its.length := (List.getElem?_eq_some_iff.mp hu2).1
    have hi3 : i < xs.length := by rw [rv.length]; exact hi2
    obtain ⟨u', hu', ru⟩ := rv.get (List.getElem?_eq_getElem hi3)
    rw [hu2] at hu'
    cases hu'
    exact ⟨_, List.getElem?_eq_getElem hi3, ru⟩
/-- over zip of two tuples -/
theorem pgn_zip {c P : Addr} {elt e1 e2 : Expr} {xa xb : Str} {pa pb pt gpos pz pn : Pos} {kt : Nat} {scope : Scope} {pre : L2.St → V → V → Prop} {g : L2.St → V → V → V} {k : Nat} {ta : TA}
    (hr : Room k X.A) (TB : TabB X.base X.mg c P) (hcode : X.env.code = .ref c) (S : GenV X.env.scope scope xa) (Sb : scope.names.lookup xb = some .local) (hab : xa ≠ xb) (hg : Gl X "zip") (hm : X.mg "zip" = none) (ha : PA X [e1, e2] ta) (hel : Elt2 X scope P xa xb elt pre g)
    (hs : ∀ v, genFold (.Call (.Name "zip" pn) [e1, e2] [] pz) X.env v = pure v)
    (he : starEach [e1, e2] X.env = (false, eval e1 X.env) :: starEach [e2] X.env := by rfl) (hpl : (backTo pz (starEach [e2] X.env)).any (·.1) = false := by rfl) :
    PGn X P (.GeneratorExp elt [⟨.Tuple [.Name xa pa, .Name xb pb] kt pt, .Call (.Name "zip" pn) [e1, e2] [] pz, [], 0⟩] scope gpos)
      (fun σ H R => ta σ H fun vs H1 => ∃ (a b : Addr) (xs ys : List V), vs = [.ref a, .ref b] ∧ SqT X.K H1 a xs ∧ SqT X.K H1 b ys ∧ TabG H1 P ∧ (∀ v ∈ xs.zip ys, pre σ v.1 v.2) ∧ R ((xs.zip ys).map fun v => g σ v.1 v.2) H1) := by
  refine ⟨fun pins s σ H R Qg I h hQ => gen2 (pins := pins) (σ := σ) hr TB hcode (S.to I) Sb hab hel hs ?_⟩
  refine Call_ (ld_blt I hg hm PyProof.Rows.boot_zip (PyProof.Rows.callWith_type1 (thn (ha.run pz pins s σ H _ I h) fun us s1 ⟨vs, H1, I1, r1, q1⟩ => ?_) he hpl))
  obtain ⟨a, b, xs, ys, ex, hX, hY, hT, hp, q1⟩ := q1
  subst ex
  obtain ⟨u1, u2, rfl, ra, rb⟩ := vals2 r1
  obtain rfl : u1 = Value.ref a := ra
  obtain rfl : u2 = Value.ref b := rb
  obtain ⟨its, rv, p1, _⟩ := I1.tuple hX
  obtain ⟨jts, rw', p2, _⟩ := I1.tuple hY
  obtain ⟨o1, ho1, oc1, od1⟩ := _root_.id p1
  obtain ⟨o2, ho2, oc2, od2⟩ := _root_.id p2
  have aL : a < s1.heap.objs.size := Heap.lt_size ho1
  have bL : b < s1.heap.objs.size := Heap.lt_size ho2
  refine RZ.call_zipT (show s1.heap.IsTuple a its.toArray from p1) (show s1.heap.IsTuple b jts.toArray from p2) fun h' hz hTI hTO h1 h2 hsz hk => ?_
  refine ⟨H1, s1, I1, hT, wpAny_pyIter_zip hz ⟨xs.zip ys, ?_, hp, fun w s5 hR => hQ _ H1 w s5 q1 hR⟩⟩
  obtain ⟨ps, hP, _⟩ := hT
  have tabS := I1.hok P _ hP
  have tabL : P < s1.heap.objs.size := Heap.lt_size tabS
  have ne1 : a ≠ P := fun z2 => by
    have e2 : s1.heap.get? P = some o1 := by rw [← z2]; exact ho1
    have e3 := e2.symm.trans tabS
    cases e3
    cases oc1
  have ne2 : b ≠ P := fun z2 => by
    have e2 : s1.heap.get? P = some o2 := by rw [← z2]; exact ho2
    have e3 := e2.symm.trans tabS
    cases e3
    cases oc2
  have W := fun (B : Around) (hB : B.handled = none) => (WalksT.zipD2 (prog := X.prog) (w := X.w) (A := B)
    (zip_sep2 (N := s1.heap.objs.size) (fp1 := [a]) (fp2 := [b]) (fun c hc => by rw [List.mem_singleton.mp hc]; exact aL) (fun c hc => by rw [List.mem_singleton.mp hc]; exact bL))
    (Draws.tuple (A := B.in1) hB s1.heap.objs.size a (Nat.ne_of_lt aL) its.toArray) (Draws.tuple (A := B.in1) hB (s1.heap.objs.size + 1) b (Nat.ne_of_lt (Nat.lt_succ_of_lt bL)) jts.toArray)).toU
  have hn : (xs.zip ys).length = min its.toArray.size jts.toArray.size := by rw [List.length_zip, rv.length, rw'.length, List.size_toArray, List.size_toArray]
  rw [← hn] at W
  refine ⟨_, _, _, _, _, _, h', s1.toks, rfl, rfl, hk, by rw [hsz]; exact Nat.le_add_right _ _, W, ⟨hz, hTI, ⟨_, _, hTO⟩, ⟨h1, ⟨o1, hk _ _ ho1, oc1, od1⟩⟩, ⟨h2, ⟨o2, hk _ _ ho2, oc2, od2⟩⟩⟩, fun d hd => ?_, fun d hd => ?_, fun i us hu => ?_⟩
  · rw [hsz]
    have hd2 : d = s1.heap.objs.size + 4 ∨ d = s1.heap.objs.size + 2 ∨ d = s1.heap.objs.size + 3 ∨ d = s1.heap.objs.size ∨ d = a ∨ d = s1.heap.objs.size + 1 ∨ d = b := by simpa using hd
    rcases hd2 with z | z | z | z | z | z | z
    · rw [z]; exact ⟨Nat.add_lt_add_left (by decide) _, fun q => Nat.lt_irrefl _ (Nat.lt_of_le_of_lt (Nat.le_add_right _ 4) (q ▸ tabL))⟩
    · rw [z]; exact ⟨Nat.add_lt_add_left (by decide) _, fun q => Nat.lt_irrefl _ (Nat.lt_of_le_of_lt (Nat.le_add_right _ 2) (q ▸ tabL))⟩
    · rw [z]; exact ⟨Nat.add_lt_add_left (by decide) _, fun q => Nat.lt_irrefl _ (Nat.lt_of_le_of_lt (Nat.le_add_right _ 3) (q ▸ tabL))⟩
    · rw [z]; exact ⟨Nat.lt_add_of_pos_right (by decide), fun q => Nat.lt_irrefl _ (q ▸ tabL)⟩
    · rw [z]; exact ⟨Nat.lt_of_lt_of_le aL (Nat.le_add_right _ 5), ne1⟩
    · rw [z]; exact ⟨Nat.add_lt_add_left (by decide) _, fun q => Nat.lt_irrefl _ (Nat.lt_of_le_of_lt (Nat.le_add_right _ 1) (q ▸ tabL))⟩
    · rw [z]; exact ⟨Nat.lt_of_lt_of_le bL (Nat.le_add_right _ 5), ne2⟩
  · have hd2 : d = s1.heap.objs.size + 4 ∨ d = s1.heap.objs.size + 3 ∨ d = s1.heap.objs.size ∨ d = s1.heap.objs.size + 1 := by simpa using hd
    rcases hd2 with z | z | z | z
    · rw [z]; exact Nat.le_add_right _ _
    · rw [z]; exact Nat.le_add_right _ _
    · rw [z]; exact Nat.le_refl _
    · rw [z]; exact Nat.le_add_right _ _
  · obtain ⟨x1, x2, hx1, hx2, rfl⟩ := hu
    have hu2 : its[i]? = some x1 := by simpa using hx1
    have hw2 : jts[i]? = some x2 := by simpa using hx2
    have hi3 : i < xs.length := by rw [rv.length]; exact (List.getElem?_eq_some_iff.mp hu2).1
    have hj3 : i < ys.length := by rw [rw'.length]; exact (List.getElem?_eq_some_iff.mp hw2).1
    obtain ⟨u', hu', ru⟩ := rv.get (List.getElem?_eq_getElem hi3)
    rw [hu2] at hu'
    cases hu'
    obtain ⟨w', hw', rw2⟩ := rw'.get (List.getElem?_eq_getElem hj3)
    rw [hw2] at hw'
    cases hw'
    exact ⟨xs[i], ys[i], _, _, rfl, by rw [List.getElem?_zip_eq_some]; exact ⟨List.getElem?_eq_getElem hi3, List.getElem?_eq_getElem hj3⟩, ru, rw2⟩
/-- all(..) of a generator expression of truth values -/
theorem pe_allG {P : Addr} {ge : Expr} {t : L2.St → Hp → (List V → Hp → Prop) → Prop} {p pos : Pos} (hg : Gl X "all") (hm : X.mg "all" = none) (hb : bootBuiltins "all" = some (.builtin "all")) (G : PGn X P ge t)
    (he : starEach [ge] X.env = (false, eval ge X.env) :: starEach [] X.env := by rfl) :
    PE X (.Call (.Name "all" p) [ge] [] pos) (fun σ H Q => t σ H fun ws H1 => ∃ bs : List Bool, ws = bs.map V.bl ∧ ∀ H2, Tabbed P H1 H2 → Q (.bl (bs.all _root_.id)) H2) := by
  refine ⟨fun pins s σ H Q I h => ?_⟩
  refine wpAny_Call_Name_kw (ld_blt I hg hm hb ?_)
  refine PyProof.Rows.callWith_builtin1 ?_ he (by rfl)
  rw [he]
  refine Calls.spliced_cons (G.run pins s σ H _ _ I h fun ws H1 a s5 hR hG => ?_)
  obtain ⟨fp, wr, Gr, F, Sf, W, hst, hfp, hgm, hty, hF, hI⟩ := hG
  obtain ⟨bs, rfl, q⟩ := hR
  refine Calls.spliced_nil ?_
  refine call_all_walkS (W.in4_1.self 0 _ _ _ hst ⟨a, fp, wr, Gr, _, F, Sf, fun j => bs.getD j false, rfl, W.in4_1, hst, ?_, fun s' hmv => ?_⟩)
  · intro j y sj Qj Ej hy hQj
    obtain ⟨v, hv, rv⟩ := hF j y hy
    rw [List.getElem?_map] at hv
    cases hb : bs[j]? with
    | none => rw [hb] at hv; cases hv
    | some b =>
      rw [hb] at hv
      cases hv
      obtain rfl : y = Value.bool b := rv
      have e : bs.getD j false = b := by rw [List.getD_eq_getElem?_getD, hb]; rfl
      have hQ2 : Qj (bs.getD j false) sj := hQj
      rw [e] at hQ2
      exact wpAny_truthy_bool hQ2
  · obtain ⟨H2, hT, J⟩ := hI s' hmv
    refine ⟨.bl _, H2, J, rfl, ?_⟩
    have e : (List.range (bs.map V.bl).length).all (fun j => bs.getD j false) = bs.all _root_.id := by
      rw [List.length_map, Bool.eq_iff_iff, List.all_eq_true, List.all_eq_true]
      constructor
      · intro hh b hb
        obtain ⟨j, hj, ej⟩ := List.getElem_of_mem hb
        have q2 := hh j (List.mem_range.mpr hj)
        rw [List.getD_eq_getElem?_getD, List.getElem?_eq_getElem hj] at q2
        rw [← ej]
        exact q2
      · intro hh j hj
        have hj' := List.mem_range.mp hj
        rw [List.getD_eq_getElem?_getD, List.getElem?_eq_getElem hj']
        exact hh _ (List.getElem_mem hj')
    rw [e]
    exact q H2 hT
/-- tuple(..) of a generator expression -/
theorem pe_tupG {P : Addr} {ge : Expr} {t : L2.St → Hp → (List V → Hp → Prop) → Prop} {p pos : Pos} (hg : Gl X "tuple") (hm : X.mg "tuple" = none) (hb : bootBuiltins "tuple" = some (.type "tuple")) (G : PGn X P ge t)
    (he : starEach [ge] X.env = (false, eval ge X.env) :: starEach [] X.env := by rfl) :
    PE X (.Call (.Name "tuple" p) [ge] [] pos) (fun σ H Q => t σ H fun ws H1 => ws.length ≤ sizeLine ∧ ∀ H2 d, Tabbed P H1 H2 → H2 d = none → Q (.ref d) (upd H2 d (.tup ws))) := by
  refine ⟨fun pins s σ H Q I h => ?_⟩
  refine wpAny_Call_Name_kw (ld_blt I hg hm hb ?_)
  refine PyProof.Rows.callWith_type1 ?_ he (by rfl)
  rw [he]
  refine Calls.spliced_cons (G.run pins s σ H _ _ I h fun ws H1 a s5 hR hG => ?_)
  obtain ⟨fp, wr, Gr, F, Sf, W, hst, hfp, hgm, hty, hF, hI⟩ := hG
  obtain ⟨hl, q⟩ := hR
  refine Calls.spliced_nil ?_
  refine call_tuple_gen W.in4_3 hty hst hfp hgm (fun s' acc hmv hacc => ?_) hl
  obtain ⟨H2, hT, J⟩ := hI s' hmv
  have rel : Vals ws acc.toList := by
    have key : ∀ (ws : List V) (us : List Value), ws.length = us.length → (∀ (j : Nat) (v : V) (u : Value), ws[j]? = some v → us[j]? = some u → RelV v u) → Vals ws us := by
      intro ws
      induction ws with
      | nil =>
        intro us hl _
        cases us with
        | nil => exact .nil
        | cons u r => cases hl
      | cons v r ih =>
        intro us hl hk
        cases us with
        | nil => cases hl
        | cons u us =>
          refine .cons (hk 0 v u rfl rfl) (ih us (by simpa using hl) fun j v' u' h1 h2 => hk (j + 1) v' u' h1 h2)
    refine key ws acc.toList (hacc.1.symm.trans Array.length_toList.symm) fun j v u h1 h2 => ?_
    have h3 : acc[j]? = some u := by rw [← Array.getElem?_toList]; exact h2
    obtain ⟨v', hv', rv⟩ := hF j u (hacc.2 j u h3)
    rw [h1] at hv'
    cases hv'
    exact rv
  have I2 : Inv X pins σ (upd H2 s'.heap.objs.size (.tup ws)) { s' with heap := s'.heap.push { cls := .type "tuple", data := .seq acc } } :=
    J.laid (t' := s'.toks) (fun b o e => Heap.get?_push_of_some _ e) (Nat.le_refl _) (show ObjOk X.prog X.w _ _ _ (.tup ws) from ⟨hl, acc.toList, rel, by rw [Array.toArray_toList]; exact IsTup.new _ _⟩)
  exact ⟨.ref s'.heap.objs.size, _, I2, rfl, q H2 _ hT (J.hok.fresh (Nat.le_refl _))⟩
end
end GX

set_option maxHeartbeats 2000000
namespace GX
open PySem PySem.Spec PyProof.Rows L2 GxR
section
variable {X : Cx} {scope : Scope} {P : Addr} {pins : List (Addr × Obj)} {σ : L2.St} {H : Hp} {s1 s2 : Shared} {cenv : Env} {m2 : Str → Option Value} {B : Around} {Er : Value → Shared → Prop} {Q : Value → Shared → Prop}
/-- a name of the generator's own -/
theorem own_name {x : Str} {u : Value} {p : Pos} (a : Ask X scope P s1 cenv s2 m2) (hk : scope.kind = .function) (hl : scope.names.lookup x = some .local) (hm : m2 x = some u) (h : Q u s2) (hd : (x == ("__debug__" : Str)) = false := by decide) :
    wpAny (model X.prog X.w) B (eval (.Name x p) cenv) Q Er s2 :=
  wpAny_Name (wpAny_loadName_local (by rw [a.sc]; exact hk) (show cenv.scope.names.lookup x = some .local by rw [a.sc]; exact hl) a.ns hm h) hd
/-- what is still there -/
theorem Ask.step (a : Ask X scope P s1 cenv s2 m2) {s3 : Shared} (k : Keeps s2 s3) : Ask X scope P s1 cenv s3 m2 := by
  obtain ⟨h', tk, rfl, hk⟩ := k
  exact ⟨a.sc, a.gl, a.bl, a.ce, a.ns.keeps hk, fun b o hb e => hk b o (a.kp b o hb e), a.tb⟩
theorem Ask.mod (a : Ask X scope P s1 cenv s2 m2) (I : Inv X pins σ H s1) (gP : mainGlobals ≠ P) : s2.heap.Ns cenv.globals X.mg := by
  rw [a.gl, I.ok.glob]
  exact (I.mod.glob.keeps I.bk).at' fun o e => a.kp _ o gP e
/-- a module's name -/
theorem glob_name {x : Str} {u : Value} {p : Pos} (a : Ask X scope P s1 cenv s2 m2) (I : Inv X pins σ H s1) (gP : mainGlobals ≠ P) (hk : scope.kind = .function) (hl : scope.names.lookup x = some .globalImplicit) (hm : X.mg x = some u) (h : Q u s2) (hd : (x == ("__debug__" : Str)) = false := by decide) :
    wpAny (model X.prog X.w) B (eval (.Name x p) cenv) Q Er s2 :=
  Calls.Name_function_global (by rw [a.sc]; exact hk) (show cenv.scope.names.lookup x = some .globalImplicit by rw [a.sc]; exact hl) (Calls.loadGlobal_global (a.mod I gP) hm h) hd
/-- a built-in name -/
theorem blt_name {x : Str} {u : Value} {p : Pos} (a : Ask X scope P s1 cenv s2 m2) (I : Inv X pins σ H s1) (gP : mainGlobals ≠ P) (hk : scope.kind = .function) (hl : scope.names.lookup x = some .globalImplicit) (hm : X.mg x = none) (hv : bootBuiltins x = some u) (h : Q u s2)
    (hn : x ≠ "__name__" := by decide) (hd : (x == ("__debug__" : Str)) = false := by decide) : wpAny (model X.prog X.w) B (eval (.Name x p) cenv) Q Er s2 := by
  obtain ⟨mb, h1, h2⟩ := I.mod.blt
  have h3 := h1.keeps I.bk
  have nP : builtinsNs ≠ P := fun z => by
    obtain ⟨ps, hps⟩ := a.tb
    obtain ⟨o, es, ep, ho, hdd, _⟩ := h3
    rw [z, hps] at ho
    cases ho
    cases hdd
  have h4 : s2.heap.Ns cenv.builtins mb := by
    rw [a.bl]
    exact h3.at' fun o e => a.kp _ o nP e
  exact Calls.Name_function_global (by rw [a.sc]; exact hk) (show cenv.scope.names.lookup x = some .globalImplicit by rw [a.sc]; exact hl) (Calls.loadGlobal_builtin (a.mod I gP) hm h4 ((h2 x hn).trans hv) h) hd
/-- a captured name of the def: it stands in the def's slot i -/
theorem free_name {y : Str} {i : Nat} {v : V} {p : Pos} (a : Ask X scope P s1 cenv s2 m2) (I : Inv X pins σ H s1) (hk : scope.kind = .function) (hl : scope.names.lookup y = some .free) (hN : X.N[i]? = some y) (hc : X.env.scope.names.lookup y = some .cell) (hσ : σ[i]? = some (some v))
    (h : ∀ u, RelV v u → Q u s2) (hd : (y == ("__debug__" : Str)) = false := by decide) (hcd : (y == ("__classdict__" : Str)) = false := by decide) : wpAny (model X.prog X.w) B (eval (.Name y p) cenv) Q Er s2 := by
  obtain ⟨m, hn, hlk⟩ := I.loc
  obtain ⟨u, ru, lk⟩ := hlk i y v hN hσ (.inr (.inl hc))
  rcases lk with ⟨k, _⟩ | ⟨_, c, hcl, hcell⟩
  · have k2 : X.env.scope.names.lookup y = some .local := k
    rw [hc] at k2
    cases k2
  · obtain ⟨o, ho, hdt⟩ := hcell
    have ncP : c ≠ P := fun z => by
      obtain ⟨ps, hps⟩ := a.tb
      rw [z, hps] at ho
      cases ho
      cases hdt
    have mem : (y, (X.env.cells.lookup y).getD 0) ∈ cenv.cells := by
      rw [a.ce]
      exact cloFrom_has (PySem.mem_of_lookup hl)
    have lkc : cenv.cells.lookup y = some c := by
      cases e : cenv.cells.lookup y with
      | none =>
        have := List.lookup_eq_none_iff.mp e _ mem
        simp at this
      | some c' =>
        have h1 := PySem.mem_of_lookup e
        rw [a.ce] at h1
        rcases cloFrom_mem h1 with z | ⟨_, z⟩
        · cases z
        · rw [z, hcl]
          rfl
    refine wpAny_Name (wpAny_loadName_free (by rw [a.sc]; exact hk) (show cenv.scope.names.lookup y = some .free by rw [a.sc]; exact hl) lkc ⟨o, a.kp _ o ncP ho, hdt⟩ (h u ru) hcd) hd
end
/-- x in G, G a text of the module -/
def inG (z : Str) : V → V
  | .str a => .bl (a.cps.toList.all fun c => decide (c ∈ z.cps.toList))
  | v => v
theorem elt_inG {X : Cx} {scope : Scope} {P : Addr} {x gn : Str} {z : Str} {t : Tok} {p1 p2 p3 : Pos} (gP : mainGlobals ≠ P) (hk : scope.kind = .function) (hl : scope.names.lookup x = some .local) (hg : scope.names.lookup gn = some .globalImplicit) (hm : X.mg gn = some (.str z t))
    (hd : (x == ("__debug__" : Str)) = false := by decide) (hd2 : (gn == ("__debug__" : Str)) = false := by decide) :
    Elt1 X scope P x (.Compare (.Name x p1) [.In] [.Name gn p2] p3) (fun _ v => ∃ c, v = .str ⟨#[c]⟩) (fun _ v => inG z v) := by
  intro pins σ H s1 cenv B Er s2 m2 v u I a hB hx rv hp
  obtain ⟨c, rfl⟩ := hp
  obtain ⟨t', rfl⟩ := rv
  refine wpAny_Compare1 (own_name a hk hl hx (glob_name a I gP hk hg hm ?_ hd2) hd)
  refine PyProof.Rows.in_str ⟨?_, keeps_refl _⟩
  show Value.bool _ = Value.bool _
  rw [PySem.StrLaws.found_one z c]
  simp
def add2 : V → V → V
  | .int i, .int j => .int (i + j)
  | v, _ => v
def sub2 : V → V → V
  | .int i, .int j => .int (i - j)
  | v, _ => v
def le2 : V → V → V
  | .int i, .int j => .bl (decide (i ≤ j))
  | v, _ => v
def min2 : V → V → V
  | .int i, .int j => .int (if j < i then j else i)
  | v, _ => v
/-- x * y, y a captured name in the slot i -/
def mulAt (i : Nat) (σ : L2.St) : V → V
  | .int a => (match σ[i]? with
    | some (some (.int b)) => .int (a * b)
    | _ => .int a)
  | v => v
theorem elt_mul {X : Cx} {scope : Scope} {P : Addr} {x y : Str} {i : Nat} {p1 p2 p3 : Pos} (hk : scope.kind = .function) (hl : scope.names.lookup x = some .local) (hf : scope.names.lookup y = some .free) (hN : X.N[i]? = some y) (hc : X.env.scope.names.lookup y = some .cell)
    (hd : (x == ("__debug__" : Str)) = false := by decide) (hd2 : (y == ("__debug__" : Str)) = false := by decide) (hcd : (y == ("__classdict__" : Str)) = false := by decide) :
    Elt1 X scope P x (.BinOp (.Name x p1) .Mult (.Name y p2) p3) (fun σ v => ∃ a b : Int, v = .int a ∧ σ[i]? = some (some (.int b)) ∧ CMul a b) (fun σ v => mulAt i σ v) := by
  intro pins σ H s1 cenv B Er s2 m2 v u I a hB hx rv hp
  obtain ⟨m, n, rfl, hσ, hm⟩ := hp
  obtain ⟨t, rfl⟩ := rv
  refine wpAny_BinOp (own_name a hk hl hx (free_name a I hk hf hN hc hσ (fun z rz => ?_) hd2 hcd) hd)
  obtain ⟨t', rfl⟩ := rz
  refine mul_int ⟨?_, keeps_tok _ _⟩ hm.ok
  have e : mulAt i σ (V.int m) = V.int (m * n) := by
    unfold mulAt
    rw [hσ]
  show RelV (mulAt i σ (V.int m)) _
  rw [e]
  exact ⟨_, rfl⟩
def Ints2 (v w : V) : Prop := ∃ i j : Int, v = .int i ∧ w = .int j
section
variable {X : Cx} {scope : Scope} {P : Addr} {xa xb : Str} {p1 p2 p3 p4 : Pos} (hk : scope.kind = .function) (hl : scope.names.lookup xa = some .local) (hl2 : scope.names.lookup xb = some .local)
    (hd : (xa == ("__debug__" : Str)) = false := by decide) (hd2 : (xb == ("__debug__" : Str)) = false := by decide)
include hk hl hl2 hd hd2
theorem elt_add : Elt2 X scope P xa xb (.BinOp (.Name xa p1) .Add (.Name xb p2) p3) (fun _ v w => Ints2 v w) (fun _ v w => add2 v w) := by
  intro pins σ H s1 cenv B Er s2 m2 v w u z I a hB hx hy rv rw' hp
  obtain ⟨i, j, rfl, rfl⟩ := hp
  obtain ⟨t, rfl⟩ := rv
  obtain ⟨t', rfl⟩ := rw'
  exact wpAny_BinOp (own_name a hk hl hx (own_name a hk hl2 hy (add_int ⟨⟨_, rfl⟩, keeps_tok _ _⟩) hd2) hd)
theorem elt_sub : Elt2 X scope P xa xb (.BinOp (.Name xa p1) .Sub (.Name xb p2) p3) (fun _ v w => Ints2 v w) (fun _ v w => sub2 v w) := by
  intro pins σ H s1 cenv B Er s2 m2 v w u z I a hB hx hy rv rw' hp
  obtain ⟨i, j, rfl, rfl⟩ := hp
  obtain ⟨t, rfl⟩ := rv
  obtain ⟨t', rfl⟩ := rw'
  exact wpAny_BinOp (own_name a hk hl hx (own_name a hk hl2 hy (sub_int ⟨⟨_, rfl⟩, keeps_tok _ _⟩) hd2) hd)
theorem elt_le : Elt2 X scope P xa xb (.Compare (.Name xa p1) [.LtE] [.Name xb p2] p3) (fun _ v w => Ints2 v w) (fun _ v w => le2 v w) := by
  intro pins σ H s1 cenv B Er s2 m2 v w u z I a hB hx hy rv rw' hp
  obtain ⟨i, j, rfl, rfl⟩ := hp
  obtain ⟨t, rfl⟩ := rv
  obtain ⟨t', rfl⟩ := rw'
  exact wpAny_Compare1 (own_name a hk hl hx (own_name a hk hl2 hy (le_int ⟨rfl, keeps_refl _⟩) hd2) hd)
theorem elt_min (gP : mainGlobals ≠ P) (hg : scope.names.lookup ("min" : Str) = some .globalImplicit) (hm : X.mg "min" = none) :
    Elt2 X scope P xa xb (.Call (.Name "min" p1) [.Name xa p2, .Name xb p3] [] p4) (fun _ v w => Ints2 v w) (fun _ v w => min2 v w) := by
  intro pins σ H s1 cenv B Er s2 m2 v w u z I a hB hx hy rv rw' hp
  obtain ⟨i, j, rfl, rfl⟩ := hp
  obtain ⟨t, rfl⟩ := rv
  obtain ⟨t', rfl⟩ := rw'
  refine wpAny_Call_Name_kw (blt_name (u := .builtin "min") a I gP hk hg hm (by decide +kernel) ?_)
  refine PyProof.Rows.callWith_builtin1 ?_ rfl rfl
  refine PyProof.Rows.args_cons (own_name a hk hl hx ?_ hd) rfl
  refine PyProof.Rows.args_cons (own_name a hk hl2 hy ?_ hd2) rfl
  refine PyProof.Rows.args_nil ?_
  refine min_two_ints hB fun h' tk kp => ⟨?_, ⟨h', tk, rfl, kp⟩⟩
  show ∃ t0, _ = Value.int (if j < i then j else i) t0
  by_cases hj : j < i
  · rw [if_pos hj, if_pos hj]
    exact ⟨_, rfl⟩
  · rw [if_neg hj, if_neg hj]
    exact ⟨_, rfl⟩
end
end GX

namespace My
open PySem PySem.Spec PyProof.Rows L2 GX GxR
/-! heaps -/
/-- all that was tracked outside of S is as it was -/
def Kp (S : List Addr) (H H' : Hp) : Prop := ∀ x o, x ∉ S → H x = some o → H' x = some o
theorem Kp.refl (S : List Addr) (H : Hp) : Kp S H H := fun _ _ _ h => h
theorem Kp.trans {S : List Addr} {H H1 H2 : Hp} (a : Kp S H H1) (b : Kp S H1 H2) : Kp S H H2 := fun x o n h => b x o n (a x o n h)
theorem Kp.mono {S T : List Addr} {H H' : Hp} (a : Kp S H H') (h : ∀ x ∈ S, x ∈ T) : Kp T H H' := fun x o n e => a x o (fun z => n (h x z)) e
theorem Same.kp {H H' : Hp} (S : List Addr) (a : Same H H') : Kp S H H' := fun x o _ h => a x o h
theorem Kp.seq {K : PySem.W.Frag} {S : List Addr} {H H' : Hp} {a : Addr} {xs : List V} (e : Kp S H H') (h : SqL K H a xs) (n : a ∉ S) : SqL K H' a xs := by
  rcases h with (h | ⟨o, h⟩) | h
  · exact .inl (.inl (e _ _ n h))
  · exact .inl (.inr ⟨o, e _ _ n h⟩)
  · exact .inr h
theorem kp_upd {S : List Addr} {H : Hp} {p : Addr} {o : HO} (h : p ∈ S) : Kp S H (upd H p o) := fun b x n e => by
  rw [upd_ne (fun z => n (by rw [z]; exact h))]
  exact e
theorem same_upd {H : Hp} {p : Addr} {o : HO} (h : H p = none) : Same H (upd H p o) := fun b x e => by
  rw [upd_ne (ne_of_none e h)]
  exact e
theorem iteJ {c A B R : Prop} [Decidable c] (h1 : c → R → A) (h2 : ¬ c → R → B) (r : R) : if c then A else B := by
  by_cases h : c
  · rw [if_pos h]
    exact h1 h r
  · rw [if_neg h]
    exact h2 h r
/-- the built-in names that the text uses -/
structure Txt (mg : Str → Option Value) : Prop where
  len : mg "len" = none
  abs : mg "abs" = none
  isi : mg "isinstance" = none
  lst : mg "list" = none
  tup : mg "tuple" = none
  zip : mg "zip" = none
  all : mg "all" = none
  str : mg "str" = none
  int : mg "int" = none
  bool : mg "bool" = none
  max : mg "max" = none
  min : mg "min" = none
  range : mg "range" = none
/-- a drawing box: what is left of its digits, its mixed number, how often it was asked (at most c) -/
def BoxV (xs : List V) (c : Int) : Prop := ∃ d m t : Int, xs = [.int d, .int m, .int t] ∧ 0 ≤ d ∧ 0 ≤ m ∧ m < 2147483629 ∧ 0 ≤ t ∧ t ≤ c
def BoxAt (H : Hp) (b : Addr) (c : Int) : Prop := ∃ xs, H b = some (.lst xs) ∧ BoxV xs c
def spBox (K : PySem.W.Frag) : Sp := fun vs H Q _ => ∃ (a : Addr) (ns : List Int) (k : Nat), vs = [.ref a, .int (k : Int)] ∧ SqL K H a (ns.map V.int) ∧ k ≤ 1000 ∧
  ∀ p xs, H p = none → BoxV xs 0 → Q (.ref p) (upd H p (.lst xs))
def spTake : Sp := fun vs H Q _ => ∃ (b : Addr) (c many : Int), vs = [.ref b, .int many] ∧ BoxAt H b c ∧ 0 < many ∧ many < 1073741824 ∧ c ≤ 1000000000 ∧
  ∀ r H', 0 ≤ r → r < many → Kp [b] H H' → BoxAt H' b (c + 1) → Q (.int r) H'
theorem walk_zipT {K : PySem.W.Frag} {a b : Addr} {xs ys : List V} {n : Nat} (hn : n = min xs.length ys.length) : Walk (RZ.ItzT K a b) n (fun H => SqT K H a xs ∧ SqT K H b ys) (YPair (fun i => xs[i]?) (fun i => ys[i]?)) := by
  subst hn
  refine ⟨fun i _ hi q => ?_, fun _ q => ⟨xs, ys, q.1, q.2, by omega⟩, fun i H v H' _ q y => ?_⟩
  · have h1 : i < xs.length := by omega
    have h2 : i < ys.length := by omega
    exact ⟨xs, ys, xs[i], ys[i], q.1, q.2, by simp [h1], by simp [h2]⟩
  · obtain ⟨T, x, z, h1, h2, h3, h4, h5⟩ := y
    exact ⟨T, x, z, h1, h2, h3, h4 xs q.1, h5 ys q.2⟩
/-! alike -/
def Leaf (x y : V) : Prop := (∃ b, x = .bl b ∧ y = .bl b) ∨ (∃ i, x = .int i ∧ y = .int i) ∨ (∃ z, x = .str z ∧ y = .str z) ∨ (x = .non ∧ y = .non)
def Al (H : Hp) : Nat → V → V → Prop
  | 0, x, y => Leaf x y
  | n + 1, x, y => Leaf x y ∨ ∃ (a b : Addr) (xs ys : List V), x = .ref a ∧ y = .ref b ∧ ((H a = some (.lst xs) ∧ H b = some (.lst ys)) ∨ (H a = some (.tup xs) ∧ H b = some (.tup ys))) ∧ xs.length = ys.length ∧ xs.length < 100000 ∧
      ∀ (i : Nat) (x y : V), xs[i]? = some x → ys[i]? = some y → Al H n x y
theorem Al.leaf {H : Hp} {x y : V} (h : Leaf x y) : ∀ n, Al H n x y
  | 0 => h
  | _ + 1 => .inl h
theorem Al.same {H H' : Hp} (e : Same H H') : ∀ (n : Nat) (x y : V), Al H n x y → Al H' n x y
  | 0, _, _, h => h
  | n + 1, x, y, h => by
    rcases h with h | ⟨a, b, xs, ys, e1, e2, h, hl, hl2, k⟩
    · exact .inl h
    · refine .inr ⟨a, b, xs, ys, e1, e2, ?_, hl, hl2, fun i x y h1 h2 => Al.same e n x y (k i x y h1 h2)⟩
      rcases h with ⟨h1, h2⟩ | ⟨h1, h2⟩
      · exact .inl ⟨e _ _ h1, e _ _ h2⟩
      · exact .inr ⟨e _ _ h1, e _ _ h2⟩
theorem kany {K : PySem.W.Frag} {t : String} {b1 b2 : Bool} (h1 : kitB t "list" = some b1) (h2 : kitB t "tuple" = some b2) : PySem.W.kitAny K (.type t) [.type "list", .type "tuple"] = some (b1 || b2) := by
  unfold PySem.W.kitAny
  rw [kit_ty h1]
  cases b1 with
  | true => rfl
  | false =>
    show PySem.W.kitAny K (.type t) [.type "tuple"] = _
    unfold PySem.W.kitAny
    rw [kit_ty h2]
    cases b2 <;> rfl
theorem pairT : Paired ClsV [V.ty "list", V.ty "tuple"] [Value.type "list", Value.type "tuple"] := .cons (.ty _) (.cons (.ty _) .nil)
def spAlike (n : Nat) : Sp := fun vs H Q _ => ∃ x y : V, vs = [x, y] ∧ Al H n x y ∧ ∀ H', Same H H' → Q (.bl true) H'
section
variable {X : Cx}
theorem pe_isT {e : Expr} {te : TE} {p1 p2 p3 p4 p5 : Pos} {kk : Nat} (T : Txt X.mg) (g1 : Gl X "isinstance") (g2 : Gl X "list") (g3 : Gl X "tuple") (he : PE X e te)
    (h1 : starEach [e, .Tuple [.Name "list" p2, .Name "tuple" p3] kk p4] X.env = (false, eval e X.env) :: starEach [.Tuple [.Name "list" p2, .Name "tuple" p3] kk p4] X.env := by rfl) :
    PE X (.Call (.Name "isinstance" p1) [e, .Tuple [.Name "list" p2, .Name "tuple" p3] kk p4] [] p5) (tCB (rIsiT X.K) (tCons te (tCons (tTup (tCons (tC (.ty "list")) (tCons (tC (.ty "tuple")) tNil))) tNil))) :=
  pe_callB call_isiT g1 T.isi (by decide +kernel) (pa_cons he (pa_cons (pe_tup (pa_cons (pe_bltn g2 T.lst (by decide +kernel) rfl) (pa_cons (pe_bltn g3 T.tup (by decide +kernel) rfl) pa_nil))) pa_nil) h1) (by decide) (by decide) h1
theorem pe_isi {e : Expr} {te : TE} {x : Str} {c : String} {p1 p2 p5 : Pos} (T : Txt X.mg) (g1 : Gl X "isinstance") (g2 : Gl X x) (m2 : X.mg x = none) (b2 : bootBuiltins x = some (.type c)) (he : PE X e te)
    (hn : x ≠ "__name__" := by decide) (hd : (x == ("__debug__" : Str)) = false := by decide)
    (h1 : starEach [e, .Name x p2] X.env = (false, eval e X.env) :: starEach [.Name x p2] X.env := by rfl) :
    PE X (.Call (.Name "isinstance" p1) [e, .Name x p2] [] p5) (tCB (rIsi X.K) (tCons te (tCons (tC (.ty c)) tNil))) :=
  pe_callB call_isi g1 T.isi (by decide +kernel) (pa_cons he (pa_cons (pe_bltn g2 m2 b2 rfl hn hd) pa_nil) h1) (by decide) (by decide) h1
theorem bt_list : bootBuiltins "list" = some (.type "list") := by decide +kernel
theorem bt_tuple : bootBuiltins "tuple" = some (.type "tuple") := by decide +kernel
theorem bt_str : bootBuiltins "str" = some (.type "str") := by decide +kernel
theorem bt_int : bootBuiltins "int" = some (.type "int") := by decide +kernel
theorem bt_bool : bootBuiltins "bool" = some (.type "bool") := by decide +kernel
end
theorem kB1 : kitB "int" "list" = some false := by decide +kernel
theorem kB2 : kitB "int" "tuple" = some false := by decide +kernel
theorem kB3 : kitB "bool" "list" = some false := by decide +kernel
theorem kB4 : kitB "bool" "tuple" = some false := by decide +kernel
theorem kB5 : kitB "str" "list" = some false := by decide +kernel
theorem kB6 : kitB "str" "tuple" = some false := by decide +kernel
theorem kB7 : kitB "NoneType" "list" = some false := by decide +kernel
theorem kB8 : kitB "NoneType" "tuple" = some false := by decide +kernel
theorem kB9 : kitB "list" "list" = some true := by decide +kernel
theorem kB10 : kitB "list" "tuple" = some false := by decide +kernel
theorem kB11 : kitB "tuple" "list" = some false := by decide +kernel
theorem kB12 : kitB "tuple" "tuple" = some true := by decide +kernel
theorem BoxAt.same {H H' : Hp} {b : Addr} {c : Int} (e : Same H H') (h : BoxAt H b c) : BoxAt H' b c := by
  obtain ⟨xs, h1, h2⟩ := h
  exact ⟨xs, e _ _ h1, h2⟩
theorem BoxAt.kp {S : List Addr} {H H' : Hp} {b : Addr} {c : Int} (e : Kp S H H') (n : b ∉ S) (h : BoxAt H b c) : BoxAt H' b c := by
  obtain ⟨xs, h1, h2⟩ := h
  exact ⟨xs, e _ _ n h1, h2⟩
/-- the boxes of a script: new lists, no two of them one, at D the list of them -/
structure Boxes (H H' : Hp) (D : Addr) (bs : List Addr) : Prop where
  same : Same H H'
  lst : H' D = some (.lst (bs.map V.ref))
  box : ∀ b ∈ bs, BoxAt H' b 0
  new : ∀ b ∈ bs, H b = none
  nd : bs.Nodup
  no : D ∉ bs
  nD : H D = none
def spCells (K : PySem.W.Frag) : Sp := fun vs H Q _ => ∃ (a : Addr) (ns : List Int), vs = [.ref a] ∧ SqL K H a (ns.map V.int) ∧ ns.length ≤ 63 ∧ ∀ H' D bs, Boxes H H' D bs → bs.length ≤ 63 → Q (.ref D) H'
/-- a def whose code object stands at c -/
structure FunC (K : PySem.W.Frag) (x qual : Str) (st : Stmt) (f : Addr) (fd : FuncData) (c : Addr) : Prop where
  ex : ∃ (oc : Value) (od : Option Addr) (kV doc pm : Value) (an : Option Addr) (ct : Value) (osl : Array (Option Value)),
    fd = PySem.W.fnOf x qual (defArgs st) (defBody st) (defScope st) .none kV doc pm an (.ref c) ct ∧ K.lookup f = some ⟨oc, od, .func fd, osl⟩ ∧ PySem.W.codeIn K (.ref c) qual = true
  kp : PySem.W.keepIn K (.ref f) = true
theorem FunC.fn {K : PySem.W.Frag} {x qual : Str} {st : Stmt} {f c : Addr} {fd : FuncData} (F : FunC K x qual st f fd c) : Fun K x qual st f fd := by
  obtain ⟨⟨oc, od, kV, doc, pm, an, ct, osl, e, l, h⟩, k⟩ := F
  exact ⟨⟨oc, od, kV, doc, pm, an, .ref c, ct, osl, e, l, h⟩, k⟩
section
variable {P : Program} {w : World} {K : PySem.W.Frag} {mg : Str → Option Value} {base : Heap}
theorem FunC.ok {x qual : Str} {st : Stmt} {f c : Addr} {fd : FuncData} {N ps : List Str} {k : Nat} {sp : Sp} (F : FunC K x qual st f fd c) (S : FnScope N ps (defScope st)) (len : ∀ vs H Q E, sp vs H Q E → vs.length = ps.length)
    (hbody : ∀ (A : Around) (outer : List Env) (s : Shared) (H : Hp) (vs : List V) (Q : VK) (E : XK), Room k (A.deeper (envOfC qual (defScope st) s.heap.objs.size f (.ref c))) → sp vs H Q E →
      ∃ t, PSs (cxOf CX0 P w K mg base N qual (defScope st) f (.ref c) A outer s H E).nox (defBody st) t ∧ t { nx := fun _ H' => Q .non H', rt := Q } (start N vs) H) :
    FnOk P w K mg base CX0 (k + 1) f fd ps sp := by
  obtain ⟨oc, od, kV, doc, pm, an, ct, osl, rfl, lk, hcd⟩ := F.ex
  refine fn_of lk hcd S len fun A outer s H vs Q E hr hsp => ?_
  obtain ⟨t, h1, h2⟩ := hbody A outer s H vs Q E hr hsp
  exact ⟨t, h1.nox, h2⟩
/-- what a generator expression's scope is checked for, where it captures nothing -/
def genC (scope : Scope) (x : Str) : Bool :=
  decide (scope.kind = .function) && decide (scope.isCoroutine = false) && scope.names.all (fun y => decide (y.2 ≠ .cell) && decide (y.2 ≠ .free)) && decide (scope.names.lookup (".0" : Str) = some NameKind.local) && decide (scope.names.lookup x = some NameKind.local)
theorem genS_of {sc scope : Scope} {x : Str} (h : genC scope x = true) : GenV sc scope x := by
  unfold genC at h
  simp only [Bool.and_eq_true, decide_eq_true_eq, List.all_eq_true] at h
  obtain ⟨⟨⟨⟨h1, h2⟩, h3⟩, h4⟩, h5⟩ := h
  exact ⟨h1, h2, fun y hy => (h3 y hy).1, h4, h5, fun y hy e => absurd e (h3 y hy).2⟩
/-- .. and where it captures names of the def -/
def genCF (sc scope : Scope) (x : Str) : Bool :=
  decide (scope.kind = .function) && decide (scope.isCoroutine = false) && scope.names.all (fun y => decide (y.2 ≠ .cell) && (decide (y.2 ≠ .free) || decide (sc.names.lookup y.1 = some .cell))) && decide (scope.names.lookup (".0" : Str) = some NameKind.local) && decide (scope.names.lookup x = some NameKind.local)
theorem genF_of {sc scope : Scope} {x : Str} (h : genCF sc scope x = true) : GenV sc scope x := by
  unfold genCF at h
  simp only [Bool.and_eq_true, Bool.or_eq_true, decide_eq_true_eq, List.all_eq_true] at h
  obtain ⟨⟨⟨⟨h1, h2⟩, h3⟩, h4⟩, h5⟩ := h
  refine ⟨h1, h2, fun y hy => (h3 y hy).1, h4, h5, fun y hy e => ?_⟩
  rcases (h3 y hy).2 with z | z
  · exact absurd e z
  · exact .inl z
end
/-- between two turns of the law -/
structure Good (T D : Addr) (bs : List Addr) (i : Nat) (H : Hp) : Prop where
  tab : TabG H T
  lst : H D = some (.lst (bs.map V.ref))
  box : ∀ (j : Nat) (b : Addr), i ≤ j → bs[j]? = some b → BoxAt H b 0
theorem TabG.same {H H' : Hp} {T : Addr} (e : Same H H') (h : TabG H T) : TabG H' T := by
  obtain ⟨ps, h1, h2⟩ := h
  exact ⟨ps, e _ _ h1, h2⟩
theorem TabG.kp {S : List Addr} {H H' : Hp} {T : Addr} (e : Kp S H H') (n : T ∉ S) (h : TabG H T) : TabG H' T := by
  obtain ⟨ps, h1, h2⟩ := h
  exact ⟨ps, e _ _ n h1, h2⟩
theorem tab_ne {H : Hp} {T b : Addr} {o : HO} (h : TabG H T) (e : H b = some o) (n : ∀ ps, o ≠ .tbl ps) : b ≠ T := fun z => by
  obtain ⟨ps, h1, _⟩ := h
  rw [z, h1] at e
  exact n ps (Option.some.inj e).symm
theorem tab_nb {H : Hp} {T b : Addr} {c : Int} (h : TabG H T) (B : BoxAt H b c) : b ≠ T := by
  obtain ⟨xs, h1, _⟩ := B
  exact tab_ne h h1 fun ps z => by cases z
theorem Good.same {T D : Addr} {bs : List Addr} {i : Nat} {H H' : Hp} (g : Good T D bs i H) (e : Same H H') : Good T D bs i H' :=
  ⟨TabG.same e g.tab, e _ _ g.lst, fun j b h1 h2 => (g.box j b h1 h2).same e⟩
theorem Good.kpT {T D : Addr} {bs : List Addr} {i : Nat} {H H' : Hp} (g : Good T D bs i H) (e : Kp [T] H H') (h : TabG H' T) : Good T D bs i H' := by
  refine ⟨h, e _ _ (fun z => ?_) g.lst, fun j b h1 h2 => (g.box j b h1 h2).kp e fun z => ?_⟩
  · exact tab_ne g.tab g.lst (fun ps z => by cases z) (List.mem_singleton.mp z)
  · exact tab_nb g.tab (g.box j b h1 h2) (List.mem_singleton.mp z)
theorem Good.kpb {T D b : Addr} {bs : List Addr} {i : Nat} {H H' : Hp} {c : Int} (g : Good T D bs (i + 1) H) (B : BoxAt H b c) (hb : bs[i]? = some b) (nd : bs.Nodup) (no : D ∉ bs) (e : Kp [b] H H') : Good T D bs (i + 1) H' := by
  refine ⟨TabG.kp e (fun z => tab_nb g.tab B (List.mem_singleton.mp z).symm) g.tab, e _ _ (fun z => no (by rw [List.mem_singleton.mp z]; exact List.mem_of_getElem? hb)) g.lst, fun j b' h1 h2 => (g.box j b' h1 h2).kp e fun z => ?_⟩
  obtain ⟨q1, e1⟩ := List.getElem?_eq_some_iff.mp hb
  obtain ⟨q2, e2⟩ := List.getElem?_eq_some_iff.mp h2
  exact List.pairwise_iff_getElem.mp nd i j q1 q2 (by omega) (by rw [e1, e2]; exact (List.mem_singleton.mp z).symm)
theorem al_list {H : Hp} {p q : Addr} {xs ys : List V} (h1 : H p = some (.lst xs)) (h2 : H q = some (.lst ys)) (hl : xs.length = ys.length) (hs : xs.length < 100000) (k : ∀ (i : Nat) (x y : V), xs[i]? = some x → ys[i]? = some y → Leaf x y) : Al H 1 (.ref p) (.ref q) :=
  .inr ⟨p, q, xs, ys, rfl, rfl, .inl ⟨h1, h2⟩, hl, hs, fun i x y a b => k i x y a b⟩
/-- the end of a law that reaches generator expressions: the head's own words of the top go on to the promise -/
theorem walk_tabs {l : PySem.W.OpenLaw} {n k : Nat} {q : Program} {loose : List Str} {XP : (Str → Option Value) → Heap → Prop} {YP : World → Heap → Prop} {d : DefRec} {K : Params → PySem.W.Frag} {x : Str}
    (hn : l.most = some n) (hn2 : n ≤ sizeLine) (hdf : d.params.defaults = []) (hr : Room k callerA) (hY : ∀ (w : World) (h : Heap), YP w h → (K w.params).In h)
    (F : ∀ (w : World) (mg mb : Str → Option Value) (mean : ExcName → Option Value) (fa : Addr) (h : Heap), PyProof.Rows.Top q (PySem.W.looseW q loose) mean mg mb h → (K w.params).In h → mg d.name = some (.ref fa) → LamX.LawAtS l w (K w.params) CX0 k n x mg fa h) :
    PySem.W.WalkO q loose XP YP l.row.toRowW d [] (fun f vs => PySem.call f vs) := by
  refine Att.attach_callB hn hdf fun w s0 s1 mg mb fa o pm cd doc a vs ns G Y ho hd hcd hmg hobj hints hlen hbits hg => ?_
  have KX := hY w _ Y
  obtain ⟨fd, cs, sp, h1, h2, h3, h4, h5, h6⟩ := F w mg mb _ fa _ G.T KX hmg
  exact LamX.law_callTs KX G.T.g G.T.b G.T.builtins G.T.nolimit hg h1 h2 h3 G.T.bmain hobj hints (Nat.le_trans hlen hn2) hr h6 h4 (fun H hH hS => h5 H a ns hlen hbits hH hS) fun H e s' z => z
theorem tab_at {p : Program} {loose : List Str} {mean : ExcName → Option Value} {mg mb : Str → Option Value} {h : Heap} {K : PySem.W.Frag} {x : Str} {c T : Addr} (Z : PyProof.Rows.Top p loose mean mg mb h) (X : K.In h)
    (hr : ((recsOf p).any fun e => e.name == x) = true) (ht : PySem.W.tabIn K x = some (c, T)) : PySem.W.CodeHd h c T ∧ h.get? T = some { cls := .none, data := .fields #[] } := by
  cases e : (recsOf p).find? (fun e => e.name == x) with
  | none =>
    obtain ⟨d, hd, hx⟩ := List.any_eq_true.mp hr
    exact absurd hx (List.find?_eq_none.mp e d hd)
  | some d => exact PySem.W.tab_of Z X e ht
theorem tab_in {K : PySem.W.Frag} {x : Str} {f c T : Addr} {oc e : Value} {od ed : Option Addr} {fd : FuncData} {sl es : Array (Option Value)} {vs : Array Value} (a : PySem.W.nsIn K mainGlobals x = some (some (.ref f))) (l : K.lookup f = some ⟨oc, od, .func fd, sl⟩) (hc : fd.code = .ref c)
    (u : K.lookup c = some ⟨e, ed, .fields vs, es⟩) (v : vs[11]? = some (.ref T)) : PySem.W.tabIn K x = some (c, T) := by
  unfold PySem.W.tabIn
  simp only [a, l, hc, u, v]
end My

namespace GX
open PySem PySem.Spec PyProof.Rows L2
open AutoSeq1 (wpAny_loadPart')
theorem tuple_once (l : Addr) (items : Array Value) (n : Nat) (dd : Option Addr) (sl : Array (Option Value)) (u : Tok) :
    Meets (Builtin.«tuple.__mul__» ⟨[.ref l, .int 1 u], []⟩) (fun _ R s => s.heap.get? l = some { cls := .type "tuple", dict := dd, data := .seq items n, slots := sl } ∧ R (.ok (.ret (Value.ref l))) s) :=
  .of_wp fun prog w A R s h => by
    obtain ⟨hp, g, d, tk, os⟩ := s
    obtain ⟨hl, h⟩ := h
    have f1 := AutoSeq1.idx_int
    wp_walk using wpAny_loadPart' hl
    exact ⟨_, rfl, h⟩
/-- t * k, k from 1 on: once is the tuple itself -/
def rRepU (K : PySem.W.Frag) : R2 := fun x y H Q => ∃ l k xs, x = .ref l ∧ y = .int k ∧ SqT K H l xs ∧ xs ≠ [] ∧ 1 ≤ k ∧ k ≤ 1000 ∧ xs.length ≤ 1000 ∧
  (k = 1 → Q (.ref l) H) ∧ (k ≠ 1 → ∀ p, H p = none → Q (.ref p) (upd H p (.tup (List.replicate k.toNat xs).flatten)))
theorem op_repU {X : Cx} : OpR X (binaryOp .Mult) (rRepU X.K) := by
  intro pins s σ H x y v u Q I rx ry h
  obtain ⟨l, k, xs, rfl, rfl, hT, hne, h1, h2, hz, q1, q2⟩ := h
  by_cases hk : k = 1
  · subst hk
    cases rx
    obtain ⟨t, rfl⟩ := ry
    obtain ⟨its, r, ⟨⟨cls, dd, data, sl⟩, ho, hc, n, hd⟩, hs⟩ := I.tuple hT
    simp only at hc hd
    subst hc hd
    exact wpAny_binaryOp_repeat_ref (T := "tuple") (U := "int") (by decide) ⟨_, ho, rfl⟩ (fun s' => typeIs_int s' 1 t) noFill_tuple_mul F.fills_int_mul F.slot_int_rmul repeat_tuple F.slot_int_index.lookup
      (call_meets F.slot_int_rmul (typeIs_int s 1 t) F.entry_int_rmul (F.args_int_rmul_2 _ _) (int_rmul_tuple 1 t l its.toArray n dd sl)
        ⟨ho, rfl, ⟨_, ho, rfl⟩, call_meets F.slot_tuple_mul ⟨_, ho, rfl⟩ F.entry_tuple_mul (F.args_tuple_mul_2 _ _) (tuple_once l its.toArray n dd sl t) ⟨ho, ⟨.ref l, H, I, rfl, q1 rfl⟩⟩⟩)
  · exact op_repT pins s σ H _ _ v u Q I rx ry ⟨l, k, xs, rfl, rfl, hT, hne, by omega, h2, hz, q2 hk⟩
end GX

namespace My
open PySem PySem.Spec PyProof.Rows L2 GX GxR
/-- what is known within a turn of a law: the tables of the code objects Ts, the box at b (asked at most c times), the things fs that stay -/
structure Wd (Ts : List Addr) (b : Addr) (c : Int) (fs : List (Addr × HO)) (H : Hp) : Prop where
  tab : ∀ T ∈ Ts, TabG H T
  box : BoxAt H b c
  obj : ∀ f ∈ fs, H f.1 = some f.2
  off : ∀ f ∈ fs, f.1 ≠ b ∧ f.1 ∉ Ts
section
variable {Ts : List Addr} {b : Addr} {c : Int} {fs : List (Addr × HO)} {H H' : Hp}
theorem Wd.nbT (W : Wd Ts b c fs H) {T : Addr} (h : T ∈ Ts) : b ≠ T := tab_nb (W.tab T h) W.box
theorem Wd.same (W : Wd Ts b c fs H) (e : Same H H') : Wd Ts b c fs H' :=
  ⟨fun T h => TabG.same e (W.tab T h), W.box.same e, fun f h => e _ _ (W.obj f h), W.off⟩
theorem Wd.asked (W : Wd Ts b c fs H) {c' : Int} (e : Kp [b] H H') (B : BoxAt H' b c') : Wd Ts b c' fs H' :=
  ⟨fun T h => TabG.kp e (fun z => W.nbT h (List.mem_singleton.mp z).symm) (W.tab T h), B, fun f h => e _ _ (fun z => (W.off f h).1 (List.mem_singleton.mp z)) (W.obj f h), W.off⟩
theorem Wd.grown (W : Wd Ts b c fs H) {T : Addr} (h : T ∈ Ts) (e : Kp [T] H H') (t : TabG H' T) : Wd Ts b c fs H' := by
  refine ⟨fun T' h' => ?_, W.box.kp e fun z => W.nbT h (List.mem_singleton.mp z), fun f hf => e _ _ (fun z => (W.off f hf).2 (by rw [List.mem_singleton.mp z]; exact h)) (W.obj f hf), W.off⟩
  by_cases z : T' = T
  · rw [z]
    exact t
  · exact TabG.kp e (fun q => z (List.mem_singleton.mp q)) (W.tab T' h')
/-- a thing that is new -/
theorem Wd.new {c0 : Int} (W : Wd Ts b c0 fs H) {p : Addr} {o : HO} (n : H p = none) (e : H' p = some o) (W' : Wd Ts b c fs H') : Wd Ts b c ((p, o) :: fs) H' := by
  refine ⟨W'.tab, W'.box, fun f hf => ?_, fun f hf => ?_⟩
  · rcases List.mem_cons.mp hf with z | z
    · rw [z]
      exact e
    · exact W'.obj f z
  · rcases List.mem_cons.mp hf with z | z
    · rw [z]
      refine ⟨fun q => ?_, fun q => ?_⟩
      · obtain ⟨xs, h1, _⟩ := W.box
        exact ne_of_none h1 n (Eq.symm q)
      · obtain ⟨ps, h1, _⟩ := W.tab _ q
        rw [show H p = some (.tbl ps) from h1] at n
        cases n
    · exact W'.off f z
theorem Wd.laid (W : Wd Ts b c fs H) {p : Addr} {o : HO} (n : H p = none) : Wd Ts b c ((p, o) :: fs) (upd H p o) :=
  W.new n upd_same (W.same (same_upd n))
theorem Wd.le (W : Wd Ts b c fs H) {c' : Int} (h : c ≤ c') : Wd Ts b c' fs H := by
  obtain ⟨xs, h1, d, m, t, h2, h3, h4, h5, h6, h7⟩ := W.box
  exact ⟨W.tab, ⟨xs, h1, d, m, t, h2, h3, h4, h5, h6, by omega⟩, W.obj, W.off⟩
end
/-- between two turns, of several tables -/
structure GoodS (Ts : List Addr) (D : Addr) (bs : List Addr) (i : Nat) (H : Hp) : Prop where
  tab : ∀ T ∈ Ts, TabG H T
  lst : H D = some (.lst (bs.map V.ref))
  box : ∀ (j : Nat) (b : Addr), i ≤ j → bs[j]? = some b → BoxAt H b 0
/-- the things that stay within turn i -/
def keptIn (D : Addr) (bs : List Addr) (i : Nat) (H : Hp) : List (Addr × HO) := (D :: bs.drop (i + 1)).map fun a => (a, (H a).getD (.lst []))
theorem GoodS.inn {Ts : List Addr} {D b : Addr} {bs : List Addr} {i : Nat} {H : Hp} (g : GoodS Ts D bs i H) (hb : bs[i]? = some b) (nd : bs.Nodup) (no : D ∉ bs) : Wd Ts b 0 (keptIn D bs i H) H := by
  have B := g.box i b (Nat.le_refl _) hb
  have at_ : ∀ a ∈ D :: bs.drop (i + 1), ∃ xs, H a = some (.lst xs) := fun a ha => by
    rcases List.mem_cons.mp ha with z | z
    · rw [z]
      exact ⟨_, g.lst⟩
    · obtain ⟨j, hj⟩ := List.mem_iff_getElem?.mp z
      rw [List.getElem?_drop] at hj
      obtain ⟨xs, h1, _⟩ := g.box (i + 1 + j) a (by omega) hj
      exact ⟨xs, h1⟩
  refine ⟨g.tab, B, fun f hf => ?_, fun f hf => ?_⟩
  · obtain ⟨a, ha, rfl⟩ := List.mem_map.mp hf
    obtain ⟨xs, h1⟩ := at_ a ha
    show H a = some ((H a).getD (.lst []))
    rw [h1]
    rfl
  · obtain ⟨a, ha, rfl⟩ := List.mem_map.mp hf
    obtain ⟨xs, h1⟩ := at_ a ha
    refine ⟨fun z => ?_, fun z => tab_ne (g.tab a z) h1 (fun ps q => by cases q) rfl⟩
    have z' : a = b := z
    rcases List.mem_cons.mp ha with q | q
    · exact no (by rw [← q, z']; exact List.mem_of_getElem? hb)
    · obtain ⟨j, hj⟩ := List.mem_iff_getElem?.mp q
      rw [List.getElem?_drop] at hj
      obtain ⟨q1, e1⟩ := List.getElem?_eq_some_iff.mp hb
      obtain ⟨q2, e2⟩ := List.getElem?_eq_some_iff.mp hj
      exact List.pairwise_iff_getElem.mp nd i (i + 1 + j) q1 q2 (by omega) (by rw [e1, e2]; exact z'.symm)
theorem GoodS.out {Ts : List Addr} {D b : Addr} {bs : List Addr} {i : Nat} {c : Int} {fs : List (Addr × HO)} {H H' : Hp} (g : GoodS Ts D bs i H) (W : Wd Ts b c fs H') (h : ∀ f ∈ keptIn D bs i H, f ∈ fs) : GoodS Ts D bs (i + 1) H' := by
  have at_ : ∀ a ∈ D :: bs.drop (i + 1), H' a = some ((H a).getD (.lst [])) := fun a ha => W.obj (a, _) (h _ (List.mem_map.mpr ⟨a, ha, rfl⟩))
  refine ⟨W.tab, ?_, fun j b' h1 h2 => ?_⟩
  · have e := at_ D List.mem_cons_self
    rw [g.lst] at e
    exact e
  · have hm : b' ∈ bs.drop (i + 1) := by
      refine List.mem_iff_getElem?.mpr ⟨j - (i + 1), ?_⟩
      rw [List.getElem?_drop, show i + 1 + (j - (i + 1)) = j by omega]
      exact h2
    have e := at_ b' (List.mem_cons_of_mem _ hm)
    obtain ⟨xs, h3, h4⟩ := g.box j b' (by omega) h2
    rw [h3] at e
    exact ⟨xs, e, h4⟩
/-- an amount: numbers from 0 to 10 ** 12 -/
def Amt (ns : List Int) : Prop := ∀ n ∈ ns, 0 ≤ n ∧ n ≤ 1000000000000
def spWide : Sp := fun vs H Q _ => ∃ (b : Addr) (c : Int), vs = [.ref b] ∧ BoxAt H b c ∧ c ≤ 100000000 ∧ ∀ n H', 0 ≤ n → n ≤ 1000000000000 → Kp [b] H H' → BoxAt H' b (c + 6) → Q (.int n) H'
def spAmount : Sp := fun vs H Q _ => ∃ (b : Addr) (c : Int) (k : Nat), vs = [.ref b, .int (k : Int)] ∧ BoxAt H b c ∧ c ≤ 10000000 ∧ k ≤ 100 ∧
  ∀ p ns H', Amt ns → ns.length = k → Kp [b] H H' → BoxAt H' b (c + 600) → H p = none → H' p = some (.tup (ns.map V.int)) → Q (.ref p) H'
/-! two lists, place by place -/
inductive Prs (R : V → V → Prop) : List V → List V → Prop
  | nil : Prs R [] []
  | cons {x y : V} {xs ys : List V} : R x y → Prs R xs ys → Prs R (x :: xs) (y :: ys)
theorem Prs.len {R : V → V → Prop} : ∀ {xs ys : List V}, Prs R xs ys → xs.length = ys.length
  | _, _, .nil => rfl
  | _, _, .cons _ h => congrArg Nat.succ h.len
theorem Prs.get {R : V → V → Prop} : ∀ {xs ys : List V}, Prs R xs ys → ∀ (i : Nat) (x y : V), xs[i]? = some x → ys[i]? = some y → R x y
  | _, _, .nil, _, _, _, h, _ => by simp at h
  | _, _, .cons r h, 0, _, _, h1, h2 => by
    cases h1
    cases h2
    exact r
  | _, _, .cons r h, i + 1, x, y, h1, h2 => h.get i x y h1 h2
theorem Prs.ints {R : V → V → Prop} (r : ∀ i, R (.int i) (.int i)) : ∀ ns : List Int, Prs R (ns.map V.int) (ns.map V.int)
  | [] => .nil
  | n :: ns => .cons (r n) (Prs.ints r ns)
theorem al_int {H : Hp} {n : Nat} (i : Int) : Al H n (.int i) (.int i) := Al.leaf (.inr (.inl ⟨i, rfl, rfl⟩)) n
theorem al_bl {H : Hp} {n : Nat} (b : Bool) : Al H n (.bl b) (.bl b) := Al.leaf (.inl ⟨b, rfl, rfl⟩) n
theorem al_lst {H : Hp} {n : Nat} {p q : Addr} {xs ys : List V} (h1 : H p = some (.lst xs)) (h2 : H q = some (.lst ys)) (hs : xs.length < 100000) (k : Prs (Al H n) xs ys) : Al H (n + 1) (.ref p) (.ref q) :=
  .inr ⟨p, q, xs, ys, rfl, rfl, .inl ⟨h1, h2⟩, k.len, hs, k.get⟩
theorem al_tup {H : Hp} {n : Nat} {p q : Addr} {ns : List Int} (h1 : H p = some (.tup (ns.map V.int))) (h2 : H q = some (.tup (ns.map V.int))) (hs : ns.length < 100000) : Al H (n + 1) (.ref p) (.ref q) :=
  .inr ⟨p, q, _, _, rfl, rfl, .inr ⟨h1, h2⟩, rfl, by rw [List.length_map]; exact hs, (Prs.ints (fun i => al_int i) ns).get⟩
/-! what the amounts come to, number by number -/
def spNothing : Sp := fun vs H Q _ => ∃ k : Nat, vs = [.int (k : Int)] ∧ 1 ≤ k ∧ k ≤ 1000 ∧ ∀ p H', Same H H' → H p = none → H' p = some (.tup ((List.replicate k (0 : Int)).map V.int)) → Q (.ref p) H'
def spZip (K : PySem.W.Frag) (T : Addr) (op : Int → Int → Int) : Sp := fun vs H Q _ => ∃ (a b : Addr) (xs ys : List Int), vs = [.ref a, .ref b] ∧ SqT K H a (xs.map V.int) ∧ SqT K H b (ys.map V.int) ∧ xs.length ≤ 1000 ∧ TabG H T ∧
  ∀ p H', TabG H' T → Kp [T] H H' → H p = none → H' p = some (.tup ((List.zipWith op xs ys).map V.int)) → Q (.ref p) H'
def spZipS (K : PySem.W.Frag) (op : Int → Int → Int) : Sp := fun vs H Q _ => ∃ (a b : Addr) (xs ys : List Int), vs = [.ref a, .ref b] ∧ SqT K H a (xs.map V.int) ∧ SqT K H b (ys.map V.int) ∧ xs.length ≤ 1000 ∧
  ∀ p H', Same H H' → H p = none → H' p = some (.tup ((List.zipWith op xs ys).map V.int)) → Q (.ref p) H'
/-- one that leaves all as it was does so with a table, too -/
theorem zip_tab {K : PySem.W.Frag} {op : Int → Int → Int} (T : Addr) (vs : List V) (H : Hp) (Q : VK) (E : XK) (h : spZip K T op vs H Q E) : spZipS K op vs H Q E := by
  obtain ⟨a, b, xs, ys, e, hX, hY, hl, hT, q⟩ := h
  exact ⟨a, b, xs, ys, e, hX, hY, hl, fun p H' s n h => q p H' (TabG.same s hT) (Same.kp _ s) n h⟩
theorem get_int {xs : List Int} {i : Nat} {v : V} (h : (xs.map V.int)[i]? = some v) : ∃ x, xs[i]? = some x ∧ v = .int x := by
  rw [List.getElem?_map] at h
  cases e : xs[i]? with
  | none => rw [e] at h; cases h
  | some x =>
    rw [e] at h
    exact ⟨x, rfl, (Option.some.inj h).symm⟩
theorem same_putA {H H1 : Hp} {b : Addr} {o : HO} (s : Same H H1) (n : H b = none) : Same H (upd H1 b o) := fun x u e => by
  rw [upd_ne (ne_of_none e n)]
  exact s _ _ e
theorem zip_to {g : V → V → V} {op : Int → Int → Int} (h : ∀ i j, g (.int i) (.int j) = .int (op i j)) : ∀ xs ys : List Int, (((xs.map V.int).zip (ys.map V.int)).map fun v => g v.1 v.2) = (List.zipWith op xs ys).map V.int
  | [], _ => rfl
  | _ :: _, [] => rfl
  | x :: xs, y :: ys => by
    show g (.int x) (.int y) :: (((xs.map V.int).zip (ys.map V.int)).map fun v => g v.1 v.2) = .int (op x y) :: (List.zipWith op xs ys).map V.int
    rw [h, zip_to h xs ys]
theorem zip_ints : ∀ (xs ys : List Int), ∀ v ∈ (xs.map V.int).zip (ys.map V.int), Ints2 v.1 v.2
  | [], _, _, h => by cases h
  | _ :: _, [], _, h => by cases h
  | x :: xs, y :: ys, v, h => by
    rcases List.mem_cons.mp h with e | e
    · rw [e]
      exact ⟨x, y, rfl, rfl⟩
    · exact zip_ints xs ys v e
theorem zip_len {op : Int → Int → Int} (xs ys : List Int) : (List.zipWith op xs ys).length ≤ xs.length := by
  rw [List.length_zipWith]
  omega
theorem rep_flat (k : Nat) (v : V) : (List.replicate k [v]).flatten = List.replicate k v := by
  induction k with
  | zero => rfl
  | succ k ih =>
    rw [List.replicate_succ, List.flatten_cons, ih]
    rfl
theorem kp_of_tabbed {T : Addr} {H H2 : Hp} (h : Tabbed T H H2) : Kp [T] H H2 := fun x o nx e => by
  rw [h.2 x fun z => nx (by rw [z]; exact List.mem_singleton.mpr rfl)]
  exact e
theorem free_of_tabbed {T d : Addr} {H H2 : Hp} (h : Tabbed T H H2) (n : H2 d = none) : H d = none := by
  obtain ⟨⟨ps, h1, _⟩, h2⟩ := h
  by_cases z : d = T
  · rw [z, h1] at n
    cases n
  · rw [← h2 d z]
    exact n
theorem rep_read {K : PySem.W.Frag} {H : Hp} {Q : VK} {t : Addr} {k : Int} {n : Nat} (hk : k = (n : Int)) (h1 : 1 ≤ n) (h2 : n ≤ 1000) (nt : H t = none) (q : ∀ p H', Same H H' → H p = none → H' p = some (.tup ((List.replicate n (0 : Int)).map V.int)) → Q (.ref p) H') :
    rRepU K (.ref t) (.int k) (upd H t (.tup [.int 0])) Q := by
  refine ⟨t, k, [.int 0], rfl, rfl, SqT.of upd_same, by simp, by omega, by omega, by decide, fun z => ?_, fun z p np => ?_⟩
  · have z' : n = 1 := by omega
    subst z'
    exact q t _ (same_upd nt) nt upd_same
  · refine q p _ ((same_upd nt).trans (same_upd np)) ((same_upd nt).free np) ?_
    rw [upd_same, hk, Int.toNat_natCast, rep_flat, List.map_replicate]
theorem at_ints {xs : List Int} {i : Nat} {x : Int} (h : xs[i]? = some x) : atI (xs.map V.int) (0 + (i : Int)) = some (.int x) := by
  rw [Int.zero_add]
  exact atI_nat (by rw [List.getElem?_map, h]; rfl)
theorem zw_take {op : Int → Int → Int} {xs ys : List Int} {i : Nat} {x y : Int} (hx : xs[i]? = some x) (hy : ys[i]? = some y) : (List.zipWith op xs ys).take (i + 1) = (List.zipWith op xs ys).take i ++ [op x y] := by
  rw [List.take_add_one, List.getElem?_zipWith, hx, hy]
  rfl
theorem same_seqT {K : PySem.W.Frag} {H H' : Hp} {a : Addr} {xs : List V} (e : Same H H') (h : SqT K H a xs) : SqT K H' a xs := by
  rcases h with (h | ⟨o, h⟩) | h
  · exact .inl (.inl (e _ _ h))
  · exact .inl (.inr ⟨o, e _ _ h⟩)
  · exact .inr h
theorem Amt.take {ns : List Int} (h : Amt ns) (k : Nat) : Amt (ns.take k) := fun n hn => h n (List.mem_of_mem_take hn)
theorem Amt.drop {ns : List Int} (h : Amt ns) (k : Nat) : Amt (ns.drop k) := fun n hn => h n (List.mem_of_mem_drop hn)
theorem Amt.app {ns ms : List Int} (h : Amt ns) (h' : Amt ms) : Amt (ns ++ ms) := fun n hn => by
  rcases List.mem_append.mp hn with z | z
  · exact h n z
  · exact h' n z
theorem BoxAt.le {H : Hp} {b : Addr} {c c' : Int} (B : BoxAt H b c) (h : c ≤ c') : BoxAt H b c' := by
  obtain ⟨xs, h1, d, m, t, h2, h3, h4, h5, h6, h7⟩ := B
  exact ⟨xs, h1, d, m, t, h2, h3, h4, h5, h6, by omega⟩
theorem box_free {H H' : Hp} {b : Addr} {c : Int} (B : BoxAt H' b c) (k : Kp [b] H H') {x : Addr} (n : H' x = none) : H x = none := by
  cases e : H x with
  | none => rfl
  | some o =>
    by_cases z : x = b
    · obtain ⟨ys, h1, _⟩ := B
      rw [z, h1] at n
      cases n
    · rw [k _ _ (fun q => z (List.mem_singleton.mp q)) e] at n
      cases n
theorem box_ne {H : Hp} {b p : Addr} {c : Int} {xs : List V} (B : BoxAt H b c) (h : H p = some (.tup xs)) : p ∉ [b] := fun z => by
  obtain ⟨ys, h1, _⟩ := B
  rw [← List.mem_singleton.mp z, h] at h1
  cases h1
theorem box_new {H : Hp} {b p : Addr} {c : Int} (B : BoxAt H b c) (h : H p = none) : p ∉ [b] := fun z => by
  obtain ⟨ys, h1, _⟩ := B
  rw [← List.mem_singleton.mp z, h] at h1
  cases h1
end My

namespace My
open PySem PySem.Spec PyProof.Rows L2 GX GxR
/-- a draw below any number up to 2 ** 60 -/
def spTakeW : Sp := fun vs H Q _ => ∃ (b : Addr) (c many : Int), vs = [.ref b, .int many] ∧ BoxAt H b c ∧ 0 < many ∧ many ≤ 1152921504606846976 ∧ c ≤ 1000000000 ∧
  ∀ r H', 0 ≤ r → r < many → Kp [b] H H' → BoxAt H' b (c + 1) → Q (.int r) H'
theorem wideOk {i many : Int} (h0 : 0 < many) (h1 : many ≤ 1152921504606846976) : CDivW i many :=
  wide_div (b := 62) h0 (by have : (2 : Nat) ^ 62 = 4611686018427387904 := by decide
                            rw [this]; omega) (by decide) (by decide)
end My

namespace My
open PySem PySem.Spec PyProof.Rows L2 GX GxR
theorem cat_read {K : PySem.W.Frag} {H : Hp} {Q : VK} {a b : Addr} {xs ys : List V} (N : Addr → Prop) (ha : H a = some (.tup xs)) (hb : H b = some (.tup ys)) (na : N a) (nb : N b) (hn : ∀ p, H p = none → N p) (hl : xs.length + ys.length ≤ sizeLine)
    (q : ∀ p H', Same H H' → N p → H' p = some (.tup (xs ++ ys)) → Q (.ref p) H') : rCatA K (.ref a) (.ref b) H Q := by
  refine ⟨a, b, xs, ys, rfl, rfl, SqT.of ha, SqT.of hb, hl, fun e => ?_, fun e1 e2 => ?_, fun e1 e2 p np => q p _ (same_upd np) (hn p np) upd_same⟩
  · subst e
    exact q b H (Same.refl _) nb hb
  · subst e2
    exact q a H (Same.refl _) na (by rw [List.append_nil]; exact ha)
end My

namespace GX
open PySem PySem.Spec PyProof.Rows L2
theorem fold_min (n : Int) : ∀ ns : List Int, (ns.foldl min n = n ∨ ns.foldl min n ∈ ns) ∧ ns.foldl min n ≤ n ∧ ∀ y ∈ ns, ns.foldl min n ≤ y := by
  intro ns
  induction ns generalizing n with
  | nil => exact ⟨.inl rfl, Int.le_refl _, fun _ h => nomatch h⟩
  | cons m r ih =>
    obtain ⟨h1, h2, h3⟩ := ih (min n m)
    rw [List.foldl_cons]
    refine ⟨?_, by omega, fun y hy => ?_⟩
    · rcases h1 with e | e
      · rw [e]
        by_cases hm : n ≤ m
        · exact .inl (by omega)
        · exact .inr (by rw [show min n m = m by omega]; exact List.mem_cons_self)
      · exact .inr (List.mem_cons_of_mem _ e)
    · rcases List.mem_cons.mp hy with e | e
      · rw [e]
        omega
      · exact h3 y e
/-- min(xs, default=d), xs a list of whole numbers -/
def rMinD (K : PySem.W.Frag) : List V → List V → Hp → VK → Prop := fun vs zs H Q => ∃ (a : Addr) (ns : List Int) (d : V), vs = [.ref a] ∧ zs = [d] ∧ SqL K H a (ns.map V.int) ∧ (ns = [] → Q d H) ∧ ∀ m, m ∈ ns → (∀ y ∈ ns, m ≤ y) → Q (.int m) H
theorem cr_minD {X : Cx} (hc : X.calm = true) (hu : X.A.units + 1 < cLine) : CallRK X (.builtin "min") ["default"] (rMinD X.K) := by
  intro pins s σ H xs zs us ws Q I r1 r2 h
  obtain ⟨a, ns, d, rfl, rfl, hq, q0, q1⟩ := h
  obtain ⟨u, rfl, ru⟩ := vals1 r1
  obtain ⟨u2, rfl, ru2⟩ := vals1 r2
  obtain rfl : u = Value.ref a := ru
  obtain ⟨its, rv, pl, _⟩ := I.list hq
  have rd : ∀ (ns : List Int) (us : List Value), Vals (ns.map V.int) us → ReadsAll s.heap us (ns.map PyData.int) [] := by
    intro ns
    induction ns with
    | nil =>
      intro us h
      cases h
      exact .nil
    | cons n r ih =>
      intro us h
      cases h with
      | cons h1 h2 =>
        obtain ⟨t, rfl⟩ := h1
        exact .cons (as := []) (bs := []) (.int n t) (ih _ h2)
  refine PySem.W.min_list_default (xs := ns.map PyData.int) (as := []) (I.ok.hd hc) pl.isList (rd ns its rv) ⟨fun x hx y hy => ?_, fun x hx => ?_⟩ (by rw [PySem.W.ke_depthAll]; exact hu) (fun e h' tk kp => ?_) (fun y ys i v h' tk bs e hv hr kp => ?_)
  · obtain ⟨i, _, rfl⟩ := List.mem_map.mp hx
    obtain ⟨j, _, rfl⟩ := List.mem_map.mp hy
    rfl
  · obtain ⟨i, _, rfl⟩ := List.mem_map.mp hx
    exact fun z => nomatch z
  · have e2 : ns = [] := by
      cases ns with
      | nil => rfl
      | cons _ _ => cases e
    exact ⟨d, H, I.kept kp, ru2, q0 e2⟩
  · cases ns with
    | nil => cases e
    | cons n r =>
      rw [List.map_cons] at e
      injection e with e1 e2
      subst e1 e2
      rw [PySem.W.minD_ints] at hr
      obtain ⟨t, rfl⟩ : ∃ t, v = Value.int (r.foldl min n) t := by
        cases hr
        exact ⟨_, rfl⟩
      obtain ⟨h1, h2, h3⟩ := fold_min n r
      refine ⟨.int (r.foldl min n), H, I.kept kp, ⟨t, rfl⟩, q1 _ ?_ fun y hy => ?_⟩
      · rcases h1 with e | e
        · rw [e]
          exact List.mem_cons_self
        · exact List.mem_cons_of_mem _ e
      · rcases List.mem_cons.mp hy with e | e
        · rw [e]
          exact h2
        · exact h3 y e
theorem fold_max (n : Int) : ∀ ns : List Int, (ns.foldl max n = n ∨ ns.foldl max n ∈ ns) ∧ n ≤ ns.foldl max n ∧ ∀ y ∈ ns, y ≤ ns.foldl max n := by
  intro ns
  induction ns generalizing n with
  | nil => exact ⟨.inl rfl, Int.le_refl _, fun _ h => nomatch h⟩
  | cons m r ih =>
    obtain ⟨h1, h2, h3⟩ := ih (max n m)
    rw [List.foldl_cons]
    refine ⟨?_, by omega, fun y hy => ?_⟩
    · rcases h1 with e | e
      · rw [e]
        by_cases hm : m ≤ n
        · exact .inl (by omega)
        · exact .inr (by rw [show max n m = m by omega]; exact List.mem_cons_self)
      · exact .inr (List.mem_cons_of_mem _ e)
    · rcases List.mem_cons.mp hy with e | e
      · rw [e]
        omega
      · exact h3 y e
/-- max(t), t a tuple of whole numbers -/
def rMaxT (K : PySem.W.Frag) : List V → Hp → VK → Prop := fun vs H Q => ∃ (a : Addr) (ns : List Int), vs = [.ref a] ∧ SqT K H a (ns.map V.int) ∧ 0 < ns.length ∧ ∀ m, m ∈ ns → (∀ y ∈ ns, y ≤ m) → Q (.int m) H
theorem cr_maxT {X : Cx} (hc : X.calm = true) (hu : X.A.units + 1 < cLine) : CallR X (.builtin "max") (rMaxT X.K) := by
  intro pins s σ H xs us Q I r1 h
  obtain ⟨a, ns, rfl, hq, hn, q1⟩ := h
  obtain ⟨u, rfl, ru⟩ := vals1 r1
  obtain rfl : u = Value.ref a := ru
  obtain ⟨its, rv, pl, _⟩ := I.tuple hq
  have rd : ∀ (ns : List Int) (us : List Value), Vals (ns.map V.int) us → ReadsAll s.heap us (ns.map PyData.int) [] := by
    intro ns
    induction ns with
    | nil =>
      intro us h
      cases h
      exact .nil
    | cons n r ih =>
      intro us h
      cases h with
      | cons h1 h2 =>
        obtain ⟨t, rfl⟩ := h1
        exact .cons (as := []) (bs := []) (.int n t) (ih _ h2)
  cases ns with
  | nil => cases hn
  | cons n r =>
    refine PySem.W.max_tuple_data (x := .int n) (xs := r.map PyData.int) (as := []) (I.ok.hd hc) pl (rd (n :: r) its rv) ⟨fun x hx y hy => ?_, fun x hx => ?_⟩ ?_ (fun i v h' tk bs hv hr kp => ?_)
    · obtain ⟨i, _, rfl⟩ := List.mem_map.mp (show x ∈ (n :: r).map PyData.int from hx)
      obtain ⟨j, _, rfl⟩ := List.mem_map.mp (show y ∈ (n :: r).map PyData.int from hy)
      rfl
    · obtain ⟨i, _, rfl⟩ := List.mem_map.mp (show x ∈ (n :: r).map PyData.int from hx)
      exact fun z => nomatch z
    · show X.A.units + 1 + PyData.depthAll ((n :: r).map PyData.int) < cLine
      rw [PySem.W.ke_depthAll]
      exact hu
    · rw [PySem.W.maxD_ints] at hr
      obtain ⟨t, rfl⟩ : ∃ t, v = Value.int (r.foldl max n) t := by
        cases hr
        exact ⟨_, rfl⟩
      obtain ⟨h1, h2, h3⟩ := fold_max n r
      refine ⟨.int (r.foldl max n), H, I.kept kp, ⟨t, rfl⟩, q1 _ ?_ fun y hy => ?_⟩
      · rcases h1 with e | e
        · rw [e]
          exact List.mem_cons_self
        · exact List.mem_cons_of_mem _ e
      · rcases List.mem_cons.mp hy with e | e
        · rw [e]
          exact h2
        · exact h3 y e
end GX

namespace My
open PySem PySem.Spec PyProof.Rows L2 GX GxR
/-- text * n -/
theorem op_mul_str {X : Cx} : OpR X (binaryOp .Mult) (fun x y H Q => ∃ z n, x = .str z ∧ y = .int n ∧ MulOk z n ∧ Q (.str (Txt.mul z n)) H) := by
  intro pins s σ H x y v u Q I rx ry h
  obtain ⟨z, n, rfl, rfl, hz, q⟩ := h
  obtain ⟨t, rfl⟩ := rx
  obtain ⟨t', rfl⟩ := ry
  exact SB.mul hz (fun t' k => ⟨.str _, H, I.tok _, ⟨_, rfl⟩, q⟩)
/-- all tuples stay -/
def KTu (H H' : Hp) : Prop := ∀ x xs, H x = some (.tup xs) → H' x = some (.tup xs)
theorem KTu.refl (H : Hp) : KTu H H := fun _ _ h => h
theorem KTu.trans {H H1 H2 : Hp} (a : KTu H H1) (b : KTu H1 H2) : KTu H H2 := fun x xs h => b x xs (a x xs h)
theorem Same.kt {H H' : Hp} (a : Same H H') : KTu H H' := fun x xs h => a x _ h
theorem Kp.kt {b : Addr} {c : Int} {H H' : Hp} (k : Kp [b] H H') (B : BoxAt H b c) : KTu H H' := fun x xs h => k x _ (fun z => by
  obtain ⟨ys, h1, _⟩ := B
  rw [List.mem_singleton.mp z, h1] at h
  cases h) h
theorem kt_upd {H : Hp} {p : Addr} {o : HO} (h : ∀ xs, H p ≠ some (.tup xs)) : KTu H (upd H p o) := fun x xs e => by
  rw [upd_ne (fun z => h xs (by rw [← z]; exact e))]
  exact e
theorem kt_new {H : Hp} {p : Addr} {o : HO} (h : H p = none) : KTu H (upd H p o) := kt_upd fun xs e => by rw [h] at e; cases e
theorem kt_put {H : Hp} {p : Addr} {o u : HO} (h : H p = some u) (n : ∀ xs, u ≠ .tup xs) : KTu H (upd H p o) := kt_upd fun xs e => by
  rw [h] at e
  exact n xs (Option.some.inj e)
theorem nb_of {H : Hp} {b p : Addr} {c : Int} (B : BoxAt H b c) (n : H p = none) : p ≠ b := fun z => by
  obtain ⟨xs, h1, _⟩ := B
  rw [z, h1] at n
  cases n
theorem kp_new {H H' : Hp} {b p : Addr} {o : HO} (k : Kp [b] H H') (n : H' p = none) : Kp [b] H (upd H' p o) := fun x u nx e => same_upd n _ _ (k _ _ nx e)
theorem kp_free {H H' : Hp} {b p : Addr} (k : Kp [b] H H') (nb : p ≠ b) (n : H' p = none) : H p = none := by
  cases h : H p with
  | none => rfl
  | some o =>
    rw [k p o (fun z => nb (List.mem_singleton.mp z)) h] at n
    cases n
theorem ixAt {n m : Nat} (h : m < n) : ixN n (m : Int) = some m := by
  have h1 : (0 : Int) ≤ (m : Int) := by omega
  have h2 : (m : Int) < (n : Int) := by omega
  simp only [ixN, h1, h2, if_true, Int.toNat_natCast]
theorem amt_app {ns : List Int} {n : Int} (h : Amt ns) (h0 : 0 ≤ n) (h1 : n ≤ 1000000000000) : Amt (ns ++ [n]) := fun x hx => by
  rcases List.mem_append.mp hx with hx | hx
  · exact h x hx
  · rw [List.mem_singleton.mp hx]
    exact ⟨h0, h1⟩
theorem kp_put {H H' : Hp} {b p : Addr} {o : HO} (k : Kp [b] H H') (n : H p = none) : Kp [b] H (upd H' p o) := fun x u nx e => by
  rw [upd_ne (ne_of_none e n)]
  exact k _ _ nx e
theorem sIx_last (n d : Nat) : HT.sIx n d (some (-1)) = n - 1 := by
  show (if (-1 : Int) < 0 then ((-1 : Int) + (n : Int)).toNat else min (-1 : Int).toNat n) = n - 1
  rw [if_pos (by decide)]
  omega
/-- a gang -/
structure Gang where
  name : Str
  guild : Str
  rank : Int
  many : Int
  want : List Int
  how : Str
  len : Int
def Gang.flat (G : Gang) (w : Addr) : List V := [.str G.name, .str G.guild, .int G.rank, .int G.many, .ref w, .str G.how, .int G.len]
def GangAt (H : Hp) (g : Addr) (G : Gang) : Prop := ∃ w, H g = some (.tup (G.flat w)) ∧ H w = some (.tup (G.want.map V.int))
def RowAt (H : Hp) (r : Addr) (R : Gang × Int) : Prop := ∃ g, H r = some (.tup [.ref g, .int R.2]) ∧ GangAt H g R.1
theorem GangAt.kt {H H' : Hp} {g : Addr} {G : Gang} (k : KTu H H') (h : GangAt H g G) : GangAt H' g G := by
  obtain ⟨w, h1, h2⟩ := h
  exact ⟨w, k _ _ h1, k _ _ h2⟩
theorem RowAt.kt {H H' : Hp} {r : Addr} {R : Gang × Int} (k : KTu H H') (h : RowAt H r R) : RowAt H' r R := by
  obtain ⟨g, h1, h2⟩ := h
  exact ⟨g, k _ _ h1, h2.kt k⟩
def hows : List Str := ["any", "apart", "near", "wide"]
structure GangOk (gs : List Str) (wr : Nat) (G : Gang) : Prop where
  guild : G.guild ∈ gs
  wlen : G.want.length = wr
  amt : Amt G.want
  some : ∃ n ∈ G.want, n ≠ 0
  m1 : 1 ≤ G.many
  m60 : G.many ≤ 60
  r0 : 0 ≤ G.rank
  r9 : G.rank ≤ 9
  l1 : 1 ≤ G.len
  l6 : G.len ≤ 1000000
  how : G.how ∈ hows
def spGang : Sp := fun vs H Q _ => ∃ (b gl : Addr) (c : Int) (name : Str) (gs : List Str) (wr : Nat) (wide : Int), vs = [.ref b, .str name, .ref gl, .int (wr : Int), .int wide] ∧ BoxAt H b c ∧ c ≤ 10000000 ∧ H gl = some (.lst (gs.map V.str)) ∧ 1 ≤ gs.length ∧ gs.length ≤ 12 ∧ 1 ≤ wr ∧ wr ≤ 8 ∧ 1 ≤ wide ∧ wide ≤ 1000000000000 ∧
  ∀ g G H', GangOk gs wr G → G.name = name → Kp [b] H H' → BoxAt H' b (c + 20) → H g = none → GangAt H' g G → Q (.ref g) H'
def spDue : Sp := fun vs H Q _ => ∃ (b : Addr) (c : Int) (wr : Nat) (wide : Int), vs = [.ref b, .int (wr : Int), .int wide] ∧ BoxAt H b c ∧ c ≤ 10000000 ∧ 1 ≤ wr ∧ wr ≤ 8 ∧ 1 ≤ wide ∧ wide ≤ 1000000000000 ∧
  ∀ p ns H', Amt ns → ns.length = wr → Kp [b] H H' → BoxAt H' b (c + 20) → H p = none → H' p = some (.tup (ns.map V.int)) → Q (.ref p) H'
/-- lists of boxes' letters and of texts are unlike -/
theorem box_strs {H : Hp} {b p : Addr} {c : Int} {zs : List Str} (B : BoxAt H b c) (h : H p = some (.lst (zs.map V.str))) : p ≠ b := fun z => by
  obtain ⟨xs, h1, d, m, t, rfl, _⟩ := B
  rw [z, h1] at h
  cases zs with
  | nil => cases h
  | cons z1 zs => cases h
theorem box_refs {H : Hp} {b p : Addr} {c : Int} {as : List Addr} (B : BoxAt H b c) (h : H p = some (.lst (as.map V.ref))) : p ≠ b := fun z => by
  obtain ⟨xs, h1, d, m, t, rfl, _⟩ := B
  rw [z, h1] at h
  cases as with
  | nil => cases h
  | cons z1 zs => cases h
theorem atL {xs : List V} {v : V} {r : Int} (h0 : 0 ≤ r) (h : xs[r.toNat]? = some v) : atI xs r = some v := by
  have := atI_nat (xs := xs) (j := r.toNat) h
  rwa [Int.toNat_of_nonneg h0] at this
end My

namespace My
open PySem PySem.Spec PyProof.Rows L2 GX GxR
def topS (i : Nat) : Stmt := PySem.Challenge.pw_clusterhall_k69_overborne.main.body.getD i (.Pass ⟨0, 0, 0, 0⟩)
abbrev sBox : Stmt := topS 14
abbrev sTake : Stmt := topS 15
theorem scBox : FnScope ["_law_script", "_law_k", "_law_cell", "_law_digits"] ["_law_script", "_law_k"] (defScope sBox) := ⟨rfl, rfl, rfl, by decide +kernel, rfl, by decide +kernel, by decide +kernel⟩
theorem scTake : FnScope ["_law_box_here", "_law_many", "_law_found", "_law_once"] ["_law_box_here", "_law_many"] (defScope sTake) := ⟨rfl, rfl, rfl, by decide +kernel, rfl, by decide +kernel, by decide +kernel⟩
section
variable {P : Program} {w : World} {K : PySem.W.Frag} {mg : Str → Option Value} {base : Heap}
theorem ok_box {f : Addr} {fd : FuncData} {k : Nat} (F : Fun K "_law_box" "_law_box" sBox f fd) (T : Txt mg) : FnOk P w K mg base CX0 (k + 1) f fd ["_law_script", "_law_k"] (spBox K) := by
  refine F.ok scBox (fun vs H Q E h => ?_) (fun cdv A outer s H vs Q E hr h => ?_)
  · obtain ⟨a, ns, k, rfl, _⟩ := h
    rfl
  · obtain ⟨a, ns, k, rfl, hS, hk, q⟩ := h
    refine ⟨_, (pss_cons (ps_set (i := 2) scBox.nd rfl (.inl rfl) (pe_ifExp (pt_cmpR op_lt (pv 1) (pe_callB call_len_seq (by rfl) T.len PySem.boot_len (pa_cons (pv 0) pa_nil)) (nomark _)) (pe_ix ix_list (pv 0) (pv 1) (fun _ _ => rfl)) pe_int))
      (pss_cons (ps_set (i := 3) scBox.nd rfl (.inl rfl) (pe_ifExp (pt_cmpR op_ge (pe_callB call_abs (by rfl) T.abs (by decide +kernel) (pa_cons (pv 2) pa_nil)) (pe_op op_pow pe_int pe_int) (nomark _)) (pe_callB call_abs (by rfl) T.abs (by decide +kernel) (pa_cons (pv 2) pa_nil)) pe_int))
      (pss_one (ps_ret (pe_lst (pa_cons (pv 3) (pa_cons (pe_op op_mod (pe_op op_mul (pe_op op_add (pe_op op_add (pe_op op_mod (pv 2) pe_int) (pe_op op_mul pe_int (pv 1))) pe_int) pe_int) pe_int) (pa_cons pe_int pa_nil)))))))), ?_⟩
    have last : ∀ (cell dg : Int), 0 ≤ dg → ∀ y, y = [some (V.ref a), some (V.int (k : Int)), some (V.int cell), some (V.int dg)] →
        (tRet (tLst (tCons (tVar 3) (tCons (tOp (rI (fun _ j => 0 < j) fun i j => .int (i % j)) (tOp (rI CMul fun i j => .int (i * j)) (tOp (rI0 fun i j => .int (i + j)) (tOp (rI0 fun i j => .int (i + j)) (tOp (rI (fun _ j => 0 < j) fun i j => .int (i % j)) (tVar 2) (tC (.int 2147483647))) (tOp (rI CMul fun i j => .int (i * j)) (tC (.int 7919)) (tVar 1))) (tC (.int 11))) (tC (.int 48271))) (tC (.int 2147483629))) (tCons (tC (.int 0)) tNil)))) : TS)
          { nx := fun _ H' => Q .non H', rt := Q } y H := fun cell dg h0 y hy => by
      subst hy
      have b1 : 0 ≤ cell % 2147483647 := Int.emod_nonneg _ (by decide)
      have b2 : cell % 2147483647 < 2147483647 := Int.emod_lt_of_pos _ (by decide)
      refine ⟨_, rfl, _, rfl, cell, 2147483647, rfl, rfl, (by show (0 : Int) < 2147483647; decide), _, rfl, 7919, (k : Int), rfl, rfl, .inl ⟨by decide, by decide⟩, _, _, rfl, rfl, _, _, rfl, rfl, _, 48271, rfl, rfl, .inr ⟨by decide, by decide⟩, _, 2147483629, rfl, rfl, (by show (0 : Int) < 2147483629; decide), by show 3 ≤ sizeLine; decide, fun p hp => q p _ hp ⟨_, _, _, rfl, h0, Int.emod_nonneg _ (by decide), Int.emod_lt_of_pos _ (by decide), Int.le_refl _, Int.le_refl _⟩⟩
    refine ⟨_, rfl, _, rfl, a, _, rfl, .inl hS, _, _, rfl, rfl, _, rfl, ite2 (fun e => ?_) (fun e => ?_)⟩
    · have e1 := of_decide_eq_true e
      rw [List.length_map] at e1
      have hk' : k < ns.length := by omega
      refine ⟨_, rfl, _, rfl, a, _, _, .int ns[k], rfl, rfl, hS, atI_nat (by rw [List.getElem?_map, List.getElem?_eq_getElem hk']; rfl), ?_⟩
      refine ⟨_, rfl, _, rfl, 10, 18, rfl, rfl, ⟨by decide, by decide, by decide⟩, _, _, rfl, rfl, _, rfl, ite2 (fun e => ⟨_, rfl, _, rfl, last _ _ ?_ _ rfl⟩) (fun e => last _ _ (Int.le_refl _) _ rfl)⟩
      split <;> omega
    · refine ⟨_, rfl, _, rfl, 10, 18, rfl, rfl, ⟨by decide, by decide, by decide⟩, _, _, rfl, rfl, _, rfl, ite2 (fun e => ⟨_, rfl, _, rfl, last _ _ ?_ _ rfl⟩) (fun e => last _ _ (Int.le_refl _) _ rfl)⟩
      split <;> omega
theorem ok_take {f : Addr} {fd : FuncData} {k : Nat} (F : Fun K "_law_take" "_law_take" sTake f fd) : FnOk P w K mg base CX0 (k + 1) f fd ["_law_box_here", "_law_many"] spTakeW := by
  refine F.ok scTake (fun vs H Q E h => ?_) (fun cdv A outer s H vs Q E hr h => ?_)
  · obtain ⟨b, c, many, rfl, _⟩ := h
    rfl
  · obtain ⟨b, c, many, rfl, ⟨xs, hb, d, m, t, rfl, hd, hm, hm2, ht, htc⟩, hmany, hmany2, hc, q⟩ := h
    refine ⟨_, pss_cons (ps_if (pt_cmpR op_gt (pe_ix ix_list (pv 0) pe_int (fun _ _ => rfl)) pe_int (nomark _))
        (pss_cons (ps_set (i := 2) scTake.nd rfl (.inl rfl) (pe_op op_mod (pe_ix ix_list (pv 0) pe_int (fun _ _ => rfl)) (pv 1)))
        (pss_cons (ps_asg (pe_op op_fdivW (pe_ix ix_list (pv 0) pe_int (fun _ _ => rfl)) (pv 1)) (pg_sub (pv 0) pe_int set_list))
        (pss_one (ps_ret (pv 2))))) pss_nil)
      (pss_cons (ps_asg (pe_op op_add (pe_ix ix_list (pv 0) pe_int (fun _ _ => rfl)) pe_int) (pg_sub (pv 0) pe_int set_list))
      (pss_cons (ps_set (i := 3) scTake.nd rfl (.inl rfl) (pe_op op_mod (pe_op op_mul (pe_op op_add (pe_ix ix_list (pv 0) pe_int (fun _ _ => rfl)) (pe_op op_mul pe_int (pe_ix ix_list (pv 0) pe_int (fun _ _ => rfl)))) (pe_op op_add pe_int (pe_ix ix_list (pv 0) pe_int (fun _ _ => rfl)))) pe_int))
      (pss_cons (ps_asg (pe_op op_mod (pe_op op_add (pe_op op_mul (pv 3) (pe_op op_add (pe_op op_mod (pv 3) pe_int) pe_int)) (pe_ix ix_list (pv 0) pe_int (fun _ _ => rfl))) pe_int) (pg_sub (pv 0) pe_int set_list))
      (pss_one (ps_ret (pe_op op_mod (pe_op op_fdiv (pe_op op_mod (pe_op op_mul (pe_ix ix_list (pv 0) pe_int (fun _ _ => rfl)) (pe_op op_add (pe_op op_mod (pe_ix ix_list (pv 0) pe_int (fun _ _ => rfl)) pe_int) pe_int)) pe_int) pe_int) (pv 1))))))), ?_⟩
    refine ⟨.ref b, rfl, b, _, 0, .int d, rfl, rfl, SqL.of hb, rfl, _, 0, rfl, rfl, _, rfl, ite2 (fun e => ?_) (fun e => ?_)⟩
    · have e1 : 0 < d := of_decide_eq_true e
      refine ⟨.ref b, rfl, b, _, 0, .int d, rfl, rfl, SqL.of hb, rfl, .int many, rfl, d, many, rfl, rfl, hmany, ?_⟩
      refine ⟨.ref b, rfl, b, _, 0, .int d, rfl, rfl, SqL.of hb, rfl, .int many, rfl, d, many, rfl, rfl, wideOk hmany hmany2, .ref b, rfl, b, _, 0, 0, rfl, rfl, hb, rfl, _, rfl, ?_⟩
      refine q _ _ (Int.emod_nonneg _ (by omega)) (Int.emod_lt_of_pos _ hmany) (kp_upd (List.mem_singleton.mpr rfl)) ⟨_, upd_same, d / many, m, t, rfl, Int.ediv_nonneg hd (by omega), hm, hm2, ht, by omega⟩
    · have u1 : upd H b (.lst [.int d, .int m, .int (t + 1)]) b = some (.lst [.int d, .int m, .int (t + 1)]) := upd_same
      refine ⟨.ref b, rfl, b, _, 2, .int t, rfl, rfl, SqL.of hb, rfl, t, 1, rfl, rfl, .ref b, rfl, b, _, 2, 2, rfl, rfl, hb, rfl, ?_⟩
      refine ⟨.ref b, rfl, b, _, 1, .int m, rfl, rfl, SqL.of u1, rfl, .ref b, rfl, b, _, 2, .int (t + 1), rfl, rfl, SqL.of u1, rfl, 39373, t + 1, rfl, rfl, .inl ⟨by decide, by decide⟩, m, _, rfl, rfl,
        .ref b, rfl, b, _, 2, .int (t + 1), rfl, rfl, SqL.of u1, rfl, 48271, t + 1, rfl, rfl, _, _, rfl, rfl, .inr ⟨by omega, by omega⟩, _, 2147483647, rfl, rfl, (by show (0 : Int) < 2147483647; decide), ?_⟩
      obtain ⟨once, hon⟩ : ∃ once : Int, (m + 39373 * (t + 1)) * (48271 + (t + 1)) % 2147483647 = once := ⟨_, rfl⟩
      have o1 : 0 ≤ once % 40009 := Int.emod_nonneg _ (by decide)
      have o2 : once % 40009 < 40009 := Int.emod_lt_of_pos _ (by decide)
      obtain ⟨m3, hm3⟩ : ∃ m3 : Int, (once * (once % 40009 + 7) + (t + 1)) % 2147483629 = m3 := ⟨_, rfl⟩
      have m1 : 0 ≤ m3 := by rw [← hm3]; exact Int.emod_nonneg _ (by decide)
      have m2 : m3 < 2147483629 := by rw [← hm3]; exact Int.emod_lt_of_pos _ (by decide)
      have hon' : V.int ((m + 39373 * (t + 1)) * (48271 + (t + 1)) % 2147483647) = .int once := congrArg V.int hon
      have hm3' : V.int ((once * (once % 40009 + 7) + (t + 1)) % 2147483629) = .int m3 := congrArg V.int hm3
      have u2 : upd (upd H b (.lst [.int d, .int m, .int (t + 1)])) b (.lst [.int d, .int ((once * (once % 40009 + 7) + (t + 1)) % 2147483629), .int (t + 1)]) b = some (.lst [.int d, .int m3, .int (t + 1)]) := by rw [hm3', upd_same]
      refine ⟨_, rfl, _, rfl, once, 40009, hon', rfl, (by show (0 : Int) < 40009; decide), _, 7, rfl, rfl, once, _, hon', rfl, .inr ⟨by omega, by omega⟩, .ref b, rfl, b, _, 2, .int (t + 1), rfl, rfl, SqL.of u1, rfl, _, _, rfl, rfl, _, 2147483629, rfl, rfl, (by show (0 : Int) < 2147483629; decide),
        .ref b, rfl, b, _, 1, 1, rfl, rfl, u1, rfl, ?_⟩
      refine ⟨.ref b, rfl, b, _, 1, .int m3, rfl, rfl, SqL.of u2, rfl, .ref b, rfl, b, _, 1, .int m3, rfl, rfl, SqL.of u2, rfl, m3, 1009, rfl, rfl, (by show (0 : Int) < 1009; decide), _, 3, rfl, rfl, m3, _, rfl, rfl, .inl ⟨by omega, by omega⟩, _, 998244353, rfl, rfl, (by show (0 : Int) < 998244353; decide), _, 7, rfl, rfl, ⟨by decide, by decide⟩, .int many, rfl, _, many, rfl, rfl, hmany, ?_⟩
      exact q _ _ (Int.emod_nonneg _ (by omega)) (Int.emod_lt_of_pos _ hmany) ((kp_upd (List.mem_singleton.mpr rfl)).trans (kp_upd (List.mem_singleton.mpr rfl))) ⟨_, u2, d, m3, t + 1, rfl, hd, m1, m2, by omega, by omega⟩
end
end My

namespace My
open PySem PySem.Spec PyProof.Rows L2 GX GxR
theorem sIx_nat (n d j : Nat) : HT.sIx n d (some (j : Int)) = min j n := by
  show (if (j : Int) < 0 then ((j : Int) + (n : Int)).toNat else min (j : Int).toNat n) = min j n
  rw [if_neg (by omega), Int.toNat_natCast]
theorem cut_drop (xs : List V) (j : Nat) : cutV xs (some (j : Int)) none = xs.drop j := by
  unfold cutV
  rw [HT.sIx_none, sIx_nat]
  by_cases h : j ≤ xs.length
  · rw [Nat.min_eq_left h, List.take_of_length_le (by rw [List.length_drop]; exact Nat.le_refl _)]
  · rw [Nat.min_eq_right (by omega), Nat.sub_self, List.take_zero, List.drop_eq_nil_of_le (by omega)]
theorem cut_take (xs : List V) (j : Nat) : cutV xs none (some (j : Int)) = xs.take j := by
  unfold cutV
  rw [HT.sIx_none, sIx_nat, List.drop_zero, Nat.sub_zero]
  by_cases h : j ≤ xs.length
  · rw [Nat.min_eq_left h]
  · rw [Nat.min_eq_right (by omega), List.take_of_length_le (Nat.le_refl _), List.take_of_length_le (by omega)]
/-! guilds -/
def some12 : List Str := ["n", "no", "nor", "north", "s", "so", "e", "west", "westward", "ab", "a", "zz"]
def guildsOf (t n : Nat) : List Str := (some12.drop t ++ some12.take t).take n
structure GsOk (gs : List Str) : Prop where
  nd : gs.Nodup
  l1 : 1 ≤ gs.length
  l12 : gs.length ≤ 12
  str : ∀ z ∈ gs, PySem.PyData.strOk z = true
  len : ∀ z ∈ gs, z.length ≤ 8
theorem guilds_ok1 : ∀ t, t < 12 → ∀ n ∈ [1, 2, 4, 12], (guildsOf t n).Nodup ∧ 1 ≤ (guildsOf t n).length ∧ (guildsOf t n).length ≤ 12 ∧ (∀ z ∈ guildsOf t n, PySem.PyData.strOk z = true ∧ z.length ≤ 8) := by decide +kernel
theorem guilds_ok {t n : Nat} (h : t < 12) (hn : n ∈ [1, 2, 4, 12]) : GsOk (guildsOf t n) := by
  obtain ⟨h1, h2, h3, h4⟩ := guilds_ok1 t h n hn
  exact ⟨h1, h2, h3, fun z hz => (h4 z hz).1, fun z hz => (h4 z hz).2⟩
/-! names of rows -/
def ten : Str := "abcdefghij"
def rowName (i : Nat) : Str := Txt.mul ⟨#[ten.cps.toList.getD (i / 6) 0]⟩ (1 + ((i % 6 : Nat) : Int))
def allNames : List Str := (List.range 60).map rowName
theorem names_ok1 : allNames.Nodup ∧ (∀ z ∈ allNames, PySem.PyData.strOk z = true ∧ z.length ≤ 8 ∧ z ∉ (["z", "aaaaaaa", "zed"] : List Str)) := by decide +kernel
theorem rowName_inj {i j : Nat} (hi : i < 60) (hj : j < 60) (h : rowName i = rowName j) : i = j := by
  have nd := names_ok1.1
  have gi : ∀ {i : Nat}, i < 60 → allNames[i]? = some (rowName i) := fun {i} hi => by
    unfold allNames
    rw [List.getElem?_map, List.getElem?_range hi]
    rfl
  have g1 := gi hi
  have g2 := gi hj
  rw [← h] at g2
  obtain ⟨l1, e1⟩ := List.getElem?_eq_some_iff.mp g1
  obtain ⟨l2, e2⟩ := List.getElem?_eq_some_iff.mp g2
  exact (List.getElem_inj nd).mp (e1.trans e2.symm)
theorem rowName_mem {i : Nat} (hi : i < 60) : rowName i ∈ allNames := List.mem_map.mpr ⟨i, List.mem_range.mpr hi, rfl⟩
theorem mul_okB (i : Nat) {n : Int} (h0 : 1 ≤ n) (h1 : n ≤ 6) : MulOk ⟨#[i]⟩ n :=
  mulOk_of 16 1048576 (by show 1 ≤ 16; decide) (by omega) (by omega) (by decide) (by decide)
/-! dues -/
def DueAt (H : Hp) (p : Key × V) (kv : Str × List Int) : Prop := p.1 = Sum.inr kv.1 ∧ ∃ a, p.2 = .ref a ∧ H a = some (.tup (kv.2.map V.int))
def DuesAt (H : Hp) (d : Addr) (kvs : List (Str × List Int)) : Prop := ∃ ps : List (Key × V), H d = some (.dK ps) ∧ Paired (DueAt H) ps kvs
theorem DueAt.kt {H H' : Hp} {p : Key × V} {kv : Str × List Int} (k : KTu H H') (h : DueAt H p kv) : DueAt H' p kv := by
  obtain ⟨e, a, h1, h2⟩ := h
  exact ⟨e, a, h1, k _ _ h2⟩
theorem DuesAt.kt {H H' : Hp} {d : Addr} {kvs : List (Str × List Int)} (k : KTu H H') (hd : ∀ o, H d = some o → H' d = some o) (h : DuesAt H d kvs) : DuesAt H' d kvs := by
  obtain ⟨ps, h1, h2⟩ := h
  exact ⟨ps, hd _ h1, h2.mono fun _ _ x => x.kt k⟩
def duePut (kvs : List (Str × List Int)) (g : Str) (ns : List Int) : List (Str × List Int) := kvs.map fun kv => if kv.1 = g then (kv.1, ns) else kv
theorem duePut_keys (kvs : List (Str × List Int)) (g : Str) (ns : List Int) : (duePut kvs g ns).map (·.1) = kvs.map (·.1) := by
  unfold duePut
  rw [List.map_map]
  refine List.map_congr_left fun kv _ => ?_
  show (if kv.1 = g then (kv.1, ns) else kv).1 = kv.1
  split <;> rfl
theorem due_put {H : Hp} {g : Str} {ns : List Int} {a : Addr} (ha : H a = some (.tup (ns.map V.int))) : ∀ {ps : List (Key × V)} {kvs : List (Str × List Int)}, Paired (DueAt H) ps kvs → Paired (DueAt H) (ps.map fun kv => if kv.1 = Sum.inr g then (kv.1, .ref a) else kv) (duePut kvs g ns)
  | _, _, .nil => .nil
  | p :: ps, kv :: kvs, .cons h t => by
    obtain ⟨e, x⟩ := h
    refine .cons ?_ (due_put ha t)
    show DueAt H (if p.1 = Sum.inr g then (p.1, V.ref a) else p) (if kv.1 = g then (kv.1, ns) else kv)
    by_cases z : kv.1 = g
    · have z' : p.1 = Sum.inr g := by rw [e, z]
      rw [if_pos z', if_pos z]
      exact ⟨e, a, rfl, ha⟩
    · have z' : ¬ p.1 = Sum.inr g := fun q => z (by rw [e] at q; exact Sum.inr.inj q)
      rw [if_neg z', if_neg z]
      exact ⟨e, x⟩
theorem due_any {H : Hp} {g : Str} : ∀ {ps : List (Key × V)} {kvs : List (Str × List Int)}, Paired (DueAt H) ps kvs → g ∈ kvs.map (·.1) → (ps.any fun kv => decide (kv.1 = Sum.inr g)) = true
  | _, _, .nil, h => nomatch h
  | p :: ps, kv :: kvs, .cons h t, hm => by
    rw [List.any_cons]
    rcases List.mem_cons.mp hm with z | z
    · have z' : p.1 = Sum.inr g := by rw [h.1]; exact congrArg Sum.inr z.symm
      rw [decide_eq_true z']
      rfl
    · rw [due_any t z, Bool.or_true]
theorem merge_nd : ∀ (ps acc : List (Key × V)), ((acc ++ ps).map (·.1)).Nodup → mergeK acc ps = acc ++ ps
  | [], acc, _ => by rw [List.append_nil]; rfl
  | p :: ps, acc, h => by
    show mergeK (putK acc p.1 p.2) ps = _
    have hn : ∀ kv ∈ acc, kv.1 ≠ p.1 := fun kv hk z => by
      rw [List.map_append, List.nodup_append] at h
      exact h.2.2 kv.1 (List.mem_map.mpr ⟨kv, hk, rfl⟩) p.1 (List.mem_map.mpr ⟨p, List.mem_cons_self, rfl⟩) z
    have hv : (acc.any fun kv => decide (kv.1 = p.1)) = false := by
      rw [List.any_eq_false]
      intro kv hk
      simpa using hn kv hk
    have e : putK acc p.1 p.2 = acc ++ [p] := by
      unfold putK
      rw [hv]
      rfl
    rw [e, merge_nd ps (acc ++ [p]) (by rw [List.append_assoc]; exact h), List.append_assoc]
    rfl
theorem due_keys {H : Hp} : ∀ {ps : List (Key × V)} {kvs : List (Str × List Int)}, Paired (DueAt H) ps kvs → ps.map (·.1) = (kvs.map (·.1)).map Sum.inr
  | _, _, .nil => rfl
  | p :: ps, kv :: kvs, .cons h t => by
    rw [List.map_cons, List.map_cons, List.map_cons, due_keys t, h.1]
theorem keys_nd {gs : List Str} (h : gs.Nodup) : (gs.map (Sum.inr : Str → Key)).Nodup := by
  unfold List.Nodup at *
  rw [List.pairwise_map]
  exact h.imp fun hne z => hne (Sum.inr.inj z)
/-! rows -/
structure RowOk (gs : List Str) (wr : Nat) (i : Nat) (R : Gang × Int) : Prop where
  ok : GangOk gs wr R.1
  name : R.1.name = rowName i
  n0 : 0 ≤ R.2
  nm : R.2 % 100 = (i : Int)
  n1 : R.2 < 6100
def RowsOk (gs : List Str) (wr : Nat) (Rs : List (Gang × Int)) : Prop := Rs.length ≤ 60 ∧ ∀ i R, Rs[i]? = some R → RowOk gs wr i R
theorem RowsOk.snoc {gs : List Str} {wr : Nat} {Rs : List (Gang × Int)} {R : Gang × Int} (h : RowsOk gs wr Rs) (hl : Rs.length < 60) (r : RowOk gs wr Rs.length R) : RowsOk gs wr (Rs ++ [R]) := by
  refine ⟨by rw [List.length_append]; show Rs.length + 1 ≤ 60; omega, fun i R' e => ?_⟩
  by_cases z : i < Rs.length
  · rw [List.getElem?_append_left z] at e
    exact h.2 i R' e
  · rw [List.getElem?_append_right (by omega)] at e
    have hz : i - Rs.length = 0 := by
      obtain ⟨q, _⟩ := List.getElem?_eq_some_iff.mp e
      have : i - Rs.length < 1 := q
      omega
    rw [hz] at e
    cases e
    rw [show i = Rs.length by omega]
    exact r
/-- what stands while the state is drawn: H as it was at first, H' as it is -/
structure Drawn (H : Hp) (hb gl : Addr) (gs : List Str) (c : Int) (H' : Hp) : Prop where
  same : Same H H'
  box : BoxAt H' hb c
  gl : H' gl = some (.lst (gs.map V.str))
theorem same_kp {H H1 H2 : Hp} {b : Addr} (s : Same H H1) (n : H b = none) (k : Kp [b] H1 H2) : Same H H2 := fun x o e => k x o (fun z => by
  rw [List.mem_singleton.mp z, n] at e
  cases e) (s x o e)
theorem same_put {H H1 : Hp} {b : Addr} {o : HO} (s : Same H H1) (n : H b = none) : Same H (upd H1 b o) := fun x u e => by
  rw [upd_ne (ne_of_none e n)]
  exact s x u e
theorem Drawn.new {H H' H2 : Hp} {hb gl : Addr} {gs : List Str} {c : Int} (D : Drawn H hb gl gs c H') (s : Same H' H2) : Drawn H hb gl gs c H2 :=
  ⟨D.same.trans s, D.box.same s, s _ _ D.gl⟩
theorem Drawn.asked {H H' H2 : Hp} {hb gl : Addr} {gs : List Str} {c c' : Int} (D : Drawn H hb gl gs c H') (n : H hb = none) (k : Kp [hb] H' H2) (B : BoxAt H2 hb c') : Drawn H hb gl gs c' H2 :=
  ⟨same_kp D.same n k, B, k _ _ (fun z => box_strs D.box D.gl (List.mem_singleton.mp z)) D.gl⟩
theorem Drawn.other {H H' H2 : Hp} {hb gl b : Addr} {gs : List Str} {c c' : Int} (D : Drawn H hb gl gs c H') (n : H b = none) (nb : b ≠ hb) (B : BoxAt H' b c') (k : Kp [b] H' H2) : Drawn H hb gl gs c H2 :=
  ⟨same_kp D.same n k, D.box.kp k fun z => nb (List.mem_singleton.mp z).symm, k _ _ (fun z => box_strs B D.gl (List.mem_singleton.mp z)) D.gl⟩
theorem Drawn.put {H H' : Hp} {hb gl p : Addr} {gs : List Str} {c : Int} {o : HO} (D : Drawn H hb gl gs c H') (n : H p = none) (n1 : p ≠ hb) (n2 : p ≠ gl) : Drawn H hb gl gs c (upd H' p o) := by
  refine ⟨same_put D.same n, ?_, by rw [upd_ne n2.symm]; exact D.gl⟩
  obtain ⟨xs, h1, h2⟩ := D.box
  exact ⟨xs, by rw [upd_ne n1.symm]; exact h1, h2⟩
theorem Drawn.le {H H' : Hp} {hb gl : Addr} {gs : List Str} {c c' : Int} (D : Drawn H hb gl gs c H') (h : c ≤ c') : Drawn H hb gl gs c' H' := ⟨D.same, D.box.le h, D.gl⟩
/-- the rows so far, at r -/
def RowsAt (H : Hp) (r : Addr) (Rs : List (Gang × Int)) : Prop := ∃ as : List Addr, H r = some (.lst (as.map V.ref)) ∧ Paired (RowAt H) as Rs
theorem RowsAt.kt {H H' : Hp} {r : Addr} {Rs : List (Gang × Int)} (k : KTu H H') (hr : ∀ o, H r = some o → H' r = some o) (h : RowsAt H r Rs) : RowsAt H' r Rs := by
  obtain ⟨as, h1, h2⟩ := h
  exact ⟨as, hr _ h1, h2.mono fun _ _ x => x.kt k⟩
/-- what the state is: its dues, its rows, its gang -/
structure StateAt (H' : Hp) (d r g : Addr) (gs : List Str) (wr : Nat) (kvs : List (Str × List Int)) (Rs : List (Gang × Int)) (G : Gang) : Prop where
  gsok : GsOk gs
  w1 : 1 ≤ wr
  w8 : wr ≤ 8
  dues : DuesAt H' d kvs
  keys : kvs.map (·.1) = gs
  amts : ∀ kv ∈ kvs, Amt kv.2 ∧ kv.2.length = wr
  rows : RowsAt H' r Rs
  rok : RowsOk gs wr Rs
  gang : GangAt H' g G
  gok : GangOk gs wr G
  gname : G.name ∈ (["z", "aaaaaaa", "zed"] : List Str)
def spState (K : PySem.W.Frag) : Sp := fun vs H Q _ => ∃ (a : Addr) (ns : List Int), vs = [.ref a] ∧ SqL K H a (ns.map V.int) ∧ ns.length ≤ 63 ∧
  ∀ t d r g gs wr kvs Rs G H', Same H H' → H t = none → H' t = some (.tup [.ref d, .ref r, .ref g]) → H d = none → H r = none → StateAt H' d r g gs wr kvs Rs G → Q (.ref t) H'
/-- a pair (guild, due) -/
def PairAt (H : Hp) (p : Addr) (kv : Str × List Int) : Prop := ∃ a, H p = some (.tup [.str kv.1, .ref a]) ∧ H a = some (.tup (kv.2.map V.int))
theorem PairAt.kt {H H' : Hp} {p : Addr} {kv : Str × List Int} (k : KTu H H') (h : PairAt H p kv) : PairAt H' p kv := by
  obtain ⟨a, h1, h2⟩ := h
  exact ⟨a, k _ _ h1, k _ _ h2⟩
theorem pair_split {K : PySem.W.Frag} {H : Hp} : ∀ {ps : List Addr} {kvs : List (Str × List Int)}, Paired (PairAt H) ps kvs → ∃ qs : List (Key × V), Paired (fun p kv => SqT K H p [kV kv.1, kv.2]) ps qs ∧ Paired (DueAt H) qs kvs
  | _, _, .nil => ⟨[], .nil, .nil⟩
  | p :: ps, kv :: kvs, .cons h t => by
    obtain ⟨qs, h1, h2⟩ := pair_split (K := K) t
    obtain ⟨a, g1, g2⟩ := h
    exact ⟨(Sum.inr kv.1, .ref a) :: qs, .cons (SqT.of g1) h1, .cons ⟨rfl, a, rfl, g2⟩ h2⟩
def GangsAt (gs : List Str) (wr : Nat) (H : Hp) (ds : List Addr) : Prop := ∀ x ∈ ds, ∃ G, GangAt H x G ∧ GangOk gs wr G
theorem GangsAt.kt {gs : List Str} {wr : Nat} {H H' : Hp} {ds : List Addr} (k : KTu H H') (h : GangsAt gs wr H ds) : GangsAt gs wr H' ds := fun x hx => by
  obtain ⟨G, h1, h2⟩ := h x hx
  exact ⟨G, h1.kt k, h2⟩
theorem sum_nn : ∀ {ns : List Int}, (∀ n ∈ ns, 0 ≤ n) → 0 ≤ ns.sum
  | [], _ => Int.le_refl _
  | n :: ns, h => by
    rw [List.sum_cons]
    have h1 := h n List.mem_cons_self
    have h2 := sum_nn fun x hx => h x (List.mem_cons_of_mem _ hx)
    omega
theorem paired_get {α β : Type} {R : α → β → Prop} : ∀ {xs : List α} {ys : List β}, Paired R xs ys → ∀ {i : Nat} {x : α}, xs[i]? = some x → ∃ y, ys[i]? = some y ∧ R x y
  | _, _, .nil, _, _, h => by simp at h
  | x :: xs, y :: ys, .cons r t, 0, z, h => by
    cases h
    exact ⟨y, rfl, r⟩
  | x :: xs, y :: ys, .cons r t, i + 1, z, h => paired_get t (i := i) (by simpa using h)
theorem paired_get2 {α β : Type} {R : α → β → Prop} : ∀ {xs : List α} {ys : List β}, Paired R xs ys → ∀ {i : Nat} {y : β}, ys[i]? = some y → ∃ x, xs[i]? = some x ∧ R x y
  | _, _, .nil, _, _, h => by simp at h
  | x :: xs, y :: ys, .cons r t, 0, z, h => by
    cases h
    exact ⟨x, rfl, r⟩
  | x :: xs, y :: ys, .cons r t, i + 1, z, h => paired_get2 t (i := i) (by simpa using h)
theorem map_get {α : Type} {f : α → V} {xs : List α} {i : Nat} {v : V} (h : (xs.map f)[i]? = some v) : ∃ x, xs[i]? = some x ∧ v = f x := by
  rw [List.getElem?_map] at h
  cases e : xs[i]? with
  | none => rw [e] at h; cases h
  | some x =>
    rw [e] at h
    exact ⟨x, rfl, (Option.some.inj h).symm⟩
theorem small63 {n : Nat} (h : n ≤ 200) : n < sizeLine := small1000 (by omega)
def rLenS (K : PySem.W.Frag) : List V → Hp → VK → Prop := fun xs H Q => ∃ p ys, xs = [.ref p] ∧ (SqL K H p ys ∨ SqT K H p ys) ∧ Q (.int ys.length) H
def rTupOf (K : PySem.W.Frag) : List V → Hp → VK → Prop := fun xs H Q => ∃ p ys, xs = [.ref p] ∧ ((SqL K H p ys ∧ ∀ l, H l = none → Q (.ref l) (upd H l (.tup ys))) ∨ (SqT K H p ys ∧ Q (.ref p) H))
def rLstOf (K : PySem.W.Frag) : List V → Hp → VK → Prop := fun xs H Q => ∃ p ys, xs = [.ref p] ∧ (SqL K H p ys ∨ SqT K H p ys) ∧ ∀ l, H l = none → Q (.ref l) (upd H l (.lst ys))
end My

namespace My
open PySem PySem.Spec PyProof.Rows L2 GX GxR
/-! the same, as the gangs' laws say it -/
def Lf (x y : V) : Prop := (∃ b, x = .bl b ∧ y = .bl b) ∨ (∃ i, x = .int i ∧ y = .int i) ∨ (∃ z, x = .str z ∧ y = .str z)
def Sm (H : Hp) : Nat → V → V → Prop
  | 0, x, y => Lf x y
  | n + 1, x, y => Lf x y ∨ ∃ (a b : Addr) (xs ys : List V), x = .ref a ∧ y = .ref b ∧ ((H a = some (.lst xs) ∧ H b = some (.lst ys)) ∨ (H a = some (.tup xs) ∧ H b = some (.tup ys))) ∧ xs.length = ys.length ∧ xs.length < 100000 ∧
      ∀ (i : Nat) (x y : V), xs[i]? = some x → ys[i]? = some y → Sm H n x y
theorem Sm.leaf {H : Hp} {x y : V} (h : Lf x y) : ∀ n, Sm H n x y
  | 0 => h
  | _ + 1 => .inl h
theorem Sm.same {H H' : Hp} (e : Same H H') : ∀ (n : Nat) (x y : V), Sm H n x y → Sm H' n x y
  | 0, _, _, h => h
  | n + 1, x, y, h => by
    rcases h with h | ⟨a, b, xs, ys, e1, e2, h, hl, hl2, k⟩
    · exact .inl h
    · refine .inr ⟨a, b, xs, ys, e1, e2, ?_, hl, hl2, fun i x y h1 h2 => Sm.same e n x y (k i x y h1 h2)⟩
      rcases h with ⟨h1, h2⟩ | ⟨h1, h2⟩
      · exact .inl ⟨e _ _ h1, e _ _ h2⟩
      · exact .inr ⟨e _ _ h1, e _ _ h2⟩
theorem sm_int {H : Hp} {n : Nat} (i : Int) : Sm H n (.int i) (.int i) := Sm.leaf (.inr (.inl ⟨i, rfl, rfl⟩)) n
theorem sm_str {H : Hp} {n : Nat} (z : Str) : Sm H n (.str z) (.str z) := Sm.leaf (.inr (.inr ⟨z, rfl, rfl⟩)) n
theorem sm_bl {H : Hp} {n : Nat} (b : Bool) : Sm H n (.bl b) (.bl b) := Sm.leaf (.inl ⟨b, rfl, rfl⟩) n
theorem sm_lst {H : Hp} {n : Nat} {p q : Addr} {xs ys : List V} (h1 : H p = some (.lst xs)) (h2 : H q = some (.lst ys)) (hs : xs.length < 100000) (k : Prs (Sm H n) xs ys) : Sm H (n + 1) (.ref p) (.ref q) :=
  .inr ⟨p, q, xs, ys, rfl, rfl, .inl ⟨h1, h2⟩, k.len, hs, k.get⟩
theorem sm_tup {H : Hp} {n : Nat} {p q : Addr} {xs ys : List V} (h1 : H p = some (.tup xs)) (h2 : H q = some (.tup ys)) (hs : xs.length < 100000) (k : Prs (Sm H n) xs ys) : Sm H (n + 1) (.ref p) (.ref q) :=
  .inr ⟨p, q, xs, ys, rfl, rfl, .inr ⟨h1, h2⟩, k.len, hs, k.get⟩
theorem sm_ints {H : Hp} {n : Nat} {p q : Addr} {ns : List Int} (h1 : H p = some (.tup (ns.map V.int))) (h2 : H q = some (.tup (ns.map V.int))) (hs : ns.length < 100000) : Sm H (n + 1) (.ref p) (.ref q) :=
  sm_tup h1 h2 (by rw [List.length_map]; exact hs) (Prs.ints (fun i => sm_int i) ns)
def spSame (n : Nat) : Sp := fun vs H Q _ => ∃ x y : V, vs = [x, y] ∧ Sm H n x y ∧ ∀ H', Same H H' → Q (.bl true) H'
theorem prs_strs {R : V → V → Prop} (r : ∀ z, R (.str z) (.str z)) : ∀ zs : List Str, Prs R (zs.map V.str) (zs.map V.str)
  | [] => .nil
  | z :: zs => .cons (r z) (prs_strs r zs)
/-- a gang is the same as another of the same letters -/
theorem sm_gang {H : Hp} {n : Nat} {g g' : Addr} {G : Gang} (h : GangAt H g G) (h' : GangAt H g' G) (hl : G.want.length < 100000) : Sm H (n + 2) (.ref g) (.ref g') := by
  obtain ⟨w, h1, h2⟩ := h
  obtain ⟨w', h1', h2'⟩ := h'
  exact sm_tup h1 h1' (by show 7 < 100000; decide) (.cons (sm_str _) (.cons (sm_str _) (.cons (sm_int _) (.cons (sm_int _) (.cons (sm_ints h2 h2' hl) (.cons (sm_str _) (.cons (sm_int _) .nil)))))))
end My

namespace My
open PySem PySem.Spec PyProof.Rows L2 GX GxR
def spTimes (K : PySem.W.Frag) (T : Addr) : Sp := fun vs H Q _ => ∃ (a : Addr) (n : Int) (xs : List Int), vs = [.ref a, .int n] ∧ SqT K H a (xs.map V.int) ∧ xs.length ≤ 1000 ∧ 0 ≤ n ∧ n ≤ 1000000000 ∧ TabG H T ∧
  ∀ p H', TabG H' T → Kp [T] H H' → H p = none → H' p = some (.tup ((xs.map (· * n)).map V.int)) → Q (.ref p) H'
/-- what all tasks of a gang want -/
def Gang.whole (G : Gang) : List Int := G.want.map (· * G.many)
def spWhole (T : Addr) : Sp := fun vs H Q _ => ∃ (g : Addr) (G : Gang), vs = [.ref g] ∧ GangAt H g G ∧ G.want.length ≤ 1000 ∧ 0 ≤ G.many ∧ G.many ≤ 1000000000 ∧ TabG H T ∧
  ∀ p H', TabG H' T → Kp [T] H H' → H p = none → H' p = some (.tup (G.whole.map V.int)) → Q (.ref p) H'
def spTimesS (K : PySem.W.Frag) : Sp := fun vs H Q _ => ∃ (a : Addr) (n : Int) (xs : List Int), vs = [.ref a, .int n] ∧ SqT K H a (xs.map V.int) ∧ xs.length ≤ 1000 ∧ 0 ≤ n ∧ n ≤ 1000000000 ∧
  ∀ p H', Same H H' → H p = none → H' p = some (.tup ((xs.map (· * n)).map V.int)) → Q (.ref p) H'
def spWholeS : Sp := fun vs H Q _ => ∃ (g : Addr) (G : Gang), vs = [.ref g] ∧ GangAt H g G ∧ G.want.length ≤ 1000 ∧ 0 ≤ G.many ∧ G.many ≤ 1000000000 ∧
  ∀ p H', Same H H' → H p = none → H' p = some (.tup (G.whole.map V.int)) → Q (.ref p) H'
theorem whole_tab (T : Addr) (vs : List V) (H : Hp) (Q : VK) (E : XK) (h : spWhole T vs H Q E) : spWholeS vs H Q E := by
  obtain ⟨g, G, e, h1, h2, h3, h4, hT, q⟩ := h
  exact ⟨g, G, e, h1, h2, h3, h4, fun p H' s n h => q p H' (TabG.same s hT) (Same.kp _ s) n h⟩
theorem kt_tab {T : Addr} {H H' : Hp} (t : TabG H T) (k : Kp [T] H H') : KTu H H' := fun x xs h => k x _ (fun z => by
  obtain ⟨ps, h1, _⟩ := t
  rw [List.mem_singleton.mp z, h1] at h
  cases h) h
theorem tab_lst {T p : Addr} {H H' : Hp} {xs : List V} (t : TabG H T) (k : Kp [T] H H') (h : H p = some (.lst xs)) : H' p = some (.lst xs) := k _ _ (fun z => by
  obtain ⟨ps, h1, _⟩ := t
  rw [List.mem_singleton.mp z, h1] at h
  cases h) h
theorem rep_sum (n : Int) : ∀ v : Nat, (List.replicate v n).sum = n * (v : Int)
  | 0 => by simp
  | v + 1 => by
    rw [List.replicate_succ, List.sum_cons, rep_sum n v, Int.natCast_add, Int.mul_add]
    show n + n * v = n * v + n * 1
    rw [Int.mul_one, Int.add_comm]
def spLaw (K : PySem.W.Frag) (Ts : List Addr) : Sp := fun vs H Q _ => ∃ (a : Addr) (ns : List Int), vs = [.ref a] ∧ SqL K H a (ns.map V.int) ∧ ns.length ≤ 63 ∧ (∀ T ∈ Ts, TabG H T) ∧ ∀ H', Q (.bl true) H'
theorem amt_len {gs : List Str} {wr : Nat} {G : Gang} (h : GangOk gs wr G) (w8 : wr ≤ 8) : G.want.length ≤ 8 := by rw [h.wlen]; exact w8
end My

namespace My
open PySem PySem.W PySem.Spec PyProof.Rows L2
section
variable {X : Cx} {pins : List (Addr × Obj)} {σ : L2.St} {H : Hp} {s : Shared}
/-- an own def that a built-in's built-in calls -/
theorem run_in2 {Q : VK} {us : List Value} {vs : List V} {k : Nat} {f : Addr} {fd : FuncData} {ps : List Str} {sp : Sp} (F : FnOk X.prog X.w X.K X.mg X.base CX0 k f fd ps sp) (hr : Room (k + 2) X.A) (hb : L2.Binds X.K fd ps []) (I : Inv X pins σ H s) (r : Vals vs us) (h : sp vs H Q E0) :
    wpAny (model X.prog X.w) X.A.in1.in1 (call (.ref f) us) (EP X pins σ Q) (fun _ _ => False) s := by
  have hl : (us ++ []).length = ps.length := by
    rw [List.append_nil, ← r.length]
    exact F.len _ _ _ _ h
  have hbt := hb s us I.kIn hl
  rw [List.append_nil] at hbt
  refine wpAny_call (codeAny_mono (F.run X.A.in1.in1 X.stack s H ⟨us, []⟩ us vs Q E0 hr.in1.in1 I.env0.in1.in1 hbt r h) fun z s' hq => ?_)
  cases z with
  | error e => exact hq
  | ok fl =>
    cases fl with
    | ret u => exact I.after hq
    | next => exact hq
    | brk => exact hq
    | cont => exact hq
/-- a place that is ours alone -/
structure Ours (X : Cx) (pins : List (Addr × Obj)) (p : Addr) : Prop where
  late : X.s_0.heap.objs.size ≤ p
  loc : p ≠ X.env.locals
  fs : p ∉ X.fs
  cell : ∀ x c, X.env.cells.lookup x = some c → c ≠ p
  pin : ∀ q ∈ X.pn ++ pins, q.1 ≠ p
theorem ours_new (I : Inv X pins σ H s) {p : Addr} (h : s.heap.objs.size ≤ p) : Ours X pins p := by
  refine ⟨Nat.le_trans I.sz h, fun z => ?_, I.nofs h, fun x c e z => ?_, fun q hq z => ?_⟩
  · have q := I.lt
    rw [← z] at q
    exact absurd (Nat.lt_of_lt_of_le q h) (Nat.lt_irrefl _)
  · obtain ⟨v, o, ho, _⟩ := I.cell x c e
    have q := Heap.lt_size ho
    rw [z] at q
    exact absurd (Nat.lt_of_lt_of_le q h) (Nat.lt_irrefl _)
  · obtain ⟨e, _⟩ := I.pin q hq
    have q := Heap.lt_size e
    rw [z] at q
    exact absurd (Nat.lt_of_lt_of_le q h) (Nat.lt_irrefl _)
/-- two of our places have turned; the one is now a list that is tracked -/
theorem turned2 {h' : Heap} {t' : Nat} {a c : Addr} {ys : List V} (I : Inv X pins σ H s) (oa : Ours X pins a) (oc : Ours X pins c) (na : H a = none) (nc : H c = none) (hac : a ≠ c)
    (k : ∀ b o, b ≠ a → b ≠ c → s.heap.get? b = some o → h'.get? b = some o) (new : ObjOk X.prog X.w (upd H a (.lst ys)) h' a (.lst ys)) :
    Inv X pins σ (upd H a (.lst ys)) { s with heap := h', toks := t' } := by
  have nt : ∀ b u, H b = some u → b ≠ a := fun b u e z => by
    rw [z, na] at e
    cases e
  have nt2 : ∀ b u, H b = some u → b ≠ c := fun b u e z => by
    rw [z, nc] at e
    cases e
  have off : ∀ {b : Addr}, b ∉ [a, c] → b ≠ a ∧ b ≠ c := fun {b} h => ⟨fun z => h (by simp [z]), fun z => h (by simp [z])⟩
  refine I.step (g' := s.gens) (d' := s.drawn) (ch := [a, c]) (fun b hb => ?_) (fun b o _ _ hc e _ => k b o (off hc).1 (off hc).2 e) (fun b o _ _ hc e _ => ⟨o.slots, k b o (off hc).1 (off hc).2 e⟩) (fun b o hc e n => by rw [upd_ne (off hc).1]; exact n)
    (fun b o hc e => ⟨o, k b o (off hc).1 (off hc).2 e⟩) (fun b xs e => by rw [upd_ne (nt b _ e)]; exact e) (fun b o u e => by rw [upd_ne (nt b _ e)]; exact e) (fun b ps e => ⟨#[], by rw [upd_ne (nt b _ e), e]; simp⟩) (fun m hm => ?_) (fun b u e => ?_) I.bare
  · rcases List.mem_cons.mp hb with z | z
    · rw [z]
      exact ⟨.inr oa.late, oa.loc, oa.cell, oa.pin⟩
    · rw [List.mem_singleton.mp z]
      exact ⟨.inr oc.late, oc.loc, oc.cell, oc.pin⟩
  · obtain ⟨o, es, ep, ho, r⟩ := hm
    exact ⟨o, es, ep, k _ o oa.loc.symm oc.loc.symm ho, r⟩
  · by_cases hb : b = a
    · subst hb
      rw [upd_same] at e
      cases e
      exact new
    · rw [upd_ne hb] at e
      refine (I.hok b u e).stay (fun x v hx q => ?_) (fun x q => by rw [upd_ne (nt x _ q)]; exact q) fun x xs q => by rw [upd_ne (nt x _ q)]; exact q
      rcases hx with z | z
      · rw [z] at q ⊢
        exact k b v hb (nt2 b u e) q
      · exact k x v (nt x _ z) (nt2 x _ z) q
/-- one of our places has turned, and is held as it is now -/
theorem turned1 {h' : Heap} {t' : Nat} {c : Addr} {o2 : Obj} (I : Inv X pins σ H s) (oc : Ours X pins c) (nc : H c = none) (k : ∀ b o, b ≠ c → s.heap.get? b = some o → h'.get? b = some o) (e2 : h'.get? c = some o2) (d2 : ∀ v, o2.data ≠ .cell v) :
    Inv X ((c, o2) :: pins) σ H { s with heap := h', toks := t' } := by
  have I2 := I.turned (t' := t') (it := c) k nc oc.loc (.inr oc.late) oc.cell oc.pin
  refine I2.pins_of fun p hp => ?_
  rcases List.mem_cons.mp hp with z | z
  · rw [z]
    exact ⟨e2, nc, oc.loc, oc.fs, d2⟩
  · exact I2.pin p (List.mem_append_right _ z)
end
def pairD (p : Int × Int) : PyData := .tuple [.int p.1, .int p.2]
def keyLe (ky : V → Int × Int) (x y : V) : Bool := decide ((ky x).1 < (ky y).1 ∨ ((ky x).1 = (ky y).1 ∧ (ky x).2 ≤ (ky y).2))
theorem each_vals : ∀ {xs : List V} {us : List Value}, Vals xs us → EachIs (fun v x => RelV x v) us xs
  | _, _, .nil => .nil
  | _, _, .cons r t => .cons r (each_vals t)
theorem vals_each : ∀ {us : List Value} {xs : List V}, EachIs (fun v x => RelV x v) us xs → Vals xs us
  | _, _, .nil => .nil
  | _, _, .cons r t => .cons r (vals_each t)
theorem rd_pair {P : Program} {w : World} {H : Hp} {h : Heap} {t : Addr} {p : Int × Int} (ok : HOk P w H h) (e : H t = some (.tup [.int p.1, .int p.2])) : ∃ as, Reads h (.ref t) (pairD p) as := by
  obtain ⟨_, its, r, o, ho, hc, n, hd⟩ := ok _ _ e
  obtain ⟨u1, u2, rfl, ri, rj⟩ := vals2 r
  obtain ⟨t1, rfl⟩ := ri
  obtain ⟨t2, rfl⟩ := rj
  exact ⟨_, .tuple ho hc hd (.cons (.int _ _) (.cons (.int _ _) .nil))⟩
section
variable {X : Cx} {pins : List (Addr × Obj)} {σ : L2.St} {H : Hp} {s : Shared}
/-- a heap without one of its objects -/
def lessOne (h : Heap) (c : Addr) : Heap := h.update c fun o => ⟨o.cls, o.dict, .freed, o.slots⟩
theorem lessOne_at (h : Heap) (c : Addr) : (lessOne h c).get? c = none := by
  unfold lessOne Heap.get?
  cases h with
  | mk objs l =>
    show (match (objs.modify c _)[c]? with | some ⟨_, _, .freed, _⟩ => none | o => o) = none
    rw [Array.getElem?_modify]
    simp only [if_true]
    cases e : objs[c]? with
    | none => rfl
    | some o => rfl
theorem lessOne_ne {h : Heap} {b c : Addr} (hb : b ≠ c) : (lessOne h c).get? b = h.get? b := Heap.get?_update_ne _ _ _ _ hb
/-- the keys' own def, for the items -/
def KeyFn (sp : Sp) (ky : V → Int × Int) (xs : List V) (H : Hp) : Prop :=
  ∀ x ∈ xs, ∀ H1, Same H H1 → ∀ Q, (∀ t H2, Same H1 H2 → H2 t = some (.tup [.int (ky x).1, .int (ky x).2]) → Q (.ref t) H2) → sp [x] H1 Q E0
def kDat (ky : V → Int × Int) (x : V) : PyData := pairD (ky x)
theorem al_keys (ky : V → Int × Int) (xs : List V) : AllAlike (xs.map (kDat ky)) := AllAlike.of fun _ _ => by simp [kDat, pairD, alike, alikeAll]
theorem so_keys (ky : V → Int × Int) (xs : List V) : Sortable (xs.map (kDat ky)) := Sortable.tuples fun _ => ⟨_, _, rfl⟩
theorem dp_keys (ky : V → Int × Int) (x : V) : (kDat ky x).depth = 1 := by simp [kDat, pairD, PyData.depth, PyData.depthAll]
/-- the list of keys: tuples that are tracked -/
def KeysAt (H : Hp) (ky : V → Int × Int) (ts : List Addr) (xs : List V) : Prop := Paired (fun t x => H t = some (.tup [.int (ky x).1, .int (ky x).2])) ts xs
theorem keys_read {P : Program} {w : World} {h : Heap} (ok : HOk P w H h) (ky : V → Int × Int) : ∀ {ts : List Addr} {xs : List V}, KeysAt H ky ts xs → EachIs (fun v d => ∃ as, Reads h v d as) (ts.map Value.ref) (xs.map (kDat ky))
  | _, _, .nil => .nil
  | _, _, .cons r t => .cons (rd_pair ok r) (keys_read ok ky t)
theorem sort_rest {k : Nat} {f : Addr} {fd : FuncData} {ps : List Str} {sp : Sp} {a kS : Addr} {e1 : Nat} {vs : List Value} {xs : List V} {ky : V → Int × Int} {P : PySem.Fin → Shared → Prop} {E : Value → Shared → Prop}
    (F : FnOk X.prog X.w X.K X.mg X.base CX0 k f fd ps sp) (hr : Room (k + 2) X.A) (hb : L2.Binds X.K fd ps [])
    (I : Inv X pins σ H s) (oa : Ours X pins a) (oc : Ours X pins kS) (hka : kS ≠ a) (na : H a = none) (nc : H kS = none) (ha : s.heap.get? a = some (seqObj "list" #[] e1)) (hk : s.heap.get? kS = some (seqObj "list" #[] 0))
    (rv : Vals xs vs) (hl : xs.length ≤ 1000) (kf : KeyFn sp ky xs H)
    (q : ∀ s' H', Inv X pins σ (upd H' a (.lst (xs.mergeSort (keyLe ky)))) s' → Same H H' → H' a = none → P (.done (.ret .none)) s') :
    wpAny (model X.prog X.w) X.A.in1.in1 (ksk_rest a (.ref f) false vs.toArray e1 (.ref kS)) P E s := by
  have hlv : vs.length = xs.length := rv.length.symm
  have z1000 : ∀ {n : Nat}, n ≤ 1000 → n ≤ sizeLine := fun h => Nat.le_of_lt (small1000 h)
  unfold ksk_rest
  refine wpAny_bind (wpAny_rule ?_)
  rw [List.forIn_toArray]
  have pa : ∀ (e : Nat) (kA : Array Value) (s1 : Shared) (H1 : Hp), Inv X ((a, seqObj "list" #[] e1) :: (kS, seqObj "list" kA e) :: pins) σ H1 s1 → s1.heap.get? a = some (seqObj "list" #[] e1) ∧ s1.heap.get? kS = some (seqObj "list" kA e) ∧ H1 a = none ∧ H1 kS = none := fun e kA s1 H1 J => by
    obtain ⟨g1, g2, _⟩ := J.pin (a, seqObj "list" #[] e1) (List.mem_append_right _ List.mem_cons_self)
    obtain ⟨g3, g4, _⟩ := J.pin (kS, seqObj "list" kA e) (List.mem_append_right _ (List.mem_cons_of_mem _ List.mem_cons_self))
    exact ⟨g1, g3, g2, g4⟩
  refine wpAny_bind (ksk_fold (fun i s1 => ∃ (H1 : Hp) (ts : List Addr) (e : Nat), Inv X ((a, seqObj "list" #[] e1) :: (kS, seqObj "list" (ts.map Value.ref).toArray e) :: pins) σ H1 s1 ∧ Same H H1 ∧ KeysAt H1 ky ts (xs.take i)) vs 0 s ?first ?turn ?last)
  case first =>
    refine ⟨H, [], 0, I.pins_of fun p hp => ?_, Same.refl _, .nil⟩
    rcases List.mem_cons.mp hp with z | hp
    · rw [z]
      exact ⟨ha, na, oa.loc, oa.fs, fun v z => by cases z⟩
    · rcases List.mem_cons.mp hp with z | hp
      · rw [z]
        exact ⟨hk, nc, oc.loc, oc.fs, fun v z => by cases z⟩
      · exact I.pin p (List.mem_append_right _ hp)
  case turn =>
    rintro j u s1 hu ⟨H1, ts, e, J, sm, kt⟩
    rw [Nat.zero_add] at kt ⊢
    have hj : j < vs.length := (List.getElem?_eq_some_iff.mp hu).1
    have hxj : xs[j]? = some xs[j] := List.getElem?_eq_getElem (by omega)
    obtain ⟨u', hu', rx⟩ := rv.get hxj
    rw [hu] at hu'
    obtain rfl := Option.some.inj hu'
    have lt : ts.length = j := by
      have := kt.length
      rw [List.length_take] at this
      omega
    refine wpAny_bind (wpAny_attempt (wpAny_mono (run_in2 (us := [u]) (vs := [xs[j]]) F hr hb J (.cons rx .nil) (kf xs[j] (List.mem_of_getElem? hxj) H1 sm (fun v H2 => ∃ t, v = .ref t ∧ Same H1 H2 ∧ H2 t = some (.tup [.int (ky xs[j]).1, .int (ky xs[j]).2])) (fun t H2 h1 h2 => ⟨t, rfl, h1, h2⟩))) (fun v s2 he => ?_) fun _ _ hF => hF.elim))
    obtain ⟨y, H2, J2, ry, t, rfl, sm2, et⟩ := he
    obtain rfl : v = Value.ref t := ry
    obtain ⟨g1, g2, g3, g4⟩ := pa _ _ _ _ J2
    have arr : (ts.map Value.ref).toArray.push (Value.ref t) = ((ts ++ [t]).map Value.ref).toArray := by simp
    obtain ⟨e', g5⟩ : ∃ e', (s2.heap.update kS (Obj.mapSeq (·.push (Value.ref t)))).get? kS = some (seqObj "list" ((ts ++ [t]).map Value.ref).toArray e') := ⟨_, by rw [← arr]; exact get?_update_seq g2 (·.push (Value.ref t))⟩
    have ku : ∀ b o, b ≠ kS → s2.heap.get? b = some o → (s2.heap.update kS (Obj.mapSeq (·.push (Value.ref t)))).get? b = some o := fun b o hb e => by
      rw [Heap.get?_update_ne _ _ _ _ hb]
      exact e
    have J3 : Inv X ((a, seqObj "list" #[] e1) :: pins) σ H2 s2 := J2.pins_of fun p hp => by
      rcases List.mem_cons.mp hp with z | hp
      · exact J2.pin p (List.mem_append_right _ (by rw [z]; exact List.mem_cons_self))
      · exact J2.pin p (List.mem_append_right _ (List.mem_cons_of_mem _ (List.mem_cons_of_mem _ hp)))
    have oc3 : Ours X ((a, seqObj "list" #[] e1) :: pins) kS := ⟨oc.late, oc.loc, oc.fs, oc.cell, fun p hp => by
      rcases List.mem_append.mp hp with z | z
      · exact oc.pin p (List.mem_append_left _ z)
      · rcases List.mem_cons.mp z with z | z
        · rw [z]
          exact hka.symm
        · exact oc.pin p (List.mem_append_right _ z)⟩
    have J4 := turned1 (t' := s2.toks) J3 oc3 g4 ku g5 (fun v z => by cases z)
    refine wpAny_bind (listUpdate_at g2 rfl ?_ (by rw [List.size_toArray, List.length_map, lt]; exact z1000 (by omega)) (by rw [Array.size_push, List.size_toArray, List.length_map, lt]; exact Nat.succ_le_succ (z1000 (by omega))))
    refine wpAny_pure ⟨rfl, H2, ts ++ [t], e', J4.pins_of fun p hp => J4.pin p (List.mem_append_right _ ?_), sm.trans sm2, ?_⟩
    · rcases List.mem_cons.mp hp with z | hp
      · rw [z]
        exact List.mem_cons_of_mem _ List.mem_cons_self
      · rcases List.mem_cons.mp hp with z | hp
        · rw [z]
          exact List.mem_cons_self
        · exact List.mem_cons_of_mem _ (List.mem_cons_of_mem _ hp)
    · rw [List.take_add_one, hxj]
      exact Paired.snoc (Paired.mapP kt fun _ _ z => sm2 _ _ z) et
  case last =>
    rintro s1 ⟨H1, ts, e, J, sm, kt⟩
    rw [Nat.zero_add, List.take_of_length_le (by omega)] at kt
    obtain ⟨g1, g2, g3, g4⟩ := pa _ _ _ _ J
    have rd := keys_read J.hok ky kt
    have lts : ts.length = xs.length := kt.length
    refine wpAny_bind (listItems_at g2 rfl ?_)
    have J0 : Inv X pins σ H1 s1 := J.pins_of fun p hp => J.pin p (List.mem_append_right _ (List.mem_cons_of_mem _ (List.mem_cons_of_mem _ hp)))
    have rd' : EachIs (fun v d => ∃ as, Reads s1.heap v d as) (ts.map Value.ref).toArray.toList (xs.map (kDat ky)) := rd
    refine keyH_end (κ := dataKind s1.heap (xs.map (kDat ky))) (h₁ := lessOne s1.heap kS) (fun b o hb hx => ?_) (lessOne_at _ _) g2 g1 hka (SortsAt.data (s := s1) rd' (al_keys ky xs) (so_keys ky xs) fun d hd => ?_) (by rw [List.size_toArray, List.length_map]; omega) (z1000 (by omega)) fun h3 tk3 c3 k3 n3 => ?_
    · by_cases z : b = kS
      · rw [z, lessOne_at] at hx
        cases hx
      · rwa [lessOne_ne z] at hx
    · obtain ⟨x, _, rfl⟩ := List.mem_map.mp hd
      rw [dp_keys]
      have := hr.un
      show X.A.units + 2 + 1 < _
      omega
    have ko : KeyedOut false (xs.map (kDat ky)) vs (sortVals (dataKind s1.heap (xs.map (kDat ky))) false (ts.map Value.ref).toArray.toList vs) := ⟨s1.heap, _, al_keys ky xs, rfl, rd'⟩
    have eo := keyedOut_each (kDat ky) ko (each_vals rv)
    have le : dataLe false (kDat ky) = keyLe ky := dataLe_ii (fun x => (ky x).1) (fun x => (ky x).2)
    rw [le] at eo
    refine q _ H1 (turned2 (t' := tk3) J0 oa oc g3 g4 hka.symm (fun b o hba hbk hx => k3 b o hba (by rw [lessOne_ne hbk]; exact hx)) ⟨?_, _, c3, vals_each eo, n3⟩) sm g3
    rw [List.length_mergeSort]
    exact z1000 hl
/-- sorted(xs, key=f), f an own def whose keys are pairs of whole numbers -/
def rSortK (K : PySem.W.Frag) (sp : Sp) (f : Addr) : List V → List V → Hp → VK → Prop := fun vs zs H Q => ∃ (a : Addr) (xs : List V) (ky : V → Int × Int), vs = [.ref a] ∧ zs = [.ref f] ∧ SqL K H a xs ∧ xs.length ≤ 1000 ∧ KeyFn sp ky xs H ∧
  ∀ p H', Same H H' → H p = none → H' p = some (.lst (xs.mergeSort (keyLe ky))) → Q (.ref p) H'
theorem cr_sortK {k : Nat} {f : Addr} {fd : FuncData} {ps : List Str} {sp : Sp} (F : FnOk X.prog X.w X.K X.mg X.base CX0 k f fd ps sp) (hr : Room (k + 2) X.A) (hb : L2.Binds X.K fd ps []) : CallRK X (.builtin "sorted") ["key"] (rSortK X.K sp f) := by
  intro pins s σ H vs zs us ws Q I r1 r2 h
  obtain ⟨a, xs, ky, rfl, rfl, hs, hl, kf, q⟩ := h
  obtain ⟨u, rfl, ru⟩ := vals1 r1
  obtain ⟨u2, rfl, ru2⟩ := vals1 r2
  obtain rfl : u = Value.ref a := ru
  obtain rfl : u2 = Value.ref f := ru2
  obtain ⟨its, rv, pl, _⟩ := I.list hs
  have z1000 : ∀ {n : Nat}, n ≤ 1000 → n ≤ sizeLine := fun h => Nat.le_of_lt (small1000 h)
  have li : its.length ≤ sizeLine := by
    rw [← rv.length]
    exact z1000 hl
  show wpAny (model X.prog X.w) X.A (call (.builtin "sorted") [.ref a] [(Str.ofString "key", .ref f)]) _ _ s
  refine sorted_of_sort pl.isList li (ksk_s1 _ _) (fun _ => ksk_l1 _ _) fun E' => ?_
  rw [ksk_t1]
  have at0 := copyHeap_at s.heap its
  obtain ⟨ep, at1⟩ : ∃ ep, ((copyHeap s.heap its).update (s.heap.objs.size + 1) (Obj.mapSeq fun _ => #[])).get? (s.heap.objs.size + 1) = some (seqObj "list" #[] ep) := ⟨_, get?_update_seq at0 _⟩
  unfold ksk_tree
  refine wpAny_bind (listItems_at at0 rfl ?_)
  refine wpAny_bind (listUpdate_at at0 rfl ?_ (by rw [List.size_toArray]; exact li) (Nat.zero_le _))
  refine wpAny_bind (seqEpoch_at at1 rfl ?_)
  refine wpAny_bind (wpAny_newTuple ?_ (by show its.length ≤ _; exact li))
  refine wpAny_bind (wpAny_newList ?_ (Nat.zero_le _))
  refine wpAny_holding ?_
  have kpt : ∀ b o, s.heap.get? b = some o → (sortingHeap (copyHeap s.heap its) (s.heap.objs.size + 1) its).get? b = some o := fun b o e => sorting_copy_old e
  have I1 := I.kept (t' := s.toks) kpt
  have szc : ((copyHeap s.heap its).update (s.heap.objs.size + 1) (Obj.mapSeq fun _ => #[])).objs.size = s.heap.objs.size + 2 := by
    rw [Heap.size_update]
    unfold copyHeap
    rw [size_push', Heap.size_update, size_push']
  have szk : (((copyHeap s.heap its).update (s.heap.objs.size + 1) (Obj.mapSeq fun _ => #[])).push (seqObj "tuple" its.toArray 0)).objs.size = s.heap.objs.size + 3 := by
    rw [size_push', szc]
  have big : ∀ j : Nat, s.heap.objs.size ≤ s.heap.objs.size + j := fun j => Nat.le_add_right _ _
  refine sort_rest (H := H) (xs := xs) (ky := ky) F hr hb I1 (ours_new I (big 1)) (ours_new I (by rw [szk]; exact big 3)) (by rw [szk]; exact Nat.ne_of_gt (Nat.add_lt_add_left (by decide) _)) (I.hok.fresh (big 1)) (I.hok.fresh (by rw [szk]; exact big 3))
    (Heap.get?_push_of_some _ (Heap.get?_push_of_some _ at1)) (Heap.get?_push_size _ rfl) rv hl kf fun s' H' J sm nn => ⟨rfl, .ref (s.heap.objs.size + 1), _, J, rfl, q _ _ (sm.trans (same_upd nn)) (I.hok.fresh (big 1)) upd_same⟩
end
end My

namespace My
open PySem PySem.Spec PyProof.Rows L2 RT
section
variable {prog : Program} {w : World} {A : Around} {E : Value → Shared → Prop} {s : Shared}
/-- list(it), it a list's iterator from its end -/
theorem call_list_rev {it l : Addr} {items : Array Value} {Q : Value → Shared → Prop} (hh : A.handled = none) (hit : s.heap.IsRevIter it l ((items.size : Int) - 1)) (hl : s.heap.IsList l items) (hne : l ≠ it) (hn : items.size ≤ sizeLine)
    (q : ∀ (h' : Heap) (tk : Nat) (acc : Array Value) (c : Nat), (∀ b o, b ≠ it → s.heap.get? b = some o → h'.get? b = some o) → h'.get? s.heap.objs.size = some (seqObj "list" acc c) → ItemsOf (fun i v => items[items.size - 1 - i]? = some v) acc items.size → Q (.ref s.heap.objs.size) { s with heap := h', toks := tk }) :
    wpAny (model prog w) A (call (.type "list") [.ref it]) Q E s := by
  obtain ⟨oi, hoi, _⟩ := id hit
  obtain ⟨ol, hol, _⟩ := id hl
  have ni : s.heap.objs.size ≠ it := Nat.ne_of_gt (Heap.lt_size hoi)
  have nl : s.heap.objs.size ≠ l := Nat.ne_of_gt (Heap.lt_size hol)
  have nf : s.heap.objs.size ∉ [it, l] := fun z => by
    rcases List.mem_cons.mp z with z | z
    · exact ni z
    · exact nl (List.mem_singleton.mp z)
  refine callType_codes (Q₁ := fun obj s₁ => obj = .ref s.heap.objs.size ∧ s₁ = { s with heap := s.heap.push (seqObj "list" #[] 0) }) F.called_list (F.typeCall_list_1 _) F.entry_list_init (code_list_new _ ⟨rfl, rfl⟩) fun obj s₁ hx => ?_
  obtain ⟨rfl, rfl⟩ := hx
  have e0 : (s.heap.push (seqObj "list" #[] 0)).get? s.heap.objs.size = some (seqObj "list" #[] 0) := Heap.get?_push_size _ rfl
  refine ⟨⟨_, e0, rfl⟩, F.args_list_init_2 _ _, ?_⟩
  show wpAny _ _ (do let old ← Builtin.List.listItems (.ref s.heap.objs.size); Builtin.List.listUpdate (.ref s.heap.objs.size) (fun _ => #[]); letGo old.toList.reverse; Builtin.List.listExtendWith (.ref s.heap.objs.size) (.ref it) .none) _ _ _
  refine wpAny_bind (listItems_at e0 rfl ?_)
  refine wpAny_bind (listUpdate_at e0 rfl ?_ (Nat.zero_le _) (Nat.zero_le _))
  refine wpAny_bind (wpAny_letGo ?_)
  obtain ⟨n1, e1⟩ : ∃ n1, ((s.heap.push (seqObj "list" #[] 0)).update s.heap.objs.size (Obj.mapSeq fun _ => #[])).get? s.heap.objs.size = some (seqObj "list" #[] n1) := ⟨_, get?_update_seq e0 _⟩
  have old : ∀ b o, s.heap.get? b = some o → ((s.heap.push (seqObj "list" #[] 0)).update s.heap.objs.size (Obj.mapSeq fun _ => #[])).get? b = some o := fun b o e => by
    rw [Heap.get?_update_ne _ _ _ _ (Nat.ne_of_lt (Heap.lt_size e))]
    exact Heap.get?_push_of_some _ e
  generalize (s.heap.push (seqObj "list" #[] 0)).update s.heap.objs.size (Obj.mapSeq fun _ => #[]) = h1 at e1 old
  have r1 : h1.IsRevIter it l ((items.size : Int) - 1) := hit.at fun o e => old _ _ e
  have l1 : h1.IsList l items := by
    obtain ⟨o, ho, r⟩ := hl
    exact ⟨o, old _ _ ho, r⟩
  have ty : ({ s with heap := h1 } : Shared).TypeIs (.ref it) "list_reverseiterator" := Heap.IsRevIter.typeIs (s := { s with heap := h1 }) r1
  have no : Builtin.List.listSameRef (.ref s.heap.objs.size) (.ref it) = false := by simp [Builtin.List.listSameRef, ni]
  have W := (Walks.listRev (prog := prog) (w := w) (A := A.in1.in1) hh it l hne items).toS
  unfold Builtin.List.listExtendWith
  refine wpAny_bind (wpAny_typeOf ty ?_)
  rw [if_neg (by rw [no]; decide)]
  refine wpAny_bind (wpAny_pyIter_revIter (s := { s with heap := h1 }) r1 ?_)
  refine wpAny_bind (wpAny_holding ?_)
  unfold Builtin.List.listLengthHint
  refine wpAny_bind (wpAny_specialOf ty nolen_lri ?_)
  show wpAny _ _ (specialOf (Value.ref it) (Str.ofString "__length_hint__") >>= _) _ _ _
  refine wpAny_bind (wpAny_specialOf ty hint_lri ?_)
  generalize nm : ("list_reverseiterator.__length_hint__" : String) = nm0
  wp_delta
  rw [show splitId nm0 = some ("list_reverseiterator", "__length_hint__") from by subst nm; decide +kernel]
  subst nm
  refine wpAny_bind (wpAny_isInstance (b := true) ty (by rw [isSubtype_type]; kernel_rfl) ?_)
  refine wpAny_pure ?_
  rw [if_neg (by decide)]
  have z0 : ((items.size : Nat) : Int) - 1 - ((0 : Nat) : Int) = (items.size : Int) - 1 := by omega
  refine wpAny_pure ⟨plainId_quiet F.plain_extend_loop _, codeAny_extend_loopS W hn _ nf _ items.size 0 _ _ _ rfl (Nat.zero_le _) ⟨Nat.zero_le _, by rw [z0]; exact r1, l1⟩ e1 (ItemsOf.nil _) fun s' acc' c' hm hS hacc => ?_⟩
  rw [Moved.eq_with hm]
  refine ⟨rfl, q s'.heap s'.toks acc' c' (fun b o hb e => hm.heap b o (fun z => ?_) (old _ _ e)) hS hacc⟩
  rcases List.mem_cons.mp z with z | z
  · exact absurd (Heap.lt_size e) (by rw [z]; exact Nat.lt_irrefl _)
  · exact hb (List.mem_singleton.mp z)
end
section
variable {X : Cx}
/-- list(reversed(x)), x a list -/
def tLstRev (K : PySem.W.Frag) (te : TE) : TE := fun σ H Q => te σ H fun v H1 => ∃ (a : Addr) (xs : List V), v = .ref a ∧ SqL K H1 a xs ∧ ∀ p, H1 p = none → Q (.ref p) (upd H1 p (.lst xs.reverse))
theorem pe_lstRev {e : Expr} {te : TE} {p p2 pos pos2 : Pos} (hc : X.calm = true) (hg : Gl X "list") (hm : X.mg "list" = none) (hg2 : Gl X "reversed") (hm2 : X.mg "reversed" = none) (he : PE X e te)
    (h1 : starEach [e] X.env = (false, eval e X.env) :: starEach [] X.env := by rfl)
    (h2 : starEach [.Call (.Name "reversed" p2) [e] [] pos2] X.env = (false, eval (.Call (.Name "reversed" p2) [e] [] pos2) X.env) :: starEach [] X.env := by rfl) :
    PE X (.Call (.Name "list" p) [.Call (.Name "reversed" p2) [e] [] pos2] [] pos) (tLstRev X.K te) := by
  refine ⟨fun pins s σ H Q I h => ?_⟩
  refine Call_ (ld_blt I hg hm bt_list (callWith_type1 (args_cons (Call_ (ld_blt I hg2 hm2 boot_reversed (callWith_type1 (args_cons (thn (he.run pins s σ H _ I h) fun u s1 ⟨v, H1, I1, r1, q1⟩ => args_nil ?_) h1) h1 rfl))) h2) h2 rfl))
  obtain ⟨a, xs, rfl, hq, q⟩ := q1
  obtain rfl : u = Value.ref a := r1
  obtain ⟨its, rv, pl, hz⟩ := I1.list hq
  refine call_reversed_list pl.isList (args_nil ?_)
  have I2 : Inv X pins σ H1 { s1 with heap := s1.heap.push (revObj a ((its.toArray.size : Int) - 1)) } := I1.kept (t' := s1.toks) fun b o e => Heap.get?_push_of_some _ e
  obtain ⟨f0, f1, f2, f3, f4, f5⟩ := I1.fpOk (H' := H1) (b := s1.heap.objs.size) (Nat.le_refl _) (I1.hok.fresh (Nat.le_refl _))
  have li := pl.isList
  obtain ⟨ol, hol, _⟩ := id li
  have hn : its.toArray.size ≤ sizeLine := by
    rw [List.size_toArray, ← rv.length]
    exact hz
  refine call_list_rev (s := { s1 with heap := s1.heap.push (revObj a ((its.toArray.size : Int) - 1)) }) (I1.ok.hd hc) ⟨_, Heap.get?_push_size _ rfl, rfl, rfl⟩ (li.push _) (Nat.ne_of_lt (Heap.lt_size hol)) hn fun h' tk acc c hk hat hi => ?_
  have bigger : s1.heap.objs.size ≤ (s1.heap.push (revObj a ((its.toArray.size : Int) - 1))).objs.size := by
    rw [size_push']
    exact Nat.le_succ _
  generalize hL : (s1.heap.push (revObj a ((its.toArray.size : Int) - 1))).objs.size = L at hat bigger ⊢
  have neL : L ≠ s1.heap.objs.size := by
    rw [← hL, size_push']
    exact Nat.succ_ne_self _
  have oL : Ours X pins L := ours_new I1 bigger
  have oR : Ours X pins s1.heap.objs.size := ours_new I1 (Nat.le_refl _)
  refine ⟨.ref L, upd H1 L (.lst xs.reverse), turned2 (t' := tk) I2 oL oR (I1.hok.fresh bigger) (I1.hok.fresh (Nat.le_refl _)) neL (fun b o _ hb e => hk b o hb e) ⟨?_, acc.toList, c, vals_rev rv hi, ?_⟩, rfl, q _ (I1.hok.fresh bigger)⟩
  · rw [List.length_reverse]
    exact hz
  · rw [Array.toArray_toList]
    exact hat
end
end My

namespace My
open PySem PySem.W PySem.Spec PyProof.Rows L2
section
variable {X : Cx}
theorem shaped_plain {d : PyData} (h : SeqAt.shaped d = true) : d.plain = true := PyData.plain_of_canLay0 d (SeqAt.canLay_of_shaped h)
/-- xs.remove(y): the first that is equal goes -/
def rRemD (K : PySem.W.Frag) : V → List V → Hp → VK → Prop := fun x xs H Q => ∃ (l : Addr) (vs : List V) (y : V) (d : PyData) (ds : List PyData) (j : Nat), x = .ref l ∧ xs = [y] ∧ H l = some (.lst vs) ∧ DpAll K H vs ds ∧ Dp K H y d ∧
  SeqAt.shaped (.list ds) = true ∧ SeqAt.shaped d = true ∧ SeqAt.dataPlace ds d = some j ∧ Q .non (upd H l (.lst (vs.eraseIdx j)))
theorem mt_removeD (hu : X.A.units + 65 < cLine) : MtM X "list.remove" (rRemD X.K) := by
  intro pins s σ H x xs v us Q I rx rxs h
  obtain ⟨l, vs, y, d, ds, j, rfl, rfl, hl, ha, hy, sl, sd, hp, q⟩ := h
  cases rx
  obtain ⟨u, rfl, ru⟩ := rxs.one
  obtain ⟨z, its, n, r, hlen, e⟩ := I.lstM hl
  obtain ⟨bs, r1⟩ := Dp.reads I d y u hy ru
  obtain ⟨as, r2⟩ := Dp.readsAll I ds vs its ha r
  have dd := SeqAt.depth_of_shaped sd
  refine SeqAt.remove_list_data (vs := its.toArray) (xs := ds) (d := d) (j := j) ⟨_, e, rfl, n, rfl⟩ r2 r1 (by have := shaped_plain sl; simpa [PyData.plain] using this) (shaped_plain sd) ?_ hp (by rw [List.size_toArray, ← hlen]; exact z) ?_
  · have := Nat.min_le_right (PyData.depthAll ds) d.depth
    omega
  · have rr := r.eraseIdx j
    refine ⟨.non, _, I.lset (its' := its.eraseIdx j) (t' := s.toks) hl e ?_ rr ?_, rfl, q⟩
    · show its.toArray.eraseIdxIfInBounds j = (its.eraseIdx j).toArray
      rw [List.eraseIdxIfInBounds_toArray]
    · have := List.length_eraseIdx_le vs j
      omega
/-- sorted(xs), xs a list of data that are alike -/
def rSortD (K : PySem.W.Frag) : List V → Hp → VK → Prop := fun vs H Q => ∃ (a : Addr) (xs : List V) (enc : V → PyData), vs = [.ref a] ∧ SqL K H a xs ∧ (∀ x ∈ xs, Dp K H x (enc x)) ∧ AllAlike (xs.map enc) ∧ Sortable (xs.map enc) ∧ (∀ x ∈ xs, (enc x).depth ≤ 60) ∧
  ∀ p, H p = none → Q (.ref p) (upd H p (.lst (xs.mergeSort (dataLe false enc))))
theorem cr_sortD (hu : X.A.units + 64 < cLine) : CallR X (.builtin "sorted") (rSortD X.K) := by
  intro pins s σ H vs us Q I r h
  obtain ⟨a, xs, enc, rfl, hs, hd, hal, hso, hdp, q⟩ := h
  obtain ⟨its, rv, hl, hz⟩ := I.list hs
  rw [Vals.ref1 r]
  have er : ∀ {xs : List V} {its : List Value}, (∀ x ∈ xs, Dp X.K H x (enc x)) → Vals xs its → EachIs (fun v b => ∃ as, Reads s.heap v (enc b) as) its xs := by
    intro xs its hd rv
    induction rv with
    | nil => exact .nil
    | cons r t ih => exact .cons (Dp.reads I _ _ _ (hd _ List.mem_cons_self) r) (ih fun x hx => hd x (List.mem_cons_of_mem _ hx))
  refine sorted_data hl.isList (each_vals rv) (er hd rv) hal hso hz (fun x hx => ?_) fun out ho eo => ?_
  · have := hdp x hx
    omega
  obtain ⟨ep, at1⟩ := sortedAll_at s.heap its out.toArray
  refine ⟨.ref _, upd H (s.heap.objs.size + 1) (.lst (xs.mergeSort (dataLe false enc))), I.laid (t' := s.toks) (fun _ _ => sortedAll_old) (Nat.le_succ _) ⟨?_, out, ep, vals_each eo, at1⟩, rfl, q _ (I.hok.fresh (Nat.le_succ _))⟩
  rw [List.length_mergeSort]
  exact hz
end
end My

namespace My
open PySem PySem.W PySem.Spec PyProof.Rows L2 GX GxR
/-! the order of rows -/
def rowLe (R S : Gang × Int) : Bool := decide (-R.1.rank < -S.1.rank ∨ (-R.1.rank = -S.1.rank ∧ R.2 ≤ S.2))
def ord (Rs : List (Gang × Int)) : List (Gang × Int) := Rs.mergeSort rowLe
theorem rowLe_trans (a b c : Gang × Int) (h1 : rowLe a b = true) (h2 : rowLe b c = true) : rowLe a c = true := by
  unfold rowLe at *
  simp only [decide_eq_true_eq] at *
  omega
theorem rowLe_total (a b : Gang × Int) : (rowLe a b || rowLe b a) = true := by
  unfold rowLe
  simp only [Bool.or_eq_true, decide_eq_true_eq]
  omega
theorem ord_sorted (Rs : List (Gang × Int)) : (ord Rs).Pairwise fun a b => rowLe a b = true := List.pairwise_mergeSort rowLe_trans rowLe_total Rs
theorem ord_perm (Rs : List (Gang × Int)) : (ord Rs).Perm Rs := List.mergeSort_perm Rs rowLe
theorem uniq_sorted {α : Type} {le : α → α → Bool} : ∀ {xs ys : List α}, xs.Perm ys → xs.Pairwise (fun a b => le a b = true) → ys.Pairwise (fun a b => le a b = true) → (∀ a ∈ xs, ∀ b ∈ xs, le a b = true → le b a = true → a = b) → xs = ys
  | [], ys, p, _, _, _ => (List.nil_perm.mp p).symm ▸ rfl
  | x :: xs, [], p, _, _, _ => absurd p.length_eq (by simp)
  | x :: xs, y :: ys, p, hx, hy, anti => by
    have hxy : x = y := by
      have h1 : x ∈ y :: ys := p.mem_iff.mp List.mem_cons_self
      have h2 : y ∈ x :: xs := p.mem_iff.mpr List.mem_cons_self
      rcases List.mem_cons.mp h1 with e | h1
      · exact e
      · rcases List.mem_cons.mp h2 with e | h2
        · exact e.symm
        · exact anti x List.mem_cons_self y (List.mem_cons_of_mem _ h2) ((List.pairwise_cons.mp hx).1 y h2) ((List.pairwise_cons.mp hy).1 x h1)
    subst hxy
    rw [uniq_sorted (List.Perm.cons_inv p) (List.pairwise_cons.mp hx).2 (List.pairwise_cons.mp hy).2 fun a ha b hb => anti a (List.mem_cons_of_mem _ ha) b (List.mem_cons_of_mem _ hb)]
/-- what a gang of a row is, for the laws' own reckoning -/
structure Fit (R : Gang × Int) : Prop where
  name : PySem.PyData.strOk R.1.name = true
  guild : PySem.PyData.strOk R.1.guild = true
  how : PySem.PyData.strOk R.1.how = true
  wlen : R.1.want.length ≤ 8
  amt : Amt R.1.want
  m0 : 0 ≤ R.1.many
  m60 : R.1.many ≤ 60
structure Good2 (Rs : List (Gang × Int)) : Prop where
  fit : ∀ R ∈ Rs, Fit R
  names : (Rs.map (·.1.name)).Nodup
  nums : (Rs.map (·.2)).Nodup
  len : Rs.length ≤ 100
theorem nodup_inj {α β : Type} {f : α → β} : ∀ {xs : List α}, (xs.map f).Nodup → ∀ a ∈ xs, ∀ b ∈ xs, f a = f b → a = b
  | [], _, _, h, _, _, _ => nomatch h
  | x :: xs, nd, a, ha, b, hb, e => by
    rw [List.map_cons, List.nodup_cons] at nd
    rcases List.mem_cons.mp ha with za | ha
    · rcases List.mem_cons.mp hb with zb | hb
      · rw [za, zb]
      · rw [za] at e
        exact absurd (List.mem_map.mpr ⟨b, hb, e.symm⟩) nd.1
    · rcases List.mem_cons.mp hb with zb | hb
      · rw [zb] at e
        exact absurd (List.mem_map.mpr ⟨a, ha, e⟩) nd.1
      · exact nodup_inj nd.2 a ha b hb e
theorem rowLe_anti {Rs : List (Gang × Int)} (h : (Rs.map (·.2)).Nodup) : ∀ a ∈ Rs, ∀ b ∈ Rs, rowLe a b = true → rowLe b a = true → a = b := fun a ha b hb h1 h2 => by
  refine nodup_inj h a ha b hb ?_
  unfold rowLe at h1 h2
  simp only [decide_eq_true_eq] at h1 h2
  show a.2 = b.2
  omega
/-- THE order: any sorted arrangement is it -/
theorem ord_of {Rs Ss : List (Gang × Int)} (h : (Rs.map (·.2)).Nodup) (p : Ss.Perm Rs) (s : Ss.Pairwise fun a b => rowLe a b = true) : Ss = ord Rs :=
  uniq_sorted (p.trans (ord_perm Rs).symm) s (ord_sorted Rs) fun a ha b hb => rowLe_anti h a (p.mem_iff.mp ha) b (p.mem_iff.mp hb)
theorem ord_perm_eq {Rs Ss : List (Gang × Int)} (h : (Rs.map (·.2)).Nodup) (p : Ss.Perm Rs) : ord Ss = ord Rs := ord_of h ((ord_perm Ss).trans p) (ord_sorted Ss)
theorem Good2.perm {Rs Ss : List (Gang × Int)} (h : Good2 Rs) (p : Ss.Perm Rs) : Good2 Ss :=
  ⟨fun R hR => h.fit R (p.mem_iff.mp hR), (p.map (·.1.name)).nodup_iff.mpr h.names, (p.map (·.2)).nodup_iff.mpr h.nums, by rw [p.length_eq]; exact h.len⟩
theorem Good2.sub {Rs Ss : List (Gang × Int)} (h : Good2 Rs) (p : Ss.Sublist Rs) : Good2 Ss :=
  ⟨fun R hR => h.fit R (p.subset hR), (p.map (·.1.name)).nodup h.names, (p.map (·.2)).nodup h.nums, Nat.le_trans p.length_le h.len⟩
/-! rows as data -/
def gangD (G : Gang) : PyData := .tuple [.str G.name, .str G.guild, .int G.rank, .int G.many, .tuple (G.want.map PyData.int), .str G.how, .int G.len]
def rowD (R : Gang × Int) : PyData := .tuple [gangD R.1, .int R.2]
theorem dp_ints {K : PySem.W.Frag} {H : Hp} : ∀ ns : List Int, DpAll K H (ns.map V.int) (ns.map PyData.int)
  | [] => .nil
  | n :: ns => .cons (.int n) (dp_ints ns)
theorem dp_gang {K : PySem.W.Frag} {H : Hp} {g : Addr} {G : Gang} (h : GangAt H g G) : Dp K H (.ref g) (gangD G) := by
  obtain ⟨w, h1, h2⟩ := h
  exact .tup (SqT.of h1) (.cons (.str _) (.cons (.str _) (.cons (.int _) (.cons (.int _) (.cons (.tup (SqT.of h2) (dp_ints _)) (.cons (.str _) (.cons (.int _) .nil)))))))
theorem dp_row {K : PySem.W.Frag} {H : Hp} {r : Addr} {R : Gang × Int} (h : RowAt H r R) : Dp K H (.ref r) (rowD R) := by
  obtain ⟨g, h1, h2⟩ := h
  exact .tup (SqT.of h1) (.cons (dp_gang h2) (.cons (.int _) .nil))
theorem dp_rows {K : PySem.W.Frag} {H : Hp} : ∀ {as : List Addr} {Rs : List (Gang × Int)}, Paired (RowAt H) as Rs → DpAll K H (as.map V.ref) (Rs.map rowD)
  | _, _, .nil => .nil
  | _, _, .cons r t => .cons (dp_row r) (dp_rows t)
theorem lay_ints : ∀ ns : List Int, PyData.canLayAll0 (ns.map PyData.int) = true
  | [] => rfl
  | n :: ns => by
    show (PyData.canLay0 (.int n) && PyData.canLayAll0 (ns.map PyData.int)) = true
    rw [lay_ints ns]
    rfl
theorem dpt_ints (ns : List Int) : PyData.depthAll (ns.map PyData.int) = 0 := depth_ints ns
theorem lay_row {R : Gang × Int} (f : Fit R) : PyData.canLay0 (rowD R) = true := by
  simp [rowD, gangD, PyData.canLay0, PyData.canLayAll0, f.name, f.guild, f.how, lay_ints]
theorem dpt_row (R : Gang × Int) : (rowD R).depth = 3 := by
  simp [rowD, gangD, PyData.depth, PyData.depthAll, dpt_ints]
theorem sh_row {R : Gang × Int} (f : Fit R) : SeqAt.shaped (rowD R) = true := by
  unfold SeqAt.shaped
  rw [lay_row f, dpt_row]
  rfl
theorem lay_rows : ∀ {Rs : List (Gang × Int)}, (∀ R ∈ Rs, Fit R) → PyData.canLayAll0 (Rs.map rowD) = true
  | [], _ => rfl
  | R :: Rs, h => by
    show (PyData.canLay0 (rowD R) && PyData.canLayAll0 (Rs.map rowD)) = true
    rw [lay_row (h R List.mem_cons_self), lay_rows fun S hS => h S (List.mem_cons_of_mem _ hS)]
    rfl
theorem dpt_rows : ∀ Rs : List (Gang × Int), PyData.depthAll (Rs.map rowD) ≤ 3
  | [] => by decide
  | R :: Rs => by
    show PyData.depthAll (rowD R :: Rs.map rowD) ≤ 3
    have := dpt_rows Rs
    simp only [PyData.depthAll, dpt_row]
    omega
theorem sh_rows {Rs : List (Gang × Int)} (h : ∀ R ∈ Rs, Fit R) : SeqAt.shaped (.list (Rs.map rowD)) = true := by
  unfold SeqAt.shaped
  have h1 : PyData.canLay0 (.list (Rs.map rowD)) = true := lay_rows h
  have h2 : (PyData.list (Rs.map rowD)).depth ≤ 64 := by
    have := dpt_rows Rs
    simp only [PyData.depth]
    omega
  rw [h1, decide_eq_true h2]
  rfl
theorem eqv_name {R S : Gang × Int} (h : PyData.eqv (rowD R) (rowD S) = true) : R.1.name = S.1.name := by
  simp only [rowD, gangD, PyData.eqv, PyData.eqvAll, Bool.and_eq_true] at h
  exact eq_of_beq h.1.1
theorem eqv_row {R : Gang × Int} (f : Fit R) : PyData.eqv (rowD R) (rowD R) = true := SeqAt.eqv_refl_plain _ (shaped_plain (sh_row f))
theorem eqv_nil (ds : List PyData) : PyData.eqv (.list ds) (.list []) = ds.isEmpty := by
  cases ds <;> rfl
theorem eqv_list {ds : List PyData} (h : SeqAt.shaped (.list ds) = true) : PyData.eqv (.list ds) (.list ds) = true := SeqAt.eqv_refl_plain _ (shaped_plain h)
theorem place_row {Rs : List (Gang × Int)} (h : Good2 Rs) {j : Nat} {R : Gang × Int} (hj : Rs[j]? = some R) : SeqAt.dataPlace (Rs.map rowD) (rowD R) = some j := by
  obtain ⟨lt, e⟩ := List.getElem?_eq_some_iff.mp hj
  unfold SeqAt.dataPlace
  rw [List.findIdx?_eq_some_iff_getElem]
  refine ⟨by rw [List.length_map]; exact lt, ?_, fun m hm => ?_⟩
  · rw [List.getElem_map, e]
    exact eqv_row (h.fit R (List.mem_of_getElem? hj))
  · rw [List.getElem_map]
    intro z
    have hn := eqv_name z
    have nd := List.pairwise_iff_getElem.mp h.names m j (by rw [List.length_map]; omega) (by rw [List.length_map]; exact lt) hm
    rw [List.getElem_map, List.getElem_map, e] at nd
    exact nd hn
/-! rows of the state -/
theorem hows_ok : ∀ z ∈ hows, PySem.PyData.strOk z = true := by decide +kernel
theorem fit_of {gs : List Str} {wr : Nat} {G : Gang} {n : Int} (ok : GangOk gs wr G) (g : GsOk gs) (w8 : wr ≤ 8) (hn : PySem.PyData.strOk G.name = true) : Fit (G, n) :=
  ⟨hn, g.str _ ok.guild, hows_ok _ ok.how, by show G.want.length ≤ 8; rw [ok.wlen]; exact w8, ok.amt, by have := ok.m1; show 0 ≤ G.many; omega, ok.m60⟩
theorem good_state {gs : List Str} {wr : Nat} {Rs : List (Gang × Int)} (g : GsOk gs) (w8 : wr ≤ 8) (h : RowsOk gs wr Rs) : Good2 Rs := by
  obtain ⟨hl, h⟩ := h
  have at_ : ∀ {i : Nat} (hi : i < Rs.length), RowOk gs wr i Rs[i] := fun {i} hi => h i _ (List.getElem?_eq_getElem hi)
  refine ⟨fun R hR => ?_, ?_, ?_, by omega⟩
  · obtain ⟨i, hi, rfl⟩ := List.mem_iff_getElem.mp hR
    have q := at_ hi
    exact fit_of (G := Rs[i].1) (n := Rs[i].2) q.ok g w8 (by rw [q.name]; exact (names_ok1.2 _ (rowName_mem (by omega))).1)
  · rw [List.Nodup, List.pairwise_iff_getElem]
    intro i j hi hj hij z
    rw [List.length_map] at hi hj
    rw [List.getElem_map, List.getElem_map, (at_ hi).name, (at_ hj).name] at z
    have := rowName_inj (by omega) (by omega) z
    omega
  · rw [List.Nodup, List.pairwise_iff_getElem]
    intro i j hi hj hij z
    rw [List.length_map] at hi hj
    rw [List.getElem_map, List.getElem_map] at z
    have a := (at_ hi).nm
    have b := (at_ hj).nm
    rw [z, b] at a
    omega
end My

namespace My
open PySem PySem.W PySem.Spec PyProof.Rows L2 GX GxR
/-! two lists, as a list of pairs -/
theorem paired_zip {α β : Type} {R : α → β → Prop} : ∀ {xs : List α} {ys : List β}, Paired R xs ys → ∃ ps : List (α × β), ps.map (·.1) = xs ∧ ps.map (·.2) = ys ∧ ∀ p ∈ ps, R p.1 p.2
  | _, _, .nil => ⟨[], rfl, rfl, fun _ h => nomatch h⟩
  | x :: xs, y :: ys, .cons r t => by
    obtain ⟨ps, h1, h2, h3⟩ := paired_zip t
    refine ⟨(x, y) :: ps, by rw [List.map_cons, h1], by rw [List.map_cons, h2], fun p hp => ?_⟩
    rcases List.mem_cons.mp hp with z | z
    · rw [z]
      exact r
    · exact h3 p z
theorem paired_of {α β : Type} {R : α → β → Prop} : ∀ {ps : List (α × β)}, (∀ p ∈ ps, R p.1 p.2) → Paired R (ps.map (·.1)) (ps.map (·.2))
  | [], _ => .nil
  | p :: ps, h => .cons (h p List.mem_cons_self) (paired_of fun q hq => h q (List.mem_cons_of_mem _ hq))
theorem perm_erase {α : Type} : ∀ (xs : List α) (j : Nat) (x : α), xs[j]? = some x → (x :: xs.eraseIdx j).Perm xs
  | [], j, x, h => by simp at h
  | y :: ys, 0, x, h => by
    cases h
    exact List.Perm.refl _
  | y :: ys, j + 1, x, h => by
    have ih := perm_erase ys j x (by simpa using h)
    exact (List.Perm.swap y x _).trans (List.Perm.cons y ih)
theorem erase_map2 {α β : Type} (f : α → β) : ∀ (xs : List α) (j : Nat), (xs.map f).eraseIdx j = (xs.eraseIdx j).map f
  | [], j => by simp
  | x :: xs, 0 => by simp
  | x :: xs, j + 1 => by simp [erase_map2 f xs j]
/-! keys of rows -/
def kyOf (H : Hp) : V → Int × Int
  | .ref a => match H a with
    | some (.tup [.ref g, .int n]) => match H g with
      | some (.tup [_, _, .int r, _, _, _, _]) => (-r, n)
      | _ => (0, 0)
    | _ => (0, 0)
  | _ => (0, 0)
theorem kyOf_row {H : Hp} {a : Addr} {R : Gang × Int} (h : RowAt H a R) : kyOf H (.ref a) = (-R.1.rank, R.2) := by
  obtain ⟨g, h1, w, h2, _⟩ := h
  simp only [kyOf, h1, h2, Gang.flat]
theorem sort_rows {H : Hp} {ps : List (Addr × (Gang × Int))} (h : ∀ p ∈ ps, RowAt H p.1 p.2) :
    ∃ qs : List (Addr × (Gang × Int)), qs.Perm ps ∧ ((ps.map (·.1)).map V.ref).mergeSort (keyLe (kyOf H)) = (qs.map (·.1)).map V.ref ∧ qs.map (·.2) = ord (ps.map (·.2)) := by
  refine ⟨ps.mergeSort fun p q => rowLe p.2 q.2, List.mergeSort_perm _ _, ?_, ?_⟩
  · rw [List.map_map, List.map_map]
    refine (List.map_mergeSort fun a ha b hb => ?_).symm
    show rowLe a.2 b.2 = keyLe (kyOf H) (V.ref a.1) (V.ref b.1)
    unfold keyLe
    rw [kyOf_row (h a ha), kyOf_row (h b hb)]
    rfl
  · exact List.map_mergeSort fun a _ b _ => rfl
def spRank : Sp := fun vs H Q _ => ∃ (g : Addr) (G : Gang), vs = [.ref g] ∧ GangAt H g G ∧ Q (.int G.rank) H
def spPlace : Sp := fun vs H Q _ => ∃ (r : Addr) (R : Gang × Int), vs = [.ref r] ∧ RowAt H r R ∧ ∀ t H', Same H H' → H' t = some (.tup [.int (-R.1.rank), .int R.2]) → Q (.ref t) H'
def spInOrd (K : PySem.W.Frag) : Sp := fun vs H Q _ => ∃ (a : Addr) (as : List Addr) (Rs : List (Gang × Int)), vs = [.ref a] ∧ SqL K H a (as.map V.ref) ∧ Paired (RowAt H) as Rs ∧ Rs.length ≤ 1000 ∧
  ∀ p H' bs, Same H H' → H p = none → H' p = some (.lst (bs.map V.ref)) → Paired (GangAt H') bs ((ord Rs).map (·.1)) → Q (.ref p) H'
def spOrder (K : PySem.W.Frag) : Sp := fun vs H Q _ => ∃ (a : Addr) (as : List Addr) (Rs : List (Gang × Int)), vs = [.ref a] ∧ SqL K H a (as.map V.ref) ∧ Paired (RowAt H) as Rs ∧ Good2 Rs ∧
  ∀ p H' bs, Same H H' → H p = none → H' p = some (.lst (bs.map V.ref)) → Paired (RowAt H') bs (ord Rs) → Q (.ref p) H'
theorem RowAt.same {H H' : Hp} {r : Addr} {R : Gang × Int} (s : Same H H') (h : RowAt H r R) : RowAt H' r R := h.kt (Same.kt s)
theorem GangAt.same {H H' : Hp} {r : Addr} {R : Gang} (s : Same H H') (h : GangAt H r R) : GangAt H' r R := h.kt (Same.kt s)
theorem key_rows {H : Hp} {as : List Addr} {Rs : List (Gang × Int)} (h : Paired (RowAt H) as Rs) : KeyFn spPlace (kyOf H) (as.map V.ref) H := by
  intro x hx H1 s1 Q q
  obtain ⟨a, ha, rfl⟩ := List.mem_map.mp hx
  obtain ⟨i, hi⟩ := List.mem_iff_getElem?.mp ha
  obtain ⟨R, _, hR⟩ := paired_get h hi
  refine ⟨a, R, rfl, hR.same s1, fun t H' s2 e => q t H' s2 ?_⟩
  rw [kyOf_row hR]
  exact e
/-- better than the best so far -/
def better (R B : Gang × Int) : Prop := R.1.rank > B.1.rank ∨ (R.1.rank = B.1.rank ∧ R.2 < B.2)
theorem not_better {R B : Gang × Int} (h : ¬ better R B) : rowLe B R = true := by
  unfold better at h
  unfold rowLe
  rw [decide_eq_true_eq]
  omega
theorem better_le {R B : Gang × Int} (h : better R B) : rowLe R B = true := by
  unfold better at h
  unfold rowLe
  rw [decide_eq_true_eq]
  omega
def lenAt (H : Hp) (l : Addr) : Nat := match H l with
  | some (.lst xs) => xs.length
  | _ => 0
theorem lenAt_of {H : Hp} {l : Addr} {xs : List V} (h : H l = some (.lst xs)) : lenAt H l = xs.length := by
  unfold lenAt
  rw [h]
theorem _root_.L2.Room.units65 {k : Nat} {A : Around} (r : Room k A) : A.units + 65 < cLine := by
  have := r.un
  omega
end My

namespace My
open PySem PySem.W PySem.Spec PyProof.Rows L2 GX GxR
theorem ints_inj : ∀ {xs ys : List Int}, xs.map V.int = ys.map V.int → xs = ys
  | [], [], _ => rfl
  | [], _ :: _, h => by cases h
  | _ :: _, [], h => by cases h
  | x :: xs, y :: ys, h => by
    rw [List.map_cons, List.map_cons] at h
    injection h with h1 h2
    injection h1 with h1
    rw [h1, ints_inj h2]
theorem gang_uniq {H : Hp} {g : Addr} {G G' : Gang} (h : GangAt H g G) (h' : GangAt H g G') : G = G' := by
  obtain ⟨w, h1, h2⟩ := h
  obtain ⟨w', h1', h2'⟩ := h'
  rw [h1] at h1'
  simp only [Gang.flat, Option.some.injEq, HO.tup.injEq, List.cons.injEq, V.str.injEq, V.int.injEq, V.ref.injEq, and_true] at h1'
  obtain ⟨e1, e2, e3, e4, e5, e6, e7⟩ := h1'
  rw [← e5, h2] at h2'
  simp only [Option.some.injEq, HO.tup.injEq] at h2'
  have e8 := ints_inj h2'
  cases G
  cases G'
  simp only at e1 e2 e3 e4 e6 e7 e8
  subst e1 e2 e3 e4 e6 e7 e8
  rfl
theorem row_uniq {H : Hp} {a : Addr} {R R' : Gang × Int} (h : RowAt H a R) (h' : RowAt H a R') : R = R' := by
  obtain ⟨g, h1, h2⟩ := h
  obtain ⟨g', h1', h2'⟩ := h'
  rw [h1] at h1'
  simp only [Option.some.injEq, HO.tup.injEq, List.cons.injEq, V.int.injEq, V.ref.injEq, and_true] at h1'
  obtain ⟨e1, e2⟩ := h1'
  rw [← e1] at h2'
  exact Prod.ext (gang_uniq h2 h2') e2
open Classical in
noncomputable def encOf (H : Hp) (x : V) : PyData := if h : ∃ R : Gang × Int, ∃ a, x = V.ref a ∧ RowAt H a R then rowD h.choose else .none
theorem encOf_row {H : Hp} {a : Addr} {R : Gang × Int} (h : RowAt H a R) : encOf H (.ref a) = rowD R := by
  have ex : ∃ R : Gang × Int, ∃ b, V.ref a = V.ref b ∧ RowAt H b R := ⟨R, a, rfl, h⟩
  unfold encOf
  rw [dif_pos ex]
  obtain ⟨b, e, hb⟩ := ex.choose_spec
  injection e with e
  rw [← e] at hb
  rw [row_uniq hb h]
theorem alike_ints2 : ∀ xs ys : List Int, alikeAll (xs.map PyData.int) (ys.map PyData.int) = true := alike_ints
theorem alike_rows (R S : Gang × Int) : alike (rowD R) (rowD S) = true := by
  simp [rowD, gangD, alike, alikeAll, alike_ints2]
theorem perm_rows {H : Hp} {ps : List (Addr × (Gang × Int))} (le : V → V → Bool) : ∃ qs : List (Addr × (Gang × Int)), qs.Perm ps ∧ ((ps.map (·.1)).map V.ref).mergeSort le = (qs.map (·.1)).map V.ref := by
  refine ⟨ps.mergeSort fun p q => le (V.ref p.1) (V.ref q.1), List.mergeSort_perm _ _, ?_⟩
  rw [List.map_map, List.map_map]
  exact (List.map_mergeSort (f := V.ref ∘ fun x : Addr × (Gang × Int) => x.1) (r := fun p q => le (V.ref p.1) (V.ref q.1)) (s := le) fun a ha b hb => rfl).symm
theorem prs_gangs {H : Hp} {n : Nat} : ∀ {bs ds : List Addr} {Gs : List Gang}, Paired (GangAt H) bs Gs → Paired (GangAt H) ds Gs → (∀ G ∈ Gs, G.want.length < 100000) → Prs (Sm H (n + 2)) (bs.map V.ref) (ds.map V.ref)
  | _, _, _, .nil, .nil, _ => .nil
  | _, _, _, .cons h t, .cons h' t', hl => .cons (sm_gang h h' (hl _ List.mem_cons_self)) (prs_gangs t t' fun G hG => hl G (List.mem_cons_of_mem _ hG))
/-- a list of the same rows, in some order -/
def Like (H : Hp) (Rs : List (Gang × Int)) (b : Addr) : Prop := ∃ (as : List Addr) (Ss : List (Gang × Int)), H b = some (.lst (as.map V.ref)) ∧ Paired (RowAt H) as Ss ∧ Ss.Perm Rs
theorem Like.same {H H' : Hp} {Rs : List (Gang × Int)} {b : Addr} (s : Same H H') (h : Like H Rs b) : Like H' Rs b := by
  obtain ⟨as, Ss, h1, h2, h3⟩ := h
  exact ⟨as, Ss, s _ _ h1, h2.mono fun _ _ x => x.same s, h3⟩
theorem paired_rev {α β : Type} {R : α → β → Prop} : ∀ {xs : List α} {ys : List β}, Paired R xs ys → Paired R xs.reverse ys.reverse
  | _, _, .nil => .nil
  | x :: xs, y :: ys, .cons r t => by
    rw [List.reverse_cons, List.reverse_cons]
    exact Paired.snoc (paired_rev t) r
end My

namespace My
open PySem PySem.W PySem.Spec PyProof.Rows L2 GX GxR
/-! tables of generator expressions -/
def Tabs (Ts : List Addr) (H : Hp) : Prop := ∀ T ∈ Ts, TabG H T
structure Fw (Ts : List Addr) (H H' : Hp) : Prop where
  kp : Kp Ts H H'
  tabs : Tabs Ts H'
section
variable {Ts : List Addr} {H H1 H2 : Hp}
theorem Fw.refl (t : Tabs Ts H) : Fw Ts H H := ⟨Kp.refl _ _, t⟩
theorem Fw.trans (f : Fw Ts H H1) (g : Fw Ts H1 H2) : Fw Ts H H2 := ⟨f.kp.trans g.kp, g.tabs⟩
theorem Fw.same (t : Tabs Ts H) (s : Same H H1) : Fw Ts H H1 := ⟨Same.kp _ s, fun T h => TabG.same s (t T h)⟩
theorem Fw.then (f : Fw Ts H H1) (s : Same H1 H2) : Fw Ts H H2 := f.trans (Fw.same f.tabs s)
theorem Fw.step (t : Tabs Ts H) {T : Addr} (h : T ∈ Ts) (k : Kp [T] H H1) (g : TabG H1 T) : Fw Ts H H1 := by
  refine ⟨k.mono fun x hx => by rw [List.mem_singleton.mp hx]; exact h, fun T' h' => ?_⟩
  by_cases z : T' = T
  · rw [z]
    exact g
  · exact TabG.kp k (fun q => z (List.mem_singleton.mp q)) (t T' h')
theorem tab_off {x : Addr} {o : HO} (t : Tabs Ts H) (h : H x = some o) (no : ∀ ps, o ≠ .tbl ps) : x ∉ Ts := fun z => tab_ne (t x z) h no rfl
theorem Fw.obj (t : Tabs Ts H) (f : Fw Ts H H1) {x : Addr} {o : HO} (h : H x = some o) (no : ∀ ps, o ≠ .tbl ps) : H1 x = some o := f.kp _ _ (tab_off t h no) h
theorem Fw.lst (t : Tabs Ts H) (f : Fw Ts H H1) {x : Addr} {xs : List V} (h : H x = some (.lst xs)) : H1 x = some (.lst xs) := f.obj t h fun ps z => by cases z
theorem Fw.kt (t : Tabs Ts H) (f : Fw Ts H H1) : KTu H H1 := fun x xs h => f.obj t h fun ps z => by cases z
theorem Fw.free (t : Tabs Ts H) (f : Fw Ts H H1) {x : Addr} (h : H1 x = none) : H x = none := by
  cases e : H x with
  | none => rfl
  | some o =>
    by_cases z : x ∈ Ts
    · obtain ⟨ps, h1, _⟩ := f.tabs x z
      rw [h1] at h
      cases h
    · rw [f.kp _ _ z e] at h
      cases h
theorem Fw.put (t : Tabs Ts H) (f : Fw Ts H H1) {x : Addr} {o : HO} (n : H x = none) : Fw Ts H (upd H1 x o) := by
  have nT : x ∉ Ts := fun z => by
    obtain ⟨ps, h1, _⟩ := t x z
    rw [h1] at n
    cases n
  refine ⟨fun y u ny e => ?_, fun T hT => ?_⟩
  · rw [upd_ne (ne_of_none e n)]
    exact f.kp _ _ ny e
  · obtain ⟨ps, h1, h2⟩ := f.tabs T hT
    exact ⟨ps, by rw [upd_ne (fun z => nT (by rw [← z]; exact hT))]; exact h1, h2⟩
theorem Fw.seqL {K : PySem.W.Frag} (t : Tabs Ts H) (f : Fw Ts H H1) {a : Addr} {xs : List V} (h : SqL K H a xs) : SqL K H1 a xs := by
  rcases h with (h | ⟨o, h⟩) | h
  · exact .inl (.inl (f.lst t h))
  · exact .inl (.inr ⟨o, f.obj t h fun ps z => by cases z⟩)
  · exact .inr h
theorem Fw.seqT {K : PySem.W.Frag} (t : Tabs Ts H) (f : Fw Ts H H1) {a : Addr} {xs : List V} (h : SqT K H a xs) : SqT K H1 a xs := by
  rcases h with (h | ⟨o, h⟩) | h
  · exact .inl (.inl (f.kt t _ _ h))
  · exact .inl (.inr ⟨o, f.obj t h fun ps z => by cases z⟩)
  · exact .inr h
end
/-! a guild's own ones and the lent -/
def fitB (xs ys : List Int) : Bool := (List.zipWith (fun a b : Int => decide (a ≤ b)) xs ys).all _root_.id
theorem zip_bl {g : V → V → V} {op : Int → Int → Bool} (h : ∀ i j, g (.int i) (.int j) = .bl (op i j)) : ∀ xs ys : List Int, (((xs.map V.int).zip (ys.map V.int)).map fun v => g v.1 v.2) = (List.zipWith op xs ys).map V.bl
  | [], _ => rfl
  | _ :: _, [] => rfl
  | x :: xs, y :: ys => by
    show g (.int x) (.int y) :: (((xs.map V.int).zip (ys.map V.int)).map fun v => g v.1 v.2) = .bl (op x y) :: (List.zipWith op xs ys).map V.bl
    rw [h, zip_bl h xs ys]
def spFits (K : PySem.W.Frag) (T : Addr) : Sp := fun vs H Q _ => ∃ (a b : Addr) (xs ys : List Int), vs = [.ref a, .ref b] ∧ SqT K H a (xs.map V.int) ∧ SqT K H b (ys.map V.int) ∧ TabG H T ∧ ∀ H', TabG H' T → Kp [T] H H' → Q (.bl (fitB xs ys)) H'
def addL (xs ys : List Int) : List Int := List.zipWith (· + ·) xs ys
def zeros (n : Nat) : List Int := List.replicate n 0
/-- in turn: own where it fits with those ahead, else lent; and what the own ones come to -/
def partA (dn : List Int) : List Gang → List Gang → List Gang → List Int → List Gang × List Gang × List Int
  | [], o, l, ld => (o, l, ld)
  | G :: Gs, o, l, ld => if fitB (addL ld G.whole) dn = true then partA dn Gs (o ++ [G]) l (addL ld G.whole) else partA dn Gs o (l ++ [G]) ld
def partRs (dn : List Int) (Rs : List (Gang × Int)) : List Gang × List Gang × List Int := partA dn ((ord Rs).map (·.1)) [] [] (zeros dn.length)
theorem partA_step {dn : List Int} {Gs : List Gang} {i : Nat} {G : Gang} {o l : List Gang} {ld : List Int} (h : Gs[i]? = some G) :
    partA dn (Gs.drop i) o l ld = if fitB (addL ld G.whole) dn = true then partA dn (Gs.drop (i + 1)) (o ++ [G]) l (addL ld G.whole) else partA dn (Gs.drop (i + 1)) o (l ++ [G]) ld := by
  obtain ⟨lt, e⟩ := List.getElem?_eq_some_iff.mp h
  rw [List.drop_eq_getElem_cons lt, e]
  rfl
def spGName : Sp := fun vs H Q _ => ∃ (g : Addr) (G : Gang), vs = [.ref g] ∧ GangAt H g G ∧ Q (.str G.name) H
structure PIn (K : PySem.W.Frag) (H : Hp) (du a : Addr) (dn : List Int) (as : List Addr) (Rs : List (Gang × Int)) : Prop where
  due : SqT K H du (dn.map V.int)
  d1 : 1 ≤ dn.length
  d8 : dn.length ≤ 8
  rows : SqL K H a (as.map V.ref)
  prs : Paired (RowAt H) as Rs
  good : Good2 Rs
  wlen : ∀ R ∈ Rs, R.1.want.length = dn.length
def spPartG (K : PySem.W.Frag) (Ts : List Addr) : Sp := fun vs H Q _ => ∃ (du a : Addr) (dn : List Int) (as : List Addr) (Rs : List (Gang × Int)), vs = [.ref du, .ref a] ∧ PIn K H du a dn as Rs ∧ Tabs Ts H ∧
  ∀ t o l e H' os ls, Fw Ts H H' → H t = none → H' t = some (.tup [.ref o, .ref l, .ref e]) → H' o = some (.lst (os.map V.ref)) → H' l = some (.lst (ls.map V.ref)) → Paired (GangAt H') os (partRs dn Rs).1 → Paired (GangAt H') ls (partRs dn Rs).2.1 → H' e = some (.tup ((partRs dn Rs).2.2.map V.int)) → Q (.ref t) H'
def spParted (K : PySem.W.Frag) (Ts : List Addr) : Sp := fun vs H Q _ => ∃ (du a : Addr) (dn : List Int) (as : List Addr) (Rs : List (Gang × Int)), vs = [.ref du, .ref a] ∧ PIn K H du a dn as Rs ∧ Tabs Ts H ∧
  ∀ t o l H', Fw Ts H H' → H t = none → H' t = some (.tup [.ref o, .ref l]) → H o = none → H l = none → o ≠ l → H' o = some (.lst (((partRs dn Rs).1.map (·.name)).map V.str)) → H' l = some (.lst (((partRs dn Rs).2.1.map (·.name)).map V.str)) → Q (.ref t) H'
def spLPart (K : PySem.W.Frag) : Sp := fun vs H Q _ => ∃ (du a : Addr) (dn : List Int) (as : List Addr) (Rs : List (Gang × Int)), vs = [.ref du, .ref a] ∧ PIn K H du a dn as Rs ∧
  ∀ t o l b H', Same H H' → H t = none → H' t = some (.tup [.ref o, .ref l, .ref b]) → H o = none → H l = none → H b = none → H' o = some (.lst (((partRs dn Rs).1.map (·.name)).map V.str)) → H' l = some (.lst (((partRs dn Rs).2.1.map (·.name)).map V.str)) → H' b = some (.lst ((partRs dn Rs).2.2.map V.int)) → Q (.ref t) H'
def spLGuild (K : PySem.W.Frag) : Sp := fun vs H Q _ => ∃ (a : Addr) (as : List Addr) (Rs : List (Gang × Int)) (z : Str), vs = [.ref a, .str z] ∧ SqL K H a (as.map V.ref) ∧ Paired (RowAt H) as Rs ∧ Rs.length ≤ 100 ∧
  ∀ p bs H', Same H H' → H p = none → H' p = some (.lst (bs.map V.ref)) → Paired (RowAt H') bs (Rs.filter fun R => decide (R.1.guild = z)) → Q (.ref p) H'
theorem PIn.same {K : PySem.W.Frag} {H H' : Hp} {du a : Addr} {dn : List Int} {as : List Addr} {Rs : List (Gang × Int)} (s : Same H H') (h : PIn K H du a dn as Rs) : PIn K H' du a dn as Rs :=
  ⟨same_seqT s h.due, h.d1, h.d8, s.seq h.rows, h.prs.mono fun _ _ x => x.same s, h.good, h.wlen⟩
theorem PIn.fw {K : PySem.W.Frag} {Ts : List Addr} {H H' : Hp} {du a : Addr} {dn : List Int} {as : List Addr} {Rs : List (Gang × Int)} (t : Tabs Ts H) (f : Fw Ts H H') (h : PIn K H du a dn as Rs) : PIn K H' du a dn as Rs :=
  ⟨f.seqT t h.due, h.d1, h.d8, f.seqL t h.rows, h.prs.mono fun _ _ x => x.kt (f.kt t), h.good, h.wlen⟩
theorem addL_len {xs ys : List Int} (h : ys.length = xs.length) : (addL xs ys).length = xs.length := by
  unfold addL
  rw [List.length_zipWith, h, Nat.min_self]
theorem whole_len (G : Gang) : G.whole.length = G.want.length := by
  unfold Gang.whole
  rw [List.length_map]
theorem partA_len {dn : List Int} : ∀ (Gs o l : List Gang) (ld : List Int), (partA dn Gs o l ld).1.length + (partA dn Gs o l ld).2.1.length = Gs.length + o.length + l.length
  | [], o, l, ld => by
    show o.length + l.length = 0 + o.length + l.length
    omega
  | G :: Gs, o, l, ld => by
    unfold partA
    split
    · rw [partA_len Gs]
      simp only [List.length_append, List.length_cons, List.length_nil]
      omega
    · rw [partA_len Gs]
      simp only [List.length_append, List.length_cons, List.length_nil]
      omega
theorem partRs_len (dn : List Int) (Rs : List (Gang × Int)) : (partRs dn Rs).1.length + (partRs dn Rs).2.1.length = Rs.length := by
  unfold partRs
  rw [partA_len, List.length_map, (ord_perm Rs).length_eq]
  rfl
theorem partRs_perm (dn : List Int) {Rs Ss : List (Gang × Int)} (h : (Rs.map (·.2)).Nodup) (p : Ss.Perm Rs) : partRs dn Ss = partRs dn Rs := by
  unfold partRs
  rw [ord_perm_eq h p]
end My

namespace My
open PySem PySem.W PySem.Spec PyProof.Rows L2 GX GxR
theorem partA_mem {dn : List Int} : ∀ (Gs o l : List Gang) (ld : List Int) (G : Gang), (G ∈ (partA dn Gs o l ld).1 ∨ G ∈ (partA dn Gs o l ld).2.1) → G ∈ Gs ∨ G ∈ o ∨ G ∈ l
  | [], o, l, ld, G, h => by
    rcases h with h | h
    · exact .inr (.inl h)
    · exact .inr (.inr h)
  | F :: Gs, o, l, ld, G, h => by
    unfold partA at h
    split at h
    · rcases partA_mem Gs _ _ _ G h with h | h | h
      · exact .inl (List.mem_cons_of_mem _ h)
      · rcases List.mem_append.mp h with h | h
        · exact .inr (.inl h)
        · exact .inl (by rw [List.mem_singleton.mp h]; exact List.mem_cons_self)
      · exact .inr (.inr h)
    · rcases partA_mem Gs _ _ _ G h with h | h | h
      · exact .inl (List.mem_cons_of_mem _ h)
      · exact .inr (.inl h)
      · rcases List.mem_append.mp h with h | h
        · exact .inr (.inr h)
        · exact .inl (by rw [List.mem_singleton.mp h]; exact List.mem_cons_self)
theorem partRs_mem {dn : List Int} {Rs : List (Gang × Int)} {G : Gang} (h : G ∈ (partRs dn Rs).1 ∨ G ∈ (partRs dn Rs).2.1) : ∃ R ∈ Rs, R.1 = G := by
  rcases partA_mem _ _ _ _ G h with h | h | h
  · obtain ⟨R, h1, h2⟩ := List.mem_map.mp h
    exact ⟨R, (ord_perm Rs).mem_iff.mp h1, h2⟩
  · exact (nomatch h)
  · exact (nomatch h)
theorem dp_strs {K : PySem.W.Frag} {H : Hp} : ∀ zs : List Str, DpAll K H (zs.map V.str) (zs.map PyData.str)
  | [] => .nil
  | z :: zs => .cons (.str z) (dp_strs zs)
theorem lay_strs : ∀ {zs : List Str}, (∀ z ∈ zs, PySem.PyData.strOk z = true) → PyData.canLayAll0 (zs.map PyData.str) = true
  | [], _ => rfl
  | z :: zs, h => by
    show (PyData.canLay0 (.str z) && PyData.canLayAll0 (zs.map PyData.str)) = true
    rw [lay_strs fun y hy => h y (List.mem_cons_of_mem _ hy), Bool.and_true]
    exact h z List.mem_cons_self
theorem dpt_strs : ∀ zs : List Str, PyData.depthAll (zs.map PyData.str) = 0
  | [] => rfl
  | z :: zs => by
    show PyData.depthAll (PyData.str z :: zs.map PyData.str) = 0
    simp only [PyData.depthAll, PyData.depth, dpt_strs zs]
    rfl
theorem sh_strs {zs : List Str} (h : ∀ z ∈ zs, PySem.PyData.strOk z = true) : SeqAt.shaped (.list (zs.map PyData.str)) = true := by
  unfold SeqAt.shaped
  have h1 : PyData.canLay0 (.list (zs.map PyData.str)) = true := lay_strs h
  have h2 : (PyData.list (zs.map PyData.str)).depth ≤ 64 := by
    simp only [PyData.depth, dpt_strs]
    decide
  rw [h1, decide_eq_true h2]
  rfl
theorem names_ok {dn : List Int} {Rs : List (Gang × Int)} (g : Good2 Rs) : (∀ z ∈ (partRs dn Rs).1.map (·.name), PySem.PyData.strOk z = true) ∧ (∀ z ∈ (partRs dn Rs).2.1.map (·.name), PySem.PyData.strOk z = true) := by
  refine ⟨fun z hz => ?_, fun z hz => ?_⟩
  · obtain ⟨G, hG, rfl⟩ := List.mem_map.mp hz
    obtain ⟨R, hR, rfl⟩ := partRs_mem (.inl hG)
    exact (g.fit R hR).name
  · obtain ⟨G, hG, rfl⟩ := List.mem_map.mp hz
    obtain ⟨R, hR, rfl⟩ := partRs_mem (.inr hG)
    exact (g.fit R hR).name
theorem sm_strs {H : Hp} {n : Nat} {p q : Addr} {zs : List Str} (h1 : H p = some (.lst (zs.map V.str))) (h2 : H q = some (.lst (zs.map V.str))) (hs : zs.length < 100000) : Sm H (n + 1) (.ref p) (.ref q) :=
  sm_lst h1 h2 (by rw [List.length_map]; exact hs) (prs_strs (fun z => sm_str z) zs)
theorem valV_get {κ : Type} [DecidableEq κ] : ∀ {ps : List (κ × V)} {i : Nat} {k : κ} {v : V}, (ps.map (·.1)).Nodup → ps[i]? = some (k, v) → valV ps k = some v
  | [], _, _, _, _, h => by simp at h
  | p :: ps, 0, k, v, _, h => by
    cases h
    exact valV_pos rfl
  | p :: ps, i + 1, k, v, nd, h => by
    have h' : ps[i]? = some (k, v) := by simpa using h
    rw [List.map_cons, List.nodup_cons] at nd
    rw [valV_neg fun z => nd.1 (List.mem_map.mpr ⟨(k, v), List.mem_of_getElem? h', z.symm⟩)]
    exact valV_get nd.2 h'
theorem valV_due {H : Hp} {ps : List (Key × V)} {kvs : List (Str × List Int)} (h : Paired (DueAt H) ps kvs) (nd : (kvs.map (·.1)).Nodup) {z : Str} (hz : z ∈ kvs.map (·.1)) : ∃ (a : Addr) (ns : List Int), valV ps (Sum.inr z) = some (.ref a) ∧ (z, ns) ∈ kvs ∧ H a = some (.tup (ns.map V.int)) := by
  obtain ⟨kv, hkv, rfl⟩ := List.mem_map.mp hz
  obtain ⟨i, hi⟩ := List.mem_iff_getElem?.mp hkv
  obtain ⟨p, hp, e, a, h1, h2⟩ := paired_get2 h hi
  have np : (ps.map (·.1)).Nodup := by
    rw [due_keys h]
    exact keys_nd nd
  have hp' : ps[i]? = some (Sum.inr kv.1, .ref a) := by
    rw [hp, ← e, ← h1]
  exact ⟨a, kv.2, valV_get np hp', hkv, h2⟩
theorem dgetR {H : Hp} {d : Addr} {ps : List (Key × V)} {z : Str} {v : V} (h : Rd H d (.dK ps)) (e : valV ps (Sum.inr z) = some v) : DGet H d (.str z) (some v) := .inl ⟨ps, Sum.inr z, h, rfl, e.symm⟩
end My

namespace My
open PySem PySem.W PySem.Spec PyProof.Rows L2 GX GxR
/-! what is borne from a time to a time, and the turns of it -/
structure Bw where
  key : Str
  b : Int
  e : Int
  am : List Int
structure Tn where
  t : Int
  k : Int
  am : List Int
def BwAt (H : Hp) (r : Addr) (x : Bw) : Prop := ∃ p, H r = some (.tup [.str x.key, .int x.b, .int x.e, .ref p]) ∧ H p = some (.tup (x.am.map V.int))
def TnAt (H : Hp) (r : Addr) (x : Tn) : Prop := ∃ p, H r = some (.tup [.int x.t, .int x.k, .ref p]) ∧ H p = some (.tup (x.am.map V.int))
theorem BwAt.kt {H H' : Hp} {r : Addr} {x : Bw} (k : KTu H H') (h : BwAt H r x) : BwAt H' r x := by
  obtain ⟨p, h1, h2⟩ := h
  exact ⟨p, k _ _ h1, k _ _ h2⟩
theorem TnAt.kt {H H' : Hp} {r : Addr} {x : Tn} (k : KTu H H') (h : TnAt H r x) : TnAt H' r x := by
  obtain ⟨p, h1, h2⟩ := h
  exact ⟨p, k _ _ h1, k _ _ h2⟩
def begT (x : Bw) : Tn := ⟨x.b, 1, x.am⟩
def endT (x : Bw) : Tn := ⟨x.e, 0, x.am⟩
def turns (rs : List Bw) : List Tn := rs.map begT ++ rs.map endT
/-- rows as they may be -/
structure BwOk (w : Nat) (rs : List Bw) : Prop where
  few : rs.length ≤ 20
  lt : ∀ x ∈ rs, x.b < x.e
  len : ∀ x ∈ rs, x.am.length = w
def colT (j : Nat) (x : Tn) : Int := if x.k = 1 then x.am.getD j 0 else - x.am.getD j 0
def sumT (w : Nat) (us : List Tn) : List Int := (List.range w).map fun j => (us.map (colT j)).sum
def liveAt (t : Int) (x : Bw) : Bool := decide (x.b ≤ t ∧ t < x.e)
def netB (w : Nat) (rs : List Bw) (t : Int) : List Int := (List.range w).map fun j => ((rs.filter (liveAt t)).map fun x => x.am.getD j 0).sum
theorem sumT_len (w : Nat) (us : List Tn) : (sumT w us).length = w := by unfold sumT; rw [List.length_map, List.length_range]
theorem netB_len (w : Nat) (rs : List Bw) (t : Int) : (netB w rs t).length = w := by unfold netB; rw [List.length_map, List.length_range]
theorem perm_sum {xs ys : List Int} (h : xs.Perm ys) : xs.sum = ys.sum := by
  induction h with
  | nil => rfl
  | cons x _ ih => rw [List.sum_cons, List.sum_cons, ih]
  | swap x y l =>
    simp only [List.sum_cons]
    omega
  | trans _ _ a b => exact a.trans b
theorem sumT_nil (w : Nat) : sumT w [] = List.replicate w 0 := by
  unfold sumT
  apply List.ext_getElem
  · simp
  · intro i h1 h2
    simp
theorem sumT_add {w : Nat} {us : List Tn} {u : Tn} (h : u.k = 1) (hl : u.am.length = w) : List.zipWith (· + ·) (sumT w us) u.am = sumT w (us ++ [u]) := by
  apply List.ext_getElem
  · rw [List.length_zipWith, sumT_len, sumT_len, hl, Nat.min_self]
  · intro i h1 h2
    rw [sumT_len] at h2
    simp [sumT, colT, h, show i < u.am.length by omega]
theorem sumT_sub {w : Nat} {us : List Tn} {u : Tn} (h : u.k ≠ 1) (hl : u.am.length = w) : List.zipWith (· - ·) (sumT w us) u.am = sumT w (us ++ [u]) := by
  apply List.ext_getElem
  · rw [List.length_zipWith, sumT_len, sumT_len, hl, Nat.min_self]
  · intro i h1 h2
    rw [sumT_len] at h2
    simp [sumT, colT, h, show i < u.am.length by omega]
    omega
/-- what the turns up to t leave is what is borne at t -/
theorem col_eq (j : Nat) (t : Int) : ∀ rs : List Bw, (∀ x ∈ rs, x.b < x.e) → (((turns rs).filter fun u => decide (u.t ≤ t)).map (colT j)).sum = ((rs.filter (liveAt t)).map fun x => x.am.getD j 0).sum := by
  intro rs
  unfold turns
  rw [List.filter_append, List.map_append, List.sum_append]
  induction rs with
  | nil => intro _; rfl
  | cons x rs ih =>
    intro h
    have ih := ih fun y hy => h y (List.mem_cons_of_mem _ hy)
    have hx := h x List.mem_cons_self
    simp only [List.map_cons, List.filter_cons]
    have e1 : (begT x).t = x.b := rfl
    have e2 : (endT x).t = x.e := rfl
    have c1 : colT j (begT x) = x.am.getD j 0 := by simp [colT, begT]
    have c2 : colT j (endT x) = - x.am.getD j 0 := by simp [colT, endT]
    unfold liveAt at ih ⊢
    rw [e1, e2]
    by_cases a1 : x.b ≤ t <;> by_cases a2 : x.e ≤ t
    · have a3 : decide (x.b ≤ t ∧ t < x.e) = false := decide_eq_false (by omega)
      rw [a3, decide_eq_true a1, decide_eq_true a2, if_pos rfl, if_pos rfl, if_neg Bool.false_ne_true, List.map_cons, List.map_cons, List.sum_cons, List.sum_cons, c1, c2]
      omega
    · have a3 : decide (x.b ≤ t ∧ t < x.e) = true := decide_eq_true (by omega)
      rw [a3, decide_eq_true a1, decide_eq_false a2, if_pos rfl, if_pos rfl, if_neg Bool.false_ne_true, List.map_cons, List.map_cons, List.sum_cons, List.sum_cons, c1]
      omega
    · exact absurd a2 (by omega)
    · have a3 : decide (x.b ≤ t ∧ t < x.e) = false := decide_eq_false (by omega)
      rw [a3, decide_eq_false a1, decide_eq_false a2, if_neg Bool.false_ne_true, if_neg Bool.false_ne_true, if_neg Bool.false_ne_true]
      exact ih
theorem net_eq {w : Nat} {rs : List Bw} {us : List Tn} (h : ∀ x ∈ rs, x.b < x.e) (p : us.Perm (turns rs)) (t : Int) : sumT w (us.filter fun u => decide (u.t ≤ t)) = netB w rs t := by
  unfold sumT netB
  refine List.map_congr_left fun j _ => ?_
  rw [← col_eq j t rs h]
  exact perm_sum ((p.filter _).map _)
/-- times in order: all begins and ends, each once -/
def Srt (rs : List Bw) (ks : List Int) : Prop := ks.Pairwise (· < ·) ∧ ∀ t, t ∈ ks ↔ ∃ x ∈ rs, x.b = t ∨ x.e = t
theorem sorted_ext : ∀ {xs ys : List Int}, xs.Pairwise (· < ·) → ys.Pairwise (· < ·) → (∀ t, t ∈ xs ↔ t ∈ ys) → xs = ys
  | [], [], _, _, _ => rfl
  | [], y :: ys, _, _, h => nomatch (h y).mpr List.mem_cons_self
  | x :: xs, [], _, _, h => nomatch (h x).mp List.mem_cons_self
  | x :: xs, y :: ys, h1, h2, h => by
    rw [List.pairwise_cons] at h1 h2
    have e : x = y := by
      rcases List.mem_cons.mp ((h x).mp List.mem_cons_self) with z | z
      · exact z
      · rcases List.mem_cons.mp ((h y).mpr List.mem_cons_self) with z' | z'
        · exact z'.symm
        · have := h1.1 y z'
          have := h2.1 x z
          omega
    subst e
    rw [sorted_ext h1.2 h2.2 fun t => ?_]
    constructor
    · intro ht
      rcases List.mem_cons.mp ((h t).mp (List.mem_cons_of_mem _ ht)) with z | z
      · have := h1.1 t ht
        omega
      · exact z
    · intro ht
      rcases List.mem_cons.mp ((h t).mpr (List.mem_cons_of_mem _ ht)) with z | z
      · have := h2.1 t ht
        omega
      · exact z
theorem Srt.uniq {rs : List Bw} {ks ls : List Int} (h : Srt rs ks) (h' : Srt rs ls) : ks = ls := sorted_ext h.1 h'.1 fun t => (h.2 t).trans (h'.2 t).symm
/-- more is borne at t than there is room for -/
def ovr (w : Nat) (rs : List Bw) (room : List Int) (t : Int) : Bool := !fitB (netB w rs t) room
def oI : Option Int → V
  | some t => .int t
  | none => .non
theorem find_at {p : Int → Bool} : ∀ {ks : List Int} {i : Nat} {t : Int}, (∀ (j : Nat) (x : Int), j < i → ks[j]? = some x → p x = false) → ks[i]? = some t → p t = true → ks.find? p = some t
  | [], i, t, _, h, _ => by simp at h
  | k :: ks, 0, t, _, h, ht => by
    cases h
    rw [List.find?_cons_of_pos ht]
  | k :: ks, i + 1, t, h0, h, ht => by
    have hk : p k = false := h0 0 k (by omega) rfl
    rw [List.find?_cons_of_neg (by rw [hk]; exact Bool.false_ne_true)]
    exact find_at (fun j x hj hx => h0 (j + 1) x (by omega) hx) h ht
theorem find_no {p : Int → Bool} {ks : List Int} (h : ∀ x ∈ ks, p x = false) : ks.find? p = none := List.find?_eq_none.mpr fun x hx => by rw [h x hx]; exact Bool.false_ne_true
theorem fit_zero : ∀ {room : List Int}, (∀ n ∈ room, 0 ≤ n) → ∀ w, fitB (List.replicate w 0) room = true
  | [], _, w => by cases w <;> rfl
  | r :: room, h, 0 => rfl
  | r :: room, h, w + 1 => by
    have ih := fit_zero (room := room) (fun n hn => h n (List.mem_cons_of_mem _ hn)) w
    have h0 := h r List.mem_cons_self
    unfold fitB at ih ⊢
    rw [List.replicate_succ, List.zipWith_cons_cons, List.all_cons, ih]
    simp [h0]
/-- at the last time nothing is borne -/
theorem last_fits {w : Nat} {rs : List Bw} {room ks : List Int} {t : Int} (h : Srt rs ks) (hr : ∀ n ∈ room, 0 ≤ n) (hl : ks.getLast? = some t) : ovr w rs room t = false := by
  have e : rs.filter (liveAt t) = [] := List.filter_eq_nil_iff.mpr fun x hx => by
    have m : x.e ∈ ks := (h.2 x.e).mpr ⟨x, hx, .inr rfl⟩
    obtain ⟨ys, hy⟩ := List.getLast?_eq_some_iff.mp hl
    have le : x.e ≤ t := by
      rw [hy] at m
      rcases List.mem_append.mp m with z | z
      · have := h.1
        rw [hy] at this
        exact Int.le_of_lt ((List.pairwise_append.mp this).2.2 _ z t (List.mem_singleton.mpr rfl))
      · rw [List.mem_singleton.mp z]
        exact Int.le_refl _
    unfold liveAt
    rw [decide_eq_true_eq]
    omega
  unfold ovr netB
  rw [e]
  have z : (List.range w).map (fun j => ((([] : List Bw)).map fun x => x.am.getD j 0).sum) = List.replicate w 0 := by
    apply List.ext_getElem
    · simp
    · intro i h1 h2
      simp
  rw [z, fit_zero hr]
  rfl
theorem nodup_len {α : Type} [DecidableEq α] : ∀ {xs ys : List α}, xs.Nodup → (∀ x ∈ xs, x ∈ ys) → xs.length ≤ ys.length
  | [], _, _, _ => Nat.zero_le _
  | x :: xs, ys, nd, h => by
    rw [List.nodup_cons] at nd
    have hx := h x List.mem_cons_self
    have ih := nodup_len (ys := ys.erase x) nd.2 fun y hy => by
      have ne : y ≠ x := fun z => nd.1 (by rw [← z]; exact hy)
      exact (List.mem_erase_of_ne ne).mpr (h y (List.mem_cons_of_mem _ hy))
    rw [List.length_erase_of_mem hx] at ih
    have := List.length_pos_of_mem hx
    rw [List.length_cons]
    omega
/-! the turns in order -/
def tnD (x : Tn) : PyData := .tuple [.int x.t, .int x.k, .tuple (x.am.map PyData.int)]
theorem tn_uniq {H : Hp} {a : Addr} {x y : Tn} (h : TnAt H a x) (h' : TnAt H a y) : x = y := by
  obtain ⟨p, h1, h2⟩ := h
  obtain ⟨q, h3, h4⟩ := h'
  rw [h1] at h3
  simp only [Option.some.injEq, HO.tup.injEq, List.cons.injEq, V.int.injEq, V.ref.injEq, and_true] at h3
  obtain ⟨e1, e2, e3⟩ := h3
  rw [← e3, h2] at h4
  simp only [Option.some.injEq, HO.tup.injEq] at h4
  have e4 := ints_inj h4
  cases x
  cases y
  simp only at e1 e2 e4
  subst e1 e2 e4
  rfl
open Classical in
noncomputable def encT (H : Hp) (x : V) : PyData := if h : ∃ u : Tn, ∃ a, x = V.ref a ∧ TnAt H a u then tnD h.choose else .none
theorem encT_of {H : Hp} {a : Addr} {u : Tn} (h : TnAt H a u) : encT H (.ref a) = tnD u := by
  have ex : ∃ u : Tn, ∃ b, V.ref a = V.ref b ∧ TnAt H b u := ⟨u, a, rfl, h⟩
  unfold encT
  rw [dif_pos ex]
  obtain ⟨b, e, hb⟩ := ex.choose_spec
  injection e with e
  rw [← e] at hb
  rw [tn_uniq hb h]
theorem alike_tn (x y : Tn) : alike (tnD x) (tnD y) = true := by simp [tnD, alike, alikeAll, alike_ints2]
theorem dp_tn {K : PySem.W.Frag} {H : Hp} {r : Addr} {x : Tn} (h : TnAt H r x) : Dp K H (.ref r) (tnD x) := by
  obtain ⟨p, h1, h2⟩ := h
  exact .tup (SqT.of h1) (.cons (.int _) (.cons (.int _) (.cons (.tup (SqT.of h2) (dp_ints _)) .nil)))
theorem dpt_tn (x : Tn) : (tnD x).depth ≤ 3 := by
  simp [tnD, PyData.depth, PyData.depthAll, dpt_ints]
theorem le_tn {x y : Tn} (h : dataLt (tnD y) (tnD x) = false) : x.t ≤ y.t := by
  unfold tnD at h
  rw [dataLt_tuple, dataLt_cons (by simp [alike]), dataLt_int] at h
  by_cases e : y.t = x.t
  · omega
  · have e2 : PyData.eqv (.int y.t) (.int x.t) = false := by simp [PyData.eqv, e]
    rw [e2, if_neg Bool.false_ne_true, decide_eq_false_iff_not] at h
    omega
theorem sort_tns {H : Hp} {ps : List (Addr × Tn)} (h : ∀ p ∈ ps, TnAt H p.1 p.2) :
    ∃ qs : List (Addr × Tn), qs.Perm ps ∧ ((ps.map (·.1)).map V.ref).mergeSort (dataLe false (encT H)) = (qs.map (·.1)).map V.ref ∧ (qs.map (·.2)).Pairwise fun a b => a.t ≤ b.t := by
  have tl := sortLe_total (listOrd itemOrd) false fun q : Addr × Tn => keyToks (encT H (.ref q.1))
  have pm := List.mergeSort_perm ps (dataLe false fun q : Addr × Tn => encT H (.ref q.1))
  refine ⟨ps.mergeSort (dataLe false fun q : Addr × Tn => encT H (.ref q.1)), pm, ?_, ?_⟩
  · rw [List.map_map, List.map_map]
    exact (List.map_mergeSort (f := V.ref ∘ fun x : Addr × Tn => x.1) (s := dataLe false (encT H)) fun a ha b hb => rfl).symm
  · have so := List.pairwise_mergeSort (le := dataLe false fun q : Addr × Tn => encT H (.ref q.1)) (fun a b c => tl.trans a b c) (fun a b => by rw [Bool.or_eq_true]; exact tl.total a b) ps
    rw [List.pairwise_map]
    refine so.imp_of_mem fun {a b} ha hb hab => ?_
    have hab' : (!dataLt (encT H (.ref b.1)) (encT H (.ref a.1))) = true := hab
    rw [encT_of (h a (pm.mem_iff.mp ha)), encT_of (h b (pm.mem_iff.mp hb))] at hab'
    exact le_tn (by simpa using hab')
/-! the loads as they are gathered -/
structure Gath (H : Hp) (w : Nat) (us : List Tn) (ps : List (Key × V)) (ks : List Int) : Prop where
  keys : ps.map (·.1) = ks.map Sum.inl
  inc : ks.Pairwise (· < ·)
  mem : ∀ t, t ∈ ks ↔ ∃ u ∈ us, u.t = t
  val : ∀ (i : Nat) (k : Int) (v : V), ps[i]? = some (Sum.inl k, v) → ∃ a, v = .ref a ∧ H a = some (.tup ((sumT w (us.filter fun u => decide (u.t ≤ k))).map V.int))
theorem Gath.nil {H : Hp} {w : Nat} : Gath H w [] [] [] := ⟨rfl, .nil, fun t => by simp, fun i k v h => by simp at h⟩
theorem Gath.kt {H H' : Hp} {w : Nat} {us : List Tn} {ps : List (Key × V)} {ks : List Int} (k : KTu H H') (g : Gath H w us ps ks) : Gath H' w us ps ks :=
  ⟨g.keys, g.inc, g.mem, fun i t v h => by
    obtain ⟨a, e, h2⟩ := g.val i t v h
    exact ⟨a, e, k _ _ h2⟩⟩
theorem Gath.len {H : Hp} {w : Nat} {us : List Tn} {ps : List (Key × V)} {ks : List Int} (g : Gath H w us ps ks) : ps.length = ks.length := by
  have := congrArg List.length g.keys
  simpa using this
theorem filt_all {us : List Tn} {t : Int} (h : ∀ u ∈ us, u.t ≤ t) : us.filter (fun u => decide (u.t ≤ t)) = us := List.filter_eq_self.mpr fun u hu => decide_eq_true (h u hu)
theorem Gath.put {H : Hp} {w : Nat} {us : List Tn} {ps : List (Key × V)} {ks : List Int} {u : Tn} {a : Addr} (g : Gath H w us ps ks) (le : ∀ x ∈ us, x.t ≤ u.t) (ha : H a = some (.tup ((sumT w (us ++ [u])).map V.int))) :
    ∃ ls, Gath H w (us ++ [u]) (putK ps (Sum.inl u.t) (.ref a)) ls := by
  have all : (us ++ [u]).filter (fun x => decide (x.t ≤ u.t)) = us ++ [u] := filt_all fun x hx => by
    rcases List.mem_append.mp hx with z | z
    · exact le x z
    · rw [List.mem_singleton.mp z]
      exact Int.le_refl _
  have old : ∀ k : Int, k ∈ ks → k ≠ u.t → (us ++ [u]).filter (fun x => decide (x.t ≤ k)) = us.filter (fun x => decide (x.t ≤ k)) := fun k hk ne => by
    obtain ⟨x, hx, rfl⟩ := (g.mem k).mp hk
    have := le x hx
    rw [List.filter_append, List.filter_cons_of_neg (by rw [decide_eq_true_eq]; omega), List.filter_nil, List.append_nil]
  have inks : ∀ (i : Nat) (k : Int) (v : V), ps[i]? = some (Sum.inl k, v) → k ∈ ks := fun i k v h => by
    have : Sum.inl k ∈ ps.map (·.1) := List.mem_map.mpr ⟨_, List.mem_of_getElem? h, rfl⟩
    rw [g.keys] at this
    obtain ⟨k', h1, h2⟩ := List.mem_map.mp this
    injection h2 with h2
    rw [← h2]
    exact h1
  have anyk : (ps.any fun kv => decide (kv.1 = (Sum.inl u.t : Key))) = true ↔ u.t ∈ ks := by
    rw [List.any_eq_true]
    constructor
    · rintro ⟨kv, h1, h2⟩
      have h2 := of_decide_eq_true h2
      have : (Sum.inl u.t : Key) ∈ ps.map (·.1) := List.mem_map.mpr ⟨kv, h1, h2⟩
      rw [g.keys] at this
      obtain ⟨k', h3, h4⟩ := List.mem_map.mp this
      injection h4 with h4
      rw [← h4]
      exact h3
    · intro hk
      have : (Sum.inl u.t : Key) ∈ ps.map (·.1) := by
        rw [g.keys]
        exact List.mem_map.mpr ⟨_, hk, rfl⟩
      obtain ⟨kv, h1, h2⟩ := List.mem_map.mp this
      exact ⟨kv, h1, decide_eq_true h2⟩
  unfold putK
  by_cases hk : u.t ∈ ks
  · rw [if_pos (anyk.mpr hk)]
    refine ⟨ks, ?_, g.inc, fun t => ?_, fun i k v h => ?_⟩
    · rw [List.map_map, ← g.keys]
      refine List.map_congr_left fun kv _ => ?_
      show (if kv.1 = (Sum.inl u.t : Key) then (kv.1, V.ref a) else kv).1 = kv.1
      split <;> rfl
    · rw [g.mem]
      constructor
      · rintro ⟨x, hx, e⟩
        exact ⟨x, List.mem_append.mpr (.inl hx), e⟩
      · rintro ⟨x, hx, e⟩
        rcases List.mem_append.mp hx with z | z
        · exact ⟨x, z, e⟩
        · rw [← e, List.mem_singleton.mp z]
          exact (g.mem _).mp hk
    · rw [List.getElem?_map] at h
      cases e : ps[i]? with
      | none => rw [e] at h; cases h
      | some kv =>
        rw [e] at h
        have h' : (if kv.1 = (Sum.inl u.t : Key) then (kv.1, V.ref a) else kv) = (Sum.inl k, v) := Option.some.inj h
        by_cases c : kv.1 = (Sum.inl u.t : Key)
        · rw [if_pos c, Prod.mk.injEq] at h'
          have ek : (Sum.inl u.t : Key) = Sum.inl k := c.symm.trans h'.1
          injection ek with ek
          refine ⟨a, h'.2.symm, ?_⟩
          rw [← ek, all]
          exact ha
        · rw [if_neg c] at h'
          rw [h'] at e c
          have ne : k ≠ u.t := fun z => c (by rw [z])
          obtain ⟨a', h1, h2⟩ := g.val i k v e
          exact ⟨a', h1, by rw [old k (inks i k v e) ne]; exact h2⟩
  · rw [if_neg fun z => hk (anyk.mp z)]
    refine ⟨ks ++ [u.t], ?_, ?_, fun t => ?_, fun i k v h => ?_⟩
    · rw [List.map_append, g.keys, List.map_append]
      rfl
    · refine List.pairwise_append.mpr ⟨g.inc, List.pairwise_singleton _ _, fun x hx y hy => ?_⟩
      rw [List.mem_singleton.mp hy]
      obtain ⟨z, hz, e⟩ := (g.mem x).mp hx
      have := le z hz
      have ne : x ≠ u.t := fun q => hk (by rw [← q]; exact hx)
      omega
    · rw [List.mem_append, g.mem, List.mem_singleton]
      constructor
      · rintro (⟨x, hx, e⟩ | e)
        · exact ⟨x, List.mem_append.mpr (.inl hx), e⟩
        · exact ⟨u, List.mem_append.mpr (.inr (List.mem_singleton.mpr rfl)), e.symm⟩
      · rintro ⟨x, hx, e⟩
        rcases List.mem_append.mp hx with z | z
        · exact .inl ⟨x, z, e⟩
        · rw [List.mem_singleton.mp z] at e
          exact .inr e.symm
    · rw [List.getElem?_append] at h
      split at h
      · have ne : k ≠ u.t := fun z => hk (by rw [← z]; exact inks i k v h)
        obtain ⟨a', h1, h2⟩ := g.val i k v h
        exact ⟨a', h1, by rw [old k (inks i k v h) ne]; exact h2⟩
      · cases q : i - ps.length with
        | zero =>
          rw [q] at h
          have h' : ((Sum.inl u.t : Key), V.ref a) = (Sum.inl k, v) := Option.some.inj h
          rw [Prod.mk.injEq] at h'
          have ek := h'.1
          injection ek with ek
          refine ⟨a, h'.2.symm, ?_⟩
          rw [← ek, all]
          exact ha
        | succ m => rw [q] at h; cases h
theorem Gath.get {H : Hp} {w : Nat} {us : List Tn} {ps : List (Key × V)} {ks : List Int} (g : Gath H w us ps ks) {i : Nat} {t : Int} (hi : ks[i]? = some t) : ∃ a, valV ps (Sum.inl t : Key) = some (.ref a) ∧ H a = some (.tup ((sumT w (us.filter fun u => decide (u.t ≤ t))).map V.int)) := by
  have e : (ps.map (·.1))[i]? = some (Sum.inl t) := by rw [g.keys, List.getElem?_map, hi]; rfl
  rw [List.getElem?_map] at e
  cases q : ps[i]? with
  | none => rw [q] at e; cases e
  | some kv =>
    rw [q] at e
    have e' : kv.1 = Sum.inl t := Option.some.inj e
    obtain ⟨k, v⟩ := kv
    simp only at e'
    subst e'
    obtain ⟨a, h1, h2⟩ := g.val i t v q
    refine ⟨a, ?_, h2⟩
    rw [← h1]
    refine valV_get ?_ q
    rw [g.keys]
    have nd : ks.Nodup := g.inc.imp fun h z => by omega
    rw [List.Nodup, List.pairwise_map]
    exact nd.imp fun h z => h (by injection z)
theorem Gath.srt {H : Hp} {w : Nat} {rs : List Bw} {us : List Tn} {ps : List (Key × V)} {ks : List Int} (g : Gath H w us ps ks) (p : us.Perm (turns rs)) : Srt rs ks := by
  refine ⟨g.inc, fun t => ?_⟩
  rw [g.mem]
  constructor
  · rintro ⟨u, hu, e⟩
    rcases List.mem_append.mp (p.mem_iff.mp hu) with z | z
    · obtain ⟨x, hx, rfl⟩ := List.mem_map.mp z
      exact ⟨x, hx, .inl e⟩
    · obtain ⟨x, hx, rfl⟩ := List.mem_map.mp z
      exact ⟨x, hx, .inr e⟩
  · rintro ⟨x, hx, e | e⟩
    · exact ⟨begT x, p.mem_iff.mpr (List.mem_append.mpr (.inl (List.mem_map.mpr ⟨x, hx, rfl⟩))), e⟩
    · exact ⟨endT x, p.mem_iff.mpr (List.mem_append.mpr (.inr (List.mem_map.mpr ⟨x, hx, rfl⟩))), e⟩
/-! rows as data -/
def bwD (x : Bw) : PyData := .tuple [.str x.key, .int x.b, .int x.e, .tuple (x.am.map PyData.int)]
theorem dp_bw {K : PySem.W.Frag} {H : Hp} {r : Addr} {x : Bw} (h : BwAt H r x) : Dp K H (.ref r) (bwD x) := by
  obtain ⟨p, h1, h2⟩ := h
  exact .tup (SqT.of h1) (.cons (.str _) (.cons (.int _) (.cons (.int _) (.cons (.tup (SqT.of h2) (dp_ints _)) .nil))))
theorem dp_bws {K : PySem.W.Frag} {H : Hp} : ∀ {as : List Addr} {rs : List Bw}, Paired (BwAt H) as rs → DpAll K H (as.map V.ref) (rs.map bwD)
  | _, _, .nil => .nil
  | _, _, .cons r t => .cons (dp_bw r) (dp_bws t)
theorem lay_bw {x : Bw} (f : PySem.PyData.strOk x.key = true) : PyData.canLay0 (bwD x) = true := by
  simp [bwD, PyData.canLay0, PyData.canLayAll0, f, lay_ints]
theorem dpt_bw (x : Bw) : (bwD x).depth = 2 := by
  simp [bwD, PyData.depth, PyData.depthAll, dpt_ints]
theorem lay_bws : ∀ {rs : List Bw}, (∀ x ∈ rs, PySem.PyData.strOk x.key = true) → PyData.canLayAll0 (rs.map bwD) = true
  | [], _ => rfl
  | x :: rs, h => by
    show (PyData.canLay0 (bwD x) && PyData.canLayAll0 (rs.map bwD)) = true
    rw [lay_bw (h x List.mem_cons_self), lay_bws fun y hy => h y (List.mem_cons_of_mem _ hy)]
    rfl
theorem dpt_bws : ∀ rs : List Bw, PyData.depthAll (rs.map bwD) ≤ 2
  | [] => by simp [PyData.depthAll]
  | x :: rs => by
    have := dpt_bws rs
    simp only [List.map_cons, PyData.depthAll, dpt_bw]
    omega
theorem sh_bws {rs : List Bw} (h : ∀ x ∈ rs, PySem.PyData.strOk x.key = true) : SeqAt.shaped (.list (rs.map bwD)) = true := by
  unfold SeqAt.shaped
  rw [PyData.canLay0, lay_bws h, Bool.true_and, decide_eq_true_eq]
  have := dpt_bws rs
  simp only [PyData.depth]
  omega
/-! promises -/
def spTurns (K : PySem.W.Frag) : Sp := fun vs H Q _ => ∃ (a : Addr) (as : List Addr) (rs : List Bw), vs = [.ref a] ∧ SqL K H a (as.map V.ref) ∧ Paired (BwAt H) as rs ∧ rs.length ≤ 20 ∧
  ∀ p H' us Us, Same H H' → H p = none → H' p = some (.lst (us.map V.ref)) → Paired (TnAt H') us Us → Us.Perm (turns rs) → Us.Pairwise (fun a b => a.t ≤ b.t) → Q (.ref p) H'
def LdAt (w : Nat) (rs : List Bw) (H : Hp) (l : Addr) (q : Int × Int) : Prop := ∃ p, H l = some (.tup [.int q.1, .int q.2, .ref p]) ∧ H p = some (.tup ((netB w rs q.1).map V.int))
theorem LdAt.kt {w : Nat} {rs : List Bw} {H H' : Hp} {l : Addr} {q : Int × Int} (k : KTu H H') (h : LdAt w rs H l q) : LdAt w rs H' l q := by
  obtain ⟨p, h1, h2⟩ := h
  exact ⟨p, k _ _ h1, k _ _ h2⟩
def spLoads (K : PySem.W.Frag) : Sp := fun vs H Q _ => ∃ (a : Addr) (w : Nat) (as : List Addr) (rs : List Bw), vs = [.int (w : Int), .ref a] ∧ SqL K H a (as.map V.ref) ∧ Paired (BwAt H) as rs ∧ BwOk w rs ∧ 1 ≤ w ∧ w ≤ 20 ∧
  ∀ p H' ls ks, Same H H' → H p = none → H' p = some (.lst (ls.map V.ref)) → Srt rs ks → Paired (LdAt w rs H') ls (ks.zip (ks.drop 1)) → Q (.ref p) H'
def spOver (K : PySem.W.Frag) (Ts : List Addr) : Sp := fun vs H Q _ => ∃ (m a : Addr) (room : List Int) (as : List Addr) (rs : List Bw), vs = [.ref m, .ref a] ∧ SqT K H m (room.map V.int) ∧ SqL K H a (as.map V.ref) ∧ Paired (BwAt H) as rs ∧ BwOk room.length rs ∧ 1 ≤ room.length ∧ room.length ≤ 20 ∧ (∀ n ∈ room, 0 ≤ n) ∧ Tabs Ts H ∧
  ∀ H' ks, Fw Ts H H' → Srt rs ks → Q (oI (ks.find? (ovr room.length rs room))) H'
end My

namespace My
open PySem PySem.W PySem.Spec PyProof.Rows L2 GX GxR
/-! the parting, further -/
/-- the own ones and the lent of a list, from a load on -/
def ownOf (dn : List Int) : List Gang → List Int → List Gang
  | [], _ => []
  | G :: Gs, ld => if fitB (addL ld G.whole) dn = true then G :: ownOf dn Gs (addL ld G.whole) else ownOf dn Gs ld
def lentOf (dn : List Int) : List Gang → List Int → List Gang
  | [], _ => []
  | G :: Gs, ld => if fitB (addL ld G.whole) dn = true then lentOf dn Gs (addL ld G.whole) else G :: lentOf dn Gs ld
def loadOf (dn : List Int) : List Gang → List Int → List Int
  | [], ld => ld
  | G :: Gs, ld => if fitB (addL ld G.whole) dn = true then loadOf dn Gs (addL ld G.whole) else loadOf dn Gs ld
theorem partA_eq (dn : List Int) : ∀ (Gs o l : List Gang) (ld : List Int), partA dn Gs o l ld = (o ++ ownOf dn Gs ld, l ++ lentOf dn Gs ld, loadOf dn Gs ld)
  | [], o, l, ld => by
    show (o, l, ld) = (o ++ [], l ++ [], ld)
    rw [List.append_nil, List.append_nil]
  | G :: Gs, o, l, ld => by
    unfold partA ownOf lentOf loadOf
    by_cases h : fitB (addL ld G.whole) dn = true
    · rw [if_pos h, if_pos h, if_pos h, if_pos h, partA_eq dn Gs, List.append_assoc]
      rfl
    · rw [if_neg h, if_neg h, if_neg h, if_neg h, partA_eq dn Gs, List.append_assoc]
      rfl
theorem partRs_eq (dn : List Int) (Rs : List (Gang × Int)) : partRs dn Rs = (ownOf dn ((ord Rs).map (·.1)) (zeros dn.length), lentOf dn ((ord Rs).map (·.1)) (zeros dn.length), loadOf dn ((ord Rs).map (·.1)) (zeros dn.length)) := by
  unfold partRs
  rw [partA_eq, List.nil_append, List.nil_append]
theorem own_sub (dn : List Int) : ∀ (Gs : List Gang) (ld : List Int), (ownOf dn Gs ld).Sublist Gs
  | [], _ => List.Sublist.refl _
  | G :: Gs, ld => by
    unfold ownOf
    split
    · exact (own_sub dn Gs _).cons₂ G
    · exact (own_sub dn Gs _).cons G
theorem lent_sub (dn : List Int) : ∀ (Gs : List Gang) (ld : List Int), (lentOf dn Gs ld).Sublist Gs
  | [], _ => List.Sublist.refl _
  | G :: Gs, ld => by
    unfold lentOf
    split
    · exact (lent_sub dn Gs _).cons G
    · exact (lent_sub dn Gs _).cons₂ G
def nm (Gs : List Gang) : List Str := Gs.map (·.name)
theorem nm_sub {Gs Hs : List Gang} (h : Gs.Sublist Hs) : (nm Gs).Sublist (nm Hs) := h.map _
/-- the names that are among the own ones, those that aren't -/
theorem filt_own {dn : List Int} : ∀ {Gs : List Gang} {ld : List Int}, (nm Gs).Nodup → (nm Gs).filter (fun z => decide (z ∈ nm (ownOf dn Gs ld))) = nm (ownOf dn Gs ld) ∧ (nm Gs).filter (fun z => !decide (z ∈ nm (ownOf dn Gs ld))) = nm (lentOf dn Gs ld)
  | [], _, _ => ⟨rfl, rfl⟩
  | G :: Gs, ld, nd => by
    have nd' : G.name ∉ nm Gs ∧ (nm Gs).Nodup := List.nodup_cons.mp nd
    unfold ownOf lentOf
    by_cases h : fitB (addL ld G.whole) dn = true
    · rw [if_pos h, if_pos h]
      obtain ⟨h1, h2⟩ := filt_own (dn := dn) (ld := addL ld G.whole) nd'.2
      have same : ∀ z ∈ nm Gs, (z ∈ nm (G :: ownOf dn Gs (addL ld G.whole))) ↔ z ∈ nm (ownOf dn Gs (addL ld G.whole)) := fun z hz => by
        refine ⟨fun q => ?_, fun q => List.mem_cons_of_mem _ q⟩
        rcases List.mem_cons.mp q with e | q
        · exact absurd (show G.name ∈ nm Gs from (show z = G.name from e) ▸ hz) nd'.1
        · exact q
      have e0 : decide (G.name ∈ nm (G :: ownOf dn Gs (addL ld G.whole))) = true := decide_eq_true List.mem_cons_self
      refine ⟨?_, ?_⟩
      · show (G.name :: nm Gs).filter _ = _
        rw [List.filter_cons_of_pos (p := fun z => decide (z ∈ nm (G :: ownOf dn Gs (addL ld G.whole)))) e0, List.filter_congr (q := fun z => decide (z ∈ nm (ownOf dn Gs (addL ld G.whole)))) (fun z hz => by simp only [same z hz]), h1]
        rfl
      · show (G.name :: nm Gs).filter _ = _
        rw [List.filter_cons_of_neg (p := fun z => !decide (z ∈ nm (G :: ownOf dn Gs (addL ld G.whole)))) (by rw [e0]; decide), List.filter_congr (q := fun z => !decide (z ∈ nm (ownOf dn Gs (addL ld G.whole)))) (fun z hz => by simp only [same z hz]), h2]
    · rw [if_neg h, if_neg h]
      obtain ⟨h1, h2⟩ := filt_own (dn := dn) (ld := ld) nd'.2
      have no : G.name ∉ nm (ownOf dn Gs ld) := fun q => nd'.1 ((nm_sub (own_sub dn Gs ld)).subset q)
      refine ⟨?_, ?_⟩
      · show (G.name :: nm Gs).filter _ = _
        rw [List.filter_cons_of_neg (p := fun z => decide (z ∈ nm (ownOf dn Gs ld))) (by rw [decide_eq_false no]; decide), h1]
      · show (G.name :: nm Gs).filter _ = _
        rw [List.filter_cons_of_pos (p := fun z => !decide (z ∈ nm (ownOf dn Gs ld))) (by rw [decide_eq_false no]; rfl), h2]
        rfl
/-- what some bear, ware by ware -/
def borneL (n : Nat) (Gs : List Gang) : List Int := (List.range n).map fun k => (Gs.map fun G => G.many * G.want.getD k 0).sum
theorem borne_nil (n : Nat) : borneL n [] = zeros n := by
  unfold borneL zeros
  apply List.ext_getElem?
  intro i
  rw [List.getElem?_map]
  by_cases h : i < n
  · rw [List.getElem?_range h, List.getElem?_replicate, if_pos h]
    rfl
  · rw [List.getElem?_eq_none (by rw [List.length_range]; omega), List.getElem?_replicate, if_neg h]
    rfl
theorem borne_snoc {n : Nat} {Gs : List Gang} {G : Gang} (h : G.want.length = n) : borneL n (Gs ++ [G]) = addL (borneL n Gs) G.whole := by
  unfold addL
  apply List.ext_getElem?
  intro i
  rw [List.getElem?_zipWith]
  unfold borneL Gang.whole
  rw [List.getElem?_map, List.getElem?_map, List.getElem?_map]
  by_cases hi : i < n
  · rw [List.getElem?_range hi, List.getElem?_eq_getElem (by omega)]
    have e : G.want.getD i 0 = G.want[i]'(by omega) := by
      rw [List.getD_eq_getElem?_getD, List.getElem?_eq_getElem (by omega)]
      rfl
    show some ((Gs ++ [G]).map fun G => G.many * G.want.getD i 0).sum = some ((Gs.map fun G => G.many * G.want.getD i 0).sum + G.want[i]'(by omega) * G.many)
    rw [List.map_append, List.sum_append]
    show some (_ + ([G.many * G.want.getD i 0] : List Int).sum) = _
    rw [e, List.sum_singleton, Int.mul_comm]
  · rw [List.getElem?_eq_none (by rw [List.length_range]; omega)]
    rfl
theorem borne_len (n : Nat) (Gs : List Gang) : (borneL n Gs).length = n := by
  unfold borneL
  rw [List.length_map, List.length_range]
/-- own ones alone are own -/
theorem own_own (dn : List Int) : ∀ (Gs : List Gang) (ld : List Int), ownOf dn (ownOf dn Gs ld) ld = ownOf dn Gs ld ∧ lentOf dn (ownOf dn Gs ld) ld = []
  | [], _ => ⟨rfl, rfl⟩
  | G :: Gs, ld => by
    by_cases h : fitB (addL ld G.whole) dn = true
    · have e : ownOf dn (G :: Gs) ld = G :: ownOf dn Gs (addL ld G.whole) := by
        show (if _ then _ else _) = _
        rw [if_pos h]
      obtain ⟨h1, h2⟩ := own_own dn Gs (addL ld G.whole)
      rw [e]
      refine ⟨?_, ?_⟩
      · show (if _ then _ else _) = _
        rw [if_pos h, h1]
      · show (if _ then _ else _) = _
        rw [if_pos h, h2]
    · have e : ownOf dn (G :: Gs) ld = ownOf dn Gs ld := by
        show (if _ then _ else _) = _
        rw [if_neg h]
      rw [e]
      exact own_own dn Gs ld
theorem own_app (dn : List Int) : ∀ (Gs Hs : List Gang) (ld : List Int), ownOf dn (Gs ++ Hs) ld = ownOf dn Gs ld ++ ownOf dn Hs (loadOf dn Gs ld) ∧ lentOf dn (Gs ++ Hs) ld = lentOf dn Gs ld ++ lentOf dn Hs (loadOf dn Gs ld) ∧ loadOf dn (Gs ++ Hs) ld = loadOf dn Hs (loadOf dn Gs ld)
  | [], Hs, ld => ⟨rfl, rfl, rfl⟩
  | G :: Gs, Hs, ld => by
    rw [List.cons_append]
    by_cases h : fitB (addL ld G.whole) dn = true
    · obtain ⟨h1, h2, h3⟩ := own_app dn Gs Hs (addL ld G.whole)
      simp only [ownOf, lentOf, loadOf, if_pos h, h1, h2, h3, List.cons_append, true_and]
    · obtain ⟨h1, h2, h3⟩ := own_app dn Gs Hs ld
      simp only [ownOf, lentOf, loadOf, if_neg h, h1, h2, h3, List.cons_append, true_and]
theorem load_fits (dn : List Int) : ∀ (Gs : List Gang) (ld : List Int), fitB ld dn = true → fitB (loadOf dn Gs ld) dn = true
  | [], _, h => h
  | G :: Gs, ld, h => by
    unfold loadOf
    split
    · exact load_fits dn Gs _ (by assumption)
    · exact load_fits dn Gs _ h
theorem fits_zero {dn : List Int} (h : Amt dn) : fitB (zeros dn.length) dn = true := by
  induction dn with
  | nil => rfl
  | cons d dn ih =>
    have h1 := (h d List.mem_cons_self).1
    have h2 := ih fun x hx => h x (List.mem_cons_of_mem _ hx)
    unfold fitB zeros at *
    rw [List.length_cons, List.replicate_succ, List.zipWith_cons_cons, List.all_cons, h2, Bool.and_true]
    exact decide_eq_true h1
/-- the order of some of the rows -/
theorem ord_filter {Rs : List (Gang × Int)} (h : (Rs.map (·.2)).Nodup) (p : Gang × Int → Bool) : ord (Rs.filter p) = (ord Rs).filter p :=
  (ord_of ((List.Sublist.map (·.2) (List.filter_sublist (p := p) (l := Rs))).nodup h) ((ord_perm Rs).filter p) ((ord_sorted Rs).sublist List.filter_sublist)).symm
theorem ord_take {Rs : List (Gang × Int)} (n : Nat) : ord ((ord Rs).take n) = (ord Rs).take n := List.mergeSort_of_pairwise ((ord_sorted Rs).sublist (List.take_sublist n _))
end My

namespace My
open PySem PySem.W PySem.Spec PyProof.Rows L2
section
variable {X : Cx}
/-- picked values are values that were there -/
theorem pick_vals {xs : List V} {its : List Value} (rv : Vals xs its) : ∀ js : List Nat, ∃ ys : List V, Vals ys (js.filterMap (its.toArray[·]?)) ∧ ∀ y ∈ ys, y ∈ xs
  | [] => ⟨[], .nil, fun _ h => nomatch h⟩
  | j :: js => by
    obtain ⟨ys, h1, h2⟩ := pick_vals rv js
    cases e : xs[j]? with
    | none =>
      have e2 : its.toArray[j]? = none := by
        have := rv.none_of e
        simpa using this
      exact ⟨ys, by rw [List.filterMap_cons_none e2]; exact h1, h2⟩
    | some x =>
      obtain ⟨u, hu, ru⟩ := rv.get e
      have e2 : its.toArray[j]? = some u := by simpa using hu
      refine ⟨x :: ys, by rw [List.filterMap_cons_some e2]; exact .cons ru h1, fun y hy => ?_⟩
      rcases List.mem_cons.mp hy with z | z
      · rw [z]
        exact List.mem_of_getElem? e
      · exact h2 y z
/-- xs[::n] -/
def stepR (K : PySem.W.Frag) (a : Addr) (xs : List V) (Q : VK) (i : Int) (H : Hp) : Prop := i ≠ 0 ∧ SqL K H a xs ∧ ∀ p ys, H p = none → ys.length ≤ xs.length → (∀ y ∈ ys, y ∈ xs) → Q (.ref p) (upd H p (.lst ys))
def stepO (K : PySem.W.Frag) (a : Addr) (xs : List V) (Q : VK) : Option Int → Hp → Prop
  | some i, H => stepR K a xs Q i H
  | none, _ => False
def tStepL (K : PySem.W.Frag) (te ts : TE) : TE := fun σ H Q => te σ H fun x H1 => ∃ a xs, x = .ref a ∧ ts σ H1 fun y H2 => ∃ i : Int, y = .int i ∧ stepR K a xs Q i H2
theorem pe_stepL {e est : Expr} {te ts : TE} {p3 pos : Pos} (he : PE X e te) (hs : PE X est ts) : PE X (.Subscript e (.Slice none none (some est) p3) pos) (tStepL X.K te ts) := by
  refine ⟨fun pins s σ H Q I h => ?_⟩
  refine Subscript_ (thn (he.run pins s σ H _ I h) fun v s1 ⟨x, H1, I1, r1, a, xs, ex, q1⟩ => ?_)
  subst ex
  cases r1
  refine wpAny_Slice (thn (po_none.run pins s1 σ H1 (fun o Hn => o = none ∧ Hn = H1) I1 ⟨rfl, rfl⟩) fun vl s2 ⟨lo, H2, I2, pl, elo, e2⟩ => ?_)
  subst elo e2
  refine thn (po_none.run pins s2 σ H2 (fun o Hn => o = none ∧ Hn = H2) I2 ⟨rfl, rfl⟩) fun vu s3 ⟨hi, H3, I3, pu, ehi, e3⟩ => ?_
  subst ehi e3
  refine thn ((po_some hs).run pins s3 σ H3 (stepO X.K a xs Q) I3 q1) fun vst s4 ⟨st, H4, I4, pst, q4⟩ => ?_
  cases st with
  | none => exact q4.elim
  | some i =>
    obtain ⟨i0, hx, q⟩ := q4
    have kp : ∀ b ob, s4.heap.get? b = some ob → (s4.heap.push { cls := .type "slice", data := .fields #[vl, vu, vst] }).get? b = some ob := fun b ob z => Heap.get?_push_of_some _ z
    have I5 := I4.kept (t' := s4.toks) kp
    obtain ⟨its, rv, pl5, hz⟩ := I5.list hx
    have hlen := rv.length
    have hsz : its.toArray.size ≤ sizeLine := by
      rw [List.size_toArray]
      omega
    refine tail_any (ops := [.ref a, .ref s4.heap.objs.size]) pl5.isList.typeIs slot_list_getitem.lookup ?_ (by with_unfolding_all rfl)
    refine wpAny_getItem_list_slice pl5.isList (Heap.IsSliceOf.new _ vl vu vst) pl pu pst (fun z => i0 (Option.some.inj z)) ?_ hsz
    have ls := slicePick_size_le its.toArray none none (some i)
    obtain ⟨ys, y1, y2⟩ : ∃ ys : List V, Vals ys (slicePick its.toArray none none (some i)).toList ∧ ∀ y ∈ ys, y ∈ xs := by
      unfold slicePick
      exact pick_vals rv _
    have ly : ys.length ≤ xs.length := by
      have l1 := y1.length
      have l2 : (slicePick its.toArray none none (some i)).toList.length = (slicePick its.toArray none none (some i)).size := Array.length_toList
      have sz : its.toArray.size = its.length := List.size_toArray
      omega
    refine ⟨.ref _, _, I5.laid (t' := s4.toks) (o := .lst ys) (fun b ob z => Heap.get?_push_of_some _ z) (Nat.le_refl _) ⟨by omega, _, 0, y1, ?_⟩, rfl, q _ ys (I5.hok.fresh (Nat.le_refl _)) ly y2⟩
    exact Heap.get?_push_size _ rfl
/-- max(xs, default=d), xs a list of whole numbers -/
def rMaxD (K : PySem.W.Frag) : List V → List V → Hp → VK → Prop := fun vs zs H Q => ∃ (a : Addr) (ns : List Int) (d : V), vs = [.ref a] ∧ zs = [d] ∧ SqL K H a (ns.map V.int) ∧ (ns = [] → Q d H) ∧ ∀ m, m ∈ ns → (∀ y ∈ ns, y ≤ m) → Q (.int m) H
theorem read_ints {h : Heap} : ∀ (ns : List Int) (us : List Value), Vals (ns.map V.int) us → ReadsAll h us (ns.map PyData.int) []
  | [], _, .nil => .nil
  | n :: ns, _, .cons r t => by
    obtain ⟨k, rfl⟩ := r
    exact .cons (as := []) (bs := []) (.int n k) (read_ints ns _ t)
theorem cr_maxD (hc : X.calm = true) (hu : X.A.units + 1 < cLine) : CallRK X (.builtin "max") ["default"] (rMaxD X.K) := by
  intro pins s σ H xs zs us ws Q I r1 r2 h
  obtain ⟨a, ns, d, rfl, rfl, hq, q0, q1⟩ := h
  obtain ⟨u, rfl, ru⟩ := vals1 r1
  obtain ⟨u2, rfl, ru2⟩ := vals1 r2
  obtain rfl : u = Value.ref a := ru
  obtain ⟨its, rv, pl, _⟩ := I.list hq
  refine PySem.W.max_list_default (xs := ns.map PyData.int) (as := []) (I.ok.hd hc) pl.isList (read_ints ns its rv) ⟨fun x hx y hy => ?_, fun x hx => ?_⟩ (by rw [PySem.W.ke_depthAll]; exact hu) (fun e h' tk kp => ?_) (fun y ys i v h' tk bs e hv hr kp => ?_)
  · obtain ⟨i, _, rfl⟩ := List.mem_map.mp hx
    obtain ⟨j, _, rfl⟩ := List.mem_map.mp hy
    rfl
  · obtain ⟨i, _, rfl⟩ := List.mem_map.mp hx
    exact fun z => nomatch z
  · have e2 : ns = [] := by
      cases ns with
      | nil => rfl
      | cons _ _ => cases e
    exact ⟨d, H, I.kept kp, ru2, q0 e2⟩
  · cases ns with
    | nil => cases e
    | cons n r =>
      rw [List.map_cons] at e
      injection e with z1 z2
      subst z1 z2
      rw [PySem.W.maxD_ints] at hr
      obtain ⟨t, rfl⟩ : ∃ t, v = Value.int (r.foldl max n) t := by
        cases hr
        exact ⟨_, rfl⟩
      obtain ⟨g1, g2, g3⟩ := GX.fold_max n r
      refine ⟨.int (r.foldl max n), H, I.kept kp, ⟨t, rfl⟩, q1 _ ?_ fun y hy => ?_⟩
      · rcases g1 with z | z
        · rw [z]
          exact List.mem_cons_self
        · exact List.mem_cons_of_mem _ z
      · rcases List.mem_cons.mp hy with z | z
        · rw [z]
          exact g2
        · exact g3 y z
end
end My

namespace My
open PySem PySem.W PySem.Spec PyProof.Rows L2 GX GxR
/-! one more gang, of the greatest number -/
def aboveOf (r : Int) (Rs : List (Gang × Int)) : List (Gang × Int) := Rs.filter fun R => decide (r ≤ R.1.rank)
def belowOf (r : Int) (Rs : List (Gang × Int)) : List (Gang × Int) := Rs.filter fun R => !decide (r ≤ R.1.rank)
def owedB (dn : List Int) (Rs : List (Gang × Int)) (G : Gang) : Bool := fitB (addL (partRs dn Rs).2.2 G.whole) dn
def ownB (dn : List Int) (Rs : List (Gang × Int)) (G : Gang) : Bool := owedB dn (aboveOf G.rank Rs) G
theorem ord_one {Rs : List (Gang × Int)} {G : Gang} {n : Int} (nd : (Rs.map (·.2)).Nodup) (hn : ∀ R ∈ Rs, R.2 < n) : ord (Rs ++ [(G, n)]) = ord (aboveOf G.rank Rs) ++ (G, n) :: ord (belowOf G.rank Rs) := by
  have nd2 : ((Rs ++ [(G, n)]).map (·.2)).Nodup := by
    rw [List.map_append, List.nodup_append]
    refine ⟨nd, List.pairwise_singleton _ _, fun a ha b hb z => ?_⟩
    obtain ⟨R, hR, rfl⟩ := List.mem_map.mp ha
    have := hn R hR
    have hb' : b = n := List.mem_singleton.mp hb
    omega
  refine (ord_of nd2 ?_ ?_).symm
  · have h1 : (aboveOf G.rank Rs ++ belowOf G.rank Rs).Perm Rs := List.filter_append_perm _ Rs
    have h2 := (ord_perm (aboveOf G.rank Rs)).append (ord_perm (belowOf G.rank Rs))
    exact (List.perm_middle.trans ((List.Perm.cons _ (h2.trans h1)))).trans (List.perm_append_comm (l₁ := [(G, n)]))
  · rw [List.pairwise_append]
    refine ⟨ord_sorted _, List.pairwise_cons.mpr ⟨fun b hb => ?_, ord_sorted _⟩, fun a ha b hb => ?_⟩
    · have hb' := (List.mem_filter.mp ((ord_perm _).mem_iff.mp hb)).2
      unfold rowLe
      simp only [Bool.not_eq_true', decide_eq_false_iff_not] at hb'
      rw [decide_eq_true_eq]
      show -G.rank < -b.1.rank ∨ _
      omega
    · obtain ⟨ha1, ha2⟩ := List.mem_filter.mp ((ord_perm _).mem_iff.mp ha)
      have ha3 : G.rank ≤ a.1.rank := of_decide_eq_true ha2
      have ha4 := hn a ha1
      unfold rowLe
      rw [decide_eq_true_eq]
      rcases List.mem_cons.mp hb with z | z
      · rw [z]
        show -a.1.rank < -G.rank ∨ (-a.1.rank = -G.rank ∧ a.2 ≤ n)
        omega
      · have hb' := (List.mem_filter.mp ((ord_perm _).mem_iff.mp z)).2
        simp only [Bool.not_eq_true', decide_eq_false_iff_not] at hb'
        omega
theorem own_mem {dn : List Int} {A B : List Gang} {G : Gang} {ld : List Int} (h : G.name ∉ nm A) (h' : G.name ∉ nm B) : G.name ∈ nm (ownOf dn (A ++ G :: B) ld) ↔ fitB (addL (loadOf dn A ld) G.whole) dn = true := by
  rw [(own_app dn A (G :: B) ld).1]
  unfold nm
  rw [List.map_append, List.mem_append]
  have h1 : G.name ∉ nm (ownOf dn A ld) := fun z => h ((nm_sub (own_sub dn A ld)).subset z)
  have h2 : ∀ ld, G.name ∉ nm (ownOf dn B ld) := fun ld z => h' ((nm_sub (own_sub dn B ld)).subset z)
  show G.name ∈ nm _ ∨ G.name ∈ nm _ ↔ _
  by_cases f : fitB (addL (loadOf dn A ld) G.whole) dn = true
  · refine ⟨fun _ => f, fun _ => .inr ?_⟩
    have e : ownOf dn (G :: B) (loadOf dn A ld) = G :: ownOf dn B (addL (loadOf dn A ld) G.whole) := by
      show (if _ then _ else _) = _
      rw [if_pos f]
    rw [e]
    exact List.mem_cons_self
  · refine ⟨fun z => ?_, fun z => absurd z f⟩
    have e : ownOf dn (G :: B) (loadOf dn A ld) = ownOf dn B (loadOf dn A ld) := by
      show (if _ then _ else _) = _
      rw [if_neg f]
    rw [e] at z
    rcases z with z | z
    · exact absurd z h1
    · exact absurd z (h2 _)
theorem ownB_eq {dn : List Int} {Rs : List (Gang × Int)} {G : Gang} {n : Int} (nd : (Rs.map (·.2)).Nodup) (hn : ∀ R ∈ Rs, R.2 < n) (no : ∀ R ∈ Rs, R.1.name ≠ G.name) : decide (G.name ∈ (partRs dn (Rs ++ [(G, n)])).1.map (·.name)) = ownB dn Rs G := by
  have off : ∀ p : Gang × Int → Bool, G.name ∉ nm ((ord (Rs.filter p)).map (·.1)) := fun p z => by
    obtain ⟨F, hF, e⟩ := List.mem_map.mp z
    obtain ⟨R, hR, rfl⟩ := List.mem_map.mp hF
    exact no R (List.mem_filter.mp ((ord_perm _).mem_iff.mp hR)).1 e
  have e : (partRs dn (Rs ++ [(G, n)])).1 = ownOf dn ((ord (aboveOf G.rank Rs)).map (·.1) ++ G :: (ord (belowOf G.rank Rs)).map (·.1)) (zeros dn.length) := by
    rw [partRs_eq, ord_one nd hn, List.map_append]
    rfl
  have h := own_mem (dn := dn) (ld := zeros dn.length) (off fun R => decide (G.rank ≤ R.1.rank)) (off fun R => !decide (G.rank ≤ R.1.rank))
  have hb : ownB dn Rs G = fitB (addL (loadOf dn ((ord (aboveOf G.rank Rs)).map (·.1)) (zeros dn.length)) G.whole) dn := by
    unfold ownB owedB
    rw [partRs_eq]
  rw [e, hb]
  cases f : fitB (addL (loadOf dn ((ord (aboveOf G.rank Rs)).map (·.1)) (zeros dn.length)) G.whole) dn with
  | true => exact decide_eq_true (h.mpr f)
  | false =>
    refine decide_eq_false fun z => ?_
    have q := h.mp z
    have f' : fitB (addL (loadOf dn ((ord (Rs.filter fun R => decide (G.rank ≤ R.1.rank))).map (·.1)) (zeros dn.length)) G.whole) dn = false := f
    rw [f'] at q
    cases q
/-! texts among texts -/
theorem inV_strs (z : Str) : ∀ zs : List Str, inV (.str z) (zs.map V.str) = decide (z ∈ zs)
  | [] => by simp [inV]
  | y :: zs => by
    have ih := inV_strs z zs
    unfold inV at ih ⊢
    rw [List.map_cons, List.any_cons, ih]
    by_cases h : y = z
    · subst h
      simp [eqV]
    · have h' : ¬ z = y := fun q => h q.symm
      simp [eqV, h, h']
theorem flat_strs (zs : List Str) : (zs.map V.str).all flatV = true := by
  rw [List.all_eq_true]
  intro x hx
  obtain ⟨z, _, rfl⟩ := List.mem_map.mp hx
  rfl
/-! gangs as data -/
theorem sh_gang {G : Gang} {n : Int} (f : Fit (G, n)) : SeqAt.shaped (gangD G) = true := by
  unfold SeqAt.shaped
  have h1 : PyData.canLay0 (gangD G) = true := by
    have a := f.name
    have b := f.guild
    have c := f.how
    simp only at a b c
    simp [gangD, PyData.canLay0, PyData.canLayAll0, a, b, c, lay_ints]
  have h2 : (gangD G).depth = 2 := by simp [gangD, PyData.depth, PyData.depthAll, dpt_ints]
  rw [h1, h2]
  rfl
theorem eqv_gname {G G' : Gang} (h : PyData.eqv (gangD G) (gangD G') = true) : G.name = G'.name := by
  simp only [gangD, PyData.eqv, PyData.eqvAll, Bool.and_eq_true] at h
  exact eq_of_beq h.1
theorem eqv_gang {G : Gang} {n : Int} (f : Fit (G, n)) : PyData.eqv (gangD G) (gangD G) = true := SeqAt.eqv_refl_plain _ (shaped_plain (sh_gang f))
/-! promises -/
structure GIn (H : Hp) (dn : List Int) (g : Addr) (G : Gang) : Prop where
  at_ : GangAt H g G
  fit : Fit (G, 0)
  wlen : G.want.length = dn.length
def spOwed (K : PySem.W.Frag) (Ts : List Addr) : Sp := fun vs H Q _ => ∃ (du a g : Addr) (dn : List Int) (as : List Addr) (Rs : List (Gang × Int)) (G : Gang), vs = [.ref du, .ref a, .ref g] ∧ PIn K H du a dn as Rs ∧ GIn H dn g G ∧ Tabs Ts H ∧ ∀ H', Fw Ts H H' → Q (.bl (owedB dn Rs G)) H'
def spOwnW (K : PySem.W.Frag) (Ts : List Addr) : Sp := fun vs H Q _ => ∃ (du a g : Addr) (dn : List Int) (as : List Addr) (Rs : List (Gang × Int)) (G : Gang), vs = [.ref du, .ref a, .ref g] ∧ PIn K H du a dn as Rs ∧ GIn H dn g G ∧ Rs.length ≤ 90 ∧ (∀ R ∈ Rs, R.1.name ≠ G.name) ∧ Tabs Ts H ∧ ∀ H', Fw Ts H H' → Q (.bl (ownB dn Rs G)) H'
def spLFit (K : PySem.W.Frag) : Sp := fun vs H Q _ => ∃ (du b g : Addr) (dn ld : List Int) (G : Gang), vs = [.ref du, .ref b, .ref g] ∧ SqT K H du (dn.map V.int) ∧ dn.length ≤ 8 ∧ H b = some (.lst (ld.map V.int)) ∧ ld.length = dn.length ∧ GIn H dn g G ∧ ∀ H', Same H H' → Q (.bl (fitB (addL ld G.whole) dn)) H'
theorem GIn.kt {H H' : Hp} {dn : List Int} {g : Addr} {G : Gang} (k : KTu H H') (h : GIn H dn g G) : GIn H' dn g G := ⟨h.at_.kt k, h.fit, h.wlen⟩
theorem part_llen {dn : List Int} : ∀ (Gs : List Gang) (ld : List Int), (∀ G ∈ Gs, G.want.length = dn.length) → ld.length = dn.length → (loadOf dn Gs ld).length = dn.length
  | [], _, _, h => h
  | G :: Gs, ld, hw, h => by
    unfold loadOf
    split
    · exact part_llen Gs _ (fun F hF => hw F (List.mem_cons_of_mem _ hF)) (by rw [addL_len (by rw [whole_len, hw G List.mem_cons_self, h]), h])
    · exact part_llen Gs _ (fun F hF => hw F (List.mem_cons_of_mem _ hF)) h
theorem load_len {dn : List Int} {Rs : List (Gang × Int)} (hw : ∀ R ∈ Rs, R.1.want.length = dn.length) : (partRs dn Rs).2.2.length = dn.length := by
  rw [partRs_eq]
  refine part_llen _ _ (fun G hG => ?_) (by unfold zeros; rw [List.length_replicate])
  obtain ⟨R, hR, rfl⟩ := List.mem_map.mp hG
  exact hw R ((ord_perm Rs).mem_iff.mp hR)
/-- the rows and one more -/
theorem good_one {Rs : List (Gang × Int)} {G : Gang} {n : Int} (g : Good2 Rs) (f : Fit (G, n)) (hl : Rs.length ≤ 90) (hn : ∀ R ∈ Rs, R.2 < n) (no : ∀ R ∈ Rs, R.1.name ≠ G.name) : Good2 (Rs ++ [(G, n)]) := by
  refine ⟨fun R hR => ?_, ?_, ?_, by rw [List.length_append]; show Rs.length + 1 ≤ 100; omega⟩
  · rcases List.mem_append.mp hR with z | z
    · exact g.fit R z
    · rw [List.mem_singleton.mp z]
      exact f
  · rw [List.map_append, List.nodup_append]
    refine ⟨g.names, List.pairwise_singleton _ _, fun a ha b hb z => ?_⟩
    obtain ⟨R, hR, rfl⟩ := List.mem_map.mp ha
    have hb' : b = G.name := List.mem_singleton.mp hb
    exact no R hR (z.trans hb')
  · rw [List.map_append, List.nodup_append]
    refine ⟨g.nums, List.pairwise_singleton _ _, fun a ha b hb z => ?_⟩
    obtain ⟨R, hR, rfl⟩ := List.mem_map.mp ha
    have := hn R hR
    have hb' : b = n := List.mem_singleton.mp hb
    omega
end My

namespace My
open PySem PySem.Spec PyProof.Rows L2 GX GxR
theorem names3 {K : PySem.W.Frag} {neg : Bool} {i : Nat} {l o : Addr} {zs ys : List Str} {x0 x1 x2 x4 x5 x6 x7 x8 x9 x10 x11 x12 x13 x14 : Option V} {H : Hp} {Q : VK} (hi : ([x0, x1, x2, some (.ref o), x4, x5, x6, x7, x8, x9, x10, x11, x12, x13, x14] : L2.St)[i]? = some (some (.ref l)))
    (el : H l = some (.lst (zs.map V.str))) (eo : H o = some (.lst (ys.map V.str))) (hz : zs.length ≤ 100)
    (q : ∀ D H', Same H H' → H D = none → H' D = some (.lst ((zs.filter fun z => if neg then !decide (z ∈ ys) else decide (z ∈ ys)).map V.str)) → Q (.ref D) H') :
    tLc (iList K (tVar i)) (gName 12) (tTest (tOp (rIn K neg) (tVar 12) (tVar 3))) (tVar 12) [12] [x0, x1, x2, some (.ref o), x4, x5, x6, x7, x8, x9, x10, x11, x12, x13, x14] H Q := by
  have ef : (fun z => if neg then !decide (z ∈ ys) else decide (z ∈ ys)) = fun z => if neg then !inV (.str z) (ys.map V.str) else inV (.str z) (ys.map V.str) := by
    funext z
    rw [inV_strs]
  rw [ef] at q
  refine ⟨_, hi, l, rfl, ⟨_, SqL.of el⟩, fun D nD => ?_⟩
  refine lc_list (K := K) (a := l) (xs := zs.map V.str) (fun j H' => Same H H' ∧ H' D = some (.lst (((zs.take j).filter fun z => if neg then !inV (.str z) (ys.map V.str) else inV (.str z) (ys.map V.str)).map V.str)))
    ⟨same_upd nD, upd_same⟩ (fun j H' _ p => SqL.of (p.1 _ _ el)) (fun j x H2 hx p => ?_) (fun H2 p => ?_)
  · obtain ⟨p1, p2⟩ := p
    rw [List.getElem?_map] at hx
    obtain ⟨z, hz', rfl⟩ := Option.map_eq_some_iff.mp hx
    have hj : j < zs.length := (List.getElem?_eq_some_iff.mp hz').1
    refine ⟨rfl, ?_⟩
    refine ⟨_, rfl, _, rfl, o, _, rfl, .inl (SqL.of (p1 _ _ eo)), rfl, flat_strs _, _, rfl, ite2 (fun e => ?_) (fun e => ?_)⟩
    · refine ⟨_, rfl, _, p2, ?_, same_put p1 nD, ?_⟩
      · rw [List.length_map]
        have h1 := List.length_filter_le (fun z => if neg then !inV (.str z) (ys.map V.str) else inV (.str z) (ys.map V.str)) (zs.take j)
        rw [List.length_take] at h1
        exact small63 (by omega)
      · rw [upd_same, List.take_add_one, hz', List.filter_append, Option.toList_some, List.filter_cons_of_pos (p := fun z => if neg then !inV (.str z) (ys.map V.str) else inV (.str z) (ys.map V.str)) e, List.map_append]
        rfl
    · refine ⟨p1, ?_⟩
      rw [List.take_add_one, hz', List.filter_append, Option.toList_some, List.filter_cons_of_neg (p := fun z => if neg then !inV (.str z) (ys.map V.str) else inV (.str z) (ys.map V.str)) e, List.filter_nil, List.append_nil]
      exact p2
  · obtain ⟨p1, p2⟩ := p
    rw [List.length_map, List.take_of_length_le (Nat.le_refl _)] at p2
    exact q D H2 p1 nD p2
theorem names10 {K : PySem.W.Frag} {neg : Bool} {i : Nat} {l o : Addr} {zs ys : List Str} {x0 x1 x2 x3 x4 x5 x6 x7 x8 x9 x11 x12 x13 x14 : Option V} {H : Hp} {Q : VK} (hi : ([x0, x1, x2, x3, x4, x5, x6, x7, x8, x9, some (.ref o), x11, x12, x13, x14] : L2.St)[i]? = some (some (.ref l)))
    (el : H l = some (.lst (zs.map V.str))) (eo : H o = some (.lst (ys.map V.str))) (hz : zs.length ≤ 100)
    (q : ∀ D H', Same H H' → H D = none → H' D = some (.lst ((zs.filter fun z => if neg then !decide (z ∈ ys) else decide (z ∈ ys)).map V.str)) → Q (.ref D) H') :
    tLc (iList K (tVar i)) (gName 12) (tTest (tOp (rIn K neg) (tVar 12) (tVar 10))) (tVar 12) [12] [x0, x1, x2, x3, x4, x5, x6, x7, x8, x9, some (.ref o), x11, x12, x13, x14] H Q := by
  have ef : (fun z => if neg then !decide (z ∈ ys) else decide (z ∈ ys)) = fun z => if neg then !inV (.str z) (ys.map V.str) else inV (.str z) (ys.map V.str) := by
    funext z
    rw [inV_strs]
  rw [ef] at q
  refine ⟨_, hi, l, rfl, ⟨_, SqL.of el⟩, fun D nD => ?_⟩
  refine lc_list (K := K) (a := l) (xs := zs.map V.str) (fun j H' => Same H H' ∧ H' D = some (.lst (((zs.take j).filter fun z => if neg then !inV (.str z) (ys.map V.str) else inV (.str z) (ys.map V.str)).map V.str)))
    ⟨same_upd nD, upd_same⟩ (fun j H' _ p => SqL.of (p.1 _ _ el)) (fun j x H2 hx p => ?_) (fun H2 p => ?_)
  · obtain ⟨p1, p2⟩ := p
    rw [List.getElem?_map] at hx
    obtain ⟨z, hz', rfl⟩ := Option.map_eq_some_iff.mp hx
    have hj : j < zs.length := (List.getElem?_eq_some_iff.mp hz').1
    refine ⟨rfl, ?_⟩
    refine ⟨_, rfl, _, rfl, o, _, rfl, .inl (SqL.of (p1 _ _ eo)), rfl, flat_strs _, _, rfl, ite2 (fun e => ?_) (fun e => ?_)⟩
    · refine ⟨_, rfl, _, p2, ?_, same_put p1 nD, ?_⟩
      · rw [List.length_map]
        have h1 := List.length_filter_le (fun z => if neg then !inV (.str z) (ys.map V.str) else inV (.str z) (ys.map V.str)) (zs.take j)
        rw [List.length_take] at h1
        exact small63 (by omega)
      · rw [upd_same, List.take_add_one, hz', List.filter_append, Option.toList_some, List.filter_cons_of_pos (p := fun z => if neg then !inV (.str z) (ys.map V.str) else inV (.str z) (ys.map V.str)) e, List.map_append]
        rfl
    · refine ⟨p1, ?_⟩
      rw [List.take_add_one, hz', List.filter_append, Option.toList_some, List.filter_cons_of_neg (p := fun z => if neg then !inV (.str z) (ys.map V.str) else inV (.str z) (ys.map V.str)) e, List.filter_nil, List.append_nil]
      exact p2
  · obtain ⟨p1, p2⟩ := p
    rw [List.length_map, List.take_of_length_le (Nat.le_refl _)] at p2
    exact q D H2 p1 nD p2

theorem sub_filter : ∀ {ow Gs : List Gang}, ow.Sublist Gs → (nm Gs).Nodup → Gs.filter (fun G => decide (G.name ∈ nm ow)) = ow
  | _, _, .slnil, _ => rfl
  | ow, G :: Gs, .cons _ h, nd => by
    have nd' := List.nodup_cons.mp (show (G.name :: nm Gs).Nodup from nd)
    have no : ¬ (decide (G.name ∈ nm ow)) = true := fun z => nd'.1 ((nm_sub h).subset (of_decide_eq_true z))
    rw [List.filter_cons_of_neg (p := fun G' : Gang => decide (G'.name ∈ nm ow)) no]
    exact sub_filter h nd'.2
  | _, G :: Gs, .cons₂ (l₁ := ow) _ h, nd => by
    have nd' := List.nodup_cons.mp (show (G.name :: nm Gs).Nodup from nd)
    have yes : (decide (G.name ∈ nm (G :: ow))) = true := decide_eq_true (show G.name ∈ G.name :: nm ow from List.mem_cons_self)
    rw [List.filter_cons_of_pos (p := fun G' : Gang => decide (G'.name ∈ nm (G :: ow))) yes]
    have e : Gs.filter (fun G' => decide (G'.name ∈ nm (G :: ow))) = Gs.filter (fun G' => decide (G'.name ∈ nm ow)) := by
      refine List.filter_congr fun G' hG' => ?_
      have ne : G'.name ≠ G.name := fun z => nd'.1 (by rw [← z]; exact List.mem_map.mpr ⟨G', hG', rfl⟩)
      show decide (G'.name ∈ G.name :: nm ow) = _
      by_cases hm : G'.name ∈ nm ow
      · rw [decide_eq_true hm, decide_eq_true (List.mem_cons_of_mem _ hm)]
      · rw [decide_eq_false hm, decide_eq_false fun z => (List.mem_cons.mp z).elim ne hm]
    rw [e, sub_filter h nd'.2]
theorem own_one (dn : List Int) (Gs : List Gang) (G : Gang) (ld : List Int) : ownOf dn (Gs ++ [G]) ld = ownOf dn Gs ld ++ (if fitB (addL (loadOf dn Gs ld) G.whole) dn = true then [G] else []) ∧ loadOf dn (Gs ++ [G]) ld = if fitB (addL (loadOf dn Gs ld) G.whole) dn = true then addL (loadOf dn Gs ld) G.whole else loadOf dn Gs ld := by
  obtain ⟨h1, h2, h3⟩ := own_app dn Gs [G] ld
  rw [h1, h3]
  refine ⟨?_, ?_⟩
  · congr 1
  · rw [loadOf]
    split <;> rfl
theorem take_borne {dn : List Int} {Gs : List Gang} (hw : ∀ G ∈ Gs, G.want.length = dn.length) : ∀ i, borneL dn.length (ownOf dn (Gs.take i) (zeros dn.length)) = loadOf dn (Gs.take i) (zeros dn.length)
  | 0 => by
    rw [List.take_zero]
    exact borne_nil _
  | i + 1 => by
    rw [List.take_add_one]
    cases hG : Gs[i]? with
    | none =>
      rw [Option.toList_none, List.append_nil]
      exact take_borne hw i
    | some G =>
      rw [Option.toList_some]
      obtain ⟨h1, h2⟩ := own_one dn (Gs.take i) G (zeros dn.length)
      rw [h1, h2]
      have ih := take_borne hw i
      split
      · rw [borne_snoc (hw G (List.mem_of_getElem? hG)), ih]
      · rw [List.append_nil, ih]
theorem all_borne {dn : List Int} {Gs : List Gang} (hw : ∀ G ∈ Gs, G.want.length = dn.length) : borneL dn.length (ownOf dn Gs (zeros dn.length)) = loadOf dn Gs (zeros dn.length) := by
  have h := take_borne hw Gs.length
  rw [List.take_length] at h
  exact h
/-- the names told of the first m -/
theorem filt_take {m : Nat} {Gs As Bs : List Gang} (nd : (nm Gs).Nodup) (ha : As.Sublist (Gs.take m)) (hb : Bs.Sublist (Gs.drop m)) : (nm (As ++ Bs)).filter (fun z => decide (z ∈ (nm Gs).take m)) = nm As := by
  have e : (nm Gs).take m = nm (Gs.take m) := List.map_take.symm
  have nd2 : (nm (Gs.take m) ++ nm (Gs.drop m)).Nodup := by
    have : nm (Gs.take m) ++ nm (Gs.drop m) = nm Gs := by
      unfold nm
      rw [← List.map_append, List.take_append_drop]
    rw [this]
    exact nd
  have ap := (List.nodup_append.mp nd2).2.2
  have e2 : nm (As ++ Bs) = nm As ++ nm Bs := List.map_append
  rw [e, e2, List.filter_append, List.filter_eq_self.mpr fun z hz => decide_eq_true ((nm_sub ha).subset hz), List.filter_eq_nil_iff.mpr fun z hz => ?_, List.append_nil]
  intro q
  exact ap z (of_decide_eq_true q) z ((nm_sub hb).subset hz) rfl
theorem paired_take {α β : Type} {R : α → β → Prop} : ∀ {xs : List α} {ys : List β}, Paired R xs ys → ∀ m, Paired R (xs.take m) (ys.take m)
  | _, _, .nil, m => by
    rw [List.take_nil, List.take_nil]
    exact .nil
  | _, _, .cons h t, 0 => .nil
  | _, _, .cons h t, m + 1 => .cons h (paired_take t m)
theorem rg60 : ∀ n : Fin 61, Builtin.Range.small 0 (n.val : Int) (1 + (n.val : Int) / 6) = true := by decide +kernel
theorem rg_six {n : Nat} (h : n ≤ 60) : ∃ m, RgC 0 (n : Int) (1 + (n : Int) / 6) m :=
  ⟨_, by omega, by omega, rg60 ⟨n, by omega⟩, PyProof.Rows.rangeSize_toNat _ _ _⟩
theorem sh_two {zs ys : List Str} (h : ∀ z ∈ zs, PySem.PyData.strOk z = true) (h' : ∀ z ∈ ys, PySem.PyData.strOk z = true) : SeqAt.shaped (.tuple [.list (zs.map PyData.str), .list (ys.map PyData.str)]) = true := by
  unfold SeqAt.shaped
  have h1 : PyData.canLay0 (.tuple [.list (zs.map PyData.str), .list (ys.map PyData.str)]) = true := by
    simp [PyData.canLay0, PyData.canLayAll0, lay_strs h, lay_strs h']
  have h2 : (PyData.tuple [.list (zs.map PyData.str), .list (ys.map PyData.str)]).depth ≤ 64 := by
    simp only [PyData.depth, PyData.depthAll, dpt_strs]
    decide
  rw [h1, decide_eq_true h2]
  rfl
theorem eqv_self {d : PyData} (h : SeqAt.shaped d = true) : PyData.eqv d d = true := SeqAt.eqv_refl_plain _ (shaped_plain h)
end My

set_option maxHeartbeats 2000000
/-! sets of texts: made, filled, walked in sorted order; set comprehensions of texts. -/
namespace SX
open PySem PySem.Spec PyProof.Rows L2 PpSet
def txtOf (e : Int × Value) : Str := match e.2 with | .str z _ => z | _ => Str.ofString ""
/-- an entry of the text z -/
def IsT (P : Program) (w : World) (e : Int × Value) : Prop := ∃ z t, e.2 = Value.str z t ∧ e.1 = (strKind P w).hash z
/-- the set of the texts zs at a; its table rises and can be walked -/
def TSet (P : Program) (w : World) (h : Heap) (a : Addr) (zs : List Str) : Prop :=
  ∃ o es ep t, h.get? a = some o ∧ o.ExactSet ∧ o.data = .set es ep t ∧ (∀ e ∈ es.toList, IsT P w e) ∧ (es.toList.map txtOf).Perm zs ∧ zs.Nodup ∧
    es.size < scanBound ∧ t.fits es.size = true ∧ Ris t.place.toList ∧ (w.params.followText "set-order" = true ∨ t.led = true)
section
variable {P : Program} {w : World} {h h' : Heap} {a : Addr} {zs : List Str}
theorem TSet.at (R : TSet P w h a zs) (k : ∀ o, h.get? a = some o → h'.get? a = some o) : TSet P w h' a zs := by
  obtain ⟨o, es, ep, t, ho, r⟩ := R
  exact ⟨o, es, ep, t, k o ho, r⟩
theorem TSet.size (R : TSet P w h a zs) : ∃ o es ep t, h.get? a = some o ∧ o.data = .set es ep t ∧ es.size = zs.length := by
  obtain ⟨o, es, ep, t, ho, _, hd, _, pm, _⟩ := R
  exact ⟨o, es, ep, t, ho, hd, by rw [← Array.length_toList, ← List.length_map (f := txtOf), pm.length_eq]⟩
theorem isT_is {e : Int × Value} (g : IsT P w e) (z : Str) : (strKind P w).is z e.2 = true ↔ txtOf e = z := by
  obtain ⟨y, t, h1, _⟩ := g
  unfold txtOf
  rw [h1]
  simp [PySem.strKind, Value.isStrOf]
theorem isT_elems {l : List (Int × Value)} (g : ∀ e ∈ l, IsT P w e) : ElemsOf (strKind P w) l := fun e he => by
  obtain ⟨z, t, h1, h2⟩ := g e he
  exact ⟨⟨z, by rw [h1]; exact strKind_is P w z t, h2⟩, by rw [h1]; rfl⟩
theorem TSet.setOf (R : TSet P w h a zs) : h.SetOf (strKind P w) a (fun z => decide (z ∈ zs)) zs.length := by
  obtain ⟨o, es, ep, t, ho, hx, hd, g, pm, nd, hb, hf, _⟩ := R
  refine ⟨o, es, ep, t, ho, hx, hd, isT_elems g, fun z => ?_, hb, hf, by rw [← Array.length_toList, ← List.length_map (f := txtOf), pm.length_eq]⟩
  rw [decide_eq_true_eq, ← pm.mem_iff, List.mem_map]
  exact ⟨fun ⟨e, he, q⟩ => ⟨e, he, (isT_is (g e he) z).2 q⟩, fun ⟨e, he, q⟩ => ⟨e, he, (isT_is (g e he) z).1 q⟩⟩
end
section
variable {P : Program} {w : World} {A : Around} {E : Value → Shared → Prop} {s : Shared} {a : Addr} {zs : List Str}
/-- what is stored, and stored again where the table grows -/
theorem stored {g : Bool → Sem Unit} (hg : ∀ (b : Bool) (s₁ : Shared) (Q' : Unit → Shared → Prop), Q' () s₁ → wpAny (model P w) A (g b) Q' E s₁) {o : Obj} {es es1 : Array (Int × Value)} {ep : Nat} {t t2 : SetTable}
    (ho : s.heap.get? a = some o) (hex : o.ExactSet) (hd : o.data = .set es ep t) (g1 : ∀ e ∈ es1.toList, IsT P w e) (p1 : (es1.toList.map txtOf).Perm zs) (nd : zs.Nodup) (hb : es1.size < scanBound) (hf : t2.fits es1.size = true)
    (hr : Ris t2.place.toList) (hl : w.params.followText "set-order" = true ∨ t2.led = true) {d : Bool} {R : Option Bool → Shared → Prop} (hR : ∀ h', Heap.SameBut a s.heap h' → TSet P w h' a zs → R (some true) { s with heap := h' }) :
    wpAny (model P w) A (do
        storeSet a es1 t2
        if (!d && t2.tooFull) = true then do
            g (relayAll t2 es1 (SetTable.grown es1.size)).2.2
            storeSet a (relayAll t2 es1 (SetTable.grown es1.size)).1 (relayAll t2 es1 (SetTable.grown es1.size)).2.1
            pure (some true)
          else pure (some true)) R E s := by
  refine wpAny_bind (wpAny_storeSet_of ho hd ?_ (fits_of_scanBound hb))
  have ho1 := storeB_at (es' := es1) (t' := t2) ho hd
  have sb1 := Heap.SameBut.update s.heap a (Obj.putSet es1 t2)
  split
  · have pm := relayAll_perm t2 es1 (SetTable.grown es1.size)
    have q1 := relayAll_fits t2 es1 (SetTable.grown es1.size)
    have q2 := relayAll_ris t2 es1 (SetTable.grown es1.size)
    have q3 := relayAll_led t2 es1 (SetTable.grown es1.size)
    generalize relayAll t2 es1 (SetTable.grown es1.size) = Z at pm q1 q2 q3 ⊢
    obtain ⟨es2, t3, gave⟩ := Z
    dsimp only at pm q1 q2 q3 ⊢
    have hb2 : es2.size < scanBound := by rw [← Array.length_toList, pm.length_eq, Array.length_toList]; exact hb
    refine wpAny_bind (hg _ _ _ (wpAny_bind (wpAny_storeSet_of ho1 rfl ?_ (fits_of_scanBound hb2))))
    exact wpAny_pure (hR _ (sb1.trans (Heap.SameBut.update _ a _)) ⟨_, es2, _, t3, storeB_at (es' := es2) (t' := t3) ho1 rfl, hex, rfl, fun e he => g1 e (pm.mem_iff.mp he), (pm.map txtOf).trans p1, nd, hb2, q1, q2, hl.imp id fun z => by rw [q3]; exact z⟩)
  · exact wpAny_pure (hR _ sb1 ⟨_, es1, _, t2, ho1, hex, rfl, g1, p1, nd, hb, hf, hr, hl⟩)
/-- the texts with z -/
def more (zs : List Str) (z : Str) : List Str := if z ∈ zs then zs else z :: zs
theorem add_hashed {z : Str} {tk : Tok} {Q : Bool → Shared → Prop} (R : TSet P w s.heap a zs) (room : zs.length + 1 < scanBound) (hQ : ∀ b h', Heap.SameBut a s.heap h' → TSet P w h' a (more zs z) → Q b { s with heap := h' }) :
    wpAny (model P w) A (setAddHashed a (.str z tk) ((strKind P w).hash z)) Q E s := by
  have R0 := R
  obtain ⟨o, es, ep, t, ho, hex, hd, g, pm, nd, hb, hf, hr, hl⟩ := R
  have hkey : (strKind P w).is z (.str z tk) = true := strKind_is P w z tk
  have hsc : (Value.str z tk).scannable = true := rfl
  have hel : ElemsOf (strKind P w) es.toList := isT_elems g
  have hlen : es.size = zs.length := by rw [← Array.length_toList, ← List.length_map (f := txtOf), pm.length_eq]
  unfold setAddHashed setAddHashedIn
  refine wpAny_holding (wpAny_bind (wpAny_setState_of ho hd hf ?_))
  dsimp only
  rw [byScan_of hsc hb hel]
  simp only [↓reduceIte]
  unfold setAddByScan
  refine wpAny_bind (wpAny_bind (wpAny_rule (wpAny_bind (wpAny_setScan_of hkey ho hd hf hel ?_))))
  cases hfi : List.findIdx? (fun e => (strKind P w).is z e.2) es.toList with
  | some j =>
    dsimp only
    obtain ⟨hj, pj, _⟩ := List.findIdx?_eq_some_iff_getElem.mp hfi
    have hz : z ∈ zs := pm.mem_iff.mp (List.mem_map.mpr ⟨es.toList[j], List.getElem_mem hj, (isT_is (g _ (List.getElem_mem hj)) z).1 pj⟩)
    refine wpAny_pure (wpAny_pure (hQ _ s.heap (Heap.SameBut.refl a s.heap) ?_))
    unfold more
    rw [if_pos hz]
    exact R0
  | none =>
    dsimp only
    have hz : z ∉ zs := fun q => by
      obtain ⟨e, he, q⟩ := List.mem_map.mp (pm.mem_iff.mpr q)
      have c := List.findIdx?_eq_none_iff.mp hfi e he
      rw [(isT_is (g e he) z).2 q] at c
      cases c
    have hgw : ∀ (b : Bool) {s₁ : Shared} {Q' : Unit → Shared → Prop}, Q' () s₁ → wpAny (model P w) A (match b with | true => rule "set.scan.the-table-gave-way" | false => pure ()) Q' E s₁ :=
      fun b s₁ Q' q => by cases b <;> first | exact wpAny_pure q | exact wpAny_rule q
    have pe := layNew_perm t es ((strKind P w).hash z) (.str z tk)
    have f1 := layNew_fits t es ((strKind P w).hash z) (.str z tk)
    have r1 := layNew_ris t es ((strKind P w).hash z) (.str z tk) hr
    have l1 := layNew_led t es ((strKind P w).hash z) (.str z tk)
    generalize layNew t es ((strKind P w).hash z) (.str z tk) = Z at pe f1 r1 l1 ⊢
    obtain ⟨es1, t1, wasDummy, gave⟩ := Z
    dsimp only at pe f1 r1 l1 ⊢
    rw [Array.toList_push] at pe
    have pc : es1.toList.Perm (((strKind P w).hash z, Value.str z tk) :: es.toList) := pe.trans (List.perm_append_singleton _ _)
    have p1 : (es1.toList.map txtOf).Perm (z :: zs) := (pc.map txtOf).trans (pm.cons z)
    have g1 : ∀ e ∈ es1.toList, IsT P w e := fun e he => by
      rcases List.mem_cons.mp (pc.mem_iff.mp he) with q | q
      · rw [q]
        exact ⟨z, tk, rfl, rfl⟩
      · exact g e q
    have nd1 : (z :: zs).Nodup := List.nodup_cons.mpr ⟨hz, nd⟩
    have hb1 : es1.size < scanBound := by
      rw [← Array.length_toList, pc.length_eq, List.length_cons, Array.length_toList, hlen]
      exact room
    have led : w.params.followText "set-order" = true ∨ t1.led = true := hl.imp id fun q => by rw [l1]; exact q
    have fin : ∀ b h', Heap.SameBut a s.heap h' → TSet P w h' a (z :: zs) → Q b { s with heap := h' } := fun b h' sb r => by
      have q := hQ b h' sb
      unfold more at q
      rw [if_neg hz] at q
      exact q r
    refine wpAny_bind (hgw _ ?_)
    split
    · refine wpAny_bind ?_
      rw [hashByValue_scannable 8 hsc]
      refine wpAny_pure ?_
      refine stored ?_ ho hex hd g1 p1 nd1 hb1 ?_ ?_ ?_ ?_
      · intro b s₁ Q' q; cases b <;> first | exact wpAny_pure q | exact wpAny_rule q
      · first | (split <;> first | exact f1 | exact SetTable.fits_plain_off f1) | exact f1
      · first | (split <;> exact r1) | exact r1
      · first | (split <;> exact led) | exact led
      · intro h' sb r; dsimp only; exact wpAny_pure (fin _ h' sb r)
    · refine wpAny_bind (wpAny_pure ?_)
      simp only [↓reduceIte]
      refine stored ?_ ho hex hd g1 p1 nd1 hb1 f1 r1 led ?_
      · intro b s₁ Q' q; cases b <;> first | exact wpAny_pure q | exact wpAny_rule q
      · intro h' sb r; dsimp only; exact wpAny_pure (fin _ h' sb r)
/-- xs.add(z) -/
theorem add_run {z : Str} {tk : Tok} {Q : Value → Shared → Prop} (R : TSet P w s.heap a zs) (room : zs.length + 1 < scanBound) (hQ : ∀ h', Heap.SameBut a s.heap h' → TSet P w h' a (more zs z) → Q .none { s with heap := h', toks := s.toks + 1 }) :
    wpAny (model P w) A (call (.builtin "set.add") [.ref a, .str z tk]) Q E s := by
  refine wpAny_call_entry F.slot_set_add (R.setOf).typeIs F.entry_set_add ?_ (F.args_set_add_2 _ _)
  unfold Builtin.«set.add» Builtin.Frozenset.oneOther
  simp only [List.isEmpty_nil, bind_assoc]
  unfold Builtin.Frozenset.addrOf setAdd
  refine wpAny_bind (wpAny_pure ?_)
  try dsimp only
  refine wpAny_bind (wpAny_pure ?_)
  try dsimp only
  refine wpAny_bind (wpAny_holding (wpAny_bind ((strKind P w).pyHash (strKind_is P w z tk) ?_)))
  refine add_hashed (s := { s with toks := s.toks + 1 }) R room fun b h' sb r => ?_
  show wpAny _ _ (ret Value.none) _ _ _
  exact wpAny_pure ⟨_, rfl, hQ h' sb r⟩
theorem fresh_set {h : Heap} (P : Program) (w : World) : TSet P w (h.push { cls := .type "set", dict := none, data := .set #[] 0 (.fresh 0 0 (!w.params.followText "set-order")) }) h.objs.size [] :=
  ⟨_, #[], 0, _, Heap.get?_push_size _ rfl, ⟨rfl, rfl, rfl⟩, rfl, (fun e he => by simp at he), .refl _, .nil, by decide, by rfl, List.Pairwise.nil, by
    show _ ∨ (!w.params.followText "set-order") = true
    cases w.params.followText "set-order"
    · exact .inr rfl
    · exact .inl rfl⟩
end
/-! ### tracked -/
def SetSO (P : Program) (w : World) (a : Addr) (zs : List Str) : HO := .ext fun h => TSet P w h a zs
theorem setSO_new {w : World} {P : Program} {H : Hp} {h : Heap} {a : Addr} {zs : List Str} (R : TSet P w h a zs) : ObjOk P w H h a (SetSO P w a zs) := by
  have ⟨o, _, _, _, ho, _⟩ := R
  exact ⟨R, ⟨o, ho⟩, fun h1 h2 p k => TSet.at p k⟩
section
variable {X : Cx}
theorem setSO_get {pins : List (Addr × Obj)} {σ : L2.St} {H : Hp} {s : Shared} {a : Addr} {zs : List Str} (I : Inv X pins σ H s) (ha : H a = some (SetSO X.prog X.w a zs)) : TSet X.prog X.w s.heap a zs := (I.hok a _ ha).1
theorem add_ok {pins : List (Addr × Obj)} {σ : L2.St} {H : Hp} {s : Shared} {E : Value → Shared → Prop} {D : Addr} {zs : List Str} {z : Str} {tk : Tok} {Q : Value → Shared → Prop} (I : Inv X pins σ H s) (hD : H D = some (SetSO X.prog X.w D zs)) (room : zs.length + 1 < scanBound)
    (h : ∀ s', Inv X pins σ (upd H D (SetSO X.prog X.w D (more zs z))) s' → Q .none s') : wpAny (model X.prog X.w) X.A (call (.builtin "set.add") [.ref D, .str z tk]) Q E s := by
  refine add_run (setSO_get I hD) room fun h' sb new => ?_
  have he : ∃ u, h'.get? D = some u := by
    have ⟨o, _, _, _, ho, _⟩ := new
    exact ⟨o, ho⟩
  exact h _ (I.write (e := D) (t' := s.toks + 1) (by rw [hD]; trivial) (.inl rfl) (fun b u hb hu => (sb.2 b hb).trans hu) he (setSO_new new))
end
end SX

set_option maxHeartbeats 2000000
/-! {text for .. in ..} and sorted of a set of texts. -/
namespace SX
open PySem PySem.Spec PyProof.Rows L2 PpSet PySem.W
section
variable {X : Cx}
/-- {elt for target in iter if ..}, elt a text: D the new set -/
def tScS (P : Program) (w : World) (wi : TI) (g : TG) (tt : TT) (te : TE) (vs : List Nat) : TE := fun σ H Q => wi σ H fun J H1 => ∀ D, H1 D = none → ∃ W : Nat → Nat → Hp → Prop, (∃ m, W 0 m (upd H1 D (SetSO P w D []))) ∧ ∀ i m H, W i m H →
  (J.stop i H ∧ Q (.ref D) H) ∨ (J.go i H ∧ ∃ Nx : Hp → Prop, (∀ H', Nx H' → ∃ m', m' < m ∧ W (i + 1) m' H') ∧ ∀ x H', J.yld i H x H' → g x (wipe σ vs) H' fun σ2 H2 => wipe σ2 vs = wipe σ vs ∧ tt σ2 H2 fun b H3 =>
    if b = true then te σ2 H3 fun y H4 => ∃ (z : Str) (zs : List Str), y = .str z ∧ H4 D = some (SetSO P w D zs) ∧ zs.length + 1 < scanBound ∧ Nx (upd H4 D (SetSO P w D (more zs z))) else Nx H3)
theorem pe_scS {elt tg iter : Expr} {ifs : List Expr} {scope : Scope} {own : List (PySem.Str × Nat)} {pos : Pos} {wi : TI} {g : TG} {tt : TT} {te : TE} (hc : X.calm = true) (hN : X.N.Nodup) (hi : PI X tg iter wi) (ok : BlkOk X.N X.env.scope scope own)
    (hg : ∀ (s : Shared) (H : Hp) (C : Addr) (cl : List (PySem.Str × Addr)) (fp : List Addr), PG (X.blk s H scope (compEnvC scope cl C X.env) fp) tg g) (ht : ∀ (s : Shared) (H : Hp) (C : Addr) (cl : List (PySem.Str × Addr)) (fp : List Addr), PTs (X.blk s H scope (compEnvC scope cl C X.env) fp) ifs tt)
    (he : ∀ (s : Shared) (H : Hp) (C : Addr) (cl : List (PySem.Str × Addr)) (fp : List Addr), PE (X.blk s H scope (compEnvC scope cl C X.env) fp) elt te) (hs : ∀ x, foldedSetIterable iter X.env x = pure x := by intro _; rfl) :
    PE X (.SetComp elt [⟨tg, iter, ifs, 0⟩] scope pos) (tScS X.prog X.w wi g tt te (own.map (·.2))) := by
  refine ⟨fun pins s σ H Q I h => ?_⟩
  rw [eval_SetComp]
  have hfree : ∀ y ∈ scope.names, y.2 = .free → ∃ c, X.env.cells.lookup y.1 = some c := fun y hy e => (ok.free y hy e).elim (fun k => I.ok.has _ (.inl k)) fun k => I.ok.has _ (.inr k)
  refine wpAny_comprehension_free (use := none) rfl hs (closure_ok hfree) ok.kind (fun y hy e => by rw [ok.uniq y hy, e]) (thn (hi.run pins s σ H _ I h) fun xv s1 hx => thn hx fun itv s2 h2 => ?_)
  obtain ⟨it, fp, tn, J, H2, e, I2, T, st2, f2, q⟩ := h2
  subst e
  refine newSet_ok (newEnv_comp ?_)
  generalize hD : s2.heap.objs.size = D
  obtain ⟨W, ⟨m0, w0⟩, turn⟩ := q D (I2.hok.fresh (Nat.le_of_eq hD))
  -- the new set
  generalize hs3 : ({ s2 with heap := s2.heap.push { cls := .type "set", dict := none, data := .set #[] 0 (.fresh 0 0 (!X.w.params.followText "set-order")) } } : Shared) = s3
  have h3 : s3.heap = s2.heap.push { cls := .type "set", dict := none, data := .set #[] 0 (.fresh 0 0 (!X.w.params.followText "set-order")) } := by rw [← hs3]
  have I3 : Inv X pins σ (upd H2 D (SetSO X.prog X.w D [])) s3 := by
    rw [← hs3]
    refine I2.laid (t' := s2.toks) (fun b o e => Heap.get?_push_of_some _ e) (Nat.le_of_eq hD) ?_
    rw [← hD]
    exact setSO_new (fresh_set X.prog X.w)
  have lt2 : ∀ b ∈ fp, b < s2.heap.objs.size := fun b hb => by
    obtain ⟨o, e, _⟩ := T.obj _ _ st2 b hb
    exact Heap.lt_size e
  have f3 : ∀ b ∈ fp, FpOk X pins (upd H2 D (SetSO X.prog X.w D [])) b ∧ b < s3.heap.objs.size := fun b hb => by
    refine ⟨⟨?_, (f2 b hb).2⟩, by rw [h3, Heap.size_push]; exact Nat.lt_succ_of_lt (lt2 b hb)⟩
    rw [upd_ne (by rw [← hD]; exact Nat.ne_of_lt (lt2 b hb))]
    exact (f2 b hb).1
  have st3 : tn 0 s3.heap := T.keep _ _ _ st2 fun b _ o e => by rw [h3]; exact Heap.get?_push_of_some _ e
  have I4 := block_start I3 ok hN f3
  generalize hce : compEnvC scope (cellsFrom (s3.heap.objs.size + 1) scope.names (cloFrom X.env.cells scope.names [])) s3.heap.objs.size X.env = ce at I4
  have cL : ce.locals = s3.heap.objs.size := by subst hce; rfl
  generalize hH3 : upd H2 D (SetSO X.prog X.w D []) = H3 at I3 I4 w0 f3
  have pg : PG (X.blk s3 H3 scope ce fp) tg g := hce ▸ hg s3 H3 _ _ fp
  have pt : PTs (X.blk s3 H3 scope ce fp) ifs tt := hce ▸ ht s3 H3 _ _ fp
  have pe : PE (X.blk s3 H3 scope ce fp) elt te := hce ▸ he s3 H3 _ _ fp
  show codeAny _ _ (.compStart (.SetComp elt [⟨tg, iter, ifs, 0⟩] scope pos) 0 (.ref it) (.ref D) (compEnvC scope (cellsFrom (s3.heap.objs.size + 1) scope.names (cloFrom X.env.cells scope.names [])) s3.heap.objs.size X.env)) _ { s3 with heap := pushCells (s3.heap.push { cls := .type "dict", data := .dict #[] }) scope.names }
  rw [hce]
  generalize hs4 : ({ s3 with heap := pushCells (s3.heap.push { cls := .type "dict", data := .dict #[] }) scope.names } : Shared) = s4 at I4 ⊢
  have st4 : tn 0 s4.heap := T.keep _ _ _ st3 fun b _ o e => by rw [← hs4]; exact pushCells_keeps _ _ _ _ (Heap.get?_push_of_some _ e)
  have stat : ∀ {σ' : L2.St} {H' : Hp} {s' : Shared}, Inv (X.blk s3 H3 scope ce fp) [] σ' H' s' → (∀ b ∈ fp, H' b = none) → ∀ b ∈ fp, FpOk (X.blk s3 H3 scope ce fp) [] H' b := fun {σ' H' s'} I' hn b hb =>
    ⟨hn b hb, (I'.ok.exf b hb).1, I'.ok.exfs b hb, .inl hb, fun x c e => (I'.ok.exf b hb).2 x c e, fun p hp => absurd (show p ∈ ([] : List (Addr × Obj)) ++ [] from hp) (by simp)⟩
  refine codeAny_compStart_set ?loop (T.self X.A 0 _ _ _ st4 ?loop)
  refine compLoopS_any (fun n s' => ∃ i H', Inv (X.blk s3 H3 scope ce fp) [] (wipe σ (own.map (·.2))) H' s' ∧ tn i s'.heap ∧ (∀ b ∈ fp, H' b = none) ∧ W i n H') ?_ m0 ⟨0, H3, I4, st4, fun b hb => (f3 b hb).1.1, w0⟩
  rintro n s5 ⟨i, H5, I5, st5, n5, w5⟩
  rcases turn i n H5 w5 with ⟨stop, qq⟩ | ⟨go, Nx, hNx, step⟩
  · refine thnF (T.done (X.blk s3 H3 scope ce fp) rfl rfl rfl hc i [] s5 _ H5 (fun _ _ => False) I5 (stat I5 n5) st5 stop) fun r s6 ⟨hr, I6⟩ => ?_
    subst hr
    have I7 : Inv X pins σ H5 s6 := I3.call' (ch := fp) I6.os I6.base I6.hok I6.bare fun b hb => ⟨(f3 b hb).1.2.2.2.1, (f3 b hb).1.2.1, (f3 b hb).1.2.2.2.2.1, (f3 b hb).1.2.2.2.2.2⟩
    have nC : H5 s3.heap.objs.size = none := by
      have z : H5 ce.locals = none := I6.free
      rwa [cL] at z
    obtain ⟨m, hn, _⟩ := I6.loc
    have hn : s6.heap.Ns ce.locals m := hn
    rw [cL] at hn
    obtain ⟨a0, a1, a2, a3, a4, a5⟩ := I3.fpOk (Nat.le_refl _) nC
    exact ⟨m, hn, fun h'' sb => ⟨.ref D, H5, I7.turned (t' := s6.toks) (fun b o hb e => (sb.2 b hb).trans e) a0 a1 a3 a4 a5, rfl, qq⟩⟩
  · refine thnF (T.item (X.blk s3 H3 scope ce fp) rfl rfl rfl hc i [] s5 _ H5 (fun _ _ => False) I5 (stat I5 n5) st5 go) fun r s6 ⟨u, hr, h6⟩ => ?_
    subst hr
    refine thnF h6 fun _ s7 ⟨x, H7, I7, r7, y7, st7, n7⟩ => ?_
    refine thnF (pg.run _ s7 _ H7 x u _ (I7.pinned (stat I7 n7) (T.obj _ _ st7)) r7 (step x H7 y7)) fun _ s8 ⟨σ8, H8, I8, hw8, q8⟩ => ?_
    refine thnF (pt.run _ s8 σ8 H8 _ I8 q8) fun b s9 ⟨H9, I9, q9⟩ => ?_
    have fin : ∀ {s' : Shared} {H' : Hp}, Inv (X.blk s3 H3 scope ce fp) ([] ++ pinsAt fp s7.heap) σ8 H' s' → Nx H' → ∃ m, m < n ∧ ∃ i H', Inv (X.blk s3 H3 scope ce fp) [] (wipe σ (own.map (·.2))) H' s' ∧ tn i s'.heap ∧ (∀ b ∈ fp, H' b = none) ∧ W i m H' := fun {s' H'} I' nx => by
      obtain ⟨m', hm, w'⟩ := hNx H' nx
      have pin' : ∀ b ∈ fp, ∀ o, s7.heap.get? b = some o → s'.heap.get? b = some o ∧ H' b = none := fun b hb o e =>
        let z := I'.pin (b, o) (List.mem_append_right _ (List.mem_append_right _ (mem_pinsAt hb e)))
        ⟨z.1, z.2.1⟩
      have hl : (wipe σ (own.map (·.2))).length = σ8.length := by rw [← hw8, wipe_length]
      refine ⟨m', hm, i + 1, H', (I'.unpinned (pins := [])).weak hl (fun j v e => ?_), T.keep _ _ _ st7 fun b hb o e => (pin' b hb o e).1, fun b hb => ?_, w'⟩
      · rw [← hw8] at e
        exact (wipe_some e).1
      · obtain ⟨o, e, _⟩ := T.obj _ _ st7 b hb
        exact (pin' b hb o e).2
    cases b with
    | false =>
      simp only [Bool.false_eq_true, if_false] at q9 ⊢
      exact fin I9 q9
    | true =>
      simp only [if_true] at q9 ⊢
      refine thnF (pe.run _ s9 σ8 H9 _ I9 q9) fun v s10 ⟨yv, H10, I10, r10, z, zs, ey, hD10, room, nx⟩ => ?_
      subst ey
      obtain ⟨tk, rfl⟩ := r10
      exact add_ok (X := X.blk s3 H3 scope ce fp) I10 hD10 room fun s11 I11 => fin I11 nx
/-- over a walk -/
theorem sc_it {P : Program} {w : World} {J : It} {n : Nat} {G : Hp → Prop} {Y : Nat → Hp → V → Hp → Prop} (wk : Walk J n G Y) {g : TG} {tt : TT} {te : TE} {vs : List Nat} {σ : L2.St} {H1 : Hp} {D : Addr} {Qd : Hp → Prop} (Pv : Nat → Hp → Prop) (h0 : Pv 0 (upd H1 D (SetSO P w D []))) (hG : ∀ i H, i ≤ n → Pv i H → G H)
    (hs : ∀ i x H H', i < n → Pv i H → Y i H x H' → g x (wipe σ vs) H' fun σ2 H2 => wipe σ2 vs = wipe σ vs ∧ tt σ2 H2 fun b H3 =>
      if b = true then te σ2 H3 fun y H4 => ∃ (z : Str) (zs : List Str), y = .str z ∧ H4 D = some (SetSO P w D zs) ∧ zs.length + 1 < scanBound ∧ Pv (i + 1) (upd H4 D (SetSO P w D (more zs z))) else Pv (i + 1) H3) (hd : ∀ H, Pv n H → Qd H) :
    ∃ W : Nat → Nat → Hp → Prop, (∃ m, W 0 m (upd H1 D (SetSO P w D []))) ∧ ∀ i m H, W i m H →
      (J.stop i H ∧ Qd H) ∨ (J.go i H ∧ ∃ Nx : Hp → Prop, (∀ H', Nx H' → ∃ m', m' < m ∧ W (i + 1) m' H') ∧ ∀ x H', J.yld i H x H' → g x (wipe σ vs) H' fun σ2 H2 => wipe σ2 vs = wipe σ vs ∧ tt σ2 H2 fun b H3 =>
        if b = true then te σ2 H3 fun y H4 => ∃ (z : Str) (zs : List Str), y = .str z ∧ H4 D = some (SetSO P w D zs) ∧ zs.length + 1 < scanBound ∧ Nx (upd H4 D (SetSO P w D (more zs z))) else Nx H3) := by
  refine ⟨fun i m H => m = n - i ∧ i ≤ n ∧ Pv i H, ⟨n, by simp, Nat.zero_le _, h0⟩, ?_⟩
  rintro i m H ⟨rfl, hi, p⟩
  have q := hG i H hi p
  by_cases hlt : i < n
  · exact .inr ⟨wk.goes i H hlt q, Pv (i + 1), fun H' p' => ⟨n - (i + 1), by omega, rfl, hlt, p'⟩, fun x H' y => hs i x H H' hlt p (wk.yields i H x H' hlt q y)⟩
  · have e : i = n := by omega
    subst e
    exact .inl ⟨wk.stops H q, hd H p⟩
/-- sorted of a set of texts: its texts, each once, in some order -/
def rSortS (P : Program) (w : World) : List V → Hp → VK → Prop := fun vs H Q => ∃ (a : Addr) (zs : List Str), vs = [V.ref a] ∧ H a = some (SetSO P w a zs) ∧ ∀ (ys : List Str) (p : Addr), ys.Perm zs → H p = none → Q (.ref p) (upd H p (.lst (ys.map V.str)))
theorem cr_sortS (hc : X.calm = true) (hu : X.A.units + 64 < cLine) : CallR X (.builtin "sorted") (rSortS X.prog X.w) := by
  intro pins s σ H vs us Q I r h
  obtain ⟨a, zs, rfl, ha, q⟩ := h
  obtain ⟨o, es, ep, t, ho, hex, hd, g, pm, nd, hb, hf, hr, hl⟩ := setSO_get I ha
  rw [Vals.ref1 r]
  refine Calls.call_function_entry kind_sorted plain_sorted entry_sorted (args_sorted1 _) ?_
  unfold Builtin.«sorted»
  refine wpAny_bind (m := checkCount "sorted" 1 1 _) (wpAny_pure ?_)
  refine wpAny_bind (collect_set (A := X.A.in1) (I.ok.hd hc) ⟨o, ho, hex.1, hd⟩ hf hb hr hl fun s1 us k1 hz g1 o1 pe => ?_)
  -- the texts as they come
  have tx : ∀ {us : List Value}, (∀ v ∈ us, ∃ z t, v = Value.str z t) → ∃ ys : List Str, Vals (ys.map V.str) us ∧ us.map (fun v => txtOf (0, v)) = ys := by
    intro us
    induction us with
    | nil => exact fun _ => ⟨[], .nil, rfl⟩
    | cons v us ih =>
      intro h
      obtain ⟨z, t, rfl⟩ := h v List.mem_cons_self
      obtain ⟨ys, h1, h2⟩ := ih fun u hu => h u (List.mem_cons_of_mem _ hu)
      exact ⟨z :: ys, .cons ⟨t, rfl⟩ h1, by rw [List.map_cons, h2]; rfl⟩
  obtain ⟨ys, r1, e1⟩ := tx (us := us) fun v hv => by
    obtain ⟨e, he, rfl⟩ := List.mem_map.mp (pe.mem_iff.mp hv)
    obtain ⟨z, t, h1, _⟩ := g e he
    exact ⟨z, t, h1⟩
  have p1 : ys.Perm zs := by
    rw [← e1]
    refine (pe.map _).trans ?_
    rw [List.map_map]
    exact pm
  have lz : us.length ≤ sizeLine := by
    rw [pe.length_eq, List.length_map, Array.length_toList]
    exact fits_of_scanBound hb
  refine wpAny_bind (wpAny_newList ?_ lz)
  have hoL : (s1.heap.push (seqObj "list" us.toArray 0)).get? s1.heap.objs.size = some (seqObj "list" us.toArray 0) := Heap.get?_push_size _ rfl
  have ev : ∀ {ys : List Str} {us : List Value}, Vals (ys.map V.str) us → EachIs (fun (v : Value) (z : Str) => RelV (.str z) v) us ys := by
    intro ys
    induction ys with
    | nil => intro us r; cases r; exact .nil
    | cons z ys ih => intro us r; cases r with | cons r t => exact .cons r (ih t)
  have ve : ∀ {us : List Value} {ys : List Str}, EachIs (fun (v : Value) (z : Str) => RelV (.str z) v) us ys → Vals (ys.map V.str) us := by
    intro us ys e
    induction e with
    | nil => exact .nil
    | cons r t ih => exact .cons r ih
  refine wpAny_bind (wpAny_holding (list_sort_data (s := { s1 with heap := s1.heap.push (seqObj "list" us.toArray 0) }) (enc := PyData.str) hoL (ev r1) ((ev r1).mono fun v z r => ?_) ?_ ?_ (by rw [← (ev r1).length]; exact lz) (fun z hz => ?_) fun out lo eo => ?_))
  · obtain ⟨t, rfl⟩ := r
    exact ⟨[], Reads.str .., fun h => nomatch h⟩
  · intro d hd d' hd'
    obtain ⟨z, _, rfl⟩ := List.mem_map.mp hd
    obtain ⟨z', _, rfl⟩ := List.mem_map.mp hd'
    rfl
  · refine .inr fun d hd => ?_
    obtain ⟨z, _, rfl⟩ := List.mem_map.mp hd
    exact ⟨(fun h => by cases h), (fun xs h => by cases h)⟩
  · show X.A.units + 1 + 1 + 0 < cLine
    omega
  obtain ⟨c, at1⟩ := sortedHeap_at (vs := us) (out := out.toArray) hoL
  have keep : ∀ b u, s.heap.get? b = some u → (sortedHeap (s1.heap.push (seqObj "list" us.toArray 0)) s1.heap.objs.size us out.toArray).get? b = some u := fun b u e => by
    have q := k1 b u e
    have hlt := Heap.lt_size q
    rw [sortedHeap_old (Nat.ne_of_lt hlt) (by rw [size_push']; exact Nat.lt_succ_of_lt hlt)]
    exact Heap.get?_push_of_some _ q
  have pp : (ys.mergeSort (dataLe false PyData.str)).Perm zs := (List.mergeSort_perm _ _).trans p1
  have hn : H s1.heap.objs.size = none := I.hok.fresh hz
  have hlen : ((ys.mergeSort (dataLe false PyData.str)).map V.str).length ≤ sizeLine := by
    rw [List.length_map, List.length_mergeSort, ← (ev r1).length]
    exact lz
  have J : Inv X pins σ (upd H s1.heap.objs.size (.lst ((ys.mergeSort (dataLe false PyData.str)).map V.str))) { s with heap := sortedHeap (s1.heap.push (seqObj "list" us.toArray 0)) s1.heap.objs.size us out.toArray, gens := s1.gens, drawn := s1.drawn, toks := s1.toks } :=
    I.call (ch := []) (Un.laid keep hz hn) (I.hok.laid keep hz ⟨hlen, out, c, ve eo, at1⟩) (by rw [g1]; exact I.bare) (fun _ z => nomatch z)
  refine wpAny_pure ⟨_, rfl, ?_⟩
  have e : ({ s1 with heap := sortedHeap (s1.heap.push (seqObj "list" us.toArray 0)) s1.heap.objs.size us out.toArray } : Shared) = { s with heap := sortedHeap (s1.heap.push (seqObj "list" us.toArray 0)) s1.heap.objs.size us out.toArray, gens := s1.gens, drawn := s1.drawn, toks := s1.toks } := by
    cases s1
    cases s
    cases o1
    rfl
  show ∃ x H', Inv X pins σ H' ({ s1 with heap := sortedHeap (s1.heap.push (seqObj "list" us.toArray 0)) s1.heap.objs.size us out.toArray } : Shared) ∧ _
  rw [e]
  exact ⟨.ref _, _, J, rfl, q _ _ pp hn⟩
end
end SX

/-! whom one may take from: what is told, as lists -/
namespace My
open PySem PySem.Spec PyProof.Rows L2 GX GxR
def dueOf : List (Str × List Int) → Str → List Int
  | [], _ => []
  | kv :: kvs, g => if kv.1 = g then kv.2 else dueOf kvs g
theorem dueOf_eq {g : Str} {dn : List Int} : ∀ {kvs : List (Str × List Int)}, (kvs.map (·.1)).Nodup → (g, dn) ∈ kvs → dueOf kvs g = dn
  | [], _, h => nomatch h
  | kv :: kvs, nd, h => by
    rw [List.map_cons, List.nodup_cons] at nd
    unfold dueOf
    rcases List.mem_cons.mp h with z | z
    · rw [← z, if_pos rfl]
    · rw [if_neg fun e => nd.1 (List.mem_map.mpr ⟨_, z, e.symm⟩)]
      exact dueOf_eq nd.2 z
def ofG (Rs : List (Gang × Int)) (g : Str) : List (Gang × Int) := Rs.filter fun R => decide (R.1.guild = g)
def lentOfG (kvs : List (Str × List Int)) (Rs : List (Gang × Int)) (g : Str) : List Str := (partRs (dueOf kvs g) (ofG Rs g)).2.1.map (·.name)
def lentIn (kvs : List (Str × List Int)) (Rs : List (Gang × Int)) (z : Str) : Bool := Rs.any fun R => decide (z ∈ lentOfG kvs Rs R.1.guild)
def gIn (a b c : Bool) : Option Str := if (a && (b || c)) = true then some "rank" else none
def gBey (a b c : Bool) : Option Str := if (b && c) = true then some "share" else if (b && a) = true then some "rank" else none
def oV : Option Str → V
  | some z => .str z
  | none => .non
/-- the ground for the other gang O -/
def groundOf (kvs : List (Str × List Int)) (Rs : List (Gang × Int)) (G O : Gang) : Option Str :=
  if O.guild = G.guild then gIn (decide (O.rank < G.rank)) (lentIn kvs Rs O.name) (ownB (dueOf kvs G.guild) (ofG Rs G.guild) G)
  else gBey (decide (O.rank < G.rank)) (lentIn kvs Rs O.name) (owedB (dueOf kvs G.guild) (ofG Rs G.guild) G)
def pairOf (kvs : List (Str × List Int)) (Rs : List (Gang × Int)) (ns : List Str) (G O : Gang) : List (Str × Str) :=
  match groundOf kvs Rs G O with
  | some z => if O.name ∈ ns then [(O.name, z)] else []
  | none => []
def mayL (kvs : List (Str × List Int)) (Rs : List (Gang × Int)) (ns : List Str) (G : Gang) : List (Str × Str) := ((ord Rs).map (·.1)).reverse.flatMap (pairOf kvs Rs ns G)
def TelAt (H : Hp) (t : Addr) (p : Str × Str) : Prop := H t = some (.tup [.str p.1, .str p.2])
theorem TelAt.kt {H H' : Hp} {t : Addr} {p : Str × Str} (k : KTu H H') (h : TelAt H t p) : TelAt H' t p := k _ _ h
/-- dues and rows as they are handed in -/
structure DR (K : PySem.W.Frag) (H : Hp) (d a : Addr) (wr : Nat) (kvs : List (Str × List Int)) (as : List Addr) (Rs : List (Gang × Int)) : Prop where
  dues : ∃ ps : List (Key × V), Rd H d (.dK ps) ∧ Paired (DueAt H) ps kvs
  keys : (kvs.map (·.1)).Nodup
  len : ∀ kv ∈ kvs, kv.2.length = wr
  w1 : 1 ≤ wr
  w8 : wr ≤ 8
  rows : SqL K H a (as.map V.ref)
  prs : Paired (RowAt H) as Rs
  good : Good2 Rs
  few : Rs.length ≤ 60
  want : ∀ R ∈ Rs, R.1.want.length = wr
  guild : ∀ R ∈ Rs, R.1.guild ∈ kvs.map (·.1)
theorem DR.fw {K : PySem.W.Frag} {Ts : List Addr} {H H' : Hp} {d a : Addr} {wr : Nat} {kvs : List (Str × List Int)} {as : List Addr} {Rs : List (Gang × Int)} (t : Tabs Ts H) (f : Fw Ts H H') (h : DR K H d a wr kvs as Rs) : DR K H' d a wr kvs as Rs := by
  obtain ⟨ps, h1, h2⟩ := h.dues
  refine ⟨⟨ps, ?_, h2.mono fun _ _ x => x.kt (f.kt t)⟩, h.keys, h.len, h.w1, h.w8, f.seqL t h.rows, h.prs.mono fun _ _ x => x.kt (f.kt t), h.good, h.few, h.want, h.guild⟩
  rcases h1 with e | ⟨od, e⟩
  · exact .inl (f.obj t e fun pp z => by cases z)
  · exact .inr ⟨od, f.obj t e fun pp z => by cases z⟩
theorem DR.get {K : PySem.W.Frag} {H : Hp} {d a : Addr} {wr : Nat} {kvs : List (Str × List Int)} {as : List Addr} {Rs : List (Gang × Int)} (h : DR K H d a wr kvs as Rs) {g : Str} (hg : g ∈ kvs.map (·.1)) :
    ∃ av, DGet H d (.str g) (some (.ref av)) ∧ H av = some (.tup ((dueOf kvs g).map V.int)) ∧ (dueOf kvs g).length = wr := by
  obtain ⟨ps, h1, h2⟩ := h.dues
  obtain ⟨av, dn, vv, mkv, ea⟩ := valV_due h2 h.keys hg
  have e := dueOf_eq h.keys mkv
  refine ⟨av, dgetR h1 vv, ?_, ?_⟩
  · rw [e]
    exact ea
  · rw [e]
    exact h.len _ mkv
def spGOf : Sp := fun vs H Q _ => ∃ (g : Addr) (G : Gang), vs = [.ref g] ∧ GangAt H g G ∧ Q (.str G.guild) H
def spGr (f : Bool → Bool → Bool → Option Str) : Sp := fun vs H Q _ => ∃ a b c : Bool, vs = [.bl a, .bl b, .bl c] ∧ Q (oV (f a b c)) H
def spLent (K : PySem.W.Frag) (Ts : List Addr) : Sp := fun vs H Q _ => ∃ (d a : Addr) (wr : Nat) (kvs : List (Str × List Int)) (as : List Addr) (Rs : List (Gang × Int)), vs = [.ref d, .ref a] ∧ DR K H d a wr kvs as Rs ∧ Tabs Ts H ∧
  ∀ p H' (qs : List (Key × V)), Fw Ts H H' → H p = none → H' p = some (.dK qs) → (∀ z : Str, (valV qs (Sum.inr z)).isSome = lentIn kvs Rs z) → Q (.ref p) H'
def spMay (K : PySem.W.Frag) (Ts : List Addr) : Sp := fun vs H Q _ => ∃ (d a n g : Addr) (wr : Nat) (kvs : List (Str × List Int)) (as : List Addr) (Rs : List (Gang × Int)) (ns : List Str) (G : Gang), vs = [.ref d, .ref a, .ref n, .ref g] ∧ DR K H d a wr kvs as Rs ∧ SqL K H n (ns.map V.str) ∧ GangAt H g G ∧ Fit (G, 0) ∧ G.want.length = wr ∧ G.guild ∈ kvs.map (·.1) ∧
  (∀ R ∈ Rs, R.1.name ≠ G.name) ∧ Tabs Ts H ∧ ∀ p H' ts, Fw Ts H H' → H p = none → H' p = some (.lst (ts.map V.ref)) → Paired (TelAt H') ts (mayL kvs Rs ns G) → Q (.ref p) H'
end My

/-! whom one may take from, by the laws' own reckoning -/
namespace My
open PySem PySem.Spec PyProof.Rows L2 GX GxR
def takenOf (kvs : List (Str × List Int)) (Rs : List (Gang × Int)) (G O : Gang) : List (Str × Str) :=
  match groundOf kvs Rs G O with
  | some z => [(O.name, z)]
  | none => []
def takenL (kvs : List (Str × List Int)) (Rs : List (Gang × Int)) (G : Gang) : List (Str × Str) := ((ord Rs).map (·.1)).reverse.flatMap (takenOf kvs Rs G)
theorem filter_flatMap {α β : Type} (p : β → Bool) (f : α → List β) : ∀ xs : List α, (xs.flatMap f).filter p = xs.flatMap fun x => (f x).filter p
  | [] => rfl
  | x :: xs => by
    rw [List.flatMap_cons, List.flatMap_cons, List.filter_append, filter_flatMap p f xs]
theorem may_taken (kvs : List (Str × List Int)) (Rs : List (Gang × Int)) (ns : List Str) (G : Gang) : mayL kvs Rs ns G = (takenL kvs Rs G).filter fun p => decide (p.1 ∈ ns) := by
  unfold mayL takenL
  rw [filter_flatMap]
  congr 1
  funext O
  unfold pairOf takenOf
  cases groundOf kvs Rs G O with
  | none => rfl
  | some z =>
    by_cases h : O.name ∈ ns
    · simp [h]
    · simp [h]
theorem mem_takenL {kvs : List (Str × List Int)} {Rs : List (Gang × Int)} {G : Gang} {p : Str × Str} (h : p ∈ takenL kvs Rs G) : ∃ R ∈ Rs, R.1.name = p.1 ∧ groundOf kvs Rs G R.1 = some p.2 := by
  obtain ⟨O, hO, hp⟩ := List.mem_flatMap.mp h
  obtain ⟨R, hR, rfl⟩ := List.mem_map.mp (List.mem_reverse.mp hO)
  unfold takenOf at hp
  split at hp
  · have := List.mem_singleton.mp hp
    subst this
    exact ⟨R, (ord_perm Rs).mem_iff.mp hR, rfl, by assumption⟩
  · exact (nomatch hp)
theorem may_all {kvs : List (Str × List Int)} {Rs : List (Gang × Int)} {ns : List Str} {G : Gang} (h : ∀ R ∈ Rs, R.1.name ∈ ns) : mayL kvs Rs ns G = takenL kvs Rs G := by
  rw [may_taken, List.filter_eq_self.mpr fun p hp => ?_]
  obtain ⟨R, hR, e, _⟩ := mem_takenL hp
  rw [← e]
  exact decide_eq_true (h R hR)
/-- all names that are lent, guild by guild -/
def lentAll (kvs : List (Str × List Int)) (Rs : List (Gang × Int)) (ks : List (Str × List Int)) : List Str := ks.flatMap fun kv => lentOfG kvs Rs kv.1
theorem lentG_row {kvs : List (Str × List Int)} {Rs : List (Gang × Int)} {g z : Str} (h : z ∈ lentOfG kvs Rs g) : ∃ R ∈ Rs, R.1.guild = g ∧ R.1.name = z := by
  obtain ⟨F, hF, e⟩ := List.mem_map.mp h
  obtain ⟨R, hR, rfl⟩ := partRs_mem (.inr hF)
  obtain ⟨h1, h2⟩ := List.mem_filter.mp hR
  exact ⟨R, h1, of_decide_eq_true h2, e⟩
theorem lentAll_mem {kvs : List (Str × List Int)} {Rs : List (Gang × Int)} (hg : ∀ R ∈ Rs, R.1.guild ∈ kvs.map (·.1)) (z : Str) : decide (z ∈ lentAll kvs Rs kvs) = lentIn kvs Rs z := by
  unfold lentAll lentIn
  cases e : Rs.any fun R => decide (z ∈ lentOfG kvs Rs R.1.guild) with
  | true =>
    obtain ⟨R, hR, h⟩ := List.any_eq_true.mp e
    obtain ⟨kv, hkv, ek⟩ := List.mem_map.mp (hg R hR)
    refine decide_eq_true (List.mem_flatMap.mpr ⟨kv, hkv, ?_⟩)
    rw [ek]
    exact of_decide_eq_true h
  | false =>
    refine decide_eq_false fun q => ?_
    obtain ⟨kv, hkv, h⟩ := List.mem_flatMap.mp q
    obtain ⟨R, hR, h1, h2⟩ := lentG_row h
    have := List.any_eq_false.mp e R hR
    rw [h1] at this
    exact this (decide_eq_true h)
theorem lentG_len (kvs : List (Str × List Int)) (Rs : List (Gang × Int)) (g : Str) : (lentOfG kvs Rs g).length ≤ Rs.length := by
  unfold lentOfG
  rw [List.length_map]
  have h1 := partRs_len (dueOf kvs g) (ofG Rs g)
  have h2 : (ofG Rs g).length ≤ Rs.length := List.length_filter_le _ _
  omega
theorem lentAll_len (kvs : List (Str × List Int)) (Rs : List (Gang × Int)) : ∀ ks : List (Str × List Int), (lentAll kvs Rs ks).length ≤ ks.length * Rs.length
  | [] => by simp [lentAll]
  | kv :: ks => by
    have ih := lentAll_len kvs Rs ks
    have h := lentG_len kvs Rs kv.1
    unfold lentAll at ih ⊢
    rw [List.flatMap_cons, List.length_append, List.length_cons, Nat.succ_mul]
    omega
/-- locked or not, what is read of dues and rows stands -/
theorem DR.same {K : PySem.W.Frag} {H H' : Hp} {d a : Addr} {wr : Nat} {kvs : List (Str × List Int)} {as : List Addr} {Rs : List (Gang × Int)} (s : Same H H') (h : DR K H d a wr kvs as Rs) : DR K H' d a wr kvs as Rs := by
  obtain ⟨ps, h1, h2⟩ := h.dues
  refine ⟨⟨ps, ?_, h2.mono fun _ _ x => x.kt (Same.kt s)⟩, h.keys, h.len, h.w1, h.w8, s.seq h.rows, h.prs.mono fun _ _ x => x.same s, h.good, h.few, h.want, h.guild⟩
  rcases h1 with e | ⟨od, e⟩
  · exact .inl (s _ _ e)
  · exact .inr ⟨od, s _ _ e⟩
def spTaken (K : PySem.W.Frag) : Sp := fun vs H Q _ => ∃ (d a g : Addr) (wr : Nat) (kvs : List (Str × List Int)) (as : List Addr) (Rs : List (Gang × Int)) (G : Gang), vs = [.ref d, .ref a, .ref g] ∧ DR K H d a wr kvs as Rs ∧ (∃ ps : List (Key × V), H d = some (.dK ps)) ∧ H a = some (.lst (as.map V.ref)) ∧ kvs.length ≤ 12 ∧ GangAt H g G ∧ Fit (G, 0) ∧ G.want.length = wr ∧ G.guild ∈ kvs.map (·.1) ∧
  ∀ p H' ts, Same H H' → H p = none → H' p = some (.lst (ts.map V.ref)) → Paired (TelAt H') ts (takenL kvs Rs G) → Q (.ref p) H'
end My

/-! dues, rows and a gang, as the laws hand them in -/
namespace My
open PySem PySem.Spec PyProof.Rows L2 GX GxR
structure RI (K : PySem.W.Frag) (H : Hp) (d a g : Addr) (wr : Nat) (kvs : List (Str × List Int)) (as : List Addr) (Rs : List (Gang × Int)) (G : Gang) : Prop where
  dr : DR K H d a wr kvs as Rs
  dd : ∃ ps : List (Key × V), H d = some (.dK ps)
  la : H a = some (.lst (as.map V.ref))
  l12 : kvs.length ≤ 12
  at_ : GangAt H g G
  fit : Fit (G, 0)
  wl : G.want.length = wr
  gg : G.guild ∈ kvs.map (·.1)
  no : ∀ R ∈ Rs, R.1.name ≠ G.name
theorem RI.fw {K : PySem.W.Frag} {Ts : List Addr} {H H' : Hp} {d a g : Addr} {wr : Nat} {kvs : List (Str × List Int)} {as : List Addr} {Rs : List (Gang × Int)} {G : Gang} (t : Tabs Ts H) (f : Fw Ts H H') (h : RI K H d a g wr kvs as Rs G) : RI K H' d a g wr kvs as Rs G := by
  obtain ⟨ps, hd⟩ := h.dd
  exact ⟨h.dr.fw t f, ⟨ps, f.obj t hd fun pp z => by cases z⟩, f.lst t h.la, h.l12, h.at_.kt (f.kt t), h.fit, h.wl, h.gg, h.no⟩
theorem RI.same {K : PySem.W.Frag} {H H' : Hp} {d a g : Addr} {wr : Nat} {kvs : List (Str × List Int)} {as : List Addr} {Rs : List (Gang × Int)} {G : Gang} (s : Same H H') (h : RI K H d a g wr kvs as Rs G) : RI K H' d a g wr kvs as Rs G := by
  obtain ⟨ps, hd⟩ := h.dd
  exact ⟨h.dr.same s, ⟨ps, s _ _ hd⟩, s _ _ h.la, h.l12, h.at_.same s, h.fit, h.wl, h.gg, h.no⟩
def spRI (K : PySem.W.Frag) (Ts : List Addr) : Sp := fun vs H Q _ => ∃ (d a g : Addr) (wr : Nat) (kvs : List (Str × List Int)) (as : List Addr) (Rs : List (Gang × Int)) (G : Gang), vs = [.ref d, .ref a, .ref g] ∧ RI K H d a g wr kvs as Rs G ∧ Tabs Ts H ∧ ∀ H', Fw Ts H H' → Q (.bl true) H'
theorem prs_tels {H : Hp} {n : Nat} : ∀ {ts us : List Addr} {ps : List (Str × Str)}, Paired (TelAt H) ts ps → Paired (TelAt H) us ps → Prs (Sm H (n + 1)) (ts.map V.ref) (us.map V.ref)
  | _, _, _, .nil, .nil => .nil
  | _, _, _, .cons h t, .cons h' t' => .cons (sm_tup h h' (by show 2 < 100000; decide) (.cons (sm_str _) (.cons (sm_str _) .nil))) (prs_tels t t')
theorem may_len (kvs : List (Str × List Int)) (Rs : List (Gang × Int)) (ns : List Str) (G : Gang) : (mayL kvs Rs ns G).length ≤ Rs.length := by
  have h : ∀ Gs : List Gang, (Gs.flatMap (pairOf kvs Rs ns G)).length ≤ Gs.length := fun Gs => by
    induction Gs with
    | nil => exact Nat.le_refl _
    | cons O Gs ih =>
      rw [List.flatMap_cons, List.length_append, List.length_cons]
      have : (pairOf kvs Rs ns G O).length ≤ 1 := by
        unfold pairOf
        split
        · split
          · exact Nat.le_refl _
          · exact Nat.zero_le _
        · exact Nat.zero_le _
      omega
  have := h ((ord Rs).map (·.1)).reverse
  rw [List.length_reverse, List.length_map, (ord_perm Rs).length_eq] at this
  exact this
end My

/-! the state's dues, rows and gang are fit to be handed in -/
namespace My
open PySem PySem.Spec PyProof.Rows L2 GX GxR
section
variable {K : PySem.W.Frag} {H : Hp} {d r g : Addr} {gs : List Str} {wr : Nat} {kvs : List (Str × List Int)} {Rs : List (Gang × Int)} {G : Gang}
theorem StateAt.kn (St : StateAt H d r g gs wr kvs Rs G) : (kvs.map (·.1)).Nodup := by
  rw [St.keys]
  exact St.gsok.nd
theorem StateAt.good (St : StateAt H d r g gs wr kvs Rs G) : Good2 Rs := good_state St.gsok St.w8 St.rok
theorem StateAt.l12 (St : StateAt H d r g gs wr kvs Rs G) : kvs.length ≤ 12 := by
  have := St.gsok.l12
  rw [← St.keys, List.length_map] at this
  exact this
theorem StateAt.fitG (St : StateAt H d r g gs wr kvs Rs G) : Fit (G, 0) := by
  refine fit_of St.gok St.gsok St.w8 ?_
  have : ∀ z ∈ (["z", "aaaaaaa", "zed"] : List Str), PySem.PyData.strOk z = true := by decide +kernel
  exact this _ St.gname
theorem StateAt.row (St : StateAt H d r g gs wr kvs Rs G) {R : Gang × Int} (h : R ∈ Rs) : GangOk gs wr R.1 := by
  obtain ⟨i, hi⟩ := List.mem_iff_getElem?.mp h
  exact (St.rok.2 i R hi).ok
theorem StateAt.no (St : StateAt H d r g gs wr kvs Rs G) : ∀ R ∈ Rs, R.1.name ≠ G.name := fun R hR z => by
  obtain ⟨i, hi⟩ := List.mem_iff_getElem?.mp hR
  have hi' : i < Rs.length := (List.getElem?_eq_some_iff.mp hi).1
  have lR := St.rok.1
  have nn := (St.rok.2 i R hi).name
  have off := (names_ok1.2 _ (rowName_mem (i := i) (by omega))).2.2
  rw [← nn, z] at off
  exact absurd St.gname off
theorem StateAt.same {H' : Hp} (St : StateAt H d r g gs wr kvs Rs G) (s : Same H H') : StateAt H' d r g gs wr kvs Rs G :=
  ⟨St.gsok, St.w1, St.w8, St.dues.kt (Same.kt s) (fun o h => s _ _ h), St.keys, St.amts, St.rows.kt (Same.kt s) (fun o h => s _ _ h), St.rok, St.gang.same s, St.gok, St.gname⟩
theorem StateAt.fw {Ts : List Addr} {H' : Hp} (St : StateAt H d r g gs wr kvs Rs G) (t : Tabs Ts H) (f : Fw Ts H H') : StateAt H' d r g gs wr kvs Rs G := by
  obtain ⟨ps, h1, h2⟩ := St.dues
  obtain ⟨as, h3, h4⟩ := St.rows
  exact ⟨St.gsok, St.w1, St.w8, ⟨ps, f.obj t h1 (fun pp z => by cases z), h2.mono fun _ _ x => x.kt (f.kt t)⟩, St.keys, St.amts, ⟨as, f.lst t h3, h4.mono fun _ _ x => x.kt (f.kt t)⟩, St.rok, St.gang.kt (f.kt t), St.gok, St.gname⟩
/-- rows of the state, in a list of their own, and a gang beside them -/
theorem StateAt.dr (St : StateAt H d r g gs wr kvs Rs G) {a : Addr} {bs : List Addr} {Ss : List (Gang × Int)} (ha : H a = some (.lst (bs.map V.ref))) (hp : Paired (RowAt H) bs Ss) (hs : ∀ R ∈ Ss, R ∈ Rs) (good : Good2 Ss) (few : Ss.length ≤ 60) : DR K H d a wr kvs bs Ss := by
  obtain ⟨ps, h1, h2⟩ := St.dues
  refine ⟨⟨ps, .inl h1, h2⟩, St.kn, fun kv h => (St.amts kv h).2, St.w1, St.w8, SqL.of ha, hp, good, few, fun R hR => (St.row (hs R hR)).wlen, fun R hR => ?_⟩
  rw [St.keys]
  exact (St.row (hs R hR)).guild
theorem StateAt.ri (St : StateAt H d r g gs wr kvs Rs G) {a : Addr} {bs : List Addr} {Ss : List (Gang × Int)} (ha : H a = some (.lst (bs.map V.ref))) (hp : Paired (RowAt H) bs Ss) (hs : ∀ R ∈ Ss, R ∈ Rs) (good : Good2 Ss) (few : Ss.length ≤ 60) : RI K H d a g wr kvs bs Ss G := by
  obtain ⟨ps, h1, h2⟩ := St.dues
  refine ⟨St.dr ha hp hs good few, ⟨ps, h1⟩, ha, St.l12, St.gang, St.fitG, St.gok.wlen, ?_, fun R hR => St.no R (hs R hR)⟩
  rw [St.keys]
  exact St.gok.guild
/-- one of the rows' own gangs beside the others -/
theorem StateAt.ri1 (St : StateAt H d r g gs wr kvs Rs G) {a o : Addr} {bs : List Addr} {Ss : List (Gang × Int)} {O : Gang × Int} (hO : O ∈ Rs) (hg : GangAt H o O.1) (no : ∀ R ∈ Ss, R.1.name ≠ O.1.name) (ha : H a = some (.lst (bs.map V.ref))) (hp : Paired (RowAt H) bs Ss) (hs : ∀ R ∈ Ss, R ∈ Rs) (good : Good2 Ss) (few : Ss.length ≤ 60) : RI K H d a o wr kvs bs Ss O.1 := by
  obtain ⟨ps, h1, h2⟩ := St.dues
  have ft := St.good.fit O hO
  refine ⟨St.dr ha hp hs good few, ⟨ps, h1⟩, ha, St.l12, hg, ⟨ft.name, ft.guild, ft.how, ft.wlen, ft.amt, ft.m0, ft.m60⟩, (St.row hO).wlen, ?_, no⟩
  rw [St.keys]
  exact (St.row hO).guild
end
/-! rows turned about -/
theorem paired_app {α β : Type} {R : α → β → Prop} : ∀ {xs : List α} {ys : List β} {us : List α} {vs : List β}, Paired R xs ys → Paired R us vs → Paired R (xs ++ us) (ys ++ vs)
  | _, _, _, _, .nil, h => h
  | _, _, _, _, .cons r t, h => .cons r (paired_app t h)
theorem paired_drop {α β : Type} {R : α → β → Prop} : ∀ {xs : List α} {ys : List β}, Paired R xs ys → ∀ m, Paired R (xs.drop m) (ys.drop m)
  | _, _, .nil, m => by
    rw [List.drop_nil, List.drop_nil]
    exact .nil
  | _, _, .cons h t, 0 => .cons h t
  | _, _, .cons h t, m + 1 => paired_drop t m
theorem rot_perm {α : Type} (xs : List α) (m : Nat) : (xs.drop m ++ xs.take m).Perm xs := by
  have h := List.perm_append_comm (l₁ := xs.drop m) (l₂ := xs.take m)
  rw [List.take_append_drop] at h
  exact h
/-- a box that is asked is no other thing's business -/
theorem Fw.box {Ts : List Addr} {H H1 H2 : Hp} {b : Addr} (t : Tabs Ts H) (f : Fw Ts H H1) (n : H b = none) (k : Kp [b] H1 H2) : Fw Ts H H2 := by
  refine ⟨fun x o nx e => k x o (fun z => ?_) (f.kp x o nx e), fun T hT => ?_⟩
  · rw [List.mem_singleton.mp z, n] at e
    cases e
  · refine TabG.kp k (fun z => ?_) (f.tabs T hT)
    obtain ⟨ps, h1, _⟩ := t T hT
    rw [List.mem_singleton.mp z, n] at h1
    cases h1
theorem duePut_mem {kvs : List (Str × List Int)} {g : Str} {ns : List Int} {kv : Str × List Int} (h : kv ∈ duePut kvs g ns) : kv ∈ kvs ∨ kv.2 = ns := by
  obtain ⟨x, hx, e⟩ := List.mem_map.mp h
  split at e
  · exact .inr (by rw [← e])
  · exact .inl (by rw [← e]; exact hx)
end My

namespace My
open PySem PySem.Spec PyProof.Rows L2 GX GxR
abbrev s_scNothing : Stmt := topS 1
abbrev n_scNothing : List Str := ["wares"]
theorem scNothing : FnScope n_scNothing ["wares"] (defScope s_scNothing) := ⟨rfl, rfl, rfl, by decide +kernel, rfl, by decide +kernel, by decide +kernel⟩
abbrev s_scSum : Stmt := topS 2
abbrev n_scSum : List Str := ["one", "other", "a", "b"]
theorem scSum : FnScope n_scSum ["one", "other"] (defScope s_scSum) := ⟨rfl, rfl, rfl, by decide +kernel, rfl, by decide +kernel, by decide +kernel⟩
abbrev s_scLess : Stmt := topS 3
abbrev n_scLess : List Str := ["one", "other", "a", "b"]
theorem scLess : FnScope n_scLess ["one", "other"] (defScope s_scLess) := ⟨rfl, rfl, rfl, by decide +kernel, rfl, by decide +kernel, by decide +kernel⟩
abbrev s_scFits : Stmt := topS 4
abbrev n_scFits : List Str := ["one", "other", "a", "b"]
theorem scFits : FnScope n_scFits ["one", "other"] (defScope s_scFits) := ⟨rfl, rfl, rfl, by decide +kernel, rfl, by decide +kernel, by decide +kernel⟩
abbrev s_scTurns : Stmt := topS 8
abbrev n_scTurns : List Str := ["rows", "turns", "key", "begin", "end", "amount"]
theorem scTurns : FnScope n_scTurns ["rows"] (defScope s_scTurns) := ⟨rfl, rfl, rfl, by decide +kernel, rfl, by decide +kernel, by decide +kernel⟩
abbrev s_scLoads : Stmt := topS 9
abbrev n_scLoads : List Str := ["wares", "rows", "loads", "load", "time", "turn", "amount", "edges", "begin", "end"]
theorem scLoads : FnScope n_scLoads ["wares", "rows"] (defScope s_scLoads) := ⟨rfl, rfl, rfl, by decide +kernel, rfl, by decide +kernel, by decide +kernel⟩
abbrev s_scFirst : Stmt := topS 10
abbrev n_scFirst : List Str := ["room", "rows", "begin", "end", "load"]
theorem scFirst : FnScope n_scFirst ["room", "rows"] (defScope s_scFirst) := ⟨rfl, rfl, rfl, by decide +kernel, rfl, by decide +kernel, by decide +kernel⟩
abbrev s_scOverb : Stmt := topS 12
abbrev n_scOverb : List Str := ["room", "rows"]
theorem scOverb : FnScope n_scOverb ["room", "rows"] (defScope s_scOverb) := ⟨rfl, rfl, rfl, by decide +kernel, rfl, by decide +kernel, by decide +kernel⟩
section
variable {P : Program} {w : World} {K : PySem.W.Frag} {mg : Str → Option Value} {base : Heap}
theorem ok_nothing {f : Addr} {fd : FuncData} {k : Nat} (F : Fun K "nothing_of" "nothing_of" s_scNothing f fd) : FnOk P w K mg base CX0 (k + 1) f fd ["wares"] spNothing := by
  refine F.ok scNothing (fun vs H Q E h => ?_) (fun cdv A outer s H vs Q E hr h => ?_)
  · obtain ⟨k, rfl, _⟩ := h
    rfl
  · obtain ⟨k, rfl, h1, h2, q⟩ := h
    refine ⟨_, pss_one (ps_ret (pe_op op_repU (pe_tup (pa_cons pe_int pa_nil)) (pv 0))), ?_⟩
    refine ⟨by show 1 ≤ sizeLine; decide, fun t nt => ⟨_, rfl, t, (k : Int), [.int 0], rfl, rfl, SqT.of upd_same, by simp, by omega, by omega, by decide, fun z => ?_, fun z p np => ?_⟩⟩
    · have z' : k = 1 := by omega
      subst z'
      exact q t _ (same_upd nt) nt upd_same
    · refine q p _ ((same_upd nt).trans (same_upd np)) ((same_upd nt).free np) ?_
      rw [upd_same, Int.toNat_natCast, rep_flat, List.map_replicate]
theorem ok_sum {f : Addr} {fd : FuncData} {k : Nat} (F : Fun K "amount_sum" "amount_sum" s_scSum f fd) (X : Txt mg) : FnOk P w K mg base CX0 (k + 1) f fd ["one", "other"] (spZipS K (· + ·)) := by
  refine F.ok scSum (fun vs H Q E h => ?_) (fun cdv A outer s H vs Q E hr h => ?_)
  · obtain ⟨a, b, xs, ys, rfl, _⟩ := h
    rfl
  · obtain ⟨a, b, xs, ys, rfl, hX, hY, hl, q⟩ := h
    refine ⟨_, (pss_one (ps_ret (pe_callTy call_tuple_of (by rfl) X.tup bt_tuple (pa_cons (pe_lc (own := [("a", 2), ("b", 3)]) (g := (gTup K 2 (gCons (gName 2) (gCons (gName 3) gNil)))) (tt := tYes) rfl scSum.nd (RZ.pi_zipA (by rfl) X.zip (pa_cons (pv 0) (pa_cons (pv 1) pa_nil))) (blkOk_by (own := [("a", 2), ("b", 3)]) (N := n_scSum) (sc := defScope s_scSum) (by decide +kernel)) (fun _ _ _ _ _ => (pg_tup rfl (pgs_cons (pg_name (i := 2) scSum.nd rfl (.inl rfl)) (pgs_cons (pg_name (i := 3) scSum.nd rfl (.inl rfl)) pgs_nil)))) (fun _ _ _ _ _ => pts_nil) (fun _ _ _ _ _ => (pe_op op_add (pv 2) (pv 3)))) pa_nil)))), ?_⟩
    refine ⟨_, rfl, _, rfl, a, b, _, _, rfl, .inr ⟨hX, hY, fun D nD => lc_it (walk_zipT (xs := xs.map V.int) (ys := ys.map V.int) rfl) (fun i H' => Same H H' ∧ H' D = some (.lst (((List.zipWith (· + ·) xs ys).take i).map V.int))) ⟨same_upd nD, upd_same⟩ (fun i H' _ p => ⟨same_seqT p.1 hX, same_seqT p.1 hY⟩) (fun i v H3 H4 hi p y => ?_) (fun H3 p => ?_)⟩⟩
    · obtain ⟨T1, x1, x2, rfl, nT, rfl, g1, g2⟩ := y
      obtain ⟨p1, p2⟩ := p
      obtain ⟨x, hx, rfl⟩ := get_int g1
      obtain ⟨y, hy, rfl⟩ := get_int g2
      have s3 : Same H3 (upd H3 T1 (.tup [.int x, .int y])) := same_upd nT
      have hi2 : i < xs.length := (List.getElem?_eq_some_iff.mp hx).1
      refine ⟨T1, [.int x, .int y], rfl, SqT.of upd_same, rfl, .int x, [.int y], rfl, .int y, [], rfl, rfl, rfl, ?_⟩
      refine ⟨_, rfl, _, rfl, x, y, rfl, rfl, _, s3 _ _ p2, ?_, same_putA (p1.trans s3) nD, ?_⟩
      · rw [List.length_map, List.length_take]
        exact small1000 (by omega)
      · rw [upd_same, zw_take hx hy, List.map_append]
        rfl
    · obtain ⟨p1, p2⟩ := p
      rw [List.take_of_length_le (by rw [List.length_zipWith, List.length_map, List.length_map]; exact Nat.le_refl _)] at p2
      refine ⟨D, _, rfl, .inl ⟨SqL.of p2, fun d nd => ?_⟩⟩
      exact q d _ (p1.trans (same_upd nd)) (p1.free nd) upd_same
theorem ok_less {f : Addr} {fd : FuncData} {k : Nat} (F : Fun K "amount_less" "amount_less" s_scLess f fd) (X : Txt mg) : FnOk P w K mg base CX0 (k + 1) f fd ["one", "other"] (spZipS K (· - ·)) := by
  refine F.ok scLess (fun vs H Q E h => ?_) (fun cdv A outer s H vs Q E hr h => ?_)
  · obtain ⟨a, b, xs, ys, rfl, _⟩ := h
    rfl
  · obtain ⟨a, b, xs, ys, rfl, hX, hY, hl, q⟩ := h
    refine ⟨_, (pss_one (ps_ret (pe_callTy call_tuple_of (by rfl) X.tup bt_tuple (pa_cons (pe_lc (own := [("a", 2), ("b", 3)]) (g := (gTup K 2 (gCons (gName 2) (gCons (gName 3) gNil)))) (tt := tYes) rfl scLess.nd (RZ.pi_zipA (by rfl) X.zip (pa_cons (pv 0) (pa_cons (pv 1) pa_nil))) (blkOk_by (own := [("a", 2), ("b", 3)]) (N := n_scLess) (sc := defScope s_scLess) (by decide +kernel)) (fun _ _ _ _ _ => (pg_tup rfl (pgs_cons (pg_name (i := 2) scLess.nd rfl (.inl rfl)) (pgs_cons (pg_name (i := 3) scLess.nd rfl (.inl rfl)) pgs_nil)))) (fun _ _ _ _ _ => pts_nil) (fun _ _ _ _ _ => (pe_op op_sub (pv 2) (pv 3)))) pa_nil)))), ?_⟩
    refine ⟨_, rfl, _, rfl, a, b, _, _, rfl, .inr ⟨hX, hY, fun D nD => lc_it (walk_zipT (xs := xs.map V.int) (ys := ys.map V.int) rfl) (fun i H' => Same H H' ∧ H' D = some (.lst (((List.zipWith (· - ·) xs ys).take i).map V.int))) ⟨same_upd nD, upd_same⟩ (fun i H' _ p => ⟨same_seqT p.1 hX, same_seqT p.1 hY⟩) (fun i v H3 H4 hi p y => ?_) (fun H3 p => ?_)⟩⟩
    · obtain ⟨T1, x1, x2, rfl, nT, rfl, g1, g2⟩ := y
      obtain ⟨p1, p2⟩ := p
      obtain ⟨x, hx, rfl⟩ := get_int g1
      obtain ⟨y, hy, rfl⟩ := get_int g2
      have s3 : Same H3 (upd H3 T1 (.tup [.int x, .int y])) := same_upd nT
      have hi2 : i < xs.length := (List.getElem?_eq_some_iff.mp hx).1
      refine ⟨T1, [.int x, .int y], rfl, SqT.of upd_same, rfl, .int x, [.int y], rfl, .int y, [], rfl, rfl, rfl, ?_⟩
      refine ⟨_, rfl, _, rfl, x, y, rfl, rfl, _, s3 _ _ p2, ?_, same_putA (p1.trans s3) nD, ?_⟩
      · rw [List.length_map, List.length_take]
        exact small1000 (by omega)
      · rw [upd_same, zw_take hx hy, List.map_append]
        rfl
    · obtain ⟨p1, p2⟩ := p
      rw [List.take_of_length_le (by rw [List.length_zipWith, List.length_map, List.length_map]; exact Nat.le_refl _)] at p2
      refine ⟨D, _, rfl, .inl ⟨SqL.of p2, fun d nd => ?_⟩⟩
      exact q d _ (p1.trans (same_upd nd)) (p1.free nd) upd_same
theorem ok_fits {f c T : Addr} {fd : FuncData} {k : Nat} (F : FunC K "amount_fits" "amount_fits" s_scFits f fd c) (X : Txt mg) (TB : TabB base mg c T) : FnOk P w K mg base CX0 (k + 1) f fd ["one", "other"] (spFits K T) := by
  refine F.ok scFits (fun vs H Q E h => ?_) (fun A outer s H vs Q E hr h => ?_)
  · obtain ⟨a, b, xs, ys, rfl, _⟩ := h
    rfl
  · obtain ⟨a, b, xs, ys, rfl, hX, hY, hT, q⟩ := h
    refine ⟨_, pss_one (ps_ret (pe_allG (by rfl) X.all (by decide +kernel) (pgn_zip hr TB rfl (genS_of (by decide +kernel)) rfl (by decide) (by rfl) X.zip (pa_cons (pv 0) (pa_cons (pv 1) pa_nil)) (elt_le rfl rfl rfl) (fun _ => rfl)))), ?_⟩
    refine ⟨_, rfl, _, rfl, a, b, _, _, rfl, hX, hY, hT, zip_ints xs ys, _, zip_bl (op := fun i j => decide (i ≤ j)) (fun _ _ => rfl) xs ys, fun H2 hT2 => ?_⟩
    exact q H2 hT2.1 (kp_of_tabbed hT2)
theorem turn_step {H H' : Hp} {D : Addr} {us : List Addr} {Us : List Tn} {u : Tn} {T p : Addr} (nT : H T = none) (hp : H p = some (.tup (u.am.map V.int))) (eD : H D = some (.lst (us.map V.ref))) (pr : Paired (TnAt H) us Us) (e : H' = upd (upd H T (.tup [.int u.t, .int u.k, .ref p])) D (.lst (us.map V.ref ++ [.ref T]))) :
    H' D = some (.lst ((us ++ [T]).map V.ref)) ∧ Paired (TnAt H') (us ++ [T]) (Us ++ [u]) := by
  have k1 : KTu H (upd H T (.tup [.int u.t, .int u.k, .ref p])) := kt_new nT
  have eD1 := same_upd (o := .tup [.int u.t, .int u.k, .ref p]) nT _ _ eD
  have k2 : KTu (upd H T (.tup [.int u.t, .int u.k, .ref p])) H' := by
    rw [e]
    exact kt_put eD1 (fun xs z => by cases z)
  refine ⟨by rw [e, upd_same, List.map_append]; rfl, Paired.snoc (pr.mono fun _ _ x => x.kt (k1.trans k2)) ⟨p, k2 _ _ upd_same, k2 _ _ (k1 _ _ hp)⟩⟩
set_option maxHeartbeats 2000000 in
theorem ok_turns {f : Addr} {fd : FuncData} {k : Nat} {tb te : Tok} (F : Fun K "turns_of" "turns_of" s_scTurns f fd) (mSorted : mg "sorted" = none) (mB : mg "BEGINS" = some (.int 1 tb)) (mE : mg "ENDS" = some (.int 0 te)) :
    FnOk P w K mg base CX0 (k + 1) f fd ["rows"] (spTurns K) := by
  refine F.ok scTurns (fun vs H Q E h => ?_) (fun cdv A outer s H vs Q E hr h => ?_)
  · obtain ⟨a, as, rs, rfl, _⟩ := h
    rfl
  · obtain ⟨a, as, rs, rfl, hA, prs, few, q⟩ := h
    have la : as.length = rs.length := prs.length
    refine ⟨_, (pss_cons (ps_setLc (i := 1) (own := [("key", 2), ("begin", 3), ("end", 4), ("amount", 5)]) (g := (gTup K 4 (gCons (gName 2) (gCons (gName 3) (gCons (gName 4) (gCons (gName 5) gNil)))))) (tt := tYes) rfl scTurns.nd rfl rfl (sw_true rfl rfl rfl (by decide +kernel)) (pi_list (pv 0)) (blkOk_by (own := [("key", 2), ("begin", 3), ("end", 4), ("amount", 5)]) (N := n_scTurns) (sc := defScope s_scTurns) (by decide +kernel)) (fun _ _ _ _ _ => (pg_tup rfl (pgs_cons (pg_name (i := 2) scTurns.nd rfl (.inl rfl)) (pgs_cons (pg_name (i := 3) scTurns.nd rfl (.inl rfl)) (pgs_cons (pg_name (i := 4) scTurns.nd rfl (.inl rfl)) (pgs_cons (pg_name (i := 5) scTurns.nd rfl (.inl rfl)) pgs_nil)))))) (fun _ _ _ _ _ => pts_nil) (fun _ _ _ _ _ => (pe_tup (pa_cons (pv 3) (pa_cons (pe_glob (v := .int 1) (by rfl) mB ⟨_, rfl⟩) (pa_cons (pv 5) pa_nil))))))
      (pss_cons (ps_aug (i := 1) scTurns.nd rfl (.inl rfl) (pe_lc (own := [("key", 2), ("begin", 3), ("end", 4), ("amount", 5)]) (g := (gTup K 4 (gCons (gName 2) (gCons (gName 3) (gCons (gName 4) (gCons (gName 5) gNil)))))) (tt := tYes) rfl scTurns.nd (pi_list (pv 0)) (blkOk_by (own := [("key", 2), ("begin", 3), ("end", 4), ("amount", 5)]) (N := n_scTurns) (sc := defScope s_scTurns) (by decide +kernel)) (fun _ _ _ _ _ => (pg_tup rfl (pgs_cons (pg_name (i := 2) scTurns.nd rfl (.inl rfl)) (pgs_cons (pg_name (i := 3) scTurns.nd rfl (.inl rfl)) (pgs_cons (pg_name (i := 4) scTurns.nd rfl (.inl rfl)) (pgs_cons (pg_name (i := 5) scTurns.nd rfl (.inl rfl)) pgs_nil)))))) (fun _ _ _ _ _ => pts_nil) (fun _ _ _ _ _ => (pe_tup (pa_cons (pv 4) (pa_cons (pe_glob (v := .int 0) (by rfl) mE ⟨_, rfl⟩) (pa_cons (pv 5) pa_nil)))))) iop_ext)
      (pss_one (ps_ret (pe_callB (cr_sortD hr.units) (by rfl) mSorted (by decide +kernel) (pa_cons (pv 1) pa_nil)))))), ?_⟩
    refine ⟨_, rfl, a, rfl, ⟨_, hA⟩, fun D nD => ?_⟩
    refine lc_list (K := K) (a := a) (xs := as.map V.ref) (fun i H' => Same H H' ∧ ∃ us, H' D = some (.lst (us.map V.ref)) ∧ Paired (TnAt H') us ((rs.take i).map begT))
      ⟨same_upd nD, [], upd_same, .nil⟩ (fun i H' _ p => p.1.seq hA) (fun i x H3 hx p => ?_) (fun H3 p => ?_)
    · obtain ⟨p1, us, p2, p3⟩ := p
      obtain ⟨ra, hra, rfl⟩ := map_get hx
      obtain ⟨R, hR, am, r1, r2⟩ := paired_get prs hra
      have lu := p3.length
      rw [List.length_map, List.length_take] at lu
      refine ⟨ra, _, rfl, SqT.of (p1 _ _ r1), rfl, _, _, rfl, _, _, rfl, _, _, rfl, _, _, rfl, rfl, rfl, ?_⟩
      refine ⟨_, rfl, _, rfl, by show 3 ≤ sizeLine; decide, fun T nT => ⟨_, same_upd nT _ _ p2, ?_, same_put (p1.trans (same_upd nT)) nD, us ++ [T], ?_⟩⟩
      · rw [List.length_map]
        exact small63 (by omega)
      · rw [List.take_add_one, hR, show (rs.take i ++ (some R).toList).map begT = (rs.take i).map begT ++ [begT R] from List.map_append]
        exact turn_step (u := begT R) nT (p1 _ _ r2) p2 p3 rfl
    obtain ⟨p1, us, p2, p3⟩ := p
    rw [List.length_map, List.take_of_length_le (by omega)] at p3
    refine ⟨_, rfl, _, rfl, a, rfl, ⟨_, p1.seq hA⟩, fun D2 nD2 => ?_⟩
    have nD2' := p1.free nD2
    have nDD : D ≠ D2 := fun z => by
      rw [← z, p2] at nD2
      cases nD2
    refine lc_list (K := K) (a := a) (xs := as.map V.ref) (fun i H' => Same H3 H' ∧ ∃ us, H' D2 = some (.lst (us.map V.ref)) ∧ Paired (TnAt H') us ((rs.take i).map endT))
      ⟨same_upd nD2, [], upd_same, .nil⟩ (fun i H' _ p => (p1.trans p.1).seq hA) (fun i x H4 hx p => ?_) (fun H4 p => ?_)
    · obtain ⟨q1, vs, q2, q3⟩ := p
      obtain ⟨ra, hra, rfl⟩ := map_get hx
      obtain ⟨R, hR, am, r1, r2⟩ := paired_get prs hra
      have s4 := p1.trans q1
      have lu := q3.length
      rw [List.length_map, List.length_take] at lu
      refine ⟨ra, _, rfl, SqT.of (s4 _ _ r1), rfl, _, _, rfl, _, _, rfl, _, _, rfl, _, _, rfl, rfl, rfl, ?_⟩
      refine ⟨_, rfl, _, rfl, by show 3 ≤ sizeLine; decide, fun T nT => ⟨_, same_upd nT _ _ q2, ?_, same_put (q1.trans (same_upd nT)) nD2, vs ++ [T], ?_⟩⟩
      · rw [List.length_map]
        exact small63 (by omega)
      · rw [List.take_add_one, hR, show (rs.take i ++ (some R).toList).map endT = (rs.take i).map endT ++ [endT R] from List.map_append]
        exact turn_step (u := endT R) nT (s4 _ _ r2) q2 q3 rfl
    obtain ⟨q1, vs, q2, q3⟩ := p
    rw [List.length_map, List.take_of_length_le (by omega)] at q3
    have l1 := p3.length
    have l2 := q3.length
    rw [List.length_map] at l1 l2
    refine ⟨D, D2, _, _, rfl, rfl, q1 _ _ p2, q2, ?_, ?_⟩
    · rw [List.length_map, List.length_map]
      exact Nat.le_of_lt (small63 (by omega))
    have kt5 : KTu H4 (upd H4 D (.lst (us.map V.ref ++ vs.map V.ref))) := kt_put (q1 _ _ p2) (fun xs z => by cases z)
    have s5 : Same H (upd H4 D (.lst (us.map V.ref ++ vs.map V.ref))) := same_put (p1.trans q1) nD
    have e5 : upd H4 D (.lst (us.map V.ref ++ vs.map V.ref)) D = some (.lst ((us ++ vs).map V.ref)) := by rw [upd_same, List.map_append]
    have pr5 : Paired (TnAt (upd H4 D (.lst (us.map V.ref ++ vs.map V.ref)))) (us ++ vs) (turns rs) := (paired_app (p3.mono fun _ _ x => x.kt (Same.kt q1)) q3).mono fun _ _ x => x.kt kt5
    generalize upd H4 D (.lst (us.map V.ref ++ vs.map V.ref)) = H5 at s5 e5 pr5 ⊢
    obtain ⟨ps, y1, y2, y3⟩ := paired_zip pr5
    refine ⟨_, rfl, D, _, encT H5, rfl, SqL.of e5, fun x hx => ?_, fun d1 h1 d2 h2 => ?_, .inl fun d1 h1 => ?_, fun x hx => ?_, fun st nst => ?_⟩
    · obtain ⟨b, hb, rfl⟩ := List.mem_map.mp hx
      rw [← y1] at hb
      obtain ⟨p, hp, rfl⟩ := List.mem_map.mp hb
      rw [encT_of (y3 p hp)]
      exact dp_tn (y3 p hp)
    · obtain ⟨x, hx, rfl⟩ := List.mem_map.mp h1
      obtain ⟨y, hy, rfl⟩ := List.mem_map.mp h2
      obtain ⟨b, hb, rfl⟩ := List.mem_map.mp hx
      obtain ⟨c, hc, rfl⟩ := List.mem_map.mp hy
      rw [← y1] at hb hc
      obtain ⟨p, hp, rfl⟩ := List.mem_map.mp hb
      obtain ⟨p', hp', rfl⟩ := List.mem_map.mp hc
      rw [encT_of (y3 p hp), encT_of (y3 p' hp')]
      exact alike_tn _ _
    · obtain ⟨x, hx, rfl⟩ := List.mem_map.mp h1
      obtain ⟨b, hb, rfl⟩ := List.mem_map.mp hx
      rw [← y1] at hb
      obtain ⟨p, hp, rfl⟩ := List.mem_map.mp hb
      rw [encT_of (y3 p hp)]
      exact ⟨_, _, rfl⟩
    · obtain ⟨b, hb, rfl⟩ := List.mem_map.mp hx
      rw [← y1] at hb
      obtain ⟨p, hp, rfl⟩ := List.mem_map.mp hb
      rw [encT_of (y3 p hp)]
      exact Nat.le_trans (dpt_tn _) (by decide)
    obtain ⟨qs, x1, x2, x3⟩ := sort_tns y3
    rw [y1] at x2
    rw [x2]
    refine q st _ (qs.map (·.1)) (qs.map (·.2)) (s5.trans (same_upd nst)) (s5.free nst) upd_same (paired_of fun p hp => (y3 p (x1.mem_iff.mp hp)).kt (kt_new nst)) ?_ x3
    rw [← y2]
    exact x1.map _
set_option maxHeartbeats 2000000 in
theorem ok_loads {f fN fU fP fM : Addr} {fd fdN fdU fdP fdM : FuncData} {k : Nat} {tb : Tok} (F : Fun K "loads_of" "loads_of" s_scLoads f fd) (X : Txt mg) (mB : mg "BEGINS" = some (.int 1 tb))
    (GN : FnOk P w K mg base CX0 k fN fdN ["wares"] spNothing) (mN : mg "nothing_of" = some (.ref fN)) (kN : PySem.W.keepIn K (.ref fN) = true) (bN : L2.Binds K fdN ["wares"] [])
    (GU : FnOk P w K mg base CX0 k fU fdU ["rows"] (spTurns K)) (mU : mg "turns_of" = some (.ref fU)) (kU : PySem.W.keepIn K (.ref fU) = true) (bU : L2.Binds K fdU ["rows"] [])
    (GP : FnOk P w K mg base CX0 k fP fdP ["one", "other"] (spZipS K (· + ·))) (mP : mg "amount_sum" = some (.ref fP)) (kP : PySem.W.keepIn K (.ref fP) = true) (bP : L2.Binds K fdP ["one", "other"] [])
    (GM : FnOk P w K mg base CX0 k fM fdM ["one", "other"] (spZipS K (· - ·))) (mM : mg "amount_less" = some (.ref fM)) (kM : PySem.W.keepIn K (.ref fM) = true) (bM : L2.Binds K fdM ["one", "other"] []) :
    FnOk P w K mg base CX0 (k + 1) f fd ["wares", "rows"] (spLoads K) := by
  refine F.ok scLoads (fun vs H Q E h => ?_) (fun cdv A outer s H vs Q E hr h => ?_)
  · obtain ⟨a, w, as, rs, rfl, _⟩ := h
    rfl
  · obtain ⟨a, w, as, rs, rfl, hA, prs, ok, w1, w2, q⟩ := h
    refine ⟨_, (pss_cons (ps_set (i := 2) scLoads.nd rfl (.inr rfl) pe_dnewK)
      (pss_cons (ps_set (i := 3) scLoads.nd rfl (.inl rfl) (pe_call GN hr (by rfl) mN kN bN .nil pass0 (pa_cons (pv 0) pa_nil)))
      (C8.pss_cut (ps_for PassesOwn.never rfl (pi_list (pe_call GU hr (by rfl) mU kU bU .nil pass0 (pa_cons (pv 1) pa_nil))) (pg_tup rfl (pgs_cons (pg_name (i := 4) scLoads.nd rfl (.inl rfl)) (pgs_cons (pg_name (i := 5) scLoads.nd rfl (.inl rfl)) (pgs_cons (pg_name (i := 6) scLoads.nd rfl (.inl rfl)) pgs_nil))))
        (pss_cons (ps_set (i := 3) scLoads.nd rfl (.inl rfl) (pe_ifExp (pt_cmpR op_eq (pv 5) (pe_glob (v := .int 1) (by rfl) mB ⟨_, rfl⟩) (nomark _)) (pe_call GP hr (by rfl) mP kP bP .nil pass0 (pa_cons (pv 3) (pa_cons (pv 6) pa_nil))) (pe_call GM hr (by rfl) mM kM bM .nil pass0 (pa_cons (pv 3) (pa_cons (pv 6) pa_nil)))))
        (pss_one (ps_dput (hu_of hr) (pv 2) (pv 4) (pv 3) rfl))))
      (pss_cons (ps_set (i := 7) scLoads.nd rfl (.inl rfl) (pe_callTy (call_listD rfl) (by rfl) X.lst bt_list (pa_cons (pv 2) pa_nil)))
      (pss_one (ps_ret (pe_lc (own := [("begin", 8), ("end", 9)]) (g := (gTup K 2 (gCons (gName 8) (gCons (gName 9) gNil)))) (tt := tYes) rfl scLoads.nd (RZ.pi_zipA (by rfl) X.zip (pa_cons (pv 7) (pa_cons (pe_slice sl_list (pv 7) (po_some pe_int) po_none) pa_nil))) (blkOk_by (own := [("begin", 8), ("end", 9)]) (N := n_scLoads) (sc := defScope s_scLoads) (by decide +kernel)) (fun _ _ _ _ _ => (pg_tup rfl (pgs_cons (pg_name (i := 8) scLoads.nd rfl (.inl rfl)) (pgs_cons (pg_name (i := 9) scLoads.nd rfl (.inl rfl)) pgs_nil)))) (fun _ _ _ _ _ => pts_nil) (fun _ _ _ _ _ => (pe_tup (pa_cons (pv 8) (pa_cons (pv 9) (pa_cons (pe_dget (hu_of hr) (pv 2) (pv 8) (fun _ _ => rfl)) pa_nil)))))))))))), ?_⟩
    refine fun d nd => ?_
    have s0 : Same H (upd H d (.dK [])) := same_upd nd
    have ed0 : upd H d (.dK []) d = some (.dK []) := upd_same
    generalize upd H d (.dK []) = H0 at s0 ed0 ⊢
    refine ⟨_, rfl, w, rfl, w1, by omega, fun z0 H1 s1 nz0 ez0 => ?_⟩
    have s01 := s0.trans s1
    refine ⟨fun σ H' => ∃ (y3 y4 y5 y6 : Option V) (ps : List (Key × V)) (ks : List Int) (Us : List Tn), σ = [some (.int (w : Int)), some (.ref a), some (.ref d), y3, y4, y5, y6, none, none, none] ∧ Same H H' ∧ H' d = some (.dK ps) ∧ Gath H' w Us ps ks ∧ Us.Perm (turns rs), ?_, fun σ H' hm => ?_⟩
    · refine ⟨_, rfl, a, as, rs, rfl, s01.seq hA, prs.mono fun _ _ x => x.kt (Same.kt s01), ok.few, fun p H2 us Us s2 np ep pu pm so => ⟨p, rfl, ⟨_, SqL.of ep⟩, ?_⟩⟩
      have s02 := s01.trans s2
      have ed2 := s2 _ _ (s1 _ _ ed0)
      have lus : us.length = Us.length := pu.length
      have lU : Us.length ≤ 40 := by
        rw [pm.length_eq]
        unfold turns
        rw [List.length_append, List.length_map, List.length_map]
        have := ok.few
        omega
      have amU : ∀ u ∈ Us, u.am.length = w := fun u hu => by
        rcases List.mem_append.mp (pm.mem_iff.mp hu) with z | z
        · obtain ⟨x, hx, rfl⟩ := List.mem_map.mp z
          exact ok.len x hx
        · obtain ⟨x, hx, rfl⟩ := List.mem_map.mp z
          exact ok.len x hx
      have pd : p ≠ d := fun z => by
        rw [z, ed2] at ep
        cases ep
      refine for_list (xs := us.map V.ref) (fun i σ H' => ∃ (l : Addr) (y4 y5 y6 : Option V) (ps : List (Key × V)) (ks : List Int), σ = [some (.int (w : Int)), some (.ref a), some (.ref d), some (.ref l), y4, y5, y6, none, none, none] ∧ Kp [d] H2 H' ∧ H' d = some (.dK ps) ∧ Gath H' w (Us.take i) ps ks ∧ ks.length ≤ i ∧ H' l = some (.tup ((sumT w (Us.take i)).map V.int)))
        ⟨z0, none, none, none, [], [], rfl, Kp.refl _ _, ed2, Gath.nil, Nat.le_refl _, ?_⟩ (fun i σ H' _ p => ?_) (fun i x σ H3 hx p => ?_) (fun σ H3 p => ?_)
      · rw [List.take_zero, sumT_nil]
        exact s2 _ _ ez0
      · obtain ⟨_, _, _, _, _, _, _, k2, _⟩ := p
        exact SqL.of (k2 _ _ (fun z => pd (List.mem_singleton.mp z)) ep)
      · obtain ⟨l, y4, y5, y6, ps, ks, rfl, k2, ed3, gt, lk, el⟩ := p
        obtain ⟨ru, hru, rfl⟩ := map_get hx
        obtain ⟨u, hu, tu⟩ := paired_get pu hru
        have kt2 : KTu H2 H3 := fun x xs e => k2 _ _ (fun z => by
          rw [List.mem_singleton.mp z, ed2] at e
          cases e) e
        obtain ⟨am, t1, t2⟩ := tu.kt kt2
        have hi : i < us.length := (List.getElem?_eq_some_iff.mp hru).1
        have hum := List.mem_of_getElem? hu
        have lam := amU u hum
        have tk : Us.take (i + 1) = Us.take i ++ [u] := by
          rw [List.take_add_one, hu]
          rfl
        have le : ∀ x ∈ Us.take i, x.t ≤ u.t := fun x hx => by
          obtain ⟨j, hj⟩ := List.mem_iff_getElem?.mp hx
          rw [List.getElem?_take] at hj
          split at hj
          · rename_i lt
            obtain ⟨a1, b1⟩ := List.getElem?_eq_some_iff.mp hj
            obtain ⟨a2, b2⟩ := List.getElem?_eq_some_iff.mp hu
            rw [← b1, ← b2]
            exact List.pairwise_iff_getElem.mp so j i a1 a2 lt
          · cases hj
        have fin : ∀ (p3 : Addr) (H4 : Hp), Same H3 H4 → H4 p3 = some (.tup ((sumT w (Us.take (i + 1))).map V.int)) → ∃ H5, DPut H4 d (.int u.t) (.ref p3) H5 ∧
            (∃ (l : Addr) (y4 y5 y6 : Option V) (ps : List (Key × V)) (ks : List Int), [some (V.int (w : Int)), some (.ref a), some (.ref d), some (.ref p3), some (.int u.t), some (.int u.k), some (.ref am), none, none, none] = [some (V.int (w : Int)), some (.ref a), some (.ref d), some (.ref l), y4, y5, y6, none, none, none] ∧ Kp [d] H2 H5 ∧ H5 d = some (.dK ps) ∧ Gath H5 w (Us.take (i + 1)) ps ks ∧ ks.length ≤ i + 1 ∧ H5 l = some (.tup ((sumT w (Us.take (i + 1))).map V.int))) := fun p3 H4 s4 e4 => by
          have ed4 := s4 _ _ ed3
          have lp := gt.len
          have g4 := gt.kt (Same.kt s4)
          rw [tk] at e4 ⊢
          obtain ⟨ls, g5⟩ := g4.put le e4
          have k5 : KTu H4 (upd H4 d (.dK (putK ps (Sum.inl u.t) (.ref p3)))) := kt_put ed4 (fun xs z => by cases z)
          have l5 : ls.length ≤ ps.length + 1 := by
            have e := congrArg List.length g5.keys
            rw [List.length_map, List.length_map] at e
            rw [← e]
            unfold putK
            split
            · rw [List.length_map]
              omega
            · rw [List.length_append]
              exact Nat.le_refl _
          refine ⟨_, DPut.k (k := (Sum.inl u.t : Key)) ed4 (small63 (by omega)), p3, _, _, _, _, ls, rfl, ?_, upd_same, g5.kt k5, by omega, k5 _ _ e4⟩
          exact fun x o nx e => by
            rw [upd_ne fun z => nx (List.mem_singleton.mpr z)]
            exact s4 _ _ (k2 _ _ nx e)
        refine ⟨ru, _, rfl, SqT.of t1, rfl, _, _, rfl, _, _, rfl, _, _, rfl, rfl, ?_⟩
        refine ⟨_, rfl, rfl, _, rfl, ite2 (fun e => ?_) (fun e => ?_)⟩
        · have ek : u.k = 1 := by
            have := of_decide_eq_true e
            injection this
          refine ⟨_, rfl, _, rfl, l, am, _, _, rfl, SqT.of el, SqT.of t2, by rw [sumT_len]; omega, fun p3 H4 s4 n4 e4 => ?_⟩
          rw [sumT_add ek lam, ← tk] at e4
          obtain ⟨H5, d5, r5⟩ := fin p3 H4 s4 e4
          exact ⟨_, rfl, _, rfl, _, rfl, d, H5, rfl, d5, r5⟩
        · have ek : u.k ≠ 1 := fun z => e (by rw [z]; rfl)
          refine ⟨_, rfl, _, rfl, l, am, _, _, rfl, SqT.of el, SqT.of t2, by rw [sumT_len]; omega, fun p3 H4 s4 n4 e4 => ?_⟩
          rw [sumT_sub ek lam, ← tk] at e4
          obtain ⟨H5, d5, r5⟩ := fin p3 H4 s4 e4
          exact ⟨_, rfl, _, rfl, _, rfl, d, H5, rfl, d5, r5⟩
      · obtain ⟨l, y4, y5, y6, ps, ks, rfl, k2, ed3, gt, lk, el⟩ := p
        rw [List.length_map, List.take_of_length_le (by omega)] at gt
        exact ⟨_, _, _, _, ps, ks, Us, rfl, same_kp s02 nd k2, ed3, gt, pm⟩
    obtain ⟨y3, y4, y5, y6, ps, ks, Us, rfl, s3, ed3, gt, pm⟩ := hm
    refine ⟨_, rfl, d, ps, rfl, Rd.of ed3, fun e ne => ?_⟩
    have ek : (ps.map fun kv => kV kv.1) = ks.map V.int := by
      have := congrArg (List.map kV) gt.keys
      rw [List.map_map, List.map_map] at this
      exact this
    rw [ek]
    have s4 : Same H' (upd H' e (.lst (ks.map V.int))) := same_upd ne
    have ee4 : upd H' e (.lst (ks.map V.int)) e = some (.lst (ks.map V.int)) := upd_same
    generalize upd H' e (.lst (ks.map V.int)) = H4 at s4 ee4 ⊢
    refine ⟨_, rfl, _, rfl, 1, rfl, e, _, rfl, SqL.of ee4, fun sl nsl => ?_⟩
    rw [show (1 : Int) = ((1 : Nat) : Int) from rfl, cut_drop, ← List.map_drop]
    have s5 : Same H4 (upd H4 sl (.lst ((ks.drop 1).map V.int))) := same_upd nsl
    have es5 : upd H4 sl (.lst ((ks.drop 1).map V.int)) sl = some (.lst ((ks.drop 1).map V.int)) := upd_same
    generalize upd H4 sl (.lst ((ks.drop 1).map V.int)) = H5 at s5 es5 ⊢
    have ee5 := s5 _ _ ee4
    have s35 := s4.trans s5
    have ed5 := s35 _ _ ed3
    have g5 := gt.kt (Same.kt s35)
    have lk : ks.length ≤ 40 := by
      have h1 : ks.Nodup := gt.inc.imp fun h z => by omega
      have h2 : ∀ t ∈ ks, t ∈ Us.map (·.t) := fun t ht => by
        obtain ⟨u, hu, e⟩ := (gt.mem t).mp ht
        exact List.mem_map.mpr ⟨u, hu, e⟩
      have h3 := nodup_len h1 h2
      rw [List.length_map, pm.length_eq] at h3
      unfold turns at h3
      rw [List.length_append, List.length_map, List.length_map] at h3
      have := ok.few
      omega
    refine ⟨e, sl, _, _, rfl, .inl ⟨SqL.of ee5, SqL.of es5, fun D nD => ?_⟩⟩
    refine lc_it (walk_zip (K := K) (a := e) (b := sl) (xs := ks.map V.int) (ys := (ks.drop 1).map V.int) rfl) (fun i H' => Same H5 H' ∧ ∃ ls, H' D = some (.lst (ls.map V.ref)) ∧ Paired (LdAt w rs H') ls ((ks.zip (ks.drop 1)).take i))
      ⟨same_upd nD, [], upd_same, .nil⟩ (fun i H' _ p => ⟨SqL.of (p.1 _ _ ee5), SqL.of (p.1 _ _ es5)⟩) (fun i v H6 H7 hi p y => ?_) (fun H6 p => ?_)
    · obtain ⟨T1, x1, x2, rfl, nT, rfl, g1, g2⟩ := y
      obtain ⟨p1, ls, p2, p3⟩ := p
      obtain ⟨x, hx, rfl⟩ := get_int g1
      obtain ⟨y, hy, rfl⟩ := get_int g2
      have s6 : Same H6 (upd H6 T1 (.tup [.int x, .int y])) := same_upd nT
      have s56 := p1.trans s6
      obtain ⟨av, v1, v2⟩ := (g5.kt (Same.kt s56)).get hx
      rw [net_eq ok.lt pm] at v2
      have lu := p3.length
      rw [List.length_take] at lu
      have hik : i < ks.length := (List.getElem?_eq_some_iff.mp hx).1
      refine ⟨T1, [.int x, .int y], rfl, SqT.of upd_same, rfl, .int x, [.int y], rfl, .int y, [], rfl, rfl, rfl, ?_⟩
      refine ⟨_, rfl, _, rfl, _, rfl, _, rfl, d, .ref av, rfl, .inl ⟨ps, (Sum.inl x : Key), .inl (s56 _ _ ed5), rfl, v1.symm⟩, by show 3 ≤ sizeLine; decide, fun T nT2 => ⟨_, same_upd nT2 _ _ (s6 _ _ p2), ?_, same_put (s56.trans (same_upd nT2)) nD, ls ++ [T], ?_⟩⟩
      · rw [List.length_map]
        exact small63 (by omega)
      · have k1 : KTu (upd H6 T1 (.tup [.int x, .int y])) (upd (upd H6 T1 (.tup [.int x, .int y])) T (.tup [.int x, .int y, .ref av])) := kt_new nT2
        have k2 : KTu (upd (upd H6 T1 (.tup [.int x, .int y])) T (.tup [.int x, .int y, .ref av])) (upd (upd (upd H6 T1 (.tup [.int x, .int y])) T (.tup [.int x, .int y, .ref av])) D (.lst (ls.map V.ref ++ [.ref T]))) := kt_put (same_upd nT2 _ _ (s6 _ _ p2)) (fun xs z => by cases z)
        refine ⟨by rw [upd_same, List.map_append]; rfl, ?_⟩
        rw [List.take_add_one, (List.getElem?_zip_eq_some (z := (x, y))).mpr ⟨hx, hy⟩]
        exact Paired.snoc (p3.mono fun _ _ x => x.kt ((Same.kt s6).trans (k1.trans k2))) ⟨av, k2 _ _ upd_same, k2 _ _ (k1 _ _ v2)⟩
    · obtain ⟨p1, ls, p2, p3⟩ := p
      rw [List.take_of_length_le (by rw [List.length_zip, List.length_map, List.length_map]; exact Nat.le_refl _)] at p3
      have sf := s3.trans s35
      exact q D H6 ls ks (sf.trans p1) (sf.free nD) p2 (gt.srt pm) p3
theorem ok_first {f fD fF T : Addr} {fd fdD fdF : FuncData} {k : Nat} {Ts : List Addr} (iT : T ∈ Ts) (F : Fun K "first_over" "first_over" s_scFirst f fd) (X : Txt mg)
    (GD : FnOk P w K mg base CX0 k fD fdD ["wares", "rows"] (spLoads K)) (mD : mg "loads_of" = some (.ref fD)) (kD : PySem.W.keepIn K (.ref fD) = true) (bD : L2.Binds K fdD ["wares", "rows"] [])
    (GF : FnOk P w K mg base CX0 k fF fdF ["one", "other"] (spFits K T)) (mF : mg "amount_fits" = some (.ref fF)) (kF : PySem.W.keepIn K (.ref fF) = true) (bF : L2.Binds K fdF ["one", "other"] []) :
    FnOk P w K mg base CX0 (k + 1) f fd ["room", "rows"] (spOver K Ts) := by
  refine F.ok scFirst (fun vs H Q E h => ?_) (fun cdv A outer s H vs Q E hr h => ?_)
  · obtain ⟨m, a, room, as, rs, rfl, _⟩ := h
    rfl
  · obtain ⟨m, a, room, as, rs, rfl, hM, hA, prs, ok, r1, r2, nn, tH, q⟩ := h
    refine ⟨_, (C8.pss_cut (ps_for PassesOwn.never rfl (pi_list (pe_call GD hr (by rfl) mD kD bD .nil pass0 (pa_cons (pe_callB call_len_seq (by rfl) X.len PySem.boot_len (pa_cons (pv 0) pa_nil)) (pa_cons (pv 1) pa_nil)))) (pg_tup rfl (pgs_cons (pg_name (i := 2) scFirst.nd rfl (.inl rfl)) (pgs_cons (pg_name (i := 3) scFirst.nd rfl (.inl rfl)) (pgs_cons (pg_name (i := 4) scFirst.nd rfl (.inl rfl)) pgs_nil))))
        (pss_one (ps_if (pt_not (pt_val (pe_call GF hr (by rfl) mF kF bF .nil pass0 (pa_cons (pv 4) (pa_cons (pv 0) pa_nil)))))
          (pss_one (ps_ret (pv 2)))
          pss_nil)))
      (pss_one (ps_ret pe_non))), ?_⟩
    refine ⟨fun σ H' => ∃ ks, Fw Ts H H' ∧ Srt rs ks ∧ ks.find? (ovr room.length rs room) = none, ?_, fun σ H' hm => ?_⟩
    · refine ⟨_, rfl, m, _, rfl, .inr hM, _, rfl, a, room.length, as, rs, by rw [List.length_map]; rfl, hA, prs, ok, r1, r2, fun p H1 ls ks s1 np ep sr pl => ⟨p, rfl, ⟨_, SqL.of ep⟩, ?_⟩⟩
      have f1 := Fw.same tH s1
      have t1 := f1.tabs
      have ll := pl.length
      rw [List.length_zip, List.length_drop] at ll
      refine for_list (xs := ls.map V.ref) (fun i σ H' => ∃ (y2 y3 y4 : Option V), σ = [some (.ref m), some (.ref a), y2, y3, y4] ∧ Fw Ts H1 H' ∧ ∀ (j : Nat) (x : Int), j < i → ks[j]? = some x → ovr room.length rs room x = false)
        ⟨none, none, none, rfl, Fw.refl t1, fun j x hj => absurd hj (Nat.not_lt_zero _)⟩ (fun i σ H' _ p => ?_) (fun i x σ H3 hx p => ?_) (fun σ H3 p => ?_)
      · obtain ⟨_, _, _, _, f2, _⟩ := p
        exact SqL.of (f2.lst t1 ep)
      · obtain ⟨y2, y3, y4, rfl, f2, no⟩ := p
        obtain ⟨rl, hrl, rfl⟩ := map_get hx
        obtain ⟨z, hz, ld⟩ := paired_get pl hrl
        obtain ⟨pn, l1, l2⟩ := ld.kt (f2.kt t1)
        obtain ⟨hk, _⟩ := List.getElem?_zip_eq_some.mp hz
        have f12 := f1.trans f2
        refine ⟨rl, _, rfl, SqT.of l1, rfl, _, _, rfl, _, _, rfl, _, _, rfl, rfl, ?_⟩
        refine ⟨_, rfl, _, rfl, pn, m, _, room, rfl, SqT.of l2, f12.seqT tH hM, f2.tabs T iT, fun H4 t4 k4 => ?_⟩
        have f4 := f2.trans (Fw.step f2.tabs iT k4 t4)
        refine ⟨_, rfl, ite2 (fun e => ?_) (fun e => ?_)⟩
        · have f14 := f1.trans f4
          have hq := q H4 ks f14 sr
          rw [find_at no hk e] at hq
          exact ⟨_, rfl, hq⟩
        · refine ⟨_, _, _, rfl, f4, fun j x hj hx => ?_⟩
          rcases Nat.lt_succ_iff_lt_or_eq.mp hj with h | h
          · exact no j x h hx
          · rw [h, hk] at hx
            cases hx
            exact eq_false_of_ne_true e
      · obtain ⟨y2, y3, y4, rfl, f2, no⟩ := p
        refine ⟨ks, f1.trans f2, sr, find_no fun x hx => ?_⟩
        obtain ⟨j, hj⟩ := List.mem_iff_getElem?.mp hx
        by_cases c : j < ls.length
        · exact no j x (by rw [List.length_map]; exact c) hj
        · have hl : j < ks.length := (List.getElem?_eq_some_iff.mp hj).1
          refine last_fits sr nn ?_
          rw [List.getLast?_eq_getElem?, show ks.length - 1 = j by omega]
          exact hj
    · obtain ⟨ks, f1, sr, no⟩ := hm
      have hq := q H' ks f1 sr
      rw [no] at hq
      exact hq
theorem ok_overb {f fO : Addr} {fd fdO : FuncData} {k : Nat} {Ts : List Addr} (F : Fun K "overborne" "overborne" s_scOverb f fd)
    (GO : FnOk P w K mg base CX0 k fO fdO ["room", "rows"] (spOver K Ts)) (mO : mg "first_over" = some (.ref fO)) (kO : PySem.W.keepIn K (.ref fO) = true) (bO : L2.Binds K fdO ["room", "rows"] []) :
    FnOk P w K mg base CX0 (k + 1) f fd ["room", "rows"] (spOver K Ts) := by
  refine F.ok scOverb (fun vs H Q E h => ?_) (fun cdv A outer s H vs Q E hr h => ?_)
  · obtain ⟨m, a, room, as, rs, rfl, _⟩ := h
    rfl
  · have h' := h
    obtain ⟨m, a, room, as, rs, rfl, _⟩ := h'
    refine ⟨_, (pss_one (ps_ret (pe_call GO hr (by rfl) mO kO bO .nil pass0 (pa_cons (pv 0) (pa_cons (pv 1) pa_nil))))), ?_⟩
    exact ⟨_, rfl, _, rfl, h⟩
end
end My

set_option maxHeartbeats 4000000
/-! set(xs), xs a list of whole numbers: goes as the library's set of a tuple of such goes, over a list's iterator -/
namespace SI
open PySem PySem.Spec PyProof.Rows L2
section
variable {P : Program} {w : World} {A : Around} {E : Value → Shared → Prop} {s : Shared}
/-- what is known when the set has been filled -/
def Filled (w : World) (s : Shared) (ns : List Int) (h' : Heap) (c : Nat) : Prop :=
  SetR w h' s.heap.objs.size (fun j => decide (j ∈ ns)) c ∧ c ≤ ns.length ∧ ∀ b o, s.heap.get? b = some o → h'.get? b = some o
theorem call_set_listI {l : Addr} {items : Array Value} (ns : List Int) {Q : Value → Shared → Prop} (hh : A.handled = none) (hl : s.heap.IsList l items) (hit : IntsAre items.toList ns) (hb : ns.length + 1 < scanBound)
    (h : ∀ (h' : Heap) (tk c : Nat), Filled w s ns h' c → Q (.ref s.heap.objs.size) { s with heap := h', toks := tk }) :
    wpAny (model P w) A (call (.type "set") [.ref l]) Q E s := by
  have hisz : items.size = ns.length := by
    have q := IntsAre.length hit
    rw [Array.length_toList] at q
    exact q
  obtain ⟨c, tl, hmro⟩ := F.called_set.mro
  have hmade := F.called_set.made
  have hsub := F.called_set.sub
  refine wpAny_call (codeAny_of_tree ?_)
  show wpAny _ _ (callAny (.type "set") _) _ _ _
  refine wpAny_pure ⟨Code.quiet_builtin _ (by decide +kernel), codeAny_builtin F.entry_type_call ?_⟩
  rw [Around.under_plain (weight_type_call_type "set" [.ref l] []) rfl]
  have h1 := F.called_set.notType
  have h2 := F.called_set.canCreate
  have hct := F.typeCall_set_1 (.ref l)
  repeat (any_goals (first | assumption | wp_step))
  obtain ⟨ob, hob⟩ : ∃ ob : Obj, ob = { cls := .type "set", dict := none, data := .set #[] 0 (.fresh 0 0 (!w.params.followText "set-order")) } := ⟨_, rfl⟩
  refine codeAny_mono (code_set_led1 (.ref l) (E := E) (Q₁ := fun obj s₁ => obj = .ref s.heap.objs.size ∧ s₁ = { s with heap := s.heap.push ob }) ⟨rfl, by rw [hob]⟩) fun r s₁ hr => ?_
  cases r with
  | error e => exact hr
  | ok fl =>
    cases fl with
    | ret obj =>
      obtain ⟨rfl, rfl⟩ := hr
      have hS : (s.heap.push ob).get? s.heap.objs.size = some ob := Heap.get?_push_size _ (by rw [hob]; rfl)
      have hT : Shared.TypeIs { s with heap := s.heap.push ob } (.ref s.heap.objs.size) "set" := ⟨_, hS, by rw [hob]⟩
      have hli := F.called_set.init.lookup
      have hbi := F.called_set.init.bind (.ref s.heap.objs.size)
      repeat (any_goals (first | assumption | wp_step))
      refine codeAny_mono (codeAny_call_builtin (R := wants (fun r s₂ => r = .none ∧ ∃ h' tk c, s₂ = { s with heap := h', toks := tk } ∧ Filled w s ns h' c) E) F.called_set.init.plain F.entry_set_init (check_set_init_1 hT ?_)) fun r₂ s₂ hr₂ => ?_
      · obtain ⟨ol, hol, hcl, nl, hdl⟩ := hl
        obtain ⟨ocls, odict, odata, oslots⟩ := ol
        simp only at hcl hdl
        subst hcl; subst hdl
        have hol' : (s.heap.push ob).get? l = some { cls := .type "list", dict := odict, data := .seq items nl, slots := oslots } := Heap.get?_push_of_some _ hol
        have hsls := F.sub_list_set
        have hslf := F.sub_list_frozenset
        have hne : (Value.type "list" == Value.type "dict") = false := by decide
        have hl1 : (s.heap.push ob).IsList l items := ⟨_, hol', rfl, nl, rfl⟩
        unfold Builtin.«set.__init__» noKeywords Builtin.Frozenset.updateFrom
        generalize hPI : pyIter = PI
        subst hob
        wp_walk
        subst hPI
        generalize hob : ({ cls := .type "set", dict := none, data := .set #[] 0 (.fresh 0 0 (!w.params.followText "set-order")) } : Obj) = ob at hS hT hol' hl1 ⊢
        refine wpAny_pyIter_list hl1 ?_
        refine wpAny_bind (wpAny_runValue ?_)
        have hlS : l < s.heap.objs.size := Heap.lt_size hol
        have hh3 : A.in1.in1.in1.handled = none := by simp [hh]
        have hz1 : (s.heap.push ob).objs.size = s.heap.objs.size + 1 := Heap.size_push ..
        have hval : ∀ (i : Nat) (v : Value), items[i]? = some v → ∃ k t, ns[i]? = some k ∧ v = .int k t := fun i v hv => by
          have hi : i < ns.length := by rw [← hisz]; exact (Array.getElem?_eq_some_iff.mp hv).1
          obtain ⟨t, e⟩ := PyProof.Rows.IntsAre.int_at hit i v (by rw [Array.getElem?_toList]; exact hv)
          refine ⟨ns[i], t, List.getElem?_eq_getElem hi, ?_⟩
          rw [e, List.getD_eq_getElem?_getD, List.getElem?_eq_getElem hi] <;> rfl
        refine set_update_ints ((Walks.list hh3 _ l (by rw [hz1]; exact Nat.ne_of_lt (Nat.lt_succ_of_lt hlS)) items).toS) s.heap.objs.size ?hSf ns hisz hb hval (items.size - 0) 0 _ (by omega) (Nat.zero_le _)
          ⟨⟨_, Heap.get?_push_size _ rfl, rfl, rfl⟩, (hl1.push _)⟩ ?hS0 ?hR
        case hSf =>
          rw [hz1]
          simp only [List.mem_cons, List.mem_singleton, List.not_mem_nil, or_false, not_or]
          exact ⟨Nat.ne_of_lt (Nat.lt_succ_self _), Nat.ne_of_gt hlS⟩
        case hS0 =>
          refine ⟨0, Nat.le_refl 0, setR_new_at ?_⟩
          rw [hob]
          exact Heap.get?_push_of_some _ hS
        case hR =>
          intro s' c' hm hc' hS'
          obtain ⟨h', g2, d', tk', os'⟩ := s'
          have eg : g2 = s.gens := hm.gens
          have ed : d' = s.drawn := hm.drawn
          have eo : os' = s.os := hm.os
          subst eg; subst ed; subst eo
          show wpAny _ _ _ _ _ _
          refine wpAny_pure ?_
          show wpAny _ _ (ret Value.none) _ _ _
          rw [hisz] at hc'
          refine wpAny_pure ⟨rfl, h', tk', c', rfl, hS', hc', fun b o e => ?_⟩
          have hb0 : b < s.heap.objs.size := Heap.lt_size e
          refine hm.heap b o ?_ (Heap.get?_push_of_some _ (Heap.get?_push_of_some _ e))
          rw [hz1]
          simp only [List.mem_cons, List.mem_singleton, List.not_mem_nil, or_false, not_or]
          exact ⟨Nat.ne_of_lt hb0, Nat.ne_of_lt (Nat.lt_succ_of_lt hb0)⟩
      · cases r₂ with
        | error e => exact hr₂
        | ok fl₂ =>
          cases fl₂ with
          | ret r =>
            obtain ⟨rfl, h', tk, c', rfl, hF⟩ := hr₂
            repeat (any_goals (first | assumption | wp_step))
            exact h _ _ _ hF
          | _ => exact hr₂.elim
    | _ => exact hr.elim
end
section
variable {X : Cx}
def rSetL (K : PySem.W.Frag) (w : World) : List V → Hp → VK → Prop := fun xs H Q => ∃ (l : Addr) (ns : List Int), xs = [V.ref l] ∧ SqL K H l (ns.map V.int) ∧ ns.length < 60 ∧
  ∀ p c, H p = none → c ≤ ns.length → Q (.ref p) (upd H p (SetO w p (fun j => decide (j ∈ ns)) c))
theorem cr_setL (hc : X.calm = true) : CallR X (.type "set") (rSetL X.K X.w) := by
  intro pins s σ H xs us Q I r h
  obtain ⟨l, ns, rfl, hl, hf, q⟩ := h
  rw [Vals.ref1 r]
  obtain ⟨its, rv, pl, hz⟩ := I.list hl
  refine call_set_listI ns (I.ok.hd hc) pl.isList (by simpa using rv.ints) (by unfold scanBound; omega) fun h' tk c ⟨R, hcn, k⟩ => ?_
  exact ⟨.ref s.heap.objs.size, _, I.laid (t' := tk) k (Nat.le_refl _) (setO_new R), rfl, q _ c (I.hok.fresh (Nat.le_refl _)) hcn⟩
end
end SI

namespace My
open PySem PySem.Spec PyProof.Rows L2 GX GxR
abbrev s_scAlike : Stmt := topS 16
abbrev n_scAlike : List Str := ["_law_found", "_law_due_here", "_law_one", "_law_other"]
theorem scAlike : FnScope n_scAlike ["_law_found", "_law_due_here"] (defScope s_scAlike) := ⟨rfl, rfl, rfl, by decide +kernel, rfl, by decide +kernel, by decide +kernel⟩
section
variable {P : Program} {w : World} {K : PySem.W.Frag} {mg : Str → Option Value} {base : Heap}
theorem ok_alike0 {f : Addr} {fd : FuncData} {k : Nat} (F : Fun K "_law_alike" "_law_alike" s_scAlike f fd) (T : Txt mg) : FnOk P w K mg base CX0 (k + 1) f fd ["_law_found", "_law_due_here"] (spAlike 0) := by
  refine F.ok scAlike (fun vs H Q E h => ?_) (fun cdv A outer s H vs Q E hr h => ?_)
  · obtain ⟨x, y, rfl, _⟩ := h
    rfl
  · obtain ⟨x, y, rfl, h, q⟩ := h
    refine ⟨_, pss_cons (ps_if (pt_val (pe_isT T (by rfl) (by rfl) (by rfl) (pv 1)))
        (pss_cons ps_never (pss_one ps_never)) pss_nil)
      (pss_cons (ps_if (PW.pt (pw_or (pt_cmpR op_isN (pv 1) pe_non (nomark _)) (pw_or1 (pt_val (pe_isi T (by rfl) (by rfl) T.str bt_str (pv 1))))))
        (pss_one (ps_ret (pe_and (pe_cmpR op_eq (pv 0) (pv 1) (nomark _)) (pe_one (pe_cmpR op_eq
          (pe_isi T (by rfl) (by rfl) T.str bt_str (pv 0))
          (pe_isi T (by rfl) (by rfl) T.str bt_str (pv 1)) (nomark _))))))
        pss_nil)
      (pss_one (ps_ret (pe_and (pe_isi T (by rfl) (by rfl) T.int bt_int (pv 0))
        (pe_and (pe_cmpR op_eq
          (pe_isi T (by rfl) (by rfl) T.bool bt_bool (pv 0))
          (pe_isi T (by rfl) (by rfl) T.bool bt_bool (pv 1)) (nomark _))
        (pe_one (pe_cmpR op_eq (pv 0) (pv 1) (nomark _)))))))), ?_⟩
    rcases h with ⟨b, rfl, rfl⟩ | ⟨b, rfl, rfl⟩ | ⟨b, rfl, rfl⟩ | ⟨rfl, rfl⟩
    · have tx : ∀ H, TyX K H (.bl b) (.type "bool") := fun H => .base (.bl b)
      refine ⟨_, rfl, (by show 2 ≤ sizeLine; decide), fun tp ntp => ⟨_, tp, _, _, _, _, rfl, upd_same, pairT, tx _, kany kB3 kB4, false, rfl, iteF ?_⟩⟩
      refine ⟨_, rfl, rfl, false, rfl, iteF ?_⟩
      refine ⟨_, rfl, _, _, _, _, _, rfl, .ty _, tx _, kit_ty (r := false) (by decide +kernel), false, rfl, iteF ?_⟩
      refine ⟨_, rfl, _, _, _, _, _, rfl, .ty _, tx _, kit_ty (r := true) (by decide +kernel), true, rfl, iteT ?_⟩
      refine ⟨_, rfl, _, _, _, _, _, rfl, .ty _, tx _, kit_ty (r := true) (by decide +kernel), _, rfl, _, _, _, _, _, rfl, .ty _, tx _, kit_ty (r := true) (by decide +kernel), rfl, true, rfl, iteT ?_⟩
      refine ⟨_, rfl, _, rfl, rfl, ?_⟩
      rw [decide_eq_true rfl]
      exact q _ (same_upd ntp)
    · have tx : ∀ H, TyX K H (.int b) (.type "int") := fun H => .base (.int b)
      refine ⟨_, rfl, (by show 2 ≤ sizeLine; decide), fun tp ntp => ⟨_, tp, _, _, _, _, rfl, upd_same, pairT, tx _, kany kB1 kB2, false, rfl, iteF ?_⟩⟩
      refine ⟨_, rfl, rfl, false, rfl, iteF ?_⟩
      refine ⟨_, rfl, _, _, _, _, _, rfl, .ty _, tx _, kit_ty (r := false) (by decide +kernel), false, rfl, iteF ?_⟩
      refine ⟨_, rfl, _, _, _, _, _, rfl, .ty _, tx _, kit_ty (r := true) (by decide +kernel), true, rfl, iteT ?_⟩
      refine ⟨_, rfl, _, _, _, _, _, rfl, .ty _, tx _, kit_ty (r := false) (by decide +kernel), _, rfl, _, _, _, _, _, rfl, .ty _, tx _, kit_ty (r := false) (by decide +kernel), rfl, true, rfl, iteT ?_⟩
      refine ⟨_, rfl, _, rfl, rfl, ?_⟩
      rw [decide_eq_true rfl]
      exact q _ (same_upd ntp)
    · have tx : ∀ H, TyX K H (.str b) (.type "str") := fun H => .base (.str b)
      refine ⟨_, rfl, (by show 2 ≤ sizeLine; decide), fun tp ntp => ⟨_, tp, _, _, _, _, rfl, upd_same, pairT, tx _, kany kB5 kB6, false, rfl, iteF ?_⟩⟩
      refine ⟨_, rfl, rfl, false, rfl, iteF ?_⟩
      refine ⟨_, rfl, _, _, _, _, _, rfl, .ty _, tx _, kit_ty (r := true) (by decide +kernel), true, rfl, iteT ?_⟩
      refine ⟨_, rfl, _, rfl, rfl, true, congrArg V.bl (decide_eq_true rfl), iteT ?_⟩
      refine ⟨_, rfl, _, _, _, _, _, rfl, .ty _, tx _, kit_ty (r := true) (by decide +kernel), _, rfl, _, _, _, _, _, rfl, .ty _, tx _, kit_ty (r := true) (by decide +kernel), rfl, ?_⟩
      exact q _ (same_upd ntp)
    · have tx : ∀ H, TyX K H .non (.type "NoneType") := fun H => .base .non
      refine ⟨_, rfl, (by show 2 ≤ sizeLine; decide), fun tp ntp => ⟨_, tp, _, _, _, _, rfl, upd_same, pairT, tx _, kany kB7 kB8, false, rfl, iteF ?_⟩⟩
      refine ⟨_, rfl, rfl, true, rfl, iteT ?_⟩
      refine ⟨_, rfl, _, rfl, rfl, true, rfl, iteT ?_⟩
      refine ⟨_, rfl, _, _, _, _, _, rfl, .ty _, tx _, kit_ty (r := false) (by decide +kernel), _, rfl, _, _, _, _, _, rfl, .ty _, tx _, kit_ty (r := false) (by decide +kernel), rfl, ?_⟩
      exact q _ (same_upd ntp)
end
abbrev s_scRows : Stmt := topS 17
abbrev n_scRows : List Str := ["_law_box_here", "_law_wares", "_law_rows_here", "_law_far", "_law_many", "_law_k", "_law_begin", "_law_amount", "_law_ware"]
theorem scRows : FnScope n_scRows ["_law_box_here", "_law_wares"] (defScope s_scRows) := ⟨rfl, rfl, rfl, by decide +kernel, rfl, by decide +kernel, by decide +kernel⟩
abbrev s_scLoad : Stmt := topS 18
abbrev n_scLoad : List Str := ["_law_rows_here", "_law_wares", "_law_time", "_law_some", "_law_row", "_law_ware", "_law_amount"]
theorem scLoad : FnScope n_scLoad ["_law_rows_here", "_law_wares", "_law_time"] (defScope s_scLoad) := ⟨rfl, rfl, rfl, by decide +kernel, rfl, by decide +kernel, by decide +kernel⟩
abbrev s_scRoom : Stmt := topS 19
abbrev n_scRoom : List Str := ["_law_box_here", "_law_rows_here", "_law_wares", "_law_room_here", "_law_at", "_law_ware", "_law_row"]
theorem scRoom : FnScope n_scRoom ["_law_box_here", "_law_rows_here", "_law_wares"] (defScope s_scRoom) := ⟨rfl, rfl, rfl, by decide +kernel, rfl, by decide +kernel, by decide +kernel⟩
abbrev s_scDue : Stmt := topS 20
abbrev n_scDue : List Str := ["_law_room_here", "_law_rows_here", "_law_time", "_law_load_here", "_law_ware", "_law_row"]
theorem scDue : FnScope n_scDue ["_law_room_here", "_law_rows_here"] (defScope s_scDue) := ⟨rfl, rfl, rfl, by decide +kernel, rfl, by decide +kernel, by decide +kernel⟩
abbrev s_scLaw : Stmt := topS 21
abbrev n_scLaw : List Str := ["_law_script", "_law_k", "_law_box_here", "_law_wares", "_law_rows_here", "_law_room_here", "_law_handed"]
theorem scLaw : FnScope n_scLaw ["_law_script"] (defScope s_scLaw) := ⟨rfl, rfl, rfl, by decide +kernel, rfl, by decide +kernel, by decide +kernel⟩
/-- rows as they are drawn -/
structure RwG (w : Nat) (rs : List Bw) : Prop where
  lt : ∀ x ∈ rs, x.b < x.e
  len : ∀ x ∈ rs, x.am.length = w
  nn : ∀ x ∈ rs, ∀ n ∈ x.am, 0 ≤ n
  key : ∀ x ∈ rs, PySem.PyData.strOk x.key = true
theorem RwG.nil {w : Nat} : RwG w [] := ⟨fun _ h => (nomatch h), fun _ h => (nomatch h), fun _ h => (nomatch h), fun _ h => (nomatch h)⟩
theorem RwG.snoc {w : Nat} {rs : List Bw} {x : Bw} (g : RwG w rs) (h1 : x.b < x.e) (h2 : x.am.length = w) (h3 : ∀ n ∈ x.am, 0 ≤ n) (h4 : PySem.PyData.strOk x.key = true) : RwG w (rs ++ [x]) := by
  refine ⟨fun y hy => ?_, fun y hy => ?_, fun y hy => ?_, fun y hy => ?_⟩
  all_goals rcases List.mem_append.mp hy with z | z
  · exact g.lt y z
  · rw [List.mem_singleton.mp z]; exact h1
  · exact g.len y z
  · rw [List.mem_singleton.mp z]; exact h2
  · exact g.nn y z
  · rw [List.mem_singleton.mp z]; exact h3
  · exact g.key y z
  · rw [List.mem_singleton.mp z]; exact h4
def spRows : Sp := fun vs H Q _ => ∃ (b : Addr) (c : Int) (w : Nat), vs = [.ref b, .int (w : Int)] ∧ BoxAt H b c ∧ c ≤ 1000000 ∧ 1 ≤ w ∧ w ≤ 8 ∧
  ∀ p as rs H', Kp [b] H H' → BoxAt H' b (c + 1000) → H p = none → H' p = some (.lst (as.map V.ref)) → Paired (BwAt H') as rs → rs.length ≤ 13 → RwG w rs → Q (.ref p) H'
theorem keys_ok : ∀ z ∈ (["a", "b", "key", "z"] : List Str), PySem.PyData.strOk z = true := by decide +kernel
section
variable {P : Program} {w : World} {K : PySem.W.Frag} {mg : Str → Option Value} {base : Heap}
set_option maxHeartbeats 2000000 in
theorem ok_rows {f fT : Addr} {fd fdT : FuncData} {k : Nat} (F : Fun K "_law_rows" "_law_rows" s_scRows f fd) (X : Txt mg)
    (GT : FnOk P w K mg base CX0 k fT fdT ["_law_box_here", "_law_many"] spTakeW) (mT : mg "_law_take" = some (.ref fT)) (kT : PySem.W.keepIn K (.ref fT) = true) (bT : L2.Binds K fdT ["_law_box_here", "_law_many"] []) :
    FnOk P w K mg base CX0 (k + 1) f fd ["_law_box_here", "_law_wares"] spRows := by
  refine F.ok scRows (fun vs H Q E h => ?_) (fun cdv A outer s H vs Q E hr h => ?_)
  · obtain ⟨b, c, w, rfl, _⟩ := h
    rfl
  · obtain ⟨b, c, w, rfl, hB, hc, w1, w8, q⟩ := h
    refine ⟨_, (pss_cons (ps_set (i := 2) scRows.nd rfl (.inl rfl) (pe_lst pa_nil))
      (pss_cons (ps_set (i := 3) scRows.nd rfl (.inl rfl) (pe_ix ix_list (pe_lst (pa_cons pe_int (pa_cons pe_int (pa_cons (pe_op op_pow pe_int pe_int) pa_nil)))) (pe_call GT hr (by rfl) mT kT bT .nil pass0 (pa_cons (pv 0) (pa_cons pe_int pa_nil))) (fun _ _ => rfl)))
      (pss_cons (ps_set (i := 4) scRows.nd rfl (.inl rfl) (pe_call GT hr (by rfl) mT kT bT .nil pass0 (pa_cons (pv 0) (pa_cons pe_int pa_nil))))
      (C8.pss_cut (ps_if (pt_cmpR op_eq (pe_call GT hr (by rfl) mT kT bT .nil pass0 (pa_cons (pv 0) (pa_cons pe_int pa_nil))) pe_int (nomark _))
        (pss_one (ps_set (i := 4) scRows.nd rfl (.inl rfl) (pe_op op_add pe_int (pe_call GT hr (by rfl) mT kT bT .nil pass0 (pa_cons (pv 0) (pa_cons pe_int pa_nil))))))
        pss_nil)
      (C8.pss_cut (ps_for PassesOwn.never rfl (pi_range1 (by rfl) X.range (pa_cons (pv 4) pa_nil)) (pg_name (i := 5) scRows.nd rfl (.inl rfl))
        (pss_cons (ps_set (i := 6) scRows.nd rfl (.inl rfl) (pe_call GT hr (by rfl) mT kT bT .nil pass0 (pa_cons (pv 0) (pa_cons (pv 3) pa_nil))))
        (pss_cons (ps_set (i := 7) scRows.nd rfl (.inl rfl) (pe_callTy call_tuple_of (by rfl) X.tup bt_tuple (pa_cons (pe_lc (own := [("_law_ware", 8)]) (g := (gName 8)) (tt := tYes) rfl scRows.nd (pi_range1 (by rfl) X.range (pa_cons (pv 1) pa_nil)) (blkOk_by (own := [("_law_ware", 8)]) (N := n_scRows) (sc := defScope s_scRows) (by decide +kernel)) (fun _ _ _ _ _ => (pg_name (i := 8) scRows.nd rfl (.inl rfl))) (fun _ _ _ _ _ => pts_nil) (fun _ _ _ _ _ => (pe_call GT hr (by rfl) mT kT bT .nil pass0 (pa_cons (pv 0) (pa_cons (pe_ix (r := rIxL K) ix_list (pe_lst (pa_cons pe_int (pa_cons (pe_op op_pow pe_int pe_int) pa_nil))) (pe_call GT hr (by rfl) mT kT bT .nil pass0 (pa_cons (pv 0) (pa_cons pe_int pa_nil))) (fun _ _ => rfl)) pa_nil))))) pa_nil)))
        (pss_one (ps_expr (pe_bm PySem.F.plainAttrs_list PySem.F.slot_list_append PySem.F.type_list_append mt_append (pv 2) (pa_cons (pe_tup (pa_cons (pe_ix ix_list (pe_lst (pa_cons pe_str (pa_cons pe_str (pa_cons pe_str (pa_cons pe_str pa_nil))))) (pe_call GT hr (by rfl) mT kT bT .nil pass0 (pa_cons (pv 0) (pa_cons pe_int pa_nil))) (fun _ _ => rfl)) (pa_cons (pv 6) (pa_cons (pe_op op_add (pe_op op_add (pv 6) pe_int) (pe_call GT hr (by rfl) mT kT bT .nil pass0 (pa_cons (pv 0) (pa_cons (pv 3) pa_nil)))) (pa_cons (pv 7) pa_nil))))) pa_nil)))))))
      (pss_one (ps_ret (pv 2)))))))), ?_⟩
    refine ⟨by show 0 ≤ sizeLine; decide, fun D nD => ?_⟩
    have Db : D ≠ b := nb_of hB nD
    have Db' : D ∉ [b] := fun z => Db (List.mem_singleton.mp z)
    have k0 : Kp [b] H (upd H D (.lst [])) := kp_new (Kp.refl _ _) nD
    have B0 : BoxAt (upd H D (.lst [])) b c := hB.same (same_upd nD)
    have e0 : upd H D (.lst []) D = some (.lst []) := upd_same
    generalize upd H D (.lst []) = H0 at k0 B0 e0 ⊢
    refine ⟨10, 9, rfl, rfl, ⟨by decide, by decide, by decide⟩, by show 3 ≤ sizeLine; decide, fun l nl => ⟨_, rfl, b, _, 3, rfl, B0.same (same_upd nl), by decide, by decide, by omega, fun r H1 r0 r1 k1 B1 => ?_⟩⟩
    obtain ⟨far, hx, x1, x2⟩ : ∃ x : Int, atI [V.int 12, .int 60, .int (10 ^ (9 : Int).toNat)] r = some (.int x) ∧ 1 ≤ x ∧ x ≤ 1000000000 := by
      have h3 : r = 0 ∨ r = 1 ∨ r = 2 := by omega
      rcases h3 with z | z | z
      · rw [z]; exact ⟨_, rfl, by decide, by decide⟩
      · rw [z]; exact ⟨_, rfl, by decide, by decide⟩
      · rw [z]; exact ⟨_, rfl, by decide, by decide⟩
    have lb : l ∉ [b] := box_new B0 nl
    have lD : l ≠ D := fun z => by
      rw [z, e0] at nl
      cases nl
    refine ⟨l, _, r, .int far, rfl, rfl, SqL.of (k1 _ _ lb upd_same), hx, ?_⟩
    have k01 : Kp [b] H H1 := k0.trans ((kp_new (Kp.refl _ _) nl).trans k1)
    have e1 : H1 D = some (.lst []) := k1 _ _ Db' (same_upd nl _ _ e0)
    refine ⟨_, rfl, b, _, 7, rfl, B1, by decide, by decide, by omega, fun mi H2 m0 m1 k2 B2 => ?_⟩
    have e2 := k2 _ _ Db' e1
    refine ⟨fun σ H' => ∃ n : Nat, σ = [some (.ref b), some (.int (w : Int)), some (.ref D), some (.int far), some (.int (n : Int)), none, none, none, none] ∧ Kp [b] H H' ∧ BoxAt H' b (c + 4) ∧ H' D = some (.lst []) ∧ n ≤ 13, ?_, fun σ H3 hm => ?_⟩
    · refine ⟨_, rfl, b, _, 8, rfl, B2, by decide, by decide, by omega, fun t H3 t0 t1 k3 B3 => ⟨rfl, _, rfl, ite2 (fun e => ?_) (fun e => ?_)⟩⟩
      · refine ⟨_, rfl, b, _, 6, rfl, B3, by decide, by decide, by omega, fun u H4 u0 u1 k4 B4 => ⟨8, u, rfl, rfl, (8 + u).toNat, ?_, k01.trans (k2.trans (k3.trans k4)), B4.le (by omega), k4 _ _ Db' (k3 _ _ Db' e2), by omega⟩⟩
        rw [show (((8 + u).toNat : Nat) : Int) = 8 + u by omega]
        rfl
      · refine ⟨mi.toNat, ?_, k01.trans (k2.trans k3), B3.le (by omega), k3 _ _ Db' e2, by omega⟩
        rw [show ((mi.toNat : Nat) : Int) = mi by omega]
        rfl
    obtain ⟨n, rfl, k3, B3, e3, n13⟩ := hm
    refine ⟨fun σ H' => ∃ (as : List Addr) (rs : List Bw), σ[2]? = some (some (V.ref D)) ∧ Kp [b] H H' ∧ BoxAt H' b (c + 1000) ∧ H' D = some (.lst (as.map V.ref)) ∧ Paired (BwAt H') as rs ∧ rs.length ≤ 13 ∧ RwG w rs, ?_, fun σ H4 hm => ?_⟩
    · refine ⟨_, rfl, (n : Int), rfl, by omega, by omega, ?_⟩
      rw [Int.toNat_natCast]
      refine for_range (lo := 0) (n := n) (fun i σ H' => ∃ (y5 y6 y7 : Option V) (as : List Addr) (rs : List Bw), σ = [some (.ref b), some (.int (w : Int)), some (.ref D), some (.int far), some (.int (n : Int)), y5, y6, y7, none] ∧ Kp [b] H H' ∧ BoxAt H' b (c + 4 + 30 * (i : Int)) ∧ H' D = some (.lst (as.map V.ref)) ∧ Paired (BwAt H') as rs ∧ rs.length = i ∧ RwG w rs)
        ⟨none, none, none, [], [], rfl, k3, B3.le (by omega), e3, .nil, rfl, RwG.nil⟩ (fun i σ H4 hi p => ?_) (fun σ H4 p => ?_)
      · obtain ⟨y5, y6, y7, as, rs, rfl, p1, p2, p3, p4, p5, p6⟩ := p
        refine ⟨_, rfl, _, rfl, b, _, far, rfl, p2, by omega, by omega, by omega, fun bg H5 g0 g1 k5 B5 => ?_⟩
        have e5 := k5 _ _ Db' p3
        have pr5 := p4.mono fun _ _ x => BwAt.kt (k5.kt p2) x
        refine ⟨_, rfl, (w : Int), rfl, by omega, by omega, fun D2 nD2 => ?_⟩
        rw [Int.toNat_natCast]
        have D2b : D2 ≠ b := nb_of B5 nD2
        have D2b' : D2 ∉ [b] := fun z => D2b (List.mem_singleton.mp z)
        refine lc_range (lo := 0) (n := w) (fun j H' => Kp [b] H5 H' ∧ BoxAt H' b (c + 4 + 30 * (i : Int) + 1 + 2 * (j : Int)) ∧ ∃ ns : List Int, H' D2 = some (.lst (ns.map V.int)) ∧ ns.length = j ∧ ∀ x ∈ ns, 0 ≤ x)
          ⟨kp_new (Kp.refl _ _) nD2, (B5.same (same_upd nD2)).le (by omega), [], upd_same, rfl, fun _ h => (nomatch h)⟩ (fun j H6 hj p => ?_) (fun H6 p => ?_)
        · obtain ⟨q1, q2, ns, q3, q4, q5⟩ := p
          refine ⟨rfl, ?_⟩
          refine ⟨_, rfl, 10, 6, rfl, rfl, ⟨by decide, by decide, by decide⟩, by show 2 ≤ sizeLine; decide, fun l nl => ⟨_, rfl, b, _, 2, rfl, q2.same (same_upd nl), by decide, by decide, by omega, fun r H7 r0 r1 k7 B7 => ?_⟩⟩
          obtain ⟨y, hy, y1, y2⟩ : ∃ x : Int, atI [V.int 4, .int (10 ^ (6 : Int).toNat)] r = some (.int x) ∧ 1 ≤ x ∧ x ≤ 1000000 := by
            have h3 : r = 0 ∨ r = 1 := by omega
            rcases h3 with z | z
            · rw [z]; exact ⟨_, rfl, by decide, by decide⟩
            · rw [z]; exact ⟨_, rfl, by decide, by decide⟩
          have e7 := k7 _ _ D2b' (same_upd nl _ _ q3)
          refine ⟨l, _, r, .int y, rfl, rfl, SqL.of (k7 _ _ (box_new q2 nl) upd_same), hy, b, _, y, rfl, B7, by omega, by omega, by omega, fun v H8 v0 v1 k8 B8 => ⟨_, k8 _ _ D2b' e7, ?_, ?_, ?_, ns ++ [v], ?_, ?_, fun x hx => ?_⟩⟩
          · rw [List.length_map]
            exact small63 (by omega)
          · exact kp_put (q1.trans ((kp_new (Kp.refl _ _) nl).trans (k7.trans k8))) nD2
          · obtain ⟨xs, h1, h2⟩ := B8.le (c' := c + 4 + 30 * (i : Int) + 1 + 2 * ((j + 1 : Nat) : Int)) (by omega)
            exact ⟨xs, by rw [upd_ne D2b.symm]; exact h1, h2⟩
          · rw [upd_same, List.map_append]
            rfl
          · rw [List.length_append, q4]
            rfl
          · rcases List.mem_append.mp hx with z | z
            · exact q5 x z
            · rw [List.mem_singleton.mp z]
              exact v0
        obtain ⟨q1, q2, ns, q3, q4, q5⟩ := p
        refine ⟨D2, _, rfl, .inl ⟨SqL.of q3, fun am nam => ?_⟩⟩
        have k6 : Kp [b] H5 (upd H6 am (.tup (ns.map V.int))) := kp_new q1 nam
        have B6 : BoxAt (upd H6 am (.tup (ns.map V.int))) b (c + 4 + 30 * (i : Int) + 1 + 2 * (w : Int)) := q2.same (same_upd nam)
        have ea : upd H6 am (.tup (ns.map V.int)) am = some (.tup (ns.map V.int)) := upd_same
        have e6 := k6 _ _ Db' e5
        have pr6 := pr5.mono fun _ _ x => BwAt.kt (k6.kt B5) x
        generalize upd H6 am (.tup (ns.map V.int)) = H7 at k6 B6 ea e6 pr6 ⊢
        have lr := pr6.length
        refine ⟨_, rfl, .inl ⟨rfl, _, SqL.of e6⟩, by show 4 ≤ sizeLine; decide, fun l nl => ⟨_, rfl, b, _, 4, rfl, B6.same (same_upd nl), by decide, by decide, by omega, fun r H8 r0 r1 k8 B8 => ?_⟩⟩
        obtain ⟨y, hy, y1⟩ : ∃ x : Str, atI [V.str "a", .str "b", .str "key", .str "z"] r = some (.str x) ∧ PySem.PyData.strOk x = true := by
          have h3 : r = 0 ∨ r = 1 ∨ r = 2 ∨ r = 3 := by omega
          rcases h3 with z | z | z | z
          · rw [z]; exact ⟨_, rfl, keys_ok _ (by decide +kernel)⟩
          · rw [z]; exact ⟨_, rfl, keys_ok _ (by decide +kernel)⟩
          · rw [z]; exact ⟨_, rfl, keys_ok _ (by decide +kernel)⟩
          · rw [z]; exact ⟨_, rfl, keys_ok _ (by decide +kernel)⟩
        refine ⟨l, _, r, .str y, rfl, rfl, SqL.of (k8 _ _ (box_new B6 nl) upd_same), hy, ?_⟩
        have k78 : Kp [b] H7 H8 := (kp_new (Kp.refl _ _) nl).trans k8
        have kt78 : KTu H7 H8 := (kt_new nl).trans (k8.kt (B6.same (same_upd nl)))
        refine ⟨_, rfl, _, rfl, _, 1, rfl, rfl, _, rfl, _, rfl, b, _, far, rfl, B8, by omega, by omega, by omega, fun v H9 v0 v1 k9 B9 => ⟨_, v, rfl, rfl, _, rfl, by show 4 ≤ sizeLine; decide, fun tp ntp => ?_⟩⟩
        have kt79 := kt78.trans (k9.kt B8)
        have k79 := k78.trans k9
        have e9 := k79 _ _ Db' e6
        refine ⟨D, _, _, rfl, rfl, same_upd ntp _ _ e9, ?_, ?_⟩
        · rw [List.length_map]
          exact small63 (by omega)
        have kA : KTu H9 (upd H9 tp (.tup [.str y, .int bg, .int (bg + 1 + v), .ref am])) := kt_new ntp
        have kB : KTu (upd H9 tp (.tup [.str y, .int bg, .int (bg + 1 + v), .ref am])) (upd (upd H9 tp (.tup [.str y, .int bg, .int (bg + 1 + v), .ref am])) D (.lst (as.map V.ref ++ [.ref tp]))) := kt_put (same_upd ntp _ _ e9) (fun xs z => by cases z)
        refine ⟨_, _, _, as ++ [tp], rs ++ [⟨y, bg, bg + 1 + v, ns⟩], rfl, ?_, ?_, ?_, ?_, ?_, p6.snoc (by show bg < bg + 1 + v; omega) q4 q5 y1⟩
        · exact kp_put (p1.trans (k5.trans (k6.trans (k79.trans (kp_new (Kp.refl _ _) ntp))))) nD
        · obtain ⟨xs, h1, h2⟩ := (B9.same (same_upd (o := .tup [.str y, .int bg, .int (bg + 1 + v), .ref am]) ntp)).le (c' := c + 4 + 30 * ((i + 1 : Nat) : Int)) (by omega)
          exact ⟨xs, by rw [upd_ne Db.symm]; exact h1, h2⟩
        · rw [upd_same, List.map_append]
          rfl
        · exact Paired.snoc (pr6.mono fun _ _ x => x.kt (kt79.trans (kA.trans kB))) ⟨am, kB _ _ upd_same, kB _ _ (kA _ _ (kt79 _ _ ea))⟩
        · rw [List.length_append, p5]
          rfl
      · obtain ⟨y5, y6, y7, as, rs, rfl, p1, p2, p3, p4, p5, p6⟩ := p
        exact ⟨as, rs, rfl, p1, p2.le (by omega), p3, p4, by omega, p6⟩
    obtain ⟨as, rs, e, h1, h2, h3, h4, h5, h6⟩ := hm
    exact ⟨_, e, q D as rs H4 h1 h2 nD h3 h4 h5 h6⟩
end
def AmAt (H : Hp) (a : Addr) (am : List Int) : Prop := H a = some (.tup (am.map V.int))
theorem AmAt.kt {H H' : Hp} {a : Addr} {am : List Int} (k : KTu H H') (h : AmAt H a am) : AmAt H' a am := k _ _ h
def spLoad (K : PySem.W.Frag) : Sp := fun vs H Q _ => ∃ (a : Addr) (w : Nat) (t : Int) (as : List Addr) (rs : List Bw), vs = [.ref a, .int (w : Int), .int t] ∧ SqL K H a (as.map V.ref) ∧ Paired (BwAt H) as rs ∧ rs.length ≤ 20 ∧ (∀ x ∈ rs, x.am.length = w) ∧ w ≤ 20 ∧
  ∀ p H', Same H H' → H p = none → H' p = some (.lst ((netB w rs t).map V.int)) → Q (.ref p) H'
section
variable {P : Program} {w : World} {K : PySem.W.Frag} {mg : Str → Option Value} {base : Heap}
set_option maxHeartbeats 2000000 in
theorem ok_load {f : Addr} {fd : FuncData} {k : Nat} (F : Fun K "_law_load" "_law_load" s_scLoad f fd) (X : Txt mg) (mSum : mg "sum" = none) : FnOk P w K mg base CX0 (k + 1) f fd ["_law_rows_here", "_law_wares", "_law_time"] (spLoad K) := by
  refine F.ok scLoad (fun vs H Q E h => ?_) (fun cdv A outer s H vs Q E hr h => ?_)
  · obtain ⟨a, w, t, as, rs, rfl, _⟩ := h
    rfl
  · obtain ⟨a, w, t, as, rs, rfl, hA, prs, few, aml, w20, q⟩ := h
    have la : as.length = rs.length := prs.length
    refine ⟨_, (pss_cons (ps_set (i := 3) scLoad.nd rfl (.inr rfl) (pe_lc (own := [("_law_row", 4)]) (g := (gName 4)) rfl scLoad.nd (pi_list (pv 0)) (blkOk_by (own := [("_law_row", 4)]) (N := n_scLoad) (sc := defScope s_scLoad) (by decide +kernel)) (fun _ _ _ _ _ => (pg_name (i := 4) scLoad.nd rfl (.inl rfl))) (fun _ _ _ _ _ => pts_one (PW.pt (pw_and (pt_cmpR op_le (pe_ix (r := rIxT K) ix_tup (pv 4) pe_int (fun _ _ => rfl)) (pv 2) (nomark _)) (pw_and1 (pt_cmpR op_lt (pv 2) (pe_ix (r := rIxT K) ix_tup (pv 4) pe_int (fun _ _ => rfl)) (nomark _)))))) (fun _ _ _ _ _ => (pe_ix (r := rIxT K) ix_tup (pv 4) pe_int (fun _ _ => rfl)))))
      (pss_one (ps_ret (pe_lc (own := [("_law_ware", 5)]) (g := (gName 5)) (tt := tYes) (te := (tCB (rSum K) (tCons (tLc (iList K (tVar 3)) (gName 6) tYes (tOp (rIxT K) (tVar 6) (tVar 5)) [6]) tNil))) rfl scLoad.nd (pi_range1 (by rfl) X.range (pa_cons (pv 1) pa_nil)) (blkOk_by (own := [("_law_ware", 5)]) (N := n_scLoad) (sc := defScope s_scLoad) (by decide +kernel)) (fun _ _ _ _ _ => (pg_name (i := 5) scLoad.nd rfl (.inr rfl))) (fun _ _ _ _ _ => pts_nil) (fun _ _ _ _ _ => (pe_callB (r := rSum K) (cr_sum rfl) (by rfl) mSum (by decide +kernel) (pa_cons (pe_lc (own := [("_law_amount", 6)]) (g := (gName 6)) (tt := tYes) (te := (tOp (rIxT K) (tVar 6) (tVar 5))) (wi := (iList K (tVar 3))) rfl scLoad.nd (pi_list (pv 3)) (blkOk_by (own := [("_law_amount", 6)]) (by kernel_rfl)) (fun _ _ _ _ _ => (pg_name (i := 6) scLoad.nd rfl (.inl rfl))) (fun _ _ _ _ _ => pts_nil) (fun _ _ _ _ _ => (pe_ix (r := rIxT K) ix_tup (pv 6) (pv 5) (fun _ _ => rfl)))) pa_nil))))))), ?_⟩
    refine ⟨_, rfl, a, rfl, ⟨_, hA⟩, fun D nD => ?_⟩
    refine lc_list (K := K) (a := a) (xs := as.map V.ref) (fun i H' => Same H H' ∧ ∃ cs : List Addr, H' D = some (.lst (cs.map V.ref)) ∧ cs.length ≤ i ∧ Paired (AmAt H') cs (((rs.take i).filter (liveAt t)).map (·.am)))
      ⟨same_upd nD, [], upd_same, Nat.le_refl _, .nil⟩ (fun i H' _ p => p.1.seq hA) (fun i x H3 hx p => ?_) (fun H3 p => ?_)
    · obtain ⟨p1, cs, p2, p3, p4⟩ := p
      obtain ⟨ra, hra, rfl⟩ := map_get hx
      obtain ⟨R, hR, am, r1, r2⟩ := paired_get prs hra
      have hi : i < as.length := (List.getElem?_eq_some_iff.mp hra).1
      have tk : (rs.take (i + 1)).filter (liveAt t) = (rs.take i).filter (liveAt t) ++ (if liveAt t R = true then [R] else []) := by
        rw [List.take_add_one, hR, List.filter_append]
        congr 1
        show List.filter (liveAt t) [R] = _
        rw [List.filter_cons]
        rfl
      have skip : liveAt t R = false → Same H H3 ∧ ∃ cs : List Addr, H3 D = some (.lst (cs.map V.ref)) ∧ cs.length ≤ i + 1 ∧ Paired (AmAt H3) cs (((rs.take (i + 1)).filter (liveAt t)).map (·.am)) := fun e => by
        refine ⟨p1, cs, p2, by omega, ?_⟩
        rw [tk, e, if_neg Bool.false_ne_true, List.append_nil]
        exact p4
      refine ⟨rfl, ?_⟩
      refine ⟨_, rfl, ra, _, 1, .int R.b, rfl, rfl, SqT.of (p1 _ _ r1), rfl, _, rfl, _, _, rfl, rfl, _, rfl, ite2 (fun e1 => ?_) (fun e1 => ?_)⟩
      · refine ⟨_, rfl, _, rfl, ra, _, 2, .int R.e, rfl, rfl, SqT.of (p1 _ _ r1), rfl, _, _, rfl, rfl, _, rfl, ite2 (fun e2 => ?_) (fun e2 => ?_)⟩
        · have lv : liveAt t R = true := decide_eq_true ⟨of_decide_eq_true e1, of_decide_eq_true e2⟩
          have kt : KTu H3 (upd H3 D (.lst (cs.map V.ref ++ [.ref am]))) := kt_put p2 (fun xs z => by cases z)
          refine ⟨_, rfl, ra, _, 3, .ref am, rfl, rfl, SqT.of (p1 _ _ r1), rfl, _, p2, ?_, same_put p1 nD, cs ++ [am], ?_, ?_, ?_⟩
          · rw [List.length_map]
            exact small63 (by omega)
          · rw [upd_same, List.map_append]
            rfl
          · rw [List.length_append]
            show cs.length + 1 ≤ i + 1
            omega
          · rw [tk, lv, if_pos rfl, List.map_append]
            exact Paired.snoc (p4.mono fun _ _ x => x.kt kt) (kt _ _ (p1 _ _ r2))
        · exact skip (decide_eq_false fun z => e2 (decide_eq_true z.2))
      · exact skip (decide_eq_false fun z => e1 (decide_eq_true z.1))
    obtain ⟨p1, cs, p2, p3, p4⟩ := p
    rw [List.length_map] at p3
    rw [List.length_map, List.take_of_length_le (by omega)] at p4
    have lc := p4.length
    rw [List.length_map] at lc
    have aml' : ∀ am ∈ (rs.filter (liveAt t)).map (·.am), am.length = w := fun am ha => by
      obtain ⟨x, hx, rfl⟩ := List.mem_map.mp ha
      exact aml x (List.mem_filter.mp hx).1
    have en : netB w rs t = (List.range w).map fun j => (((rs.filter (liveAt t)).map (·.am)).map fun am => am.getD j 0).sum := by
      unfold netB
      refine List.map_congr_left fun j _ => ?_
      rw [List.map_map]
      rfl
    have nl : (netB w rs t).length = w := netB_len _ _ _
    generalize (rs.filter (liveAt t)).map (·.am) = ams at p4 aml' en
    refine ⟨_, rfl, (w : Int), rfl, by omega, by omega, fun D2 nD2 => ?_⟩
    rw [Int.toNat_natCast]
    refine lc_range (lo := 0) (n := w) (fun j H' => Same H3 H' ∧ H' D2 = some (.lst (((netB w rs t).take j).map V.int)))
      ⟨same_upd nD2, upd_same⟩ (fun j H4 hj p => ?_) (fun H4 p => ?_)
    · obtain ⟨z1, z2⟩ := p
      refine ⟨rfl, ?_⟩
      refine ⟨_, rfl, D, rfl, ⟨_, SqL.of (z1 _ _ p2)⟩, fun D3 nD3 => ?_⟩
      refine lc_list (K := K) (a := D) (xs := cs.map V.ref) (fun v H' => Same H4 H' ∧ H' D3 = some (.lst (((ams.map fun am => am.getD j 0).take v).map V.int)))
        ⟨same_upd nD3, upd_same⟩ (fun v H' _ p => SqL.of (p.1 _ _ (z1 _ _ p2))) (fun v x H5 hx p => ?_) (fun H5 p => ?_)
      · obtain ⟨v1, v2⟩ := p
        obtain ⟨o, ho, rfl⟩ := map_get hx
        obtain ⟨am, hO, oat⟩ := paired_get p4 ho
        have oat5 := v1 _ _ (z1 _ _ oat)
        have hv : v < cs.length := (List.getElem?_eq_some_iff.mp ho).1
        have hjw : j < am.length := by rw [aml' am (List.mem_of_getElem? hO)]; exact hj
        refine ⟨rfl, ?_⟩
        refine ⟨_, rfl, _, rfl, o, _, _, .int am[j], rfl, rfl, SqT.of oat5, at_ints (List.getElem?_eq_getElem hjw), ?_⟩
        refine ⟨_, v2, ?_, same_put v1 nD3, ?_⟩
        · rw [List.length_map, List.length_take]
          exact small63 (by omega)
        · have eg : am.getD j 0 = am[j] := by
            rw [List.getD_eq_getElem?_getD, List.getElem?_eq_getElem hjw]
            rfl
          rw [upd_same, List.take_add_one, List.getElem?_map, hO, List.map_append]
          show some (HO.lst (_ ++ [V.int am[j]])) = some (HO.lst (_ ++ [V.int (am.getD j 0)]))
          rw [eg]
      · obtain ⟨v1, v2⟩ := p
        have l4 := p4.length
        rw [List.length_map, List.take_of_length_le (by rw [List.length_map]; omega)] at v2
        refine ⟨D3, _, rfl, SqL.of v2, _, v1 _ _ z2, ?_, same_put (z1.trans v1) nD2, ?_⟩
        · rw [List.length_map, List.length_take]
          exact small63 (by omega)
        · have eb : (netB w rs t)[j]? = some (ams.map fun am => am.getD j 0).sum := by
            rw [en, List.getElem?_map, List.getElem?_range hj]
            rfl
          rw [upd_same, List.take_add_one, eb, List.map_append]
          rfl
    · obtain ⟨z1, z2⟩ := p
      rw [List.take_of_length_le (by omega)] at z2
      exact q D2 H4 (p1.trans z1) (p1.free nD2) z2
end
theorem sum_nn0 : ∀ {ns : List Int}, (∀ n ∈ ns, 0 ≤ n) → 0 ≤ ns.sum
  | [], _ => Int.le_refl _
  | n :: ns, h => by
    have h1 := h n List.mem_cons_self
    have h2 := sum_nn0 fun m hm => h m (List.mem_cons_of_mem _ hm)
    rw [List.sum_cons]
    omega
theorem net_nn {w : Nat} {rs : List Bw} (g : RwG w rs) (t : Int) : ∀ n ∈ netB w rs t, 0 ≤ n := fun n hn => by
  unfold netB at hn
  obtain ⟨j, hj, rfl⟩ := List.mem_map.mp hn
  refine sum_nn0 fun m hm => ?_
  obtain ⟨x, hx, rfl⟩ := List.mem_map.mp hm
  have hx := (List.mem_filter.mp hx).1
  have hl := g.len x hx
  have hj' := List.mem_range.mp hj
  show 0 ≤ x.am.getD j 0
  rw [List.getD_eq_getElem?_getD, List.getElem?_eq_getElem (by omega)]
  exact g.nn x hx _ (List.getElem_mem _)
def spRoom : Sp := fun vs H Q _ => ∃ (b a : Addr) (c : Int) (w : Nat) (as : List Addr) (rs : List Bw), vs = [.ref b, .ref a, .int (w : Int)] ∧ BoxAt H b c ∧ c ≤ 1000000 ∧ 1 ≤ w ∧ w ≤ 8 ∧ H a = some (.lst (as.map V.ref)) ∧ Paired (BwAt H) as rs ∧ rs.length ≤ 13 ∧ RwG w rs ∧
  ∀ (p : Addr) (room : List Int) (H' : Hp), Kp [b] H H' → BoxAt H' b (c + 100) → H p = none → H' p = some (.tup (room.map V.int)) → room.length = w → (∀ n ∈ room, 0 ≤ n) → Q (.ref p) H'
theorem nn_app {ns : List Int} {n : Int} (h : ∀ x ∈ ns, 0 ≤ x) (h0 : 0 ≤ n) : ∀ x ∈ ns ++ [n], 0 ≤ x := fun x hx => by
  rcases List.mem_append.mp hx with z | z
  · exact h x z
  · rw [List.mem_singleton.mp z]
    exact h0
section
variable {P : Program} {w : World} {K : PySem.W.Frag} {mg : Str → Option Value} {base : Heap}
set_option maxHeartbeats 4000000 in
theorem ok_room {f fT fD : Addr} {fd fdT fdD : FuncData} {k : Nat} (F : Fun K "_law_room" "_law_room" s_scRoom f fd) (X : Txt mg)
    (GT : FnOk P w K mg base CX0 k fT fdT ["_law_box_here", "_law_many"] spTakeW) (mT : mg "_law_take" = some (.ref fT)) (kT : PySem.W.keepIn K (.ref fT) = true) (bT : L2.Binds K fdT ["_law_box_here", "_law_many"] [])
    (GD : FnOk P w K mg base CX0 k fD fdD ["_law_rows_here", "_law_wares", "_law_time"] (spLoad K)) (mD : mg "_law_load" = some (.ref fD)) (kD : PySem.W.keepIn K (.ref fD) = true) (bD : L2.Binds K fdD ["_law_rows_here", "_law_wares", "_law_time"] []) :
    FnOk P w K mg base CX0 (k + 1) f fd ["_law_box_here", "_law_rows_here", "_law_wares"] spRoom := by
  refine F.ok scRoom (fun vs H Q E h => ?_) (fun cdv A outer s H vs Q E hr h => ?_)
  · obtain ⟨b, a, c, w, as, rs, rfl, _⟩ := h
    rfl
  · obtain ⟨b, a, c, w, as, rs, rfl, hB, hc, w1, w8, eA, prs, r13, rg, q⟩ := h
    have la : as.length = rs.length := prs.length
    have ab : a ≠ b := box_refs hB eA
    have ab' : a ∉ [b] := fun z => ab (List.mem_singleton.mp z)
    refine ⟨_, (C8.pss_cut (ps_if (PW.pt (pw_or (pt_cmpR (op_eqD hr.units) (pv 1) (pe_lst pa_nil) (nomark _)) (pw_or1 (pt_cmpR op_eq (pe_call GT hr (by rfl) mT kT bT .nil pass0 (pa_cons (pv 0) (pa_cons pe_int pa_nil))) pe_int (nomark _)))))
        (pss_one (ps_ret (pe_callTy call_tuple_of (by rfl) X.tup bt_tuple (pa_cons (pe_lc (own := [("_law_ware", 5)]) (g := (gName 5)) (tt := tYes) rfl scRoom.nd (pi_range1 (by rfl) X.range (pa_cons (pv 2) pa_nil)) (blkOk_by (own := [("_law_ware", 5)]) (N := n_scRoom) (sc := defScope s_scRoom) (by decide +kernel)) (fun _ _ _ _ _ => (pg_name (i := 5) scRoom.nd rfl (.inl rfl))) (fun _ _ _ _ _ => pts_nil) (fun _ _ _ _ _ => (pe_call GT hr (by rfl) mT kT bT .nil pass0 (pa_cons (pv 0) (pa_cons pe_int pa_nil))))) pa_nil))))
        pss_nil)
      (pss_cons (ps_setLc (i := 3) (own := [("_law_ware", 5)]) (g := (gName 5)) (tt := tYes) (te := (tCB (rMax K) (tCons (tLc (iList K (tVar 1)) (gName 6) tYes (tOp (rIxL K) (tCall (spLoad K) [] E0 (tCons (tVar 1) (tCons (tVar 2) (tCons (tOp (rIxT K) (tVar 6) (tC (.int 1))) tNil)))) (tVar 5)) [6]) tNil))) rfl scRoom.nd rfl rfl (sw_true rfl rfl rfl (by decide +kernel)) (pi_range1 (by rfl) X.range (pa_cons (pv 2) pa_nil)) (blkOk_by (own := [("_law_ware", 5)]) (N := n_scRoom) (sc := defScope s_scRoom) (by decide +kernel)) (fun _ _ _ _ _ => (pg_name (i := 5) scRoom.nd rfl (.inr rfl))) (fun _ _ _ _ _ => pts_nil) (fun _ _ _ _ _ => (pe_callB (r := rMax K) (cr_max rfl) (by rfl) X.max (by decide +kernel) (pa_cons (pe_lc (own := [("_law_row", 6)]) (g := (gName 6)) (tt := tYes) (te := (tOp (rIxL K) (tCall (spLoad K) [] E0 (tCons (tVar 1) (tCons (tVar 2) (tCons (tOp (rIxT K) (tVar 6) (tC (.int 1))) tNil)))) (tVar 5))) (wi := (iList K (tVar 1))) rfl scRoom.nd (pi_list (pv 1)) (blkOk_by (own := [("_law_row", 6)]) (by kernel_rfl)) (fun _ _ _ _ _ => (pg_name (i := 6) scRoom.nd rfl (.inl rfl))) (fun _ _ _ _ _ => pts_nil) (fun _ _ _ _ _ => (pe_ix (r := rIxL K) ix_list (pe_call GD hr (by rfl) mD kD bD .nil pass0 (pa_cons (pv 1) (pa_cons (pv 2) (pa_cons (pe_ix (r := rIxT K) ix_tup (pv 6) pe_int (fun _ _ => rfl)) pa_nil)))) (pv 5) (fun _ _ => rfl)))) pa_nil))))
      (C8.pss_cut (ps_if (pt_cmpR op_eq (pe_call GT hr (by rfl) mT kT bT .nil pass0 (pa_cons (pv 0) (pa_cons pe_int pa_nil))) pe_int (nomark _))
        (pss_one (ps_set (i := 3) scRoom.nd rfl (.inl rfl) (pe_call GD hr (by rfl) mD kD bD .nil pass0 (pa_cons (pv 1) (pa_cons (pv 2) (pa_cons (pe_ix ix_tup (pe_ix ix_list (pv 1) (pe_call GT hr (by rfl) mT kT bT .nil pass0 (pa_cons (pv 0) (pa_cons (pe_callB call_len_seq (by rfl) X.len PySem.boot_len (pa_cons (pv 1) pa_nil)) pa_nil))) (fun _ _ => rfl)) pe_int (fun _ _ => rfl)) pa_nil))))))
        pss_nil)
      (pss_cons (ps_set (i := 4) scRoom.nd rfl (.inl rfl) (pe_call GT hr (by rfl) mT kT bT .nil pass0 (pa_cons (pv 0) (pa_cons (pv 2) pa_nil))))
      (pss_cons (ps_asg (pe_callB (call_max2 rfl) (by rfl) X.max (by decide +kernel) (pa_cons pe_int (pa_cons (pe_op op_sub (pe_ix ix_list (pv 3) (pv 4) (fun _ _ => rfl)) (pe_call GT hr (by rfl) mT kT bT .nil pass0 (pa_cons (pv 0) (pa_cons pe_int pa_nil)))) pa_nil))) (pg_sub (pv 3) (pv 4) set_list))
      (pss_one (ps_ret (pe_callTy call_tuple_of (by rfl) X.tup bt_tuple (pa_cons (pv 3) pa_nil))))))))), ?_⟩
    refine ⟨fun σ H' => σ = [some (.ref b), some (.ref a), some (.int (w : Int)), none, none, none, none] ∧ Kp [b] H H' ∧ BoxAt H' b (c + 1) ∧ rs ≠ [], ?_, fun σ H1 hm => ?_⟩
    · refine ⟨_, rfl, by show 0 ≤ sizeLine; decide, fun l nl => ⟨_, _, .lst (SqL.of (same_upd nl _ _ eA)) (dp_bws (prs.mono fun _ _ x => x.kt (kt_new nl))), .lst (SqL.of upd_same) .nil, sh_bws rg.key, by decide, _, rfl, ite2 (fun e => iteT ?_) (fun e => ?_)⟩⟩
      · have k1 : Kp [b] H (upd H l (.lst [])) := kp_new (Kp.refl _ _) nl
        have B1 : BoxAt (upd H l (.lst [])) b (c + 1) := (hB.same (same_upd nl)).le (by omega)
        generalize upd H l (.lst []) = H1 at k1 B1 ⊢
        refine ⟨_, rfl, (w : Int), rfl, by omega, by omega, fun D2 nD2 => ?_⟩
        rw [Int.toNat_natCast]
        have D2b : D2 ≠ b := nb_of B1 nD2
        refine lc_range (lo := 0) (n := w) (fun j H' => Kp [b] H1 H' ∧ BoxAt H' b (c + 1 + (j : Int)) ∧ ∃ ns : List Int, H' D2 = some (.lst (ns.map V.int)) ∧ ns.length = j ∧ ∀ x ∈ ns, 0 ≤ x)
          ⟨kp_new (Kp.refl _ _) nD2, (B1.same (same_upd nD2)).le (by omega), [], upd_same, rfl, fun _ h => (nomatch h)⟩ (fun j H6 hj p => ?_) (fun H6 p => ?_)
        · obtain ⟨q1, q2, ns, q3, q4, q5⟩ := p
          refine ⟨rfl, ?_⟩
          refine ⟨_, rfl, b, _, 9, rfl, q2, by decide, by decide, by omega, fun v H8 v0 v1 k8 B8 => ⟨_, k8 _ _ (fun z => D2b (List.mem_singleton.mp z)) q3, ?_, kp_put (q1.trans k8) nD2, ?_, ns ++ [v], ?_, ?_, nn_app q5 v0⟩⟩
          · rw [List.length_map]
            exact small63 (by omega)
          · obtain ⟨xs, h1, h2⟩ := B8.le (c' := c + 1 + ((j + 1 : Nat) : Int)) (by omega)
            exact ⟨xs, by rw [upd_ne D2b.symm]; exact h1, h2⟩
          · rw [upd_same, List.map_append]
            rfl
          · rw [List.length_append, q4]
            rfl
        obtain ⟨q1, q2, ns, q3, q4, q5⟩ := p
        refine ⟨D2, _, rfl, .inl ⟨SqL.of q3, fun am nam => ?_⟩⟩
        have k6 := k1.trans q1
        exact q am ns _ (kp_new k6 nam) ((q2.same (same_upd nam)).le (by omega)) (kp_free k6 (nb_of q2 nam) nam) upd_same q4 q5
      · refine ⟨_, rfl, b, _, 5, rfl, hB.same (same_upd nl), by decide, by decide, by omega, fun r H1 r0 r1 k1' B1 => ⟨rfl, _, rfl, ite2 (fun e2 => ?_) (fun e2 => ?_)⟩⟩
        · have k1 : Kp [b] H H1 := (kp_new (Kp.refl _ _) nl).trans k1'
          refine ⟨_, rfl, (w : Int), rfl, by omega, by omega, fun D2 nD2 => ?_⟩
          rw [Int.toNat_natCast]
          have D2b : D2 ≠ b := nb_of B1 nD2
          refine lc_range (lo := 0) (n := w) (fun j H' => Kp [b] H1 H' ∧ BoxAt H' b (c + 1 + (j : Int)) ∧ ∃ ns : List Int, H' D2 = some (.lst (ns.map V.int)) ∧ ns.length = j ∧ ∀ x ∈ ns, 0 ≤ x)
            ⟨kp_new (Kp.refl _ _) nD2, (B1.same (same_upd nD2)).le (by omega), [], upd_same, rfl, fun _ h => (nomatch h)⟩ (fun j H6 hj p => ?_) (fun H6 p => ?_)
          · obtain ⟨q1, q2, ns, q3, q4, q5⟩ := p
            refine ⟨rfl, ?_⟩
            refine ⟨_, rfl, b, _, 9, rfl, q2, by decide, by decide, by omega, fun v H8 v0 v1 k8 B8 => ⟨_, k8 _ _ (fun z => D2b (List.mem_singleton.mp z)) q3, ?_, kp_put (q1.trans k8) nD2, ?_, ns ++ [v], ?_, ?_, nn_app q5 v0⟩⟩
            · rw [List.length_map]
              exact small63 (by omega)
            · obtain ⟨xs, h1, h2⟩ := B8.le (c' := c + 1 + ((j + 1 : Nat) : Int)) (by omega)
              exact ⟨xs, by rw [upd_ne D2b.symm]; exact h1, h2⟩
            · rw [upd_same, List.map_append]
              rfl
            · rw [List.length_append, q4]
              rfl
          obtain ⟨q1, q2, ns, q3, q4, q5⟩ := p
          refine ⟨D2, _, rfl, .inl ⟨SqL.of q3, fun am nam => ?_⟩⟩
          have k6 := k1.trans q1
          exact q am ns _ (kp_new k6 nam) ((q2.same (same_upd nam)).le (by omega)) (kp_free k6 (nb_of q2 nam) nam) upd_same q4 q5
        · refine ⟨rfl, (kp_new (Kp.refl _ _) nl).trans k1', B1, fun z => e ?_⟩
          rw [z]
          rfl
    obtain ⟨rfl, k1, B1, ne⟩ := hm
    have eA1 := k1 _ _ ab' eA
    have pr1 := prs.mono fun _ _ x => BwAt.kt (k1.kt hB) x
    have r0 : 0 < rs.length := List.length_pos_iff.mpr ne
    refine ⟨_, rfl, (w : Int), rfl, by omega, by omega, fun D nD => ?_⟩
    have Db : D ≠ b := nb_of B1 nD
    have fD : H D = none := kp_free k1 Db nD
    rw [Int.toNat_natCast]
    refine lc_range (lo := 0) (n := w) (fun j H' => Same H1 H' ∧ ∃ ms : List Int, H' D = some (.lst (ms.map V.int)) ∧ ms.length = j ∧ ∀ x ∈ ms, 0 ≤ x)
      ⟨same_upd nD, [], upd_same, rfl, fun _ h => (nomatch h)⟩ (fun j H2 hj p => ?_) (fun H2 p => ?_)
    · obtain ⟨z1, ms, z2, z3, z4⟩ := p
      refine ⟨rfl, ?_⟩
      refine ⟨_, rfl, a, rfl, ⟨_, SqL.of (z1 _ _ eA1)⟩, fun D3 nD3 => ?_⟩
      refine lc_list (K := K) (a := a) (xs := as.map V.ref) (fun v H' => Same H2 H' ∧ ∃ ns : List Int, H' D3 = some (.lst (ns.map V.int)) ∧ ns.length = v ∧ ∀ x ∈ ns, 0 ≤ x)
        ⟨same_upd nD3, [], upd_same, rfl, fun _ h => (nomatch h)⟩ (fun v H' _ p => SqL.of (p.1 _ _ (z1 _ _ eA1))) (fun v x H3 hx p => ?_) (fun H3 p => ?_)
      · obtain ⟨v1, ns, v2, v3, v4⟩ := p
        obtain ⟨ra, hra, rfl⟩ := map_get hx
        have s13 := z1.trans v1
        have pr3 := pr1.mono fun _ _ x => BwAt.kt (Same.kt s13) x
        obtain ⟨R, hR, am, x1, x2⟩ := paired_get pr3 hra
        have hv : v < as.length := (List.getElem?_eq_some_iff.mp hra).1
        refine ⟨rfl, ?_⟩
        refine ⟨_, rfl, _, rfl, _, rfl, ra, _, 1, .int R.b, rfl, rfl, SqT.of x1, rfl, a, w, R.b, as, rs, rfl, SqL.of (s13 _ _ eA1), pr3, by omega, rg.len, by omega, fun p H4 s4 np ep => ?_⟩
        have hjn : j < (netB w rs R.b).length := by rw [netB_len]; exact hj
        have n0 := net_nn rg R.b _ (List.getElem_mem hjn)
        refine ⟨_, rfl, p, _, _, .int (netB w rs R.b)[j], rfl, rfl, SqL.of ep, at_ints (List.getElem?_eq_getElem hjn), ?_⟩
        refine ⟨_, s4 _ _ v2, ?_, same_put (v1.trans s4) nD3, ns ++ [(netB w rs R.b)[j]], ?_, ?_, nn_app v4 n0⟩
        · rw [List.length_map]
          exact small63 (by omega)
        · rw [upd_same, List.map_append]
          rfl
        · rw [List.length_append, v3]
          rfl
      · obtain ⟨v1, ns, v2, v3, v4⟩ := p
        rw [List.length_map] at v3
        refine ⟨D3, ns, rfl, SqL.of v2, by omega, fun m hm _ => ⟨_, v1 _ _ z2, ?_, same_put (z1.trans v1) nD, ms ++ [m], ?_, ?_, nn_app z4 (v4 m hm)⟩⟩
        · rw [List.length_map]
          exact small63 (by omega)
        · rw [upd_same, List.map_append]
          rfl
        · rw [List.length_append, z3]
          rfl
    obtain ⟨z1, ms, z2, z3, z4⟩ := p
    have B2 := B1.same z1
    have eA2 := z1 _ _ eA1
    have pr2 := pr1.mono fun _ _ x => BwAt.kt (Same.kt z1) x
    have k2 : Kp [b] H H2 := k1.trans (Same.kp _ z1)
    refine ⟨fun σ H' => ∃ (r : Addr) (ms : List Int), σ = [some (.ref b), some (.ref a), some (.int (w : Int)), some (.ref r), none, none, none] ∧ Kp [b] H H' ∧ BoxAt H' b (c + 3) ∧ H r = none ∧ r ≠ b ∧ H' r = some (.lst (ms.map V.int)) ∧ ms.length = w ∧ ∀ x ∈ ms, 0 ≤ x, ?_, fun σ H3 hm => ?_⟩
    · refine ⟨_, rfl, b, _, 3, rfl, B2, by decide, by decide, by omega, fun t H3 t0 t1 k3 B3 => ⟨rfl, _, rfl, ite2 (fun e => ?_) (fun e => ?_)⟩⟩
      · have eA3 := k3 _ _ ab' eA2
        refine ⟨_, rfl, _, rfl, _, rfl, _, rfl, _, rfl, a, _, rfl, .inl (SqL.of eA3), b, _, (as.map V.ref).length, rfl, B3, by rw [List.length_map]; omega, by rw [List.length_map]; omega, by omega, fun i H4 i0 i1 k4 B4 => ?_⟩
        rw [List.length_map] at i1
        have eA4 := k4 _ _ ab' eA3
        have hi : i.toNat < as.length := by omega
        have pr4 := pr2.mono fun _ _ x => BwAt.kt ((k3.kt B2).trans (k4.kt B3)) x
        obtain ⟨R, hR, am, x1, x2⟩ := paired_get pr4 (List.getElem?_eq_getElem hi)
        refine ⟨a, _, i, .ref as[i.toNat], rfl, rfl, SqL.of eA4, atL i0 (by rw [List.getElem?_map, List.getElem?_eq_getElem hi]; rfl), _, _, 1, .int R.b, rfl, rfl, SqT.of x1, rfl, a, w, R.b, as, rs, rfl, SqL.of eA4, pr4, by omega, rg.len, by omega, fun p H5 s5 np ep => ?_⟩
        have k34 := k2.trans (k3.trans k4)
        exact ⟨p, netB w rs R.b, rfl, k34.trans (Same.kp _ s5), (B4.same s5).le (by omega), kp_free k34 (nb_of B4 np) np, nb_of B4 np, ep, netB_len _ _ _, net_nn rg _⟩
      · exact ⟨D, ms, rfl, k2.trans k3, B3.le (by omega), fD, Db, k3 _ _ (fun z => Db (List.mem_singleton.mp z)) z2, z3, z4⟩
    obtain ⟨r, ms, rfl, k3, B3, fr, rb, e3, l3, n3⟩ := hm
    have rb' : r ∉ [b] := fun z => rb (List.mem_singleton.mp z)
    refine ⟨_, rfl, _, rfl, b, _, (w : Int), rfl, B3, by omega, by omega, by omega, fun i H4 i0 i1 k4 B4 => ?_⟩
    have e4 := k4 _ _ rb' e3
    obtain ⟨m, rfl⟩ : ∃ m : Nat, i = (m : Int) := ⟨i.toNat, by omega⟩
    have hm : m < ms.length := by omega
    refine ⟨_, rfl, _, rfl, r, _, _, .int ms[m], rfl, rfl, SqL.of e4, atI_nat (by rw [List.getElem?_map, List.getElem?_eq_getElem hm]; rfl), _, rfl, b, _, 2, rfl, B4, by decide, by decide, by omega, fun v H5 v0 v1 k5 B5 => ?_⟩
    have e5 := k5 _ _ rb' e4
    refine ⟨ms[m], v, rfl, rfl, _, _, rfl, _, rfl, _, rfl, r, _, (m : Int), m, rfl, rfl, e5, by rw [List.length_map]; exact ixAt hm, ?_⟩
    have key : ∀ x : Int, 0 ≤ x → ∀ p, upd H5 r (.lst ((ms.map V.int).set m (.int x))) p = none → Q (.ref p) (upd (upd H5 r (.lst ((ms.map V.int).set m (.int x)))) p (.tup ((ms.map V.int).set m (.int x)))) := fun x hx p np => by
      have kr : Kp [b] H (upd H5 r (.lst ((ms.map V.int).set m (.int x)))) := kp_put (k3.trans (k4.trans k5)) fr
      have Br : BoxAt (upd H5 r (.lst ((ms.map V.int).set m (.int x)))) b (c + 100) := by
        obtain ⟨xs, h1, h2⟩ := B5.le (c' := c + 100) (by omega)
        exact ⟨xs, by rw [upd_ne rb.symm]; exact h1, h2⟩
      refine q p (ms.set m x) _ (kp_new kr np) (Br.same (same_upd np)) (kp_free kr (nb_of Br np) np) (by rw [upd_same, List.map_set]) (by rw [List.length_set, l3]) fun y hy => ?_
      rcases List.mem_or_eq_of_mem_set hy with z | z
      · exact n3 y z
      · rw [z]
        exact hx
    refine ⟨_, rfl, r, _, rfl, .inl ⟨SqL.of upd_same, fun p np => ?_⟩⟩
    exact key _ (by split <;> omega) p np
end
end My

/-! what is left when all that may be taken are away -/
namespace My
open PySem PySem.Spec PyProof.Rows L2 GX GxR
def goneL (kvs : List (Str × List Int)) (Rs : List (Gang × Int)) (G : Gang) : List Str := (takenL kvs Rs G).map (·.1)
def leftL (kvs : List (Str × List Int)) (Rs : List (Gang × Int)) (G : Gang) : List (Gang × Int) := Rs.filter fun R => !decide (R.1.name ∈ goneL kvs Rs G)
def stays (kvs : List (Str × List Int)) (Rs : List (Gang × Int)) (G F : Gang) : Bool := (groundOf kvs Rs G F).isNone
section
variable {kvs : List (Str × List Int)} {Rs : List (Gang × Int)} {G : Gang}
theorem gone_iff (nd : (Rs.map (·.1.name)).Nodup) {R : Gang × Int} (hR : R ∈ Rs) : (!decide (R.1.name ∈ goneL kvs Rs G)) = stays kvs Rs G R.1 := by
  unfold stays
  cases e : groundOf kvs Rs G R.1 with
  | none =>
    have : R.1.name ∉ goneL kvs Rs G := fun h => by
      obtain ⟨p, hp, ep⟩ := List.mem_map.mp h
      obtain ⟨S, hS, e1, e2⟩ := mem_takenL hp
      have := nodup_inj nd S hS R hR (e1.trans ep)
      rw [this, e] at e2
      cases e2
    rw [decide_eq_false this]
    rfl
  | some z =>
    have : R.1.name ∈ goneL kvs Rs G := by
      refine List.mem_map.mpr ⟨(R.1.name, z), List.mem_flatMap.mpr ⟨R.1, ?_, ?_⟩, rfl⟩
      · exact List.mem_reverse.mpr (List.mem_map.mpr ⟨R, (ord_perm Rs).mem_iff.mpr hR, rfl⟩)
      · unfold takenOf
        rw [e]
        exact List.mem_singleton.mpr rfl
    rw [decide_eq_true this]
    rfl
theorem left_eq (nd : (Rs.map (·.1.name)).Nodup) : leftL kvs Rs G = Rs.filter fun R => stays kvs Rs G R.1 := List.filter_congr fun R hR => gone_iff nd hR
theorem left_guild (nd : (Rs.map (·.1.name)).Nodup) (g : Str) : ofG (leftL kvs Rs G) g = (ofG Rs g).filter fun R => stays kvs Rs G R.1 := by
  rw [left_eq nd]
  unfold ofG
  rw [List.filter_filter, List.filter_filter]
  exact List.filter_congr fun R _ => Bool.and_comm _ _
end
/-- the gangs of a guild, in order -/
def gsOf (Rs : List (Gang × Int)) (g : Str) : List Gang := (ord (ofG Rs g)).map (·.1)
theorem filter_map_fst (p : Gang → Bool) : ∀ xs : List (Gang × Int), (xs.filter fun R => p R.1).map (·.1) = (xs.map (·.1)).filter p
  | [] => rfl
  | x :: xs => by
    rw [List.map_cons]
    by_cases h : p x.1 = true
    · rw [List.filter_cons_of_pos (p := fun R : Gang × Int => p R.1) h, List.filter_cons_of_pos h, List.map_cons, filter_map_fst p xs]
    · rw [List.filter_cons_of_neg (p := fun R : Gang × Int => p R.1) h, List.filter_cons_of_neg h, filter_map_fst p xs]
theorem part_filter {dn : List Int} {p : Gang → Bool} : ∀ {Gs : List Gang} {ld : List Int}, (∀ F ∈ ownOf dn Gs ld, p F = true) →
    ownOf dn (Gs.filter p) ld = ownOf dn Gs ld ∧ lentOf dn (Gs.filter p) ld = (lentOf dn Gs ld).filter p ∧ loadOf dn (Gs.filter p) ld = loadOf dn Gs ld
  | [], _, _ => ⟨rfl, rfl, rfl⟩
  | F :: Gs, ld, h => by
    by_cases hf : fitB (addL ld F.whole) dn = true
    · have e : ownOf dn (F :: Gs) ld = F :: ownOf dn Gs (addL ld F.whole) := by
        show (if _ then _ else _) = _
        rw [if_pos hf]
      rw [e] at h
      obtain ⟨h1, h2, h3⟩ := part_filter (Gs := Gs) (ld := addL ld F.whole) fun K hK => h K (List.mem_cons_of_mem _ hK)
      rw [List.filter_cons_of_pos (h F List.mem_cons_self)]
      simp only [ownOf, lentOf, loadOf, if_pos hf, h1, h2, h3, true_and]
    · have e : ownOf dn (F :: Gs) ld = ownOf dn Gs ld := by
        show (if _ then _ else _) = _
        rw [if_neg hf]
      rw [e] at h
      obtain ⟨h1, h2, h3⟩ := part_filter (Gs := Gs) (ld := ld) h
      by_cases hp : p F = true
      · rw [List.filter_cons_of_pos hp]
        simp only [ownOf, lentOf, loadOf, if_neg hf, h1, h2, h3, List.filter_cons_of_pos hp, true_and]
      · rw [List.filter_cons_of_neg hp]
        simp only [ownOf, lentOf, loadOf, if_neg hf, h1, h2, h3, List.filter_cons_of_neg hp, true_and]
section
variable {kvs : List (Str × List Int)} {Rs : List (Gang × Int)} {G : Gang}
theorem part_left (g2 : Good2 Rs) (g : Str) (dn : List Int) : partRs dn (ofG (leftL kvs Rs G) g) = (ownOf dn ((gsOf Rs g).filter (stays kvs Rs G)) (zeros dn.length), lentOf dn ((gsOf Rs g).filter (stays kvs Rs G)) (zeros dn.length), loadOf dn ((gsOf Rs g).filter (stays kvs Rs G)) (zeros dn.length)) := by
  have nd : ((ofG Rs g).map (·.2)).Nodup := (List.Sublist.map (·.2) (List.filter_sublist (p := fun R : Gang × Int => decide (R.1.guild = g)) (l := Rs))).nodup g2.nums
  rw [partRs_eq, left_guild g2.names, ord_filter nd, filter_map_fst]
  rfl
theorem gs_nodup (g2 : Good2 Rs) (g : Str) : (nm (gsOf Rs g)).Nodup := by
  have h : (nm (gsOf Rs g)).Perm ((ofG Rs g).map (·.1.name)) := by
    unfold nm gsOf
    rw [List.map_map]
    exact (ord_perm (ofG Rs g)).map _
  exact h.nodup_iff.mpr ((List.Sublist.map (·.1.name) (List.filter_sublist (p := fun R : Gang × Int => decide (R.1.guild = g)) (l := Rs))).nodup g2.names)
theorem gs_row {g : Str} {F : Gang} (h : F ∈ gsOf Rs g) : ∃ R ∈ Rs, R.1 = F ∧ F.guild = g := by
  obtain ⟨R, hR, e⟩ := List.mem_map.mp h
  obtain ⟨h1, h2⟩ := List.mem_filter.mp ((ord_perm _).mem_iff.mp hR)
  exact ⟨R, h1, e, by rw [← e]; exact of_decide_eq_true h2⟩
theorem lentG_eq (g : Str) : lentOfG kvs Rs g = nm (lentOf (dueOf kvs g) (gsOf Rs g) (zeros (dueOf kvs g).length)) := by
  unfold lentOfG
  rw [partRs_eq]
  rfl
/-- a lent one is lent, an own one isn't -/
theorem lent_in {g : Str} {F : Gang} (h : F ∈ lentOf (dueOf kvs g) (gsOf Rs g) (zeros (dueOf kvs g).length)) : lentIn kvs Rs F.name = true := by
  obtain ⟨R, hR, e, eg⟩ := gs_row ((lent_sub _ _ _).subset h)
  refine List.any_eq_true.mpr ⟨R, hR, decide_eq_true ?_⟩
  rw [e, eg, lentG_eq]
  exact List.mem_map.mpr ⟨F, h, rfl⟩
theorem own_not (g2 : Good2 Rs) {g : Str} {F : Gang} (h : F ∈ ownOf (dueOf kvs g) (gsOf Rs g) (zeros (dueOf kvs g).length)) : lentIn kvs Rs F.name = false := by
  obtain ⟨R, hR, e, eg⟩ := gs_row ((own_sub _ _ _).subset h)
  cases hl : lentIn kvs Rs F.name with
  | false => rfl
  | true =>
    obtain ⟨S, hS, hz⟩ := List.any_eq_true.mp hl
    have hz := of_decide_eq_true hz
    obtain ⟨S', hS', e1, e2⟩ := lentG_row hz
    have : S' = R := nodup_inj g2.names S' hS' R hR (by show S'.1.name = R.1.name; rw [e2, e])
    rw [this, e, eg] at e1
    rw [← e1, lentG_eq] at hz
    have hf := (filt_own (dn := dueOf kvs g) (ld := zeros (dueOf kvs g).length) (gs_nodup g2 g)).2
    rw [← hf] at hz
    have := (List.mem_filter.mp hz).2
    rw [decide_eq_true (show F.name ∈ nm (ownOf (dueOf kvs g) (gsOf Rs g) (zeros (dueOf kvs g).length)) from List.mem_map.mpr ⟨F, h, rfl⟩)] at this
    cases this
theorem own_stays (g2 : Good2 Rs) {g : Str} (hc : g ≠ G.guild ∨ ownB (dueOf kvs G.guild) (ofG Rs G.guild) G = false) : ∀ F ∈ ownOf (dueOf kvs g) (gsOf Rs g) (zeros (dueOf kvs g).length), stays kvs Rs G F = true := fun F hF => by
  have h := own_not (kvs := kvs) g2 hF
  obtain ⟨R, hR, e, eg⟩ := gs_row ((own_sub _ _ _).subset hF)
  unfold stays groundOf
  rw [h, eg]
  rcases hc with hc | hc
  · rw [if_neg hc]
    rfl
  · by_cases hg : g = G.guild
    · rw [if_pos hg, hc]
      unfold gIn
      rw [if_neg (by simp)]
      rfl
    · rw [if_neg hg]
      rfl
/-- (4) the own ones are the same -/
theorem left_own (g2 : Good2 Rs) {g : Str} (hc : g ≠ G.guild ∨ ownB (dueOf kvs G.guild) (ofG Rs G.guild) G = false) : (partRs (dueOf kvs g) (ofG (leftL kvs Rs G) g)).1 = (partRs (dueOf kvs g) (ofG Rs g)).1 ∧ (partRs (dueOf kvs g) (ofG (leftL kvs Rs G) g)).2.2 = (partRs (dueOf kvs g) (ofG Rs g)).2.2 ∧
    (partRs (dueOf kvs g) (ofG (leftL kvs Rs G) g)).2.1 = (lentOf (dueOf kvs g) (gsOf Rs g) (zeros (dueOf kvs g).length)).filter (stays kvs Rs G) := by
  obtain ⟨h1, h2, h3⟩ := part_filter (own_stays (kvs := kvs) g2 hc)
  rw [part_left g2, partRs_eq]
  exact ⟨h1, h3, h2⟩
/-- (3) where it is own, none of a lesser rank is left -/
theorem left_above (g2 : Good2 Rs) (ho : ownB (dueOf kvs G.guild) (ofG Rs G.guild) G = true) : ofG (leftL kvs Rs G) G.guild = aboveOf G.rank (ofG Rs G.guild) := by
  rw [left_guild g2.names]
  refine List.filter_congr fun R hR => ?_
  have hg : R.1.guild = G.guild := of_decide_eq_true (List.mem_filter.mp hR).2
  unfold stays groundOf
  rw [if_pos hg, ho]
  unfold gIn
  by_cases hl : R.1.rank < G.rank
  · rw [decide_eq_true hl, if_pos (by simp), decide_eq_false (by omega)]
    rfl
  · rw [decide_eq_false hl, if_neg (by simp), decide_eq_true (by omega)]
    rfl
/-- (1) no lent one of a lesser rank is left -/
theorem left_lent (g2 : Good2 Rs) {g : Str} : ∀ F ∈ (partRs (dueOf kvs g) (ofG (leftL kvs Rs G) g)).2.1, ¬ F.rank < G.rank := fun F hF hl => by
  by_cases hc : g ≠ G.guild ∨ ownB (dueOf kvs G.guild) (ofG Rs G.guild) G = false
  · rw [(left_own g2 hc).2.2] at hF
    obtain ⟨h1, h2⟩ := List.mem_filter.mp hF
    have hi := lent_in h1
    obtain ⟨R, hR, e, eg⟩ := gs_row ((lent_sub _ _ _).subset h1)
    unfold stays groundOf at h2
    rw [hi, eg, decide_eq_true hl] at h2
    by_cases hg : g = G.guild
    · rw [if_pos hg] at h2
      cases h2
    · rw [if_neg hg] at h2
      unfold gBey at h2
      cases ho : owedB (dueOf kvs G.guild) (ofG Rs G.guild) G <;> rw [ho] at h2 <;> cases h2
  · have hg : g = G.guild := Classical.byContradiction fun z => hc (.inl z)
    have ho : ownB (dueOf kvs G.guild) (ofG Rs G.guild) G = true := by
      cases h : ownB (dueOf kvs G.guild) (ofG Rs G.guild) G with
      | true => rfl
      | false => exact absurd (.inr h) hc
    subst hg
    obtain ⟨R, hR, e⟩ := partRs_mem (.inr hF)
    rw [left_above g2 ho] at hR
    have := of_decide_eq_true (List.mem_filter.mp hR).2
    rw [e] at this
    omega
/-- (2) where it is owed, no lent one of another guild is left -/
theorem left_none (g2 : Good2 Rs) {g : Str} (hg : g ≠ G.guild) (ho : owedB (dueOf kvs G.guild) (ofG Rs G.guild) G = true) : (partRs (dueOf kvs g) (ofG (leftL kvs Rs G) g)).2.1 = [] := by
  rw [(left_own g2 (.inl hg)).2.2]
  refine List.filter_eq_nil_iff.mpr fun F hF z => ?_
  have hi := lent_in hF
  obtain ⟨R, hR, e, eg⟩ := gs_row ((lent_sub _ _ _).subset hF)
  unfold stays groundOf at z
  rw [hi, eg, if_neg hg, ho] at z
  cases z
end
/-! one that is owed would be own -/
theorem ord_split {Rs : List (Gang × Int)} (nd : (Rs.map (·.2)).Nodup) (r : Int) : ord Rs = ord (aboveOf r Rs) ++ ord (belowOf r Rs) := by
  refine (ord_of nd ?_ ?_).symm
  · exact ((ord_perm (aboveOf r Rs)).append (ord_perm (belowOf r Rs))).trans (List.filter_append_perm _ Rs)
  · rw [List.pairwise_append]
    refine ⟨ord_sorted _, ord_sorted _, fun a ha b hb => ?_⟩
    have ha3 : r ≤ a.1.rank := of_decide_eq_true (List.mem_filter.mp ((ord_perm _).mem_iff.mp ha)).2
    have hb' := (List.mem_filter.mp ((ord_perm _).mem_iff.mp hb)).2
    simp only [Bool.not_eq_true', decide_eq_false_iff_not] at hb'
    unfold rowLe
    rw [decide_eq_true_eq]
    omega
def leL (xs ys : List Int) : Prop := xs.length = ys.length ∧ ∀ (i : Nat) (x y : Int), xs[i]? = some x → ys[i]? = some y → x ≤ y
theorem leL_refl (xs : List Int) : leL xs xs := ⟨rfl, fun i x y h1 h2 => by rw [h1] at h2; cases h2; exact Int.le_refl _⟩
theorem leL_trans {xs ys zs : List Int} (a : leL xs ys) (b : leL ys zs) : leL xs zs := ⟨a.1.trans b.1, fun i x z h1 h2 => by
  have hi : i < ys.length := by rw [← a.1]; exact (List.getElem?_eq_some_iff.mp h1).1
  exact Int.le_trans (a.2 i x _ h1 (List.getElem?_eq_getElem hi)) (b.2 i _ z (List.getElem?_eq_getElem hi) h2)⟩
theorem fitB_iff {xs ys : List Int} : fitB xs ys = true ↔ ∀ (i : Nat) (x y : Int), xs[i]? = some x → ys[i]? = some y → x ≤ y := by
  unfold fitB
  rw [List.all_eq_true]
  refine ⟨fun h i x y h1 h2 => ?_, fun h b hb => ?_⟩
  · refine of_decide_eq_true (h (decide (x ≤ y)) (List.mem_of_getElem? (i := i) ?_))
    rw [List.getElem?_zipWith, h1, h2]
  · obtain ⟨i, hi⟩ := List.mem_iff_getElem?.mp hb
    rw [List.getElem?_zipWith] at hi
    cases e1 : xs[i]? with
    | none => rw [e1] at hi; cases hi
    | some x =>
      cases e2 : ys[i]? with
      | none => rw [e1, e2] at hi; cases hi
      | some y =>
        rw [e1, e2] at hi
        cases hi
        exact decide_eq_true (h i x y e1 e2)
theorem fitB_le {xs ys dn : List Int} (h : leL xs ys) (f : fitB ys dn = true) : fitB xs dn = true := fitB_iff.mpr fun i x d h1 h2 => by
  have hi : i < ys.length := by rw [← h.1]; exact (List.getElem?_eq_some_iff.mp h1).1
  exact Int.le_trans (h.2 i x _ h1 (List.getElem?_eq_getElem hi)) (fitB_iff.mp f i _ d (List.getElem?_eq_getElem hi) h2)
theorem addL_at {xs ys : List Int} {i : Nat} {z : Int} (h : (addL xs ys)[i]? = some z) : ∃ x y, xs[i]? = some x ∧ ys[i]? = some y ∧ z = x + y := by
  unfold addL at h
  rw [List.getElem?_zipWith] at h
  cases e1 : xs[i]? with
  | none => rw [e1] at h; cases h
  | some x =>
    cases e2 : ys[i]? with
    | none => rw [e1, e2] at h; cases h
    | some y =>
      rw [e1, e2] at h
      exact ⟨x, y, rfl, rfl, (Option.some.inj h).symm⟩
theorem addL_le {xs ys ws : List Int} (h : leL xs ys) : leL (addL xs ws) (addL ys ws) := by
  refine ⟨by unfold addL; rw [List.length_zipWith, List.length_zipWith, h.1], fun i a b h1 h2 => ?_⟩
  obtain ⟨x, u, e1, e2, rfl⟩ := addL_at h1
  obtain ⟨y, u', e3, e4, rfl⟩ := addL_at h2
  rw [e2] at e4
  cases e4
  have := h.2 i x y e1 e3
  omega
theorem addL_more {xs ws : List Int} (hl : ws.length = xs.length) (hn : ∀ n ∈ ws, 0 ≤ n) : leL xs (addL xs ws) := by
  refine ⟨by rw [addL_len hl], fun i x y h1 h2 => ?_⟩
  obtain ⟨x', u, e1, e2, rfl⟩ := addL_at h2
  rw [h1] at e1
  cases e1
  have := hn u (List.mem_of_getElem? e2)
  omega
theorem load_more {dn : List Int} : ∀ {Gs : List Gang} {ld : List Int}, (∀ F ∈ Gs, F.want.length = ld.length ∧ ∀ n ∈ F.whole, 0 ≤ n) → leL ld (loadOf dn Gs ld)
  | [], ld, _ => leL_refl ld
  | F :: Gs, ld, h => by
    have hF := h F List.mem_cons_self
    unfold loadOf
    split
    · have hl : (addL ld F.whole).length = ld.length := addL_len (by rw [whole_len]; exact hF.1)
      exact leL_trans (addL_more (by rw [whole_len]; exact hF.1) hF.2) (load_more fun K hK => ⟨by rw [hl]; exact (h K (List.mem_cons_of_mem _ hK)).1, (h K (List.mem_cons_of_mem _ hK)).2⟩)
    · exact load_more fun K hK => h K (List.mem_cons_of_mem _ hK)
theorem whole_nn {R : Gang × Int} (f : Fit R) : ∀ n ∈ R.1.whole, 0 ≤ n := fun n hn => by
  obtain ⟨x, hx, rfl⟩ := List.mem_map.mp hn
  exact Int.mul_nonneg (f.amt x hx).1 f.m0
/-- (5) -/
theorem owed_own {dn : List Int} {Ms : List (Gang × Int)} {G : Gang} (g2 : Good2 Ms) (hw : ∀ R ∈ Ms, R.1.want.length = dn.length) (h : owedB dn Ms G = true) : ownB dn Ms G = true := by
  unfold ownB owedB
  unfold owedB at h
  refine fitB_le (addL_le ?_) h
  rw [partRs_eq, partRs_eq]
  show leL (loadOf dn _ _) (loadOf dn _ _)
  rw [ord_split g2.nums G.rank, List.map_append, (own_app dn _ _ _).2.2]
  refine load_more fun F hF => ?_
  obtain ⟨R, hR, rfl⟩ := List.mem_map.mp hF
  have hR' := (List.mem_filter.mp ((ord_perm _).mem_iff.mp hR)).1
  have hl := load_len (dn := dn) (Rs := aboveOf G.rank Ms) fun S hS => hw S (List.mem_filter.mp hS).1
  rw [partRs_eq] at hl
  exact ⟨by rw [hw R hR']; exact hl.symm, whole_nn (g2.fit R hR')⟩
/-- (6) -/
theorem left_owed {kvs : List (Str × List Int)} {Rs : List (Gang × Int)} {G : Gang} (g2 : Good2 Rs) (hw : ∀ R ∈ ofG Rs G.guild, R.1.want.length = (dueOf kvs G.guild).length) : owedB (dueOf kvs G.guild) (ofG (leftL kvs Rs G) G.guild) G = ownB (dueOf kvs G.guild) (ofG Rs G.guild) G := by
  cases ho : ownB (dueOf kvs G.guild) (ofG Rs G.guild) G with
  | true =>
    rw [left_above g2 ho]
    exact ho
  | false =>
    unfold owedB
    rw [(left_own g2 (.inr ho)).2.1]
    cases hd : owedB (dueOf kvs G.guild) (ofG Rs G.guild) G with
    | false => exact hd
    | true =>
      have : ownB (dueOf kvs G.guild) (ofG Rs G.guild) G = true := owed_own (g2.sub List.filter_sublist) hw hd
      rw [ho] at this
      cases this
/-! a dict that is walked is locked, and unlocked again -/
theorem Tabs.lock {Ts : List Addr} {H : Hp} {d od : Addr} {o : Obj} {ps : List (Key × V)} (t : Tabs Ts H) (ed : H d = some (.dK ps)) : Tabs Ts (upd H d (.frz o (.dK ps))) := fun T hT => by
  obtain ⟨pp, h1, h2⟩ := t T hT
  refine ⟨pp, ?_, h2⟩
  rw [upd_ne fun z => ?_]
  · exact h1
  · rw [z, ed] at h1
    cases h1
theorem Fw.unlock {Ts : List Addr} {H H' : Hp} {d : Addr} {o : Obj} {ps : List (Key × V)} (t : Tabs Ts H) (ed : H d = some (.dK ps)) (f : Fw Ts (upd H d (.frz o (.dK ps))) H') : Fw Ts H (upd H' d (.dK ps)) := by
  have Tk : Tabs Ts (upd H d (.frz o (.dK ps))) := Tabs.lock (od := d) t ed
  have ek : upd H d (.frz o (.dK ps)) d = some (.frz o (.dK ps)) := upd_same
  refine ⟨fun x u nx e => ?_, fun T hT => ?_⟩
  · by_cases z : x = d
    · rw [z] at e ⊢
      rw [upd_same, ← e, ed]
    · rw [upd_ne z]
      refine f.kp x u nx ?_
      rw [upd_ne z]
      exact e
  · obtain ⟨pp, h1, h2⟩ := f.tabs T hT
    refine ⟨pp, ?_, h2⟩
    rw [upd_ne fun z => ?_]
    · exact h1
    · have := f.obj Tk ek fun pp z => by cases z
      rw [← z, h1] at this
      cases this
end My

namespace My
open PySem PySem.Spec PyProof.Rows L2 GX GxR
theorem sh_ints {ns : List Int} : SeqAt.shaped (.list (ns.map PyData.int)) = true := by
  unfold SeqAt.shaped
  have h1 : PyData.canLay0 (.list (ns.map PyData.int)) = true := lay_ints ns
  have h2 : (PyData.list (ns.map PyData.int)).depth ≤ 64 := by
    simp only [PyData.depth, dpt_ints]
    omega
  rw [h1, decide_eq_true h2]
  rfl
def spDueL (K : PySem.W.Frag) : Sp := fun vs H Q _ => ∃ (m a : Addr) (room : List Int) (as : List Addr) (rs : List Bw), vs = [.ref m, .ref a] ∧ SqT K H m (room.map V.int) ∧ SqL K H a (as.map V.ref) ∧ Paired (BwAt H) as rs ∧ BwOk room.length rs ∧ room.length ≤ 20 ∧
  ∀ H' ks, Same H H' → Srt rs ks → Q (oI (ks.find? (ovr room.length rs room))) H'
section
variable {P : Program} {w : World} {K : PySem.W.Frag} {mg : Str → Option Value} {base : Heap}
set_option maxHeartbeats 4000000 in
theorem ok_due {f fD : Addr} {fd fdD : FuncData} {k : Nat} (F : Fun K "_law_due" "_law_due" s_scDue f fd) (X : Txt mg) (mSorted : mg "sorted" = none) (mSet : mg "set" = none)
    (GD : FnOk P w K mg base CX0 k fD fdD ["_law_rows_here", "_law_wares", "_law_time"] (spLoad K)) (mD : mg "_law_load" = some (.ref fD)) (kD : PySem.W.keepIn K (.ref fD) = true) (bD : L2.Binds K fdD ["_law_rows_here", "_law_wares", "_law_time"] []) :
    FnOk P w K mg base CX0 (k + 1) f fd ["_law_room_here", "_law_rows_here"] (spDueL K) := by
  refine F.ok scDue (fun vs H Q E h => ?_) (fun cdv A outer s H vs Q E hr h => ?_)
  · obtain ⟨m, a, room, as, rs, rfl, _⟩ := h
    rfl
  · obtain ⟨m, a, room, as, rs, rfl, hM, hA, prs, ok, r20, q⟩ := h
    have la : as.length = rs.length := prs.length
    have few := ok.few
    refine ⟨_, (C8.pss_cut (ps_for PassesOwn.never rfl (pi_list (pe_callB (r := rSortedSet w) (cr_sortedSet rfl) (by rfl) mSorted (by decide +kernel) (pa_cons (pe_callTy (r := SI.rSetL K w) (SI.cr_setL rfl) (by rfl) mSet (by decide +kernel) (pa_cons (pe_op op_cat (pe_lc (own := [("_law_row", 5)]) (g := (gName 5)) (tt := tYes) rfl scDue.nd (pi_list (pv 1)) (blkOk_by (own := [("_law_row", 5)]) (N := n_scDue) (sc := defScope s_scDue) (by decide +kernel)) (fun _ _ _ _ _ => (pg_name (i := 5) scDue.nd rfl (.inl rfl))) (fun _ _ _ _ _ => pts_nil) (fun _ _ _ _ _ => (pe_ix (r := rIxT K) ix_tup (pv 5) pe_int (fun _ _ => rfl)))) (pe_lc (own := [("_law_row", 5)]) (g := (gName 5)) (tt := tYes) rfl scDue.nd (pi_list (pv 1)) (blkOk_by (own := [("_law_row", 5)]) (N := n_scDue) (sc := defScope s_scDue) (by decide +kernel)) (fun _ _ _ _ _ => (pg_name (i := 5) scDue.nd rfl (.inl rfl))) (fun _ _ _ _ _ => pts_nil) (fun _ _ _ _ _ => (pe_ix (r := rIxT K) ix_tup (pv 5) pe_int (fun _ _ => rfl))))) pa_nil)) pa_nil))) (pg_name (i := 2) scDue.nd rfl (.inl rfl))
        (pss_cons (ps_set (i := 3) scDue.nd rfl (.inr rfl) (pe_call GD hr (by rfl) mD kD bD .nil pass0 (pa_cons (pv 1) (pa_cons (pe_callB call_len_seq (by rfl) X.len PySem.boot_len (pa_cons (pv 0) pa_nil)) (pa_cons (pv 2) pa_nil)))))
        (pss_one (ps_if (pt_cmpR (op_neD hr.units) (pe_lc (own := [("_law_ware", 4)]) (g := (gName 4)) rfl scDue.nd (pi_range1 (by rfl) X.range (pa_cons (pe_callB call_len_seq (by rfl) X.len PySem.boot_len (pa_cons (pv 0) pa_nil)) pa_nil)) (blkOk_by (own := [("_law_ware", 4)]) (N := n_scDue) (sc := defScope s_scDue) (by decide +kernel)) (fun _ _ _ _ _ => (pg_name (i := 4) scDue.nd rfl (.inl rfl))) (fun _ _ _ _ _ => pts_one (pt_cmpR op_gt (pe_ix (r := rIxL K) ix_list (pv 3) (pv 4) (fun _ _ => rfl)) (pe_ix (r := rIxT K) ix_tup (pv 0) (pv 4) (fun _ _ => rfl)) (nomark _))) (fun _ _ _ _ _ => (pv 4))) (pe_lst pa_nil) (nomark _))
          (pss_one (ps_ret (pv 2)))
          pss_nil))))
      (pss_one (ps_ret pe_non))), ?_⟩
    refine ⟨fun σ H' => ∃ ks, Same H H' ∧ Srt rs ks ∧ ks.find? (ovr room.length rs room) = none, ?_, fun σ H' hm => ?_⟩
    · refine ⟨_, rfl, a, rfl, ⟨_, hA⟩, fun D nD => ?_⟩
      refine lc_list (K := K) (a := a) (xs := as.map V.ref) (fun i H' => Same H H' ∧ H' D = some (.lst (((rs.map (·.b)).take i).map V.int)))
        ⟨same_upd nD, upd_same⟩ (fun i H' _ p => p.1.seq hA) (fun i x H1 hx p => ?_) (fun H1 p => ?_)
      · obtain ⟨p1, p2⟩ := p
        obtain ⟨ra, hra, rfl⟩ := map_get hx
        obtain ⟨R, hR, am, r1, r2⟩ := paired_get prs hra
        have hi : i < as.length := (List.getElem?_eq_some_iff.mp hra).1
        refine ⟨rfl, ?_⟩
        refine ⟨_, rfl, ra, _, 1, .int R.b, rfl, rfl, SqT.of (p1 _ _ r1), rfl, _, p2, ?_, same_put p1 nD, ?_⟩
        · rw [List.length_map, List.length_take]
          exact small63 (by omega)
        · rw [upd_same, List.take_add_one, List.getElem?_map, hR, List.map_append]
          rfl
      obtain ⟨p1, p2⟩ := p
      rw [List.length_map, List.take_of_length_le (by rw [List.length_map]; omega)] at p2
      refine ⟨_, rfl, a, rfl, ⟨_, p1.seq hA⟩, fun D2 nD2 => ?_⟩
      refine lc_list (K := K) (a := a) (xs := as.map V.ref) (fun i H' => Same H1 H' ∧ H' D2 = some (.lst (((rs.map (·.e)).take i).map V.int)))
        ⟨same_upd nD2, upd_same⟩ (fun i H' _ p => (p1.trans p.1).seq hA) (fun i x H2 hx p => ?_) (fun H2 p => ?_)
      · obtain ⟨q1, q2⟩ := p
        obtain ⟨ra, hra, rfl⟩ := map_get hx
        obtain ⟨R, hR, am, r1, r2⟩ := paired_get prs hra
        have hi : i < as.length := (List.getElem?_eq_some_iff.mp hra).1
        refine ⟨rfl, ?_⟩
        refine ⟨_, rfl, ra, _, 2, .int R.e, rfl, rfl, SqT.of (q1 _ _ (p1 _ _ r1)), rfl, _, q2, ?_, same_put q1 nD2, ?_⟩
        · rw [List.length_map, List.length_take]
          exact small63 (by omega)
        · rw [upd_same, List.take_add_one, List.getElem?_map, hR, List.map_append]
          rfl
      obtain ⟨q1, q2⟩ := p
      rw [List.length_map, List.take_of_length_le (by rw [List.length_map]; omega)] at q2
      have s2 := p1.trans q1
      refine ⟨D, D2, _, _, rfl, rfl, q1 _ _ p2, q2, ?_, fun p3 np3 => ?_⟩
      · rw [List.length_map, List.length_map, List.length_map, List.length_map]
        exact Nat.le_of_lt (small63 (by omega))
      refine ⟨p3, rs.map (·.b) ++ rs.map (·.e), rfl, SqL.of (by rw [upd_same, List.map_append]), ?_, fun st cn nst hcn => ?_⟩
      · rw [List.length_append, List.length_map, List.length_map]
        omega
      rw [List.length_append, List.length_map, List.length_map] at hcn
      refine ⟨st, _, cn, rfl, upd_same, by omega, fun ks p4 inc mem lk np4 => ?_⟩
      have sr : Srt rs ks := by
        refine ⟨inc, fun t => ?_⟩
        rw [mem, decide_eq_true_eq, List.mem_append, List.mem_map, List.mem_map]
        constructor
        · rintro (⟨x, hx, e⟩ | ⟨x, hx, e⟩)
          · exact ⟨x, hx, .inl e⟩
          · exact ⟨x, hx, .inr e⟩
        · rintro ⟨x, hx, e | e⟩
          · exact .inl ⟨x, hx, e⟩
          · exact .inr ⟨x, hx, e⟩
      have s5 := s2.trans ((same_upd (o := .lst ((rs.map (·.b)).map V.int ++ (rs.map (·.e)).map V.int)) np3).trans ((same_upd (o := SetO w st (fun j => decide (j ∈ rs.map (·.b) ++ rs.map (·.e))) cn) nst).trans (same_upd (o := .lst (ks.map V.int)) np4)))
      have e5 : upd (upd (upd H2 p3 (.lst ((rs.map (·.b)).map V.int ++ (rs.map (·.e)).map V.int))) st (SetO w st (fun j => decide (j ∈ rs.map (·.b) ++ rs.map (·.e))) cn)) p4 (.lst (ks.map V.int)) p4 = some (.lst (ks.map V.int)) := upd_same
      generalize upd (upd (upd H2 p3 (.lst ((rs.map (·.b)).map V.int ++ (rs.map (·.e)).map V.int))) st (SetO w st (fun j => decide (j ∈ rs.map (·.b) ++ rs.map (·.e))) cn)) p4 (.lst (ks.map V.int)) = H5 at s5 e5 ⊢
      refine ⟨p4, rfl, ⟨_, SqL.of e5⟩, ?_⟩
      refine for_list (xs := ks.map V.int) (fun i σ H' => ∃ (y2 y3 : Option V), σ = [some (.ref m), some (.ref a), y2, y3, none, none] ∧ Same H5 H' ∧ ∀ (j : Nat) (x : Int), j < i → ks[j]? = some x → ovr room.length rs room x = false)
        ⟨none, none, rfl, Same.refl _, fun j x hj => absurd hj (Nat.not_lt_zero _)⟩ (fun i σ H' _ p => ?_) (fun i x σ H6 hx p => ?_) (fun σ H6 p => ?_)
      · obtain ⟨_, _, _, s6, _⟩ := p
        exact SqL.of (s6 _ _ e5)
      · obtain ⟨y2, y3, rfl, s6, no⟩ := p
        obtain ⟨t, ht, rfl⟩ := get_int hx
        have s06 := s5.trans s6
        refine ⟨_, rfl, _, rfl, m, _, rfl, .inr (same_seqT s06 hM), _, rfl, a, room.length, t, as, rs, by rw [List.length_map]; rfl, s06.seq hA, prs.mono fun _ _ x => x.kt (Same.kt s06), ok.few, ok.len, r20, fun p7 H7 s7 np7 ep7 => ?_⟩
        have s07 := s06.trans s7
        have hM7 := same_seqT s07 hM
        refine ⟨_, rfl, m, _, rfl, .inr hM7, (room.length : Int), by rw [List.length_map], by omega, by omega, fun D3 nD3 => ?_⟩
        rw [Int.toNat_natCast]
        have ln := netB_len room.length rs t
        have fo : ovr room.length rs room t = !fitB (netB room.length rs t) room := rfl
        generalize netB room.length rs t = net at ep7 ln fo
        refine lc_range (lo := 0) (n := room.length) (fun j H' => Same H7 H' ∧ ∃ ns : List Int, H' D3 = some (.lst (ns.map V.int)) ∧ ns.length ≤ j ∧ (ns = [] ↔ ∀ (v : Nat) (x y : Int), v < j → net[v]? = some x → room[v]? = some y → x ≤ y))
          ⟨same_upd nD3, [], upd_same, Nat.le_refl _, fun _ v x y hv => absurd hv (Nat.not_lt_zero _), fun _ => rfl⟩ (fun j H8 hj p => ?_) (fun H8 p => ?_)
        · obtain ⟨z1, ns, z2, z3, z4⟩ := p
          have hjn : j < net.length := by omega
          have g1 := List.getElem?_eq_getElem hjn
          have g2 := List.getElem?_eq_getElem hj
          generalize net[j] = x at g1
          generalize room[j] = y at g2
          refine ⟨rfl, ?_⟩
          refine ⟨_, rfl, _, rfl, p7, _, _, .int x, rfl, rfl, SqL.of (z1 _ _ ep7), at_ints g1, _, rfl, _, rfl, m, _, _, .int y, rfl, rfl, same_seqT z1 hM7, at_ints g2, _, _, rfl, rfl, _, rfl, ite2 (fun e => ?_) (fun e => ?_)⟩
          · have e1 : y < x := of_decide_eq_true e
            refine ⟨_, rfl, _, z2, ?_, same_put z1 nD3, ns ++ [0 + (j : Int)], ?_, ?_, fun z => absurd z (by simp), fun z => ?_⟩
            · rw [List.length_map]
              exact small63 (by omega)
            · rw [upd_same, List.map_append]
              rfl
            · rw [List.length_append]
              show ns.length + 1 ≤ j + 1
              omega
            · have := z j x y (by omega) g1 g2
              omega
          · have e1 : ¬ y < x := fun z => e (decide_eq_true z)
            refine ⟨z1, ns, z2, by omega, fun z v x' y' hv h1 h2 => ?_, fun z => z4.mpr fun v x' y' hv h1 h2 => z v x' y' (by omega) h1 h2⟩
            rcases Nat.lt_succ_iff_lt_or_eq.mp hv with h | h
            · exact z4.mp z v x' y' h h1 h2
            · rw [h, g1] at h1
              rw [h, g2] at h2
              cases h1
              cases h2
              omega
        · obtain ⟨z1, ns, z2, z3, z4⟩ := p
          have emp : ns = [] ↔ fitB net room = true := by
            rw [z4, fitB_iff]
            constructor
            · intro z v x y h1 h2
              exact z v x y (List.getElem?_eq_some_iff.mp h2).1 h1 h2
            · intro z v x y _ h1 h2
              exact z v x y h1 h2
          refine ⟨by show 0 ≤ sizeLine; decide, fun l nl => ⟨_, _, .lst (SqL.of (same_upd nl _ _ z2)) (dp_ints ns), .lst (SqL.of upd_same) .nil, sh_ints, by decide, _, rfl, ite2 (fun e => ?_) (fun e => ?_)⟩⟩
          · have s09 := (s07.trans z1).trans (same_upd (o := .lst []) nl)
            have ov : ovr room.length rs room t = true := by
              rw [fo]
              cases c : fitB net room with
              | false => rfl
              | true =>
                rw [emp.mpr c] at e
                cases e
            have hq := q _ ks s09 sr
            rw [find_at no ht ov] at hq
            exact ⟨_, rfl, hq⟩
          · refine ⟨_, _, rfl, ((s6.trans s7).trans z1).trans (same_upd nl), fun j x hj hx => ?_⟩
            rcases Nat.lt_succ_iff_lt_or_eq.mp hj with h | h
            · exact no j x h hx
            · rw [h, ht] at hx
              cases hx
              rw [fo]
              have en : ns = [] := by
                cases ns with
                | nil => rfl
                | cons n ns => exact absurd rfl e
              rw [emp.mp en]
              rfl
      · obtain ⟨y2, y3, rfl, s6, no⟩ := p
        refine ⟨ks, s5.trans s6, sr, find_no fun x hx => ?_⟩
        obtain ⟨j, hj⟩ := List.mem_iff_getElem?.mp hx
        exact no j x (by rw [List.length_map]; exact (List.getElem?_eq_some_iff.mp hj).1) hj
    · obtain ⟨ks, s1, sr, no⟩ := hm
      have hq := q H' ks s1 sr
      rw [no] at hq
      exact hq
end
end My

namespace My
open PySem PySem.Spec PyProof.Rows L2 GX GxR
theorem srt_nil {ks : List Int} (h : Srt [] ks) : ks = [] := by
  cases ks with
  | nil => rfl
  | cons k ks =>
    obtain ⟨x, hx, _⟩ := (h.2 k).mp List.mem_cons_self
    cases hx
theorem leaf_oI (o : Option Int) : Leaf (oI o) (oI o) := by
  cases o with
  | none => exact .inr (.inr (.inr ⟨rfl, rfl⟩))
  | some t => exact .inr (.inl ⟨t, rfl, rfl⟩)
section
variable {P : Program} {w : World} {K : PySem.W.Frag} {mg : Str → Option Value} {base : Heap}
set_option maxHeartbeats 4000000 in
theorem ok_law {f fB fT fR fM fA fO fD : Addr} {fd fdB fdT fdR fdM fdA fdO fdD : FuncData} {k : Nat} {Ts : List Addr} (F : Fun K "law" "law" s_scLaw f fd) (X : Txt mg)
    (GB : FnOk P w K mg base CX0 k fB fdB ["_law_script", "_law_k"] (spBox K)) (mB : mg "_law_box" = some (.ref fB)) (kB : PySem.W.keepIn K (.ref fB) = true) (bB : L2.Binds K fdB ["_law_script", "_law_k"] [])
    (GT : FnOk P w K mg base CX0 k fT fdT ["_law_box_here", "_law_many"] spTakeW) (mT : mg "_law_take" = some (.ref fT)) (kT : PySem.W.keepIn K (.ref fT) = true) (bT : L2.Binds K fdT ["_law_box_here", "_law_many"] [])
    (GR : FnOk P w K mg base CX0 k fR fdR ["_law_box_here", "_law_wares"] spRows) (mR : mg "_law_rows" = some (.ref fR)) (kR : PySem.W.keepIn K (.ref fR) = true) (bR : L2.Binds K fdR ["_law_box_here", "_law_wares"] [])
    (GM : FnOk P w K mg base CX0 k fM fdM ["_law_box_here", "_law_rows_here", "_law_wares"] spRoom) (mM : mg "_law_room" = some (.ref fM)) (kM : PySem.W.keepIn K (.ref fM) = true) (bM : L2.Binds K fdM ["_law_box_here", "_law_rows_here", "_law_wares"] [])
    (GA : FnOk P w K mg base CX0 k fA fdA ["_law_found", "_law_due_here"] (spAlike 0)) (mA : mg "_law_alike" = some (.ref fA)) (kA : PySem.W.keepIn K (.ref fA) = true) (bA : L2.Binds K fdA ["_law_found", "_law_due_here"] [])
    (GO : FnOk P w K mg base CX0 k fO fdO ["room", "rows"] (spOver K Ts)) (mO : mg "overborne" = some (.ref fO)) (kO : PySem.W.keepIn K (.ref fO) = true) (bO : L2.Binds K fdO ["room", "rows"] [])
    (GD : FnOk P w K mg base CX0 k fD fdD ["_law_room_here", "_law_rows_here"] (spDueL K)) (mD : mg "_law_due" = some (.ref fD)) (kD : PySem.W.keepIn K (.ref fD) = true) (bD : L2.Binds K fdD ["_law_room_here", "_law_rows_here"] []) :
    FnOk P w K mg base CX0 (k + 1) f fd ["_law_script"] (spLaw K Ts) := by
  refine F.ok scLaw (fun vs H Q E h => ?_) (fun cdv A outer s H vs Q E hr h => ?_)
  · obtain ⟨a, ns, rfl, _⟩ := h
    rfl
  · obtain ⟨a, ns, rfl, hS, hl, hT, q⟩ := h
    have tH : Tabs Ts H := hT
    refine ⟨_, (C8.pss_cut (ps_for PassesOwn.never rfl (pi_range1 (by rfl) X.range (pa_cons (pe_callB (call_max2 rfl) (by rfl) X.max (by decide +kernel) (pa_cons pe_int (pa_cons (pe_callB (call_min2 rfl) (by rfl) X.min (by decide +kernel) (pa_cons (pe_callB call_len_seq (by rfl) X.len PySem.boot_len (pa_cons (pv 0) pa_nil)) (pa_cons pe_int pa_nil))) pa_nil))) pa_nil)) (pg_name (i := 1) scLaw.nd rfl (.inl rfl))
        (pss_cons (ps_set (i := 2) scLaw.nd rfl (.inl rfl) (pe_call GB hr (by rfl) mB kB bB .nil pass0 (pa_cons (pv 0) (pa_cons (pv 1) pa_nil))))
        (pss_cons (ps_set (i := 3) scLaw.nd rfl (.inl rfl) (pe_ix ix_list (pe_lst (pa_cons (pe_op op_add pe_int (pe_call GT hr (by rfl) mT kT bT .nil pass0 (pa_cons (pv 2) (pa_cons pe_int pa_nil)))) (pa_cons (pe_op op_add pe_int (pe_call GT hr (by rfl) mT kT bT .nil pass0 (pa_cons (pv 2) (pa_cons pe_int pa_nil)))) (pa_cons (pe_op op_add pe_int (pe_call GT hr (by rfl) mT kT bT .nil pass0 (pa_cons (pv 2) (pa_cons pe_int pa_nil)))) pa_nil)))) (pe_call GT hr (by rfl) mT kT bT .nil pass0 (pa_cons (pv 2) (pa_cons pe_int pa_nil))) (fun _ _ => rfl)))
        (pss_cons (ps_set (i := 4) scLaw.nd rfl (.inl rfl) (pe_call GR hr (by rfl) mR kR bR .nil pass0 (pa_cons (pv 2) (pa_cons (pv 3) pa_nil))))
        (pss_cons (ps_set (i := 5) scLaw.nd rfl (.inl rfl) (pe_call GM hr (by rfl) mM kM bM .nil pass0 (pa_cons (pv 2) (pa_cons (pv 4) (pa_cons (pv 3) pa_nil)))))
        (pss_cons (ps_set (i := 6) scLaw.nd rfl (.inl rfl) (pe_callTy call_list_of (by rfl) X.lst bt_list (pa_cons (pv 4) pa_nil)))
        (pss_one (ps_if (PW.pt (pw_or (pt_not (pt_val (pe_call GA hr (by rfl) mA kA bA .nil pass0 (pa_cons (pe_call GO hr (by rfl) mO kO bO .nil pass0 (pa_cons (pv 5) (pa_cons (pv 6) pa_nil))) (pa_cons (pe_call GD hr (by rfl) mD kD bD .nil pass0 (pa_cons (pv 5) (pa_cons (pv 4) pa_nil))) pa_nil))))) (pw_or1 (pt_cmpR (op_neD hr.units) (pv 6) (pv 4) (nomark _)))))
          (pss_one (ps_ret pe_bl))
          pss_nil))))))))
      (pss_one (ps_ret (pe_cmpR op_isN (pe_call GO hr (by rfl) mO kO bO .nil pass0 (pa_cons (pe_tup (pa_cons pe_int pa_nil)) (pa_cons (pe_lst pa_nil) pa_nil))) pe_non (nomark _))))), ?_⟩
    refine ⟨fun σ H' => Fw Ts H H', ?_, fun σ H1 f1 => ?_⟩
    · obtain ⟨n, hn, hn63⟩ : ∃ n : Nat, (if (if (63 : Int) < ((ns.map V.int).length : Int) then (63 : Int) else ((ns.map V.int).length : Int)) > 1 then (if (63 : Int) < ((ns.map V.int).length : Int) then (63 : Int) else ((ns.map V.int).length : Int)) else 1) = (n : Int) ∧ n ≤ 63 := by
        rw [List.length_map]
        rw [if_neg (show ¬ (63 : Int) < (ns.length : Int) by omega)]
        by_cases h1 : (ns.length : Int) > 1
        · rw [if_pos h1]
          exact ⟨ns.length, rfl, hl⟩
        · rw [if_neg h1]
          exact ⟨1, rfl, by decide⟩
      refine ⟨_, rfl, a, _, rfl, .inl hS, _, 63, rfl, 1, _, rfl, (n : Int), congrArg (fun z => [V.int z]) hn, by omega, by omega, ?_⟩
      rw [Int.toNat_natCast]
      refine for_range (lo := 0) (n := n) (fun i σ H' => ∃ (y1 y2 y3 y4 y5 y6 : Option V), σ = [some (.ref a), y1, y2, y3, y4, y5, y6] ∧ Fw Ts H H')
        ⟨none, none, none, none, none, none, rfl, Fw.refl tH⟩ (fun i σ H1 hi p => ?_) (fun σ H1 p => ?_)
      · obtain ⟨y1, y2, y3, y4, y5, y6, rfl, f1⟩ := p
        refine ⟨_, rfl, _, rfl, a, ns, i, by rw [Int.zero_add]; rfl, f1.seqL tH hS, by omega, fun b xs nb bv => ?_⟩
        have fb : H b = none := f1.free tH nb
        have B2 : BoxAt (upd H1 b (.lst xs)) b 0 := ⟨xs, upd_same, bv⟩
        have f2 := f1.then (same_upd (o := .lst xs) nb)
        generalize upd H1 b (.lst xs) = H2 at B2 f2 ⊢
        refine ⟨_, rfl, b, _, 3, rfl, B2, by decide, by decide, by decide, fun u1 H3 u10 u11 k3 B3 => ⟨1, u1, rfl, rfl, ?_⟩⟩
        refine ⟨_, rfl, b, _, 3, rfl, B3, by decide, by decide, by decide, fun u2 H4 u20 u21 k4 B4 => ⟨1, u2, rfl, rfl, ?_⟩⟩
        refine ⟨_, rfl, b, _, 2, rfl, B4, by decide, by decide, by decide, fun u3 H5 u30 u31 k5 B5 => ⟨7, u3, rfl, rfl, by show 3 ≤ sizeLine; decide, fun l nl => ?_⟩⟩
        refine ⟨_, rfl, b, _, 3, rfl, B5.same (same_upd nl), by decide, by decide, by decide, fun r H6 r0 r1 k6 B6 => ?_⟩
        obtain ⟨wr, hx, w1, w8⟩ : ∃ wr : Nat, atI [V.int (1 + u1), .int (1 + u2), .int (7 + u3)] r = some (.int (wr : Int)) ∧ 1 ≤ wr ∧ wr ≤ 8 := by
          have h3 : r = 0 ∨ r = 1 ∨ r = 2 := by omega
          rcases h3 with z | z | z
          · rw [z]; exact ⟨(1 + u1).toNat, by rw [show (((1 + u1).toNat : Nat) : Int) = 1 + u1 by omega]; rfl, by omega, by omega⟩
          · rw [z]; exact ⟨(1 + u2).toNat, by rw [show (((1 + u2).toNat : Nat) : Int) = 1 + u2 by omega]; rfl, by omega, by omega⟩
          · rw [z]; exact ⟨(7 + u3).toNat, by rw [show (((7 + u3).toNat : Nat) : Int) = 7 + u3 by omega]; rfl, by omega, by omega⟩
        refine ⟨l, _, r, .int (wr : Int), rfl, rfl, SqL.of (k6 _ _ (box_new B5 nl) upd_same), hx, ?_⟩
        have f6 : Fw Ts H H6 := ((f2.box tH fb (k3.trans (k4.trans k5))).then (same_upd nl)).box tH fb k6
        refine ⟨_, rfl, _, rfl, b, _, wr, rfl, B6, by decide, w1, w8, fun rr as rs H7 k7 B7 nrr err prs r13 rg => ?_⟩
        have f7 := f6.box tH fb k7
        have rb : rr ≠ b := box_refs B7 err
        have rb' : rr ∉ [b] := fun z => rb (List.mem_singleton.mp z)
        refine ⟨_, rfl, _, rfl, _, rfl, b, rr, _, wr, as, rs, rfl, B7, by decide, w1, w8, err, prs, r13, rg, fun rm room H8 k8 B8 nrm erm lrm nn => ?_⟩
        have f8 := f7.box tH fb k8
        have err8 := k8 _ _ rb' err
        have prs8 := prs.mono fun _ _ x => BwAt.kt (k8.kt B7) x
        subst lrm
        have ok : BwOk room.length rs := ⟨by omega, rg.lt, rg.len⟩
        refine ⟨_, rfl, rr, _, rfl, .inl (SqL.of err8), fun hd nhd => ?_⟩
        have s9 : Same H8 (upd H8 hd (.lst (as.map V.ref))) := same_upd nhd
        have ehd : upd H8 hd (.lst (as.map V.ref)) hd = some (.lst (as.map V.ref)) := upd_same
        generalize upd H8 hd (.lst (as.map V.ref)) = H9 at s9 ehd ⊢
        have f9 := f8.then s9
        have t9 := f9.tabs
        have err9 := s9 _ _ err8
        have erm9 := s9 _ _ erm
        have prs9 := prs8.mono fun _ _ x => BwAt.kt (Same.kt s9) x
        refine ⟨_, rfl, _, rfl, rm, hd, room, as, rs, rfl, SqT.of erm9, SqL.of ehd, prs9, ok, w1, by omega, nn, t9, fun H10 ks f10 sr => ?_⟩
        have kt10 := f10.kt t9
        have prs10 := prs9.mono fun _ _ x => BwAt.kt kt10 x
        refine ⟨_, rfl, _, rfl, rm, rr, room, as, rs, rfl, SqT.of (kt10 _ _ erm9), SqL.of (f10.lst t9 err9), prs10, ok, by omega, fun H11 ls s11 sr' => ?_⟩
        have ek := sr.uniq sr'
        subst ek
        refine ⟨_, _, rfl, leaf_oI _, fun H12 s12 => ⟨true, rfl, ?_⟩⟩
        have s1012 := s11.trans s12
        have f12 := f10.then s1012
        have prs12 := prs10.mono fun _ _ x => BwAt.kt (Same.kt s1012) x
        have sh := sh_bws rg.key
        refine iteF ⟨_, rfl, _, rfl, _, _, .lst (SqL.of (f12.lst t9 ehd)) (dp_bws prs12), .lst (SqL.of (f12.lst t9 err9)) (dp_bws prs12), sh, sh, _, rfl, ite2 (fun e => ?_) (fun e => ?_)⟩
        · rw [eqv_list sh] at e
          cases e
        · exact ⟨_, _, _, _, _, _, rfl, f9.trans f12⟩
      · obtain ⟨y1, y2, y3, y4, y5, y6, rfl, f1⟩ := p
        exact f1
    · refine ⟨by show 1 ≤ sizeLine; decide, fun t nt => ⟨by show 0 ≤ sizeLine; decide, fun l nl => ?_⟩⟩
      have s2 : Same H1 (upd (upd H1 t (.tup [.int 0])) l (.lst [])) := (same_upd nt).trans (same_upd nl)
      refine ⟨t, l, [0], [], [], rfl, SqT.of (same_upd nl _ _ upd_same), SqL.of upd_same, .nil, ⟨by decide, fun _ h => (nomatch h), fun _ h => (nomatch h)⟩, by decide, by decide, fun n hn => by rw [List.mem_singleton.mp hn]; exact Int.le_refl _, (f1.then s2).tabs, fun H2 ks f2 sr => ⟨rfl, ?_⟩⟩
      rw [srt_nil sr]
      exact q _
end
end My

namespace My
open PySem PySem.Spec PyProof.Rows L2 GX GxR
set_option maxHeartbeats 8000000 in
theorem all_mk {l : PySem.W.OpenLaw} {q : Program} {loose : List Str} {mean : ExcName → Option Value} {w : World} {K : PySem.W.Frag} {h : Heap} {mg mb : Str → Option Value} {fa f1 f2 f3 f4 f5 f6 f7 f8 f9 f10 f11 f12 f13 f14 f15 f16 c4 T4 : Addr} (X : K.In h) (Z : PyProof.Rows.Top q loose mean mg mb h) (hfa : mg "law" = some (.ref fa))
    {od1 an1 od2 an2 od3 an3 od4 an4 od5 an5 od6 an6 od7 an7 od8 an8 od9 an9 od10 an10 od11 an11 od12 an12 od13 an13 od14 an14 od15 an15 od16 an16 : Option Addr} {sl1 sl2 sl3 sl4 sl5 sl6 sl7 sl8 sl9 sl10 sl11 sl12 sl13 sl14 sl15 sl16 : Array (Option Value)} {oc1 kV1 dc1 pm1 ct1 oc2 kV2 dc2 pm2 ct2 oc3 kV3 dc3 pm3 ct3 oc4 kV4 dc4 pm4 ct4 oc5 kV5 dc5 pm5 ct5 oc6 kV6 dc6 pm6 ct6 oc7 kV7 dc7 pm7 ct7 oc8 kV8 dc8 pm8 ct8 oc9 kV9 dc9 pm9 ct9 oc10 kV10 dc10 pm10 ct10 oc11 kV11 dc11 pm11 ct11 oc12 kV12 dc12 pm12 ct12 oc13 kV13 dc13 pm13 ct13 oc14 kV14 dc14 pm14 ct14 oc15 kV15 dc15 pm15 ct15 oc16 kV16 dc16 pm16 ct16 cd1 cd2 cd3 cd5 cd6 cd7 cd8 cd9 cd10 cd11 cd12 cd13 cd14 cd15 cd16 : Value} {tk1 : Tok} {tk2 : Tok} {ec4 : Value} {ed4 : Option Addr} {vs4 : Array Value} {es4 : Array (Option Value)}
    (a1 : PySem.W.nsIn K mainGlobals "nothing_of" = some (some (.ref f1))) (l1 : K.lookup f1 = some ⟨oc1, od1, .func (PySem.W.fnOf "nothing_of" "nothing_of" (defArgs s_scNothing) (defBody s_scNothing) (defScope s_scNothing) .none kV1 dc1 pm1 an1 cd1 ct1), sl1⟩) (e1 : PySem.W.codeIn K cd1 "nothing_of" = true) (k1 : PySem.W.keepIn K (.ref f1) = true)
    (a2 : PySem.W.nsIn K mainGlobals "amount_sum" = some (some (.ref f2))) (l2 : K.lookup f2 = some ⟨oc2, od2, .func (PySem.W.fnOf "amount_sum" "amount_sum" (defArgs s_scSum) (defBody s_scSum) (defScope s_scSum) .none kV2 dc2 pm2 an2 cd2 ct2), sl2⟩) (e2 : PySem.W.codeIn K cd2 "amount_sum" = true) (k2 : PySem.W.keepIn K (.ref f2) = true)
    (a3 : PySem.W.nsIn K mainGlobals "amount_less" = some (some (.ref f3))) (l3 : K.lookup f3 = some ⟨oc3, od3, .func (PySem.W.fnOf "amount_less" "amount_less" (defArgs s_scLess) (defBody s_scLess) (defScope s_scLess) .none kV3 dc3 pm3 an3 cd3 ct3), sl3⟩) (e3 : PySem.W.codeIn K cd3 "amount_less" = true) (k3 : PySem.W.keepIn K (.ref f3) = true)
    (a4 : PySem.W.nsIn K mainGlobals "amount_fits" = some (some (.ref f4))) (l4 : K.lookup f4 = some ⟨oc4, od4, .func (PySem.W.fnOf "amount_fits" "amount_fits" (defArgs s_scFits) (defBody s_scFits) (defScope s_scFits) .none kV4 dc4 pm4 an4 (.ref c4) ct4), sl4⟩) (e4 : PySem.W.codeIn K (.ref c4) "amount_fits" = true) (k4 : PySem.W.keepIn K (.ref f4) = true)
    (u4 : K.lookup c4 = some ⟨ec4, ed4, .fields vs4, es4⟩) (v4 : vs4[11]? = some (.ref T4)) (n4 : K.lookup T4 = none) (r4 : ((recsOf q).any fun e => e.name == ("amount_fits" : Str)) = true)
    (a5 : PySem.W.nsIn K mainGlobals "turns_of" = some (some (.ref f5))) (l5 : K.lookup f5 = some ⟨oc5, od5, .func (PySem.W.fnOf "turns_of" "turns_of" (defArgs s_scTurns) (defBody s_scTurns) (defScope s_scTurns) .none kV5 dc5 pm5 an5 cd5 ct5), sl5⟩) (e5 : PySem.W.codeIn K cd5 "turns_of" = true) (k5 : PySem.W.keepIn K (.ref f5) = true)
    (a6 : PySem.W.nsIn K mainGlobals "loads_of" = some (some (.ref f6))) (l6 : K.lookup f6 = some ⟨oc6, od6, .func (PySem.W.fnOf "loads_of" "loads_of" (defArgs s_scLoads) (defBody s_scLoads) (defScope s_scLoads) .none kV6 dc6 pm6 an6 cd6 ct6), sl6⟩) (e6 : PySem.W.codeIn K cd6 "loads_of" = true) (k6 : PySem.W.keepIn K (.ref f6) = true)
    (a7 : PySem.W.nsIn K mainGlobals "first_over" = some (some (.ref f7))) (l7 : K.lookup f7 = some ⟨oc7, od7, .func (PySem.W.fnOf "first_over" "first_over" (defArgs s_scFirst) (defBody s_scFirst) (defScope s_scFirst) .none kV7 dc7 pm7 an7 cd7 ct7), sl7⟩) (e7 : PySem.W.codeIn K cd7 "first_over" = true) (k7 : PySem.W.keepIn K (.ref f7) = true)
    (a8 : PySem.W.nsIn K mainGlobals "overborne" = some (some (.ref f8))) (l8 : K.lookup f8 = some ⟨oc8, od8, .func (PySem.W.fnOf "overborne" "overborne" (defArgs s_scOverb) (defBody s_scOverb) (defScope s_scOverb) .none kV8 dc8 pm8 an8 cd8 ct8), sl8⟩) (e8 : PySem.W.codeIn K cd8 "overborne" = true) (k8 : PySem.W.keepIn K (.ref f8) = true)
    (a9 : PySem.W.nsIn K mainGlobals "_law_box" = some (some (.ref f9))) (l9 : K.lookup f9 = some ⟨oc9, od9, .func (PySem.W.fnOf "_law_box" "_law_box" (defArgs sBox) (defBody sBox) (defScope sBox) .none kV9 dc9 pm9 an9 cd9 ct9), sl9⟩) (e9 : PySem.W.codeIn K cd9 "_law_box" = true) (k9 : PySem.W.keepIn K (.ref f9) = true)
    (a10 : PySem.W.nsIn K mainGlobals "_law_take" = some (some (.ref f10))) (l10 : K.lookup f10 = some ⟨oc10, od10, .func (PySem.W.fnOf "_law_take" "_law_take" (defArgs sTake) (defBody sTake) (defScope sTake) .none kV10 dc10 pm10 an10 cd10 ct10), sl10⟩) (e10 : PySem.W.codeIn K cd10 "_law_take" = true) (k10 : PySem.W.keepIn K (.ref f10) = true)
    (a11 : PySem.W.nsIn K mainGlobals "_law_alike" = some (some (.ref f11))) (l11 : K.lookup f11 = some ⟨oc11, od11, .func (PySem.W.fnOf "_law_alike" "_law_alike" (defArgs s_scAlike) (defBody s_scAlike) (defScope s_scAlike) .none kV11 dc11 pm11 an11 cd11 ct11), sl11⟩) (e11 : PySem.W.codeIn K cd11 "_law_alike" = true) (k11 : PySem.W.keepIn K (.ref f11) = true)
    (a12 : PySem.W.nsIn K mainGlobals "_law_rows" = some (some (.ref f12))) (l12 : K.lookup f12 = some ⟨oc12, od12, .func (PySem.W.fnOf "_law_rows" "_law_rows" (defArgs s_scRows) (defBody s_scRows) (defScope s_scRows) .none kV12 dc12 pm12 an12 cd12 ct12), sl12⟩) (e12 : PySem.W.codeIn K cd12 "_law_rows" = true) (k12 : PySem.W.keepIn K (.ref f12) = true)
    (a13 : PySem.W.nsIn K mainGlobals "_law_load" = some (some (.ref f13))) (l13 : K.lookup f13 = some ⟨oc13, od13, .func (PySem.W.fnOf "_law_load" "_law_load" (defArgs s_scLoad) (defBody s_scLoad) (defScope s_scLoad) .none kV13 dc13 pm13 an13 cd13 ct13), sl13⟩) (e13 : PySem.W.codeIn K cd13 "_law_load" = true) (k13 : PySem.W.keepIn K (.ref f13) = true)
    (a14 : PySem.W.nsIn K mainGlobals "_law_room" = some (some (.ref f14))) (l14 : K.lookup f14 = some ⟨oc14, od14, .func (PySem.W.fnOf "_law_room" "_law_room" (defArgs s_scRoom) (defBody s_scRoom) (defScope s_scRoom) .none kV14 dc14 pm14 an14 cd14 ct14), sl14⟩) (e14 : PySem.W.codeIn K cd14 "_law_room" = true) (k14 : PySem.W.keepIn K (.ref f14) = true)
    (a15 : PySem.W.nsIn K mainGlobals "_law_due" = some (some (.ref f15))) (l15 : K.lookup f15 = some ⟨oc15, od15, .func (PySem.W.fnOf "_law_due" "_law_due" (defArgs s_scDue) (defBody s_scDue) (defScope s_scDue) .none kV15 dc15 pm15 an15 cd15 ct15), sl15⟩) (e15 : PySem.W.codeIn K cd15 "_law_due" = true) (k15 : PySem.W.keepIn K (.ref f15) = true)
    (a16 : PySem.W.nsIn K mainGlobals "law" = some (some (.ref f16))) (l16 : K.lookup f16 = some ⟨oc16, od16, .func (PySem.W.fnOf "law" "law" (defArgs s_scLaw) (defBody s_scLaw) (defScope s_scLaw) .none kV16 dc16 pm16 an16 cd16 ct16), sl16⟩) (e16 : PySem.W.codeIn K cd16 "law" = true) (k16 : PySem.W.keepIn K (.ref f16) = true)
    (z1 : PySem.W.nsIn K mainGlobals "len" = some none)
    (z2 : PySem.W.nsIn K mainGlobals "abs" = some none)
    (z3 : PySem.W.nsIn K mainGlobals "isinstance" = some none)
    (z4 : PySem.W.nsIn K mainGlobals "list" = some none)
    (z5 : PySem.W.nsIn K mainGlobals "tuple" = some none)
    (z6 : PySem.W.nsIn K mainGlobals "zip" = some none)
    (z7 : PySem.W.nsIn K mainGlobals "all" = some none)
    (z8 : PySem.W.nsIn K mainGlobals "str" = some none)
    (z9 : PySem.W.nsIn K mainGlobals "int" = some none)
    (z10 : PySem.W.nsIn K mainGlobals "bool" = some none)
    (z11 : PySem.W.nsIn K mainGlobals "max" = some none)
    (z12 : PySem.W.nsIn K mainGlobals "min" = some none)
    (z13 : PySem.W.nsIn K mainGlobals "range" = some none)
    (z14 : PySem.W.nsIn K mainGlobals "sum" = some none)
    (z15 : PySem.W.nsIn K mainGlobals "sorted" = some none)
    (z16 : PySem.W.nsIn K mainGlobals "set" = some none)
    (y1 : PySem.W.nsIn K mainGlobals "ENDS" = some (some (.int 0 tk1)))
    (y2 : PySem.W.nsIn K mainGlobals "BEGINS" = some (some (.int 1 tk2))) :
    LamX.LawAtS l w K CX0 5 63 "_law_script" mg fa h := by
  have G := Z.g
  have e := hfa.symm.trans (PySem.W.mg_of X G a16)
  cases e
  have F1 := fun_mk (st := s_scNothing) l1 e1 k1
  have b1 := F1.binds (ps := ["wares"]) (fun _ _ _ _ _ _ us hl => match us, hl with | [_], _ => rfl)
  have m1 := PySem.W.mg_of X G a1
  have F2 := fun_mk (st := s_scSum) l2 e2 k2
  have b2 := F2.binds (ps := ["one", "other"]) (fun _ _ _ _ _ _ us hl => match us, hl with | [_, _], _ => rfl)
  have m2 := PySem.W.mg_of X G a2
  have F3 := fun_mk (st := s_scLess) l3 e3 k3
  have b3 := F3.binds (ps := ["one", "other"]) (fun _ _ _ _ _ _ us hl => match us, hl with | [_, _], _ => rfl)
  have m3 := PySem.W.mg_of X G a3
  have C4 : FunC K "amount_fits" "amount_fits" s_scFits f4 _ c4 := ⟨⟨_, _, _, _, _, _, _, _, rfl, l4, e4⟩, k4⟩
  have F4 := C4.fn
  obtain ⟨h4, g4⟩ := tab_at Z X r4 (tab_in a4 l4 rfl u4 v4)
  have b4 := F4.binds (ps := ["one", "other"]) (fun _ _ _ _ _ _ us hl => match us, hl with | [_, _], _ => rfl)
  have m4 := PySem.W.mg_of X G a4
  have F5 := fun_mk (st := s_scTurns) l5 e5 k5
  have b5 := F5.binds (ps := ["rows"]) (fun _ _ _ _ _ _ us hl => match us, hl with | [_], _ => rfl)
  have m5 := PySem.W.mg_of X G a5
  have F6 := fun_mk (st := s_scLoads) l6 e6 k6
  have b6 := F6.binds (ps := ["wares", "rows"]) (fun _ _ _ _ _ _ us hl => match us, hl with | [_, _], _ => rfl)
  have m6 := PySem.W.mg_of X G a6
  have F7 := fun_mk (st := s_scFirst) l7 e7 k7
  have b7 := F7.binds (ps := ["room", "rows"]) (fun _ _ _ _ _ _ us hl => match us, hl with | [_, _], _ => rfl)
  have m7 := PySem.W.mg_of X G a7
  have F8 := fun_mk (st := s_scOverb) l8 e8 k8
  have b8 := F8.binds (ps := ["room", "rows"]) (fun _ _ _ _ _ _ us hl => match us, hl with | [_, _], _ => rfl)
  have m8 := PySem.W.mg_of X G a8
  have F9 := fun_mk (st := sBox) l9 e9 k9
  have b9 := F9.binds (ps := ["_law_script", "_law_k"]) (fun _ _ _ _ _ _ us hl => match us, hl with | [_, _], _ => rfl)
  have m9 := PySem.W.mg_of X G a9
  have F10 := fun_mk (st := sTake) l10 e10 k10
  have b10 := F10.binds (ps := ["_law_box_here", "_law_many"]) (fun _ _ _ _ _ _ us hl => match us, hl with | [_, _], _ => rfl)
  have m10 := PySem.W.mg_of X G a10
  have F11 := fun_mk (st := s_scAlike) l11 e11 k11
  have b11 := F11.binds (ps := ["_law_found", "_law_due_here"]) (fun _ _ _ _ _ _ us hl => match us, hl with | [_, _], _ => rfl)
  have m11 := PySem.W.mg_of X G a11
  have F12 := fun_mk (st := s_scRows) l12 e12 k12
  have b12 := F12.binds (ps := ["_law_box_here", "_law_wares"]) (fun _ _ _ _ _ _ us hl => match us, hl with | [_, _], _ => rfl)
  have m12 := PySem.W.mg_of X G a12
  have F13 := fun_mk (st := s_scLoad) l13 e13 k13
  have b13 := F13.binds (ps := ["_law_rows_here", "_law_wares", "_law_time"]) (fun _ _ _ _ _ _ us hl => match us, hl with | [_, _, _], _ => rfl)
  have m13 := PySem.W.mg_of X G a13
  have F14 := fun_mk (st := s_scRoom) l14 e14 k14
  have b14 := F14.binds (ps := ["_law_box_here", "_law_rows_here", "_law_wares"]) (fun _ _ _ _ _ _ us hl => match us, hl with | [_, _, _], _ => rfl)
  have m14 := PySem.W.mg_of X G a14
  have F15 := fun_mk (st := s_scDue) l15 e15 k15
  have b15 := F15.binds (ps := ["_law_room_here", "_law_rows_here"]) (fun _ _ _ _ _ _ us hl => match us, hl with | [_, _], _ => rfl)
  have m15 := PySem.W.mg_of X G a15
  have F16 := fun_mk (st := s_scLaw) l16 e16 k16
  have w1 := PySem.W.mg_of X G y1
  have w2 := PySem.W.mg_of X G y2
  have W : Txt mg := ⟨PySem.W.mg_none_of X G z1, PySem.W.mg_none_of X G z2, PySem.W.mg_none_of X G z3, PySem.W.mg_none_of X G z4, PySem.W.mg_none_of X G z5, PySem.W.mg_none_of X G z6, PySem.W.mg_none_of X G z7, PySem.W.mg_none_of X G z8, PySem.W.mg_none_of X G z9, PySem.W.mg_none_of X G z10, PySem.W.mg_none_of X G z11, PySem.W.mg_none_of X G z12, PySem.W.mg_none_of X G z13⟩
  have q_sum := PySem.W.mg_none_of X G z14
  have q_sorted := PySem.W.mg_none_of X G z15
  have q_set := PySem.W.mg_none_of X G z16
  refine ⟨PySem.W.fnOf "law" "law" (defArgs s_scLaw) (defBody s_scLaw) (defScope s_scLaw) .none kV16 dc16 pm16 an16 cd16 ct16, [(c4, T4)], spLaw K [T4], fun p hp => ?_, fun p hp => ?_, fun p hp => ?_, fun s v => .of_eq rfl, fun H a ns hl _ hT hS => ⟨a, ns, rfl, hS, hl, fun T hm => ?_, fun _ => rfl⟩, fun base _ _ TB => ?_⟩
  · have e := List.mem_singleton.mp hp
    rw [e]; exact g4
  · have e := List.mem_singleton.mp hp
    rw [e]; exact n4
  · have e := List.mem_singleton.mp hp
    rw [e]; exact h4
  · have e := List.mem_singleton.mp hm
    rw [e]; exact ⟨#[], hT (c4, T4) List.mem_cons_self, trivial⟩
  · obtain ⟨p1_4, p2_4, p3_4⟩ := TB (c4, T4) List.mem_cons_self
    have B4 : GxR.TabB base mg c4 T4 := ⟨p1_4, p2_4, p3_4⟩
    exact ok_law F16 W (ok_box F9 W) m9 F9.kp b9 (ok_take F10) m10 F10.kp b10 (ok_rows F12 W (ok_take F10) m10 F10.kp b10) m12 F12.kp b12 (ok_room F14 W (ok_take F10) m10 F10.kp b10 (ok_load F13 W q_sum) m13 F13.kp b13) m14 F14.kp b14 (ok_alike0 F11 W) m11 F11.kp b11 (ok_overb F8 (ok_first (Ts := [T4]) (T := T4) (by simp) F7 W (ok_loads F6 W w2 (ok_nothing F1) m1 F1.kp b1 (ok_turns F5 q_sorted w2 w1) m5 F5.kp b5 (ok_sum F2 W) m2 F2.kp b2 (ok_less F3 W) m3 F3.kp b3) m6 F6.kp b6 (ok_fits C4 W B4) m4 F4.kp b4) m7 F7.kp b7) m8 F8.kp b8 (ok_due F15 W q_sorted q_set (ok_load F13 W q_sum) m13 F13.kp b13) m15 F15.kp b15
end My
open PySem PySem.W PyProof.Rows
set_option maxHeartbeats 0 in
theorem PySem.Challenge.cw_clusterhall_k69_overborne_holds : PySem.Challenge.rw_clusterhall_k69_overborne.Holds := by
  w_on; o_law; k_head; (case hw => w_witness2)
  k_fill
  refine My.walk_tabs (l := PySem.Challenge.rw_clusterhall_k69_overborne) (n := 63) (k := 5) (x := "_law_script") rfl (by decide) rfl ⟨rfl, by decide, by decide⟩ (fun w h Y => PySem.W.kIn_of Y) ?F
  case F =>
    intro w mg mb mean fa h KT KX hmg
    refine' My.all_mk KX KT hmg ?a1 ?l1 ?e1 ?k1 ?a2 ?l2 ?e2 ?k2 ?a3 ?l3 ?e3 ?k3 ?a4 ?l4 ?e4 ?k4 ?u4 ?v4 ?n4 ?r4 ?a5 ?l5 ?e5 ?k5 ?a6 ?l6 ?e6 ?k6 ?a7 ?l7 ?e7 ?k7 ?a8 ?l8 ?e8 ?k8 ?a9 ?l9 ?e9 ?k9 ?a10 ?l10 ?e10 ?k10 ?a11 ?l11 ?e11 ?k11 ?a12 ?l12 ?e12 ?k12 ?a13 ?l13 ?e13 ?k13 ?a14 ?l14 ?e14 ?k14 ?a15 ?l15 ?e15 ?k15 ?a16 ?l16 ?e16 ?k16 ?z1 ?z2 ?z3 ?z4 ?z5 ?z6 ?z7 ?z8 ?z9 ?z10 ?z11 ?z12 ?z13 ?z14 ?z15 ?z16 ?y1 ?y2
    (case a1 => k_is)
    (case l1 => k_is)
    (case e1 => k_is)
    (case k1 => k_is)
    (case a2 => k_is)
    (case l2 => k_is)
    (case e2 => k_is)
    (case k2 => k_is)
    (case a3 => k_is)
    (case l3 => k_is)
    (case e3 => k_is)
    (case k3 => k_is)
    (case a4 => k_is)
    (case l4 => k_is)
    (case e4 => k_is)
    (case k4 => k_is)
    (case u4 => k_is)
    (case v4 => rfl)
    (case n4 => first | rfl | decide | (with_unfolding_all rfl))
    (case r4 => decide +kernel)
    (case a5 => k_is)
    (case l5 => k_is)
    (case e5 => k_is)
    (case k5 => k_is)
    (case a6 => k_is)
    (case l6 => k_is)
    (case e6 => k_is)
    (case k6 => k_is)
    (case a7 => k_is)
    (case l7 => k_is)
    (case e7 => k_is)
    (case k7 => k_is)
    (case a8 => k_is)
    (case l8 => k_is)
    (case e8 => k_is)
    (case k8 => k_is)
    (case a9 => k_is)
    (case l9 => k_is)
    (case e9 => k_is)
    (case k9 => k_is)
    (case a10 => k_is)
    (case l10 => k_is)
    (case e10 => k_is)
    (case k10 => k_is)
    (case a11 => k_is)
    (case l11 => k_is)
    (case e11 => k_is)
    (case k11 => k_is)
    (case a12 => k_is)
    (case l12 => k_is)
    (case e12 => k_is)
    (case k12 => k_is)
    (case a13 => k_is)
    (case l13 => k_is)
    (case e13 => k_is)
    (case k13 => k_is)
    (case a14 => k_is)
    (case l14 => k_is)
    (case e14 => k_is)
    (case k14 => k_is)
    (case a15 => k_is)
    (case l15 => k_is)
    (case e15 => k_is)
    (case k15 => k_is)
    (case a16 => k_is)
    (case l16 => k_is)
    (case e16 => k_is)
    (case k16 => k_is)
    (case z1 => k_is)
    (case z2 => k_is)
    (case z3 => k_is)
    (case z4 => k_is)
    (case z5 => k_is)
    (case z6 => k_is)
    (case z7 => k_is)
    (case z8 => k_is)
    (case z9 => k_is)
    (case z10 => k_is)
    (case z11 => k_is)
    (case z12 => k_is)
    (case z13 => k_is)
    (case z14 => k_is)
    (case z15 => k_is)
    (case z16 => k_is)
    (case y1 => k_is)
    (case y2 => k_is)

